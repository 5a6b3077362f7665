import Derived.Test.YthbhcdokjlpjbaaCkA
namespace Go.Proofs.Ythbhcdokjlpjbaa
open Go.ChangeShapes Go.WideShapes Go.ChangeAt Go.RowKit
set_option linter.unusedVariables false
set_option linter.unusedSimpArgs false
set_option maxRecDepth 100000

theorem ret_ii {k : IntKind} {a b c d : Int} (h : a = b) (g : c = d) : Ending.returned (.tuple #[.int k a, .int k c]) = .returned (.tuple #[.int k b, .int k d]) := by rw [h, g]
/-! ### the code's helpers: regime, row, room, assemble -/
theorem cregime_any (ones : Bool) (run : Int) (h1 : -1000 ≤ run) (h2 : run ≤ 1000) (w : World) :
    Calls Try.prog 24 #[.bool ones, .int .i64 run] w fun e w' => e = .returned (.int .i64 (if ones then run - 1 else -run)) ∧ w' = w := by
  refine cps fun Q hQ => ?_
  cases ones
  · go_enter Try.func24, Try.ntmps24
    go_wp2
    exact hQ.out _ _ ⟨ret_i rfl, rfl⟩
  · go_enter Try.func24, Try.ntmps24
    go_wp2
    exact hQ.out _ _ ⟨ret_i rfl, rfl⟩
theorem crow_any (k : Int) (h1 : -1000 ≤ k) (h2 : k ≤ 1000) (ones : Bool) (run : Nat) (hk : headK k = List.replicate run ones ++ [!ones]) (w : World) :
    Calls Try.prog 52 #[.int .i64 k] w fun e w' => e = .returned (.tuple #[.bool ones, .int .i64 run]) ∧ w' = w := by
  have hu : ∀ (a b : Nat) (c d : Bool), List.replicate (a + 1) c ++ [!c] = List.replicate b d ++ [!d] → c = d ∧ a + 1 = b := fun a b c d h => by
    have hl := congrArg List.length h
    simp at hl
    subst hl
    rw [List.replicate_succ, List.replicate_succ, List.cons_append, List.cons_append] at h
    exact ⟨(List.cons.inj h).1, rfl⟩
  obtain ⟨b, r, hh, hk2⟩ := headK_form k
  obtain ⟨e1, e2⟩ := hu r run b ones (hh ▸ hk)
  subst e1 e2
  clear hh hk hu
  refine cps fun Q hQ => ?_
  cases b
  · simp only [Bool.false_eq_true, if_false] at hk2
    have hd : decide (0 ≤ k) = false := decide_eq_false (by omega)
    have HK : Hid (-k = ((r + 1 : Nat) : Int)) := by show _ = _; omega
    clear hk2
    go_enter Try.func52, Try.ntmps52
    go_wp2
    all_goals exact hQ.out _ _ ⟨by rw [HK.out]; rfl, rfl⟩
  · simp only [if_true] at hk2
    have hd : decide (0 ≤ k) = true := decide_eq_true (by omega)
    have HK : Hid (k + 1 = ((r + 1 : Nat) : Int)) := by show _ = _; omega
    clear hk2
    go_enter Try.func52, Try.ntmps52
    go_wp2
    all_goals exact hQ.out _ _ ⟨by rw [HK.out]; rfl, rfl⟩
theorem croom_any (n run : Nat) (hn : n ≤ 64) (h2 : run ≤ 64) (w : World) :
    Calls Try.prog 25 #[.int .i64 n, .int .i64 run] w fun e w' => e = .returned (.tuple #[.int .i64 (min (n - 2 - run) 2 : Nat), .int .i64 (n - 2 - run - min (n - 2 - run) 2 : Nat)]) ∧ w' = w := by
  refine cps fun Q hQ => ?_
  obtain ⟨q, hq⟩ : ∃ q, q = n - 2 - run := ⟨_, rfl⟩
  rw [← hq] at hQ
  obtain ⟨E, hE⟩ : ∃ E, E = min q 2 := ⟨_, rfl⟩
  rw [← hE] at hQ
  have HQ2 : Hid (q = n - 2 - run ∧ E = min q 2) := ⟨hq, hE⟩
  clear hq hE
  go_enter Try.func25, Try.ntmps25
  go_wp2
  all_goals
    obtain ⟨h3, h4⟩ := HQ2.out
    exact hQ.out _ _ ⟨ret_ii (by omega) (by omega), rfl⟩
end Go.Proofs.Ythbhcdokjlpjbaa
