import Derived.Test.YtajlgpamcpgalaaCkA
namespace Go.Proofs.Ytajlgpamcpgalaa
open Go.ChangeShapes Go.WideShapes Go.ChangeAt Go.RowKit
set_option linter.unusedVariables false
set_option linter.unusedSimpArgs false
set_option maxRecDepth 100000

theorem ret_ii {k : IntKind} {a b c d : Int} (h : a = b) (g : c = d) : Ending.returned (.tuple #[.int k a, .int k c]) = .returned (.tuple #[.int k b, .int k d]) := by rw [h, g]
/-! ### the code's helpers: regime, row, room, assemble -/
theorem cregime_any (ones : Bool) (run : Int) (h1 : -1000 ≤ run) (h2 : run ≤ 1000) (w : World) :
    Calls Try.prog 69 #[.bool ones, .int .i64 run] w fun e w' => e = .returned (.int .i64 (if ones then run - 1 else -run)) ∧ w' = w := by
  refine cps fun Q hQ => ?_
  cases ones
  · go_enter Try.func69, Try.ntmps69
    go_wp2
    exact hQ.out _ _ ⟨ret_i rfl, rfl⟩
  · go_enter Try.func69, Try.ntmps69
    go_wp2
    exact hQ.out _ _ ⟨ret_i rfl, rfl⟩
theorem croom_any (n run : Nat) (hn : n ≤ 64) (h2 : run ≤ 64) (w : World) :
    Calls Try.prog 70 #[.int .i64 n, .int .i64 run] w fun e w' => e = .returned (.tuple #[.int .i64 (min (n - 2 - run) 2 : Nat), .int .i64 (n - 2 - run - min (n - 2 - run) 2 : Nat)]) ∧ w' = w := by
  refine cps fun Q hQ => ?_
  obtain ⟨q, hq⟩ : ∃ q, q = n - 2 - run := ⟨_, rfl⟩
  rw [← hq] at hQ
  obtain ⟨E, hE⟩ : ∃ E, E = min q 2 := ⟨_, rfl⟩
  rw [← hE] at hQ
  have HQ2 : Hid (q = n - 2 - run ∧ E = min q 2) := ⟨hq, hE⟩
  clear hq hE
  go_enter Try.func70, Try.ntmps70
  go_wp2
  all_goals
    obtain ⟨h3, h4⟩ := HQ2.out
    exact hQ.out _ _ ⟨ret_ii (by omega) (by omega), rfl⟩
end Go.Proofs.Ytajlgpamcpgalaa
