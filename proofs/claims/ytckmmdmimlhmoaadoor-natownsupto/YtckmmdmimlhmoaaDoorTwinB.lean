import Derived.Test.YtckmmdmimlhmoaaDoorTwinA
import Derived.Test.YtckmmdmimlhmoaaDoorLead
namespace Go.Proofs.YtckmmdmimlhmoaaDoor
open Go.ChangeShapes Go.WideShapes Go.ChangeAt Go.RowKit
set_option linter.unusedVariables false

theorem bthen {a W w : World} (h : Below a.heap.size a W) (hb : Below W.heap.size W w) : Below a.heap.size a w := h.trans (hb.mono h.size)
theorem bdrew {a W : World} (h : Below a.heap.size a W) : Below a.heap.size a W.drew := h.drew
theorem bdrewN {a W : World} (h : Below a.heap.size a W) (q : Nat) : Below a.heap.size a (W.drewN q) := below_drewN h q

theorem drew_at (w : World) (c : Array Value) (t : TypeId) (n i : Nat) (hn : n = w.heap.size) : (w.alloc (.cells c t)).drew.cell? ⟨n, i, none⟩ = c[i]? := World.cell?_alloc_at c t n i hn
theorem bcell {W w1 : World} (hb : Below W.heap.size W w1) : (∀ b o, b < W.heap.size → w1.cell? ⟨b, o, none⟩ = W.cell? ⟨b, o, none⟩) ∧ (∀ b o, b < W.heap.size → w1.frozen? ⟨b, o, none⟩ = W.frozen? ⟨b, o, none⟩) :=
  ⟨fun b o h => hb.cell (p := ⟨b, o, none⟩) h, fun b o h => hb.frozen (p := ⟨b, o, none⟩) h⟩
theorem bset {a W : World} {b : Nat} (h : Below a.heap.size a W) (hb : a.heap.size ≤ b) (o : Nat) (v : Value) : Below a.heap.size a (W.setCell ⟨b, o, none⟩ v) := h.setCell hb _
theorem Tw.lt {n h l : Nat} (t : Tw n h l) : n < 340282366920938463463374607431768211456 := by
  obtain ⟨e, a, b⟩ := t; omega
/-! ### cmp -/
theorem isnan_any (x : Nat) (w : World) : Calls Tryd.prog 52 #[.int .u64 x] w fun e w' => e = .returned (.bool false) ∧ w' = w := by
  refine cps fun Q hQ => ?_
  go_enter Tryd.func52, Tryd.ntmps52
  go_wp2
  exact hQ.out _ _ ⟨by simp, rfl⟩
theorem compare_any (x y : Nat) (w : World) : Calls Tryd.prog 41 #[.int .u64 x, .int .u64 y] w fun e w' => e = .returned (.int .i64 (cmpN x y)) ∧ w' = w := by
  refine cps fun Q hQ => ?_
  have hE : (x < y ∧ cmpN x y = -1) ∨ (y < x ∧ cmpN x y = 1) ∨ (x = y ∧ cmpN x y = 0) := by
    unfold cmpN; split
    · exact .inl ⟨by assumption, rfl⟩
    · split
      · exact .inr (.inr ⟨by assumption, rfl⟩)
      · exact .inr (.inl ⟨by omega, rfl⟩)
  rcases hE with ⟨h, hE⟩ | ⟨h, hE⟩ | ⟨h, hE⟩
  all_goals
    rw [hE] at hQ
    have hlt : ((x : Int) < (y : Int)) = (x < y) := by simp
    clear hE
    go_enter Tryd.func41, Tryd.ntmps41
    go_wp2_with (go_at_call 52; refine (isnan_any _ _).mono ?_; rintro e w' ⟨rfl, hw⟩; rw [hw]; clear hw w')
    exact hQ.out _ _ ⟨rfl, rfl⟩
theorem cmp_words {a b h1 l1 h2 l2 : Nat} (ha : Tw a h1 l1) (hb : Tw b h2 l2) : (if cmpN h1 h2 = 0 then cmpN l1 l2 else cmpN h1 h2) = cmpN a b := by
  obtain ⟨ea, ha1, ha2⟩ := ha
  obtain ⟨eb, hb1, hb2⟩ := hb
  rcases Nat.lt_trichotomy h1 h2 with h | h | h
  · rw [cmpN_lt h, cmpN_lt (show a < b by omega)]; rfl
  · subst h
    rw [cmpN_eq, if_pos rfl]
    rcases Nat.lt_trichotomy l1 l2 with h | h | h
    · rw [cmpN_lt h, cmpN_lt (show a < b by omega)]
    · subst h; rw [cmpN_eq, show a = b by omega, cmpN_eq]
    · rw [cmpN_gt h, cmpN_gt (show b < a by omega)]
  · rw [cmpN_gt h, cmpN_gt (show b < a by omega)]; rfl
theorem cmpN_rng (x y : Nat) : -1 ≤ cmpN x y ∧ cmpN x y ≤ 1 := by unfold cmpN; split <;> (try split) <;> omega

/-! ### Len -/
theorem bitLen_eq (x : Nat) (hx : x ≤ 18446744073709551615) : Lib.bitLen x = blen x := by
  have h1 : ∀ f x : Nat, x < 2 ^ f → Lib.bitLenAux f x = blen x := by
    intro f
    induction f with
    | zero => intro x h; have : x = 0 := by omega
              subst this; rw [blen_zero]; rfl
    | succ f ih =>
      intro x h
      unfold Lib.bitLenAux
      by_cases h0 : x = 0
      · subst h0; rw [blen_zero]; rfl
      · rw [if_neg h0, blen_pos h0, ih _ (by rw [Nat.pow_succ] at h; omega), Nat.add_comm]
  exact h1 64 x (by omega)
end Go.Proofs.YtckmmdmimlhmoaaDoor
