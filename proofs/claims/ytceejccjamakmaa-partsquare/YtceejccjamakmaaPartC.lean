import Derived.Test.YtceejccjamakmaaTwinC
import Derived.Test.YtceejccjamakmaaNumsG
namespace Go.Proofs.Ytceejccjamakmaa
open Go.ChangeShapes Go.WideShapes Go.ChangeAt Go.RowKit
set_option linter.unusedVariables false

theorem rwide_zero (h1 l1 : Nat) (hh : h1 ≤ 18446744073709551615) (hl : l1 ≤ 18446744073709551615) (w : World) :
    Calls Try.prog 16 #[.agg #[.int .u64 h1, .int .u64 l1], .agg #[.int .u64 0, .int .u64 0]] w fun e w' => e = .returned (.tuple #[.agg #[.int .u64 0, .int .u64 0], .agg #[.int .u64 0, .int .u64 0], .int .i64 4]) ∧ Below w.heap.size w w' := by
  refine cps fun Q hQ => ?_
  have k1 : ∀ w, Calls Try.prog 28 #[.agg #[.int .u64 0, .int .u64 0]] w fun e w' => ∃ v, e = .returned v ∧ Row w' v (dig 0) ∧ Below w.heap.size w w' := fun w => rof_any (n := 0) (h := 0) (l := 0) ⟨by decide, by decide, by decide⟩ w
  go_enter Try.func16, Try.ntmps16
  go_wp2_with (go_at_call 28; refine (k1 _).mono ?_; rintro e w1 ⟨v1, rfl, hr1, hb1⟩; obtain ⟨hc1, hf1⟩ := bcell hb1; obtain ⟨a1, c1, rfl, x1, x2⟩ := hr1.num; rw [dlen_zero])
  refine bodyPost_ret (v := .tuple #[.agg #[.int .u64 0, .int .u64 0], .agg #[.int .u64 0, .int .u64 0], .int .i64 4]) (by simp [results, Try.results16, go_sem, hc1]) rfl (hQ.out _ _ ⟨rfl, ?_⟩)
  exact bset (bset (bset (bset (bthen (bmore (bmore (bmore (bmore (Below.refl _ _) _) _) _) _) hb1) (by omega) _ _) (by omega) _ _) (by omega) _ _) (by omega) _ _
set_option maxHeartbeats 1000000 in
theorem rwide_any {a d h1 l1 h2 l2 h3 l3 h4 l4 : Nat} (ha : Tw a h1 l1) (hd : Tw d h2 l2) (h0 : 0 < d) (hq : Tw (a / d) h3 l3) (hr : Tw (a % d) h4 l4) (w : World) :
    Calls Try.prog 16 #[.agg #[.int .u64 h1, .int .u64 l1], .agg #[.int .u64 h2, .int .u64 l2]] w fun e w' => e = .returned (.tuple #[.agg #[.int .u64 h3, .int .u64 l3], .agg #[.int .u64 h4, .int .u64 l4], .int .i64 0]) ∧ Below w.heap.size w w' := by
  refine cps fun Q hQ => ?_
  have k1 := fun w => rof_any hd w
  have k2 := fun w => rof_any ha w
  have sm : ∀ {n : Nat}, n < 340282366920938463463374607431768211456 → dlen n ≤ 549755813888 := fun h => Nat.le_trans (dlen_small (by omega)) (by decide)
  have k3 := fun va vb w x y => ndivmod_any va vb a d h0 (sm ha.lt) (sm hd.lt) w x y
  have lq := hq.lt
  have lr := hr.lt
  have k4 := fun v w x => told_any (n := a / d) (h := h3) (l := l3) (dlen_ok (by omega)) (by rw [Nat.mod_eq_of_lt lq]; exact hq) v w x
  have k5 := fun v w x => told_any (n := a % d) (h := h4) (l := l4) (dlen_ok (by omega)) (by rw [Nat.mod_eq_of_lt lr]; exact hr) v w x
  have e0 : dlen d ≠ 0 := fun h => by have := dlen_eq_zero.1 h; omega
  have e1 : ((dlen d : Int) == 0) = false := by simp; exact e0
  clear ha hd h0 hq hr lq lr sm e0
  go_enter Try.func16, Try.ntmps16
  go_wp2_with (first
    | (have chk := hb3; clear chk; go_at_call 30; refine (k4 _ _ hr3).mono ?_; rintro e w4 ⟨rfl, hb4⟩; have hb14 := bthen hb13 hb4; have hr4 := hr3'.below hb4; clear hb3)
    | (go_at_call 30; refine (k5 _ _ hr4).mono ?_; rintro e w5 ⟨rfl, hb5⟩; have hb15 := bthen hb14 hb5; obtain ⟨hc5, hf5⟩ := bcell hb15)
    | (go_at_call_of 28 h2; refine (k1 _).mono ?_; rintro e w1 ⟨v1, rfl, hr1, hb1⟩; obtain ⟨hc1, hf1⟩ := bcell hb1; have hr1' := hr1; obtain ⟨a1, c1, rfl, x1, x2⟩ := hr1'.num; clear hr1')
    | (go_at_call_of 28 h1; refine (k2 _).mono ?_; rintro e w2 ⟨v2, rfl, hr2, hb2⟩; have hb12 := bthen hb1 hb2)
    | (go_at_call 29; refine (k3 _ _ _ hr2 (hr1.below hb2)).mono ?_; rintro e w3 ⟨v3, v4, rfl, hr3, hr3', hb3⟩; have hb13 := bthen hb12 hb3))
  refine bodyPost_ret (v := .tuple #[.agg #[.int .u64 h3, .int .u64 l3], .agg #[.int .u64 h4, .int .u64 l4], .int .i64 0]) (by simp [results, Try.results16, go_sem, hc5]) rfl (hQ.out _ _ ⟨rfl, ?_⟩)
  exact bset (bset (bset (bset (bthen (bmore (bmore (bmore (bmore (Below.refl _ _) _) _) _) _) hb15) (by omega) _ _) (by omega) _ _) (by omega) _ _) (by omega) _ _
end Go.Proofs.Ytceejccjamakmaa
