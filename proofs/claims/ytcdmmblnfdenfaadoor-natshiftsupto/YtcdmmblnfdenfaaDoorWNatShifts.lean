import Derived.Test.YtcdmmblnfdenfaaDoorNatL
import Derived.Test.YtcdmmblnfdenfaaDoorNatIn
namespace Go.Proofs.YtcdmmblnfdenfaaDoor
open Go.ChangeShapes Go.WideShapes Go.ChangeAt Go.RowKit
set_option linter.unusedVariables false

theorem dlen_shl (a k : Nat) : dlen (a * 2 ^ k) ≤ dlen a + k := by
  refine dlen_le_of_lt ?_
  rw [Nat.pow_add]
  have h1 := lt_of_dlen_le (Nat.le_refl (dlen a))
  have h2 : 2 ^ k ≤ 16777216 ^ k := Nat.pow_le_pow_left (by decide) k
  have h3 : 0 < 2 ^ k := Nat.pow_pos (by decide)
  exact Nat.lt_of_lt_of_le (Nat.mul_lt_mul_of_pos_right h1 h3) (Nat.mul_le_mul_left _ h2)
set_option maxHeartbeats 4000000 in
theorem natShifts_walk (v1 : Value) (l1 : List Nat) (k : Int) (w : World) (a1 : ∀ x ∈ l1, x < 18446744073709551616) (r1 : RowU w v1 l1) (b1 : l1.length ≤ 1048576) (wk : (Lit.int .i64 k).wf = true) :
    Calls Tryd.prog 7 #[v1, .int .i64 k] w fun e w' => e = .returned (.bool true) ∧ Below w.heap.size w w' := by
  refine cps fun Q hQ => ?_
  have m1 := fun w h => meant_any v1 l1 a1 (by omega) w h
  have d1 : dlen (uval l1) ≤ 3145728 := Nat.le_trans (dlen_uval l1 a1) (by omega)
  have he := fun w a b => Lib.run_eql_iface_int (P := Tryd.prog) w (t := 41) (tx := 44) (k := .i64) a b Tryd.underlying41 (by kernel_rfl) Tryd.underlying44
  have bk := bounds_i64 wk
  by_cases hneg : k < 0
  · have k2 := fun w h => natshl_neg v1 l1 k hneg w h
    have k3 := fun w h => natshr_neg v1 l1 k hneg w h
    clear d1 a1 b1 wk
    go_enter Tryd.func7, Tryd.ntmps7
    go_wp2_with (first
      | (have chk := hb2; clear chk; go_at_call 27; refine (k3 _ ((r1.below hb1).below hb2)).mono ?_; rintro e w3 ⟨rfl, hb3⟩)
      | (have chk := hb1; clear chk; go_at_call 26; refine (k2 _ (r1.below hb1)).mono ?_; rintro e w2 ⟨rfl, hb2⟩)
      | (go_at_call 9; refine (shown_any _ ).mono ?_; rintro e w1 ⟨rfl, hb1⟩))
    refine hQ.out _ _ ⟨by first | rfl | simp, ?_⟩
    exact (bthen0 (bthen0 hb1 hb2) hb3)
  · obtain ⟨j, rfl⟩ : ∃ j : Nat, k = j := ⟨k.toNat, by omega⟩
    have hj : j ≤ 9223372036854775807 := by omega
    have k3 := fun w h => natshr_any v1 l1 a1 (by omega) j hj w h
    have k5 := fun v w h => nlow_b v (uval l1) j hj (by omega) w h
    have k6 := fun v w h => nshr_any v (uval l1) j hj (by omega) w h
    have k7 := fun va vb w h g => is_any va vb (lim (uval l1 / 2 ^ j)) (uval l1 / 2 ^ j) (Nat.le_trans (dlen_mono (Nat.div_le_self _ _)) (by omega)) true (by simp) w h g
    generalize decide (uval l1 % 2 ^ j ≠ 0) = c at *
    by_cases hlong : 65536 < (j : Int)
    · have k2 := fun w h => natshl_long v1 l1 j hlong (by omega) w h
      clear d1 a1 b1 wk bk hneg hj
      go_enter Tryd.func7, Tryd.ntmps7
      go_wp2_with (first
        | (have chk := hb6; clear chk; go_at_call 12; refine ((k7 _ _) _ (((hr3a.below hb4).below hb5).below hb6) hr6a).mono ?_; rintro e w7 ⟨rfl, hb7⟩)
        | (have chk := hb5; clear chk; go_at_call 29; refine ((k6 _) _ (hr4a.below hb5)).mono ?_; rintro e w6 ⟨v6a, rfl, hr6a, hb6⟩)
        | (have chk := hb4; clear chk; go_at_call 28; refine ((k5 _) _ hr4a).mono ?_; rintro e w5 ⟨rfl, hb5⟩)
        | (have chk := hb3; clear chk; go_at_call 11; refine (m1 _ (((r1.below hb1).below hb2).below hb3)).mono ?_; rintro e w4 ⟨v4a, rfl, hr4a, hb4⟩)
        | (have chk := hb2; clear chk; go_at_call 27; refine (k3 _ ((r1.below hb1).below hb2)).mono ?_; rintro e w3 ⟨v3a, rfl, hr3a, hb3⟩)
        | (have chk := hb1; clear chk; go_at_call 26; refine (k2 _ (r1.below hb1)).mono ?_; rintro e w2 ⟨rfl, hb2⟩)
        | (go_at_call 9; refine (shown_any _ ).mono ?_; rintro e w1 ⟨rfl, hb1⟩))
      refine hQ.out _ _ ⟨by first | rfl | simp, ?_⟩
      exact (bthen0 (bthen0 (bthen0 (bthen0 (bthen0 (bthen0 hb1 hb2) hb3) hb4) hb5) hb6) hb7)
    · have k2 := fun w h => natshl_any v1 l1 a1 (by omega) j (by omega) w h
      have k8 := fun v w h => nshl_any v (uval l1) j (by omega) (by omega) w h
      have k9 := fun va vb w h g => is_any va vb (lim (uval l1 * 2 ^ j)) (uval l1 * 2 ^ j) (Nat.le_trans (dlen_shl _ _) (by omega)) true (by simp) w h g
      clear d1 a1 b1 wk bk hneg hj
      go_enter Tryd.func7, Tryd.ntmps7
      go_wp2_with (first
        | (have chk := hb8; clear chk; go_at_call 12; refine ((k9 _ _) _ ((((((hr2a.below hb3).below hb4).below hb5).below hb6).below hb7).below hb8) hr8a).mono ?_; rintro e w9 ⟨rfl, hb9⟩)
        | (have chk := hb7; clear chk; go_at_call 30; refine ((k8 _) _ (((hr4a.below hb5).below hb6).below hb7)).mono ?_; rintro e w8 ⟨v8a, rfl, hr8a, hb8⟩)
        | (have chk := hb6; clear chk; go_at_call 12; refine ((k7 _ _) _ (((hr3a.below hb4).below hb5).below hb6) hr6a).mono ?_; rintro e w7 ⟨rfl, hb7⟩)
        | (have chk := hb5; clear chk; go_at_call 29; refine ((k6 _) _ (hr4a.below hb5)).mono ?_; rintro e w6 ⟨v6a, rfl, hr6a, hb6⟩)
        | (have chk := hb4; clear chk; go_at_call 28; refine ((k5 _) _ hr4a).mono ?_; rintro e w5 ⟨rfl, hb5⟩)
        | (have chk := hb3; clear chk; go_at_call 11; refine (m1 _ (((r1.below hb1).below hb2).below hb3)).mono ?_; rintro e w4 ⟨v4a, rfl, hr4a, hb4⟩)
        | (have chk := hb2; clear chk; go_at_call 27; refine (k3 _ ((r1.below hb1).below hb2)).mono ?_; rintro e w3 ⟨v3a, rfl, hr3a, hb3⟩)
        | (have chk := hb1; clear chk; go_at_call 26; refine (k2 _ (r1.below hb1)).mono ?_; rintro e w2 ⟨v2a, rfl, hr2a, hb2⟩)
        | (go_at_call 9; refine (shown_any _ ).mono ?_; rintro e w1 ⟨rfl, hb1⟩))
      refine hQ.out _ _ ⟨by first | rfl | simp, ?_⟩
      exact (bthen0 (bthen0 (bthen0 (bthen0 (bthen0 (bthen0 (bthen0 (bthen0 hb1 hb2) hb3) hb4) hb5) hb6) hb7) hb8) hb9)
end Go.Proofs.YtcdmmblnfdenfaaDoor
