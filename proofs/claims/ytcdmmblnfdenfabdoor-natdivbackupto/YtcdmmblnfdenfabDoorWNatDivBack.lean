import Derived.Test.YtcdmmblnfdenfabDoorNatL
import Derived.Test.YtcdmmblnfdenfabDoorNatIn
namespace Go.Proofs.YtcdmmblnfdenfabDoor
open Go.ChangeShapes Go.WideShapes Go.ChangeAt Go.RowKit
set_option linter.unusedVariables false

set_option maxHeartbeats 4000000 in
theorem natDivBack_walk (v1 : Value) (l1 : List Nat) (v2 : Value) (l2 : List Nat) (w : World) (a1 : ∀ x ∈ l1, x < 18446744073709551616) (r1 : RowU w v1 l1) (b1 : l1.length ≤ 1048576) (a2 : ∀ x ∈ l2, x < 18446744073709551616) (r2 : RowU w v2 l2) (b2 : l2.length ≤ 1048576) :
    Calls Tryd.prog 5 #[v1, v2] w fun e w' => e = .returned (.bool true) ∧ Below w.heap.size w w' := by
  refine cps fun Q hQ => ?_
  have he := fun w a b => Lib.run_eql_iface_int (P := Tryd.prog) w (t := 26) (tx := 29) (k := .i64) a b Tryd.underlying26 (by kernel_rfl) Tryd.underlying29
  have kb := fun w h => natbits_any v2 l2 a2 (by omega) w h
  by_cases h0 : uval l2 = 0
  · have k2 := fun w h g => natdiv_zero v1 v2 l1 l2 a1 a2 (by omega) (by omega) h0 w h g
    rw [h0, blen_zero] at kb
    clear a1 a2 b1 b2 h0
    go_enter Tryd.func5, Tryd.ntmps5
    go_wp2_with (first
      | (have chk := hb2; clear chk; go_at_call 16; refine (kb _ ((r2.below hb1).below hb2)).mono ?_; rintro e w3 ⟨rfl, hb3⟩)
      | (have chk := hb1; clear chk; go_at_call 15; refine (k2 _ (r1.below hb1) (r2.below hb1)).mono ?_; rintro e w2 ⟨rfl, hb2⟩)
      | (go_at_call 8; refine (shown_any _ ).mono ?_; rintro e w1 ⟨rfl, hb1⟩))
    refine hQ.out _ _ ⟨by first | rfl | simp, ?_⟩
    exact (bthen0 (bthen0 hb1 hb2) hb3)
  · have hp : 0 < uval l2 := by omega
    have k2 := fun w h g => natdiv_any v1 v2 l1 l2 a1 a2 (by omega) (by omega) hp w h g
    obtain ⟨Q0, hQ0⟩ : ∃ x, x = uval l1 / uval l2 := ⟨_, rfl⟩
    obtain ⟨R0, hR0⟩ : ∃ x, x = uval l1 % uval l2 := ⟨_, rfl⟩
    have dq : dlen Q0 ≤ 3145728 := by rw [hQ0]; exact Nat.le_trans (dlen_mono (Nat.div_le_self _ _)) (Nat.le_trans (dlen_uval l1 a1) (by omega))
    have dr : dlen R0 ≤ 3145728 := by rw [hR0]; exact Nat.le_trans (dlen_mono (Nat.mod_le _ _)) (Nat.le_trans (dlen_uval l1 a1) (by omega))
    have bq := Nat.le_trans (lim_length Q0) dq
    have br := Nat.le_trans (lim_length R0) dr
    have hrl : R0 < uval l2 := by rw [hR0]; exact Nat.mod_lt _ hp
    have hqr : uval l2 * Q0 + R0 = uval l1 := by rw [hQ0, hR0]; exact Nat.div_add_mod _ _
    have dm : dlen (uval l2 * Q0) ≤ 3145728 := Nat.le_trans (dlen_mono (show uval l2 * Q0 ≤ uval l1 by omega)) (Nat.le_trans (dlen_uval l1 a1) (by omega))
    have bm := Nat.le_trans (lim_length (uval l2 * Q0)) dm
    rw [← hQ0, ← hR0] at k2
    clear kb
    have k3 := fun v w h => natmul_any v [l2, lim Q0] (by intro l hl; simp at hl; rcases hl with rfl | rfl; exact a2; exact lim_mem Q0) (by simp; omega) w h
    rw [show ([l2, lim Q0].map uval).prod = uval l2 * Q0 by simp [uval_lim]] at k3
    have k4 := fun v w h => natadd_any v [lim (uval l2 * Q0), lim R0] (by intro l hl; simp at hl; rcases hl with rfl | rfl; exact lim_mem _; exact lim_mem R0) (by simp; omega) w h
    rw [show ([lim (uval l2 * Q0), lim R0].map uval).sum = uval l1 by simp [uval_lim]; exact hqr] at k4
    have d1 : (lim (uval l1)).length ≤ 3145728 := Nat.le_trans (lim_length _) (Nat.le_trans (dlen_uval l1 a1) (by omega))
    have k5 := fun va vb w h g => natcmp_any va vb (lim (uval l1)) l1 (lim_mem _) a1 (by omega) (by omega) w h g
    rw [uval_lim, cmpN_eq] at k5
    have k6 := fun va vb w h g => natcmp_any va vb (lim R0) l2 (lim_mem _) a2 (by omega) (by omega) w h g
    rw [uval_lim, cmpN_lt hrl] at k6
    have k7 := fun va vb w h g => natsub_ge va vb (lim (uval l1)) l1 (lim_mem _) a1 (by omega) (by omega) (by rw [uval_lim]; exact Nat.le_refl _) w h g
    rw [uval_lim, Nat.sub_self, lim_zero] at k7
    clear hQ0 hR0 dq dr bq br hrl hqr dm bm d1 a1 a2 b1 b2 h0 hp
    obtain ⟨x2, y2, rfl, -, -, -⟩ := r2.out
    go_enter Tryd.func5, Tryd.ntmps5
    go_wp2_with (first
      | (have chk := hb6; clear chk; go_at_call 20; refine ((k7 _ _) _ ((hr4a.below hb5).below hb6) ((((((r1.below hb1).below hb2).below hb3).below hb4).below hb5).below hb6)).mono ?_; rintro e w7 ⟨v7a, rfl, hr7a, hb7⟩; obtain ⟨z1, z2, rfl, -, -, -⟩ := hr7a.out)
      | (have chk := hb5; clear chk; go_at_call 19; refine ((k6 _ _) _ (((hr2b.below hb3).below hb4).below hb5) (((((r2.below hb1).below hb2).below hb3).below hb4).below hb5)).mono ?_; rintro e w6 ⟨rfl, hb6⟩)
      | (have chk := hb4; clear chk; go_at_call 19; refine ((k5 _ _) _ hr4a ((((r1.below hb1).below hb2).below hb3).below hb4)).mono ?_; rintro e w5 ⟨rfl, hb5⟩)
      | (have chk := hb3; clear chk; go_at_call 17; have u4 := rowUU_two w3 24 hr3a (hr2b.below hb3); refine (k4 _ _ u4).mono ?_; rintro e w4 ⟨v4a, rfl, hr4a, hb4'⟩; have hb4 := bthen0 (bmore0 (Below.refl w3.heap.size w3) _) hb4')
      | (have chk := hb2; clear chk; go_at_call 18; have u3 := rowUU_two w2 24 ((r2.below hb1).below hb2) hr2a; refine (k3 _ _ u3).mono ?_; rintro e w3 ⟨v3a, rfl, hr3a, hb3'⟩; have hb3 := bthen0 (bmore0 (Below.refl w2.heap.size w2) _) hb3'; obtain ⟨x5, y5, rfl, -, -, -⟩ := hr3a.out)
      | (have chk := hb1; clear chk; go_at_call 15; refine (k2 _ (r1.below hb1) (r2.below hb1)).mono ?_; rintro e w2 ⟨v2a, v2b, rfl, hr2a, hr2b, hb2⟩; obtain ⟨x3, y3, rfl, -, -, -⟩ := hr2a.out; obtain ⟨x4, y4, rfl, -, -, -⟩ := hr2b.out)
      | (go_at_call 8; refine (shown_any _ ).mono ?_; rintro e w1 ⟨rfl, hb1⟩))
    refine hQ.out _ _ ⟨by first | rfl | simp, ?_⟩
    exact (bthen0 (bthen0 (bthen0 (bthen0 (bthen0 (bthen0 hb1 hb2) hb3) hb4) hb5) hb6) hb7)
end Go.Proofs.YtcdmmblnfdenfabDoor
