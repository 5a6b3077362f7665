import Derived.Test.YtcdmmblnfdenfaaDoorNatL
import Derived.Test.YtcdmmblnfdenfaaDoorNatIn
namespace Go.Proofs.YtcdmmblnfdenfaaDoor
open Go.ChangeShapes Go.WideShapes Go.ChangeAt Go.RowKit
set_option linter.unusedVariables false

set_option maxHeartbeats 4000000 in
theorem natOf_walk (p0 : Int) (v1 : Value) (l1 : List Nat) (v2 : Value) (l2 : List Nat) (w : World) (wp : (Lit.int .u64 p0).wf = true) (a1 : ∀ x ∈ l1, x < 18446744073709551616) (r1 : RowU w v1 l1) (b1 : l1.length ≤ 1048576) (a2 : ∀ x ∈ l2, x < 18446744073709551616) (r2 : RowU w v2 l2) (b2 : l2.length ≤ 1048576) :
    Calls Tryd.prog 3 #[.int .u64 p0, v1, v2] w fun e w' => e = .returned (.bool true) ∧ Below w.heap.size w w' := by
  refine cps fun Q hQ => ?_
  obtain ⟨x, rfl, bx⟩ := nat_of_u64 wp
  have m1 := fun w h => meant_any v1 l1 a1 (by omega) w h
  have d1 : dlen (uval l1) ≤ 3145728 := Nat.le_trans (dlen_uval l1 a1) (by omega)
  have m2 := fun w h => meant_any v2 l2 a2 (by omega) w h
  have d2 : dlen (uval l2) ≤ 3145728 := Nat.le_trans (dlen_uval l2 a2) (by omega)
  have k2 := fun w => natof_any x (by omega) w
  have k5 := fun w => of_any x (by omega) w
  have k6 := fun va vb w h g => is_any va vb (lim x) x (Nat.le_trans (dlen_le_of_lt (k := 3) (by omega)) (by decide)) true (by simp) w h g
  have k7 := fun w h => natbits_any v1 l1 a1 (by omega) w h
  have k8 := fun w h g => natcmp_any v1 v2 l1 l2 a1 a2 (by omega) (by omega) w h g
  have k9 := fun w h g => natcmp_any v1 v1 l1 l1 a1 a1 (by omega) (by omega) w h g
  rw [cmpN_eq] at k9
  have k10 := fun v w h => nbits_b v (uval l1) (by omega) w h
  have k11 := fun va vb w h g => ncmp_b va vb (uval l1) (uval l2) w h g
  generalize blen (uval l1) = L at *
  generalize cmpN (uval l1) (uval l2) = c at *
  clear wp bx d1 d2 a1 a2 b1 b2
  go_enter Tryd.func3, Tryd.ntmps3
  go_wp2_with (first
    | (have chk := hb10; clear chk; go_at_call 17; refine ((k11 _ _) _ (((((((hr3a.below hb4).below hb5).below hb6).below hb7).below hb8).below hb9).below hb10) ((((((hr4a.below hb5).below hb6).below hb7).below hb8).below hb9).below hb10)).mono ?_; rintro e w11 ⟨rfl, hb11⟩)
    | (have chk := hb9; clear chk; go_at_call 16; refine ((k10 _) _ ((((((hr3a.below hb4).below hb5).below hb6).below hb7).below hb8).below hb9)).mono ?_; rintro e w10 ⟨rfl, hb10⟩)
    | (have chk := hb8; clear chk; go_at_call 15; refine (k9 _ ((((((((r1.below hb1).below hb2).below hb3).below hb4).below hb5).below hb6).below hb7).below hb8) ((((((((r1.below hb1).below hb2).below hb3).below hb4).below hb5).below hb6).below hb7).below hb8)).mono ?_; rintro e w9 ⟨rfl, hb9⟩)
    | (have chk := hb7; clear chk; go_at_call 15; refine (k8 _ (((((((r1.below hb1).below hb2).below hb3).below hb4).below hb5).below hb6).below hb7) (((((((r2.below hb1).below hb2).below hb3).below hb4).below hb5).below hb6).below hb7)).mono ?_; rintro e w8 ⟨rfl, hb8⟩)
    | (have chk := hb6; clear chk; go_at_call 14; refine (k7 _ ((((((r1.below hb1).below hb2).below hb3).below hb4).below hb5).below hb6)).mono ?_; rintro e w7 ⟨rfl, hb7⟩)
    | (have chk := hb5; clear chk; go_at_call 12; refine ((k6 _ _) _ (((hr2a.below hb3).below hb4).below hb5) hr5a).mono ?_; rintro e w6 ⟨rfl, hb6⟩)
    | (have chk := hb4; clear chk; go_at_call 13; refine (k5 _ ).mono ?_; rintro e w5 ⟨v5a, rfl, hr5a, hb5⟩)
    | (have chk := hb3; clear chk; go_at_call 11; refine (m2 _ (((r2.below hb1).below hb2).below hb3)).mono ?_; rintro e w4 ⟨v4a, rfl, hr4a, hb4⟩)
    | (have chk := hb2; clear chk; go_at_call 11; refine (m1 _ ((r1.below hb1).below hb2)).mono ?_; rintro e w3 ⟨v3a, rfl, hr3a, hb3⟩)
    | (have chk := hb1; clear chk; go_at_call 10; refine (k2 _ ).mono ?_; rintro e w2 ⟨v2a, rfl, hr2a, hb2⟩)
    | (go_at_call 9; refine (shown_any _ ).mono ?_; rintro e w1 ⟨rfl, hb1⟩))
  refine hQ.out _ _ ⟨by first | rfl | simp, ?_⟩
  exact (bthen0 (bthen0 (bthen0 (bthen0 (bthen0 (bthen0 (bthen0 (bthen0 (bthen0 (bthen0 hb1 hb2) hb3) hb4) hb5) hb6) hb7) hb8) hb9) hb10) hb11)
end Go.Proofs.YtcdmmblnfdenfaaDoor
