import Derived.Test.YtcdmmblnfdenfaaDoorNatL
import Derived.Test.YtcdmmblnfdenfaaDoorNatIn
namespace Go.Proofs.YtcdmmblnfdenfaaDoor
open Go.ChangeShapes Go.WideShapes Go.ChangeAt Go.RowKit
set_option linter.unusedVariables false

set_option maxHeartbeats 4000000 in
theorem natDivs_walk (v1 : Value) (l1 : List Nat) (v2 : Value) (l2 : List Nat) (w : World) (a1 : ∀ x ∈ l1, x < 18446744073709551616) (r1 : RowU w v1 l1) (b1 : l1.length ≤ 1048576) (a2 : ∀ x ∈ l2, x < 18446744073709551616) (r2 : RowU w v2 l2) (b2 : l2.length ≤ 1048576) :
    Calls Tryd.prog 6 #[v1, v2] w fun e w' => e = .returned (.bool true) ∧ Below w.heap.size w w' := by
  refine cps fun Q hQ => ?_
  have m1 := fun w h => meant_any v1 l1 a1 (by omega) w h
  have d1 : dlen (uval l1) ≤ 3145728 := Nat.le_trans (dlen_uval l1 a1) (by omega)
  have m2 := fun w h => meant_any v2 l2 a2 (by omega) w h
  have d2 : dlen (uval l2) ≤ 3145728 := Nat.le_trans (dlen_uval l2 a2) (by omega)
  have he := fun w a b => Lib.run_eql_iface_int (P := Tryd.prog) w (t := 41) (tx := 44) (k := .i64) a b Tryd.underlying41 (by kernel_rfl) Tryd.underlying44
  by_cases h0 : uval l2 = 0
  · have k4 := fun w h g => natdiv_zero v1 v2 l1 l2 a1 a2 (by omega) (by omega) h0 w h g
    rw [h0] at m2
    clear d1 d2 a1 a2 b1 b2 h0
    go_enter Tryd.func6, Tryd.ntmps6
    go_wp2_with (first
      | (have chk := hb3; clear chk; go_at_call 24; refine (k4 _ (((r1.below hb1).below hb2).below hb3) (((r2.below hb1).below hb2).below hb3)).mono ?_; rintro e w4 ⟨rfl, hb4⟩)
      | (have chk := hb2; clear chk; go_at_call 11; refine (m2 _ ((r2.below hb1).below hb2)).mono ?_; rintro e w3 ⟨v3a, rfl, hr3a, hb3⟩; obtain ⟨s3, t3, rfl, -, -⟩ := hr3a.num; rw [dlen_zero])
      | (have chk := hb1; clear chk; go_at_call 11; refine (m1 _ (r1.below hb1)).mono ?_; rintro e w2 ⟨v2a, rfl, hr2a, hb2⟩)
      | (go_at_call 9; refine (shown_any _ ).mono ?_; rintro e w1 ⟨rfl, hb1⟩))
    refine hQ.out _ _ ⟨by first | rfl | simp, ?_⟩
    exact (bthen0 (bthen0 (bthen0 hb1 hb2) hb3) hb4)
  · have hp : 0 < uval l2 := by omega
    have k4 := fun w h g => natdiv_any v1 v2 l1 l2 a1 a2 (by omega) (by omega) hp w h g
    have k5 := fun va vb w h g => ndivmod_any va vb (uval l1) (uval l2) hp (by omega) (by omega) w h g
    have k6 := fun va vb w h g => is_any va vb (lim (uval l1 / uval l2)) (uval l1 / uval l2) (Nat.le_trans (dlen_mono (Nat.div_le_self _ _)) (by omega)) true (by simp) w h g
    have k7 := fun va vb w h g => is_any va vb (lim (uval l1 % uval l2)) (uval l1 % uval l2) (Nat.le_trans (dlen_mono (Nat.mod_le _ _)) (by omega)) true (by simp) w h g
    have hz : ¬ ((dlen (uval l2) : Int) = 0) := by
      have := dlen_eq_zero (n := uval l2)
      omega
    clear d1 d2 a1 a2 b1 b2 h0 hp
    go_enter Tryd.func6, Tryd.ntmps6
    go_wp2_with (first
      | (have chk := hb6; clear chk; go_at_call 12; refine ((k7 _ _) _ ((hr4b.below hb5).below hb6) (hr5b.below hb6)).mono ?_; rintro e w7 ⟨rfl, hb7⟩)
      | (have chk := hb5; clear chk; go_at_call 12; refine ((k6 _ _) _ (hr4a.below hb5) hr5a).mono ?_; rintro e w6 ⟨rfl, hb6⟩)
      | (have chk := hb4; clear chk; go_at_call 25; refine ((k5 _ _) _ ((hr2a.below hb3).below hb4) (hr3a.below hb4)).mono ?_; rintro e w5 ⟨v5a, v5b, rfl, hr5a, hr5b, hb5⟩)
      | (have chk := hb3; clear chk; go_at_call 24; refine (k4 _ (((r1.below hb1).below hb2).below hb3) (((r2.below hb1).below hb2).below hb3)).mono ?_; rintro e w4 ⟨v4a, v4b, rfl, hr4a, hr4b, hb4⟩)
      | (have chk := hb2; clear chk; go_at_call 11; refine (m2 _ ((r2.below hb1).below hb2)).mono ?_; rintro e w3 ⟨v3a, rfl, hr3a, hb3⟩; obtain ⟨s3, t3, rfl, -, -⟩ := hr3a.num)
      | (have chk := hb1; clear chk; go_at_call 11; refine (m1 _ (r1.below hb1)).mono ?_; rintro e w2 ⟨v2a, rfl, hr2a, hb2⟩)
      | (go_at_call 9; refine (shown_any _ ).mono ?_; rintro e w1 ⟨rfl, hb1⟩))
    refine hQ.out _ _ ⟨by first | rfl | simp, ?_⟩
    exact (bthen0 (bthen0 (bthen0 (bthen0 (bthen0 (bthen0 hb1 hb2) hb3) hb4) hb5) hb6) hb7)
end Go.Proofs.YtcdmmblnfdenfaaDoor
