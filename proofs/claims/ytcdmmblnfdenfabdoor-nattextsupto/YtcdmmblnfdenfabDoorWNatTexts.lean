import Derived.Test.YtcdmmblnfdenfabDoorNatL
import Derived.Test.YtcdmmblnfdenfabDoorNatIn
namespace Go.Proofs.YtcdmmblnfdenfabDoor
open Go.ChangeShapes Go.WideShapes Go.ChangeAt Go.RowKit
set_option linter.unusedVariables false

set_option maxHeartbeats 4000000 in
theorem natTexts_walk (v1 : Value) (l1 : List Nat) (w : World) (a1 : ∀ x ∈ l1, x < 18446744073709551616) (r1 : RowU w v1 l1) (b1 : l1.length ≤ 1048576) :
    Calls Tryd.prog 4 #[v1] w fun e w' => e = .returned (.bool true) ∧ Below w.heap.size w w' := by
  refine cps fun Q hQ => ?_
  have m1 := fun w h => meant_any v1 l1 a1 (by omega) w h
  have d1 : dlen (uval l1) ≤ 3145728 := Nat.le_trans (dlen_uval l1 a1) (by omega)
  have k2 := fun w h => nattext_any v1 l1 a1 b1 w h
  have k4 := fun v w h => text_any v (uval l1) (by omega) w h
  generalize decS (uval l1) = S at *
  clear d1 a1 b1
  go_enter Tryd.func4, Tryd.ntmps4
  go_wp2_with (first
    | (have chk := hb3; clear chk; go_at_call 13; refine ((k4 _) _ hr3a).mono ?_; rintro e w4 ⟨rfl, hb4⟩)
    | (have chk := hb2; clear chk; go_at_call 14; refine (m1 _ ((r1.below hb1).below hb2)).mono ?_; rintro e w3 ⟨v3a, rfl, hr3a, hb3⟩)
    | (have chk := hb1; clear chk; go_at_call 12; refine (k2 _ (r1.below hb1)).mono ?_; rintro e w2 ⟨rfl, hb2⟩)
    | (go_at_call 8; refine (shown_any _ ).mono ?_; rintro e w1 ⟨rfl, hb1⟩))
  refine hQ.out _ _ ⟨by first | rfl | simp, ?_⟩
  exact (bthen0 (bthen0 (bthen0 hb1 hb2) hb3) hb4)
end Go.Proofs.YtcdmmblnfdenfabDoor
