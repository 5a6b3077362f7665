import Derived.Test.YthchcocolclpoaaDoorNatL
import Derived.Test.YthchcocolclpoaaDoorNatTen
import Derived.Test.YthchcocolclpoaaDoorNatIn
namespace Go.Proofs.YthchcocolclpoaaDoor
open Go.ChangeShapes Go.WideShapes Go.ChangeAt Go.RowKit
set_option linter.unusedVariables false

set_option maxHeartbeats 4000000 in
theorem natTens_walk (k : Int) (wk : (Lit.int .i64 k).wf = true) (w : World) :
    Calls Tryd.prog 3 #[.int .i64 k] w fun e w' => e = .returned (.bool true) ∧ Below w.heap.size w w' := by
  refine cps fun Q hQ => ?_
  have he := fun w a b => Lib.run_eql_iface_int (P := Tryd.prog) w (t := 26) (tx := 29) (k := .i64) a b Tryd.underlying26 (by kernel_rfl) Tryd.underlying29
  have bk := bounds_i64 wk
  by_cases hneg : k < 0
  · have k2 := fun w => natten_neg k hneg w
    clear wk
    go_enter Tryd.func3, Tryd.ntmps3
    go_wp2_with (first
      | (have chk := hb1; clear chk; go_at_call 7; refine (k2 _ ).mono ?_; rintro e w2 ⟨rfl, hb2⟩)
      | (go_at_call 6; refine (shown_any _ ).mono ?_; rintro e w1 ⟨rfl, hb1⟩))
    refine hQ.out _ _ ⟨by first | rfl | simp, ?_⟩
    exact (bthen0 hb1 hb2)
  · by_cases hlong : 16384 < k
    · have k2 := fun w => natten_long k hlong (by omega) w
      clear wk
      go_enter Tryd.func3, Tryd.ntmps3
      go_wp2_with (first
        | (have chk := hb1; clear chk; go_at_call 7; refine (k2 _ ).mono ?_; rintro e w2 ⟨rfl, hb2⟩)
        | (go_at_call 6; refine (shown_any _ ).mono ?_; rintro e w1 ⟨rfl, hb1⟩))
      refine hQ.out _ _ ⟨by first | rfl | simp, ?_⟩
      exact (bthen0 hb1 hb2)
    · obtain ⟨j, rfl⟩ : ∃ j : Nat, k = j := ⟨k.toNat, by omega⟩
      have k2 := fun w => natten_any j (by omega) w
      have k3 := fun w => ten_any j (by omega) w
      have k4 := fun va vb w h g => is_any va vb (lim (10 ^ j)) (10 ^ j) (Nat.le_trans (dlen_ten j) (by omega)) true (by simp) w h g
      clear wk bk
      go_enter Tryd.func3, Tryd.ntmps3
      go_wp2_with (first
        | (have chk := hb3; clear chk; go_at_call 8; refine ((k4 _ _) _ (hr2a.below hb3) hr3a).mono ?_; rintro e w4 ⟨rfl, hb4⟩)
        | (have chk := hb2; clear chk; go_at_call 9; refine (k3 _ ).mono ?_; rintro e w3 ⟨v3a, rfl, hr3a, hb3⟩)
        | (have chk := hb1; clear chk; go_at_call 7; refine (k2 _ ).mono ?_; rintro e w2 ⟨v2a, rfl, hr2a, hb2⟩)
        | (go_at_call 6; refine (shown_any _ ).mono ?_; rintro e w1 ⟨rfl, hb1⟩))
      refine hQ.out _ _ ⟨by first | rfl | simp, ?_⟩
      exact (bthen0 (bthen0 (bthen0 hb1 hb2) hb3) hb4)
end Go.Proofs.YthchcocolclpoaaDoor
