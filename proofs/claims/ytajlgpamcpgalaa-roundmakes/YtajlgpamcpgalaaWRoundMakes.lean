import Derived.Test.YtajlgpamcpgalaaJoin4
namespace Go.Proofs.Ytajlgpamcpgalaa
open Go.ChangeShapes Go.WideShapes Go.ChangeAt Go.RowKit
set_option linter.unusedVariables false
set_option linter.unusedSimpArgs false
set_option maxRecDepth 100000

theorem roundMakes_walk (neg : Bool) (h l exp : Int) (rest : Bool) (wh : (Lit.int .u64 h).wf = true) (wl : (Lit.int .u64 l).wf = true) (we : (Lit.int .i64 exp).wf = true) (w : World) :
    Calls Try.prog 3 #[.bool neg, .int .u64 h, .int .u64 l, .int .i64 exp, .bool rest] w fun e w' => e = .returned (.bool true) ∧ Below w.heap.size w w' := by
  obtain ⟨hi, rfl, hh⟩ := nat_of_u64 wh
  obtain ⟨lo, rfl, hl⟩ := nat_of_u64 wl
  have hb := bounds_i64 we
  clear wh wl we
  refine cps fun Q hQ => ?_
  by_cases hc : rest = true ∧ hi < 9223372036854775808
  · obtain ⟨rfl, hc⟩ := hc
    have k1 := rmake_bad neg hi lo exp hc hl
    have k3 := makes7_bad neg hi lo exp hc
    have k5 := code_any 1
    rw [show codeOf 1 = 1 from rfl] at k5
    unfold exV codeV at *
    clear hb hh hl hc
    go_enter Try.func3, Try.ntmps3
    go_wp2_with (first
      | (go_at_call 9; go_must (refine (rup_any _).mono ?_); rintro e w1 ⟨rfl, hb1⟩; have HB1 : Hid (Below _ _ _) := hb1; clear hb1)
      | (go_at_call 10; go_must (refine (k1 _).mono ?_); rintro e w2 ⟨rfl, hb2⟩; have HB2 : Hid (Below _ _ _) := hb2; clear hb2)
      | (go_at_call 11; go_must (refine (k3 _).mono ?_); rintro e w3 ⟨rfl, hb3⟩; have R3_0 := (hb3.block (w2.heap.size) (by first | (simp; done) | (simp; omega) | omega)).trans (rownew' _ _ _ _ (by simp)); have z3_0 : w2.heap.size < w3.heap.size := Nat.lt_of_lt_of_le (by first | (simp; done) | (simp; omega) | omega) hb3.size; have ne3_0 : ¬ w2.heap.size = w3.heap.size := (by omega); have en3_0 : ¬ w3.heap.size = w2.heap.size := (by omega); have c3_0_0 := rowcell R3_0 0; have c3_0_1 := rowcell R3_0 1; have c3_0_2 := rowcell R3_0 2; have c3_0_3 := rowcell R3_0 3; have c3_0_4 := rowcell R3_0 4; have c3_0_5 := rowcell R3_0 5; have cf3_0 := rowfree R3_0; simp only [List.getElem?_toArray, List.getElem?_cons_zero, List.getElem?_cons_succ] at c3_0_0 c3_0_1 c3_0_2 c3_0_3 c3_0_4 c3_0_5; have HR3_0 : Hid _ := R3_0; clear R3_0; have HB3 : Hid (Below _ _ _) := hb3; clear hb3)
      | (go_at_call 12; go_must (refine (k5 _).mono ?_); rintro e wx ⟨rfl, hwx⟩; rw [hwx]; clear hwx wx))
    all_goals exact hQ.out _ _ ⟨by simp, cmore (cthen (cmore (cthen (cthen (Below.refl _ _) HB1.out) HB2.out) _) HB3.out) _⟩
  · have hc2 : rest = false ∨ 9223372036854775808 ≤ hi := by
      cases rest
      · exact .inl rfl
      · exact .inr (Nat.le_of_not_lt fun h => hc ⟨rfl, h⟩)
    have k1 := rmake_ok neg hi lo exp rest hh hl hb hc2
    have k3 := makes7_ok neg hi lo exp rest hh hl hc2
    have k5 := code_nil
    obtain ⟨kk, bb, ss, xh, xl, xr, hx⟩ := exactV_form neg (manX hi lo) exp rest
    rw [hx] at k1 k3
    unfold exV at *
    clear hb hh hl hc hc2 hx
    go_enter Try.func3, Try.ntmps3
    go_wp2_with (first
      | (go_at_call 9; go_must (refine (rup_any _).mono ?_); rintro e w1 ⟨rfl, hb1⟩; have HB1 : Hid (Below _ _ _) := hb1; clear hb1)
      | (go_at_call 10; go_must (refine (k1 _).mono ?_); rintro e w2 ⟨rfl, hb2⟩; have HB2 : Hid (Below _ _ _) := hb2; clear hb2)
      | (go_at_call 11; go_must (refine (k3 _).mono ?_); rintro e w3 ⟨rfl, hb3⟩; have R3_0 := (hb3.block (w2.heap.size) (by first | (simp; done) | (simp; omega) | omega)).trans (rownew' _ _ _ _ (by simp)); have z3_0 : w2.heap.size < w3.heap.size := Nat.lt_of_lt_of_le (by first | (simp; done) | (simp; omega) | omega) hb3.size; have ne3_0 : ¬ w2.heap.size = w3.heap.size := (by omega); have en3_0 : ¬ w3.heap.size = w2.heap.size := (by omega); have c3_0_0 := rowcell R3_0 0; have c3_0_1 := rowcell R3_0 1; have c3_0_2 := rowcell R3_0 2; have c3_0_3 := rowcell R3_0 3; have c3_0_4 := rowcell R3_0 4; have c3_0_5 := rowcell R3_0 5; have cf3_0 := rowfree R3_0; simp only [List.getElem?_toArray, List.getElem?_cons_zero, List.getElem?_cons_succ] at c3_0_0 c3_0_1 c3_0_2 c3_0_3 c3_0_4 c3_0_5; have HR3_0 : Hid _ := R3_0; clear R3_0; have HB3 : Hid (Below _ _ _) := hb3; clear hb3)
      | (go_at_call 12; go_must (refine (k5 _).mono ?_); rintro e wx ⟨rfl, hwx⟩; rw [hwx]; clear hwx wx))
    all_goals exact hQ.out _ _ ⟨by simp, cmore (cthen (cmore (cthen (cthen (Below.refl _ _) HB1.out) HB2.out) _) HB3.out) _⟩
end Go.Proofs.Ytajlgpamcpgalaa
