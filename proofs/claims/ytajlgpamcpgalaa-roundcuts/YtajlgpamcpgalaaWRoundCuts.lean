import Derived.Test.YtajlgpamcpgalaaJoin4
namespace Go.Proofs.Ytajlgpamcpgalaa
open Go.ChangeShapes Go.WideShapes Go.ChangeAt Go.RowKit
set_option linter.unusedVariables false
set_option linter.unusedSimpArgs false
set_option maxRecDepth 100000

theorem roundCuts_walk (n k : Int) (neg : Bool) (s h l : Int) (rest : Bool) (wn : (Lit.int .i64 n).wf = true) (w1 : (Lit.int .i64 k).wf = true) (w2 : (Lit.int .i64 s).wf = true) (wh : (Lit.int .u64 h).wf = true) (wl : (Lit.int .u64 l).wf = true) (w : World) :
    Calls Try.prog 5 #[.int .i64 n, .agg #[.int .i64 k, .bool neg, .int .i64 s, .int .u64 h, .int .u64 l, .bool rest]] w fun e w' => e = .returned (.bool true) ∧ Below w.heap.size w w' := by
  obtain ⟨hi, rfl, hh⟩ := nat_of_u64 wh
  obtain ⟨lo, rfl, hl⟩ := nat_of_u64 wl
  clear w1 w2 wh wl
  refine cps fun Q hQ => ?_
  cases hb : isW n
  · have k1 := rcut_no n k neg s hi lo rest hh hl hb
    have k3 := cut7_no n k neg s hi lo rest hb
    have k5 := code_any 2
    rw [show codeOf 2 = 2 from rfl] at k5
    unfold exV codeV at *
    clear hb wn hh hl
    go_enter Try.func5, Try.ntmps5
    go_wp2_with (first
      | (go_at_call 9; go_must (refine (rup_any _).mono ?_); rintro e w1 ⟨rfl, hb1⟩; have R1_0 := (hb1.block (w.heap.size) (by first | (simp; done) | (simp; omega) | omega)).trans (rownew' _ _ _ _ (by simp)); have z1_0 : w.heap.size < w1.heap.size := Nat.lt_of_lt_of_le (by first | (simp; done) | (simp; omega) | omega) hb1.size; have ne1_0 : ¬ w.heap.size = w1.heap.size := (by omega); have en1_0 : ¬ w1.heap.size = w.heap.size := (by omega); have c1_0_0 := rowcell R1_0 0; have c1_0_1 := rowcell R1_0 1; have c1_0_2 := rowcell R1_0 2; have c1_0_3 := rowcell R1_0 3; have c1_0_4 := rowcell R1_0 4; have c1_0_5 := rowcell R1_0 5; have cf1_0 := rowfree R1_0; simp only [List.getElem?_toArray, List.getElem?_cons_zero, List.getElem?_cons_succ] at c1_0_0 c1_0_1 c1_0_2 c1_0_3 c1_0_4 c1_0_5; have HR1_0 : Hid _ := R1_0; clear R1_0; have HB1 : Hid (Below _ _ _) := hb1; clear hb1)
      | (go_at_call 15; go_must (refine (k1 _).mono ?_); rintro e w2 ⟨rfl, hb2⟩; have R2_0 := (hb2.block (w.heap.size) (by first | (simp; done) | (simp; omega) | omega)).trans HR1_0.out; have z2_0 : w.heap.size < w2.heap.size := Nat.lt_of_lt_of_le (by first | (simp; done) | (simp; omega) | omega) hb2.size; have ne2_0 : ¬ w.heap.size = w2.heap.size := (by omega); have en2_0 : ¬ w2.heap.size = w.heap.size := (by omega); have c2_0_0 := rowcell R2_0 0; have c2_0_1 := rowcell R2_0 1; have c2_0_2 := rowcell R2_0 2; have c2_0_3 := rowcell R2_0 3; have c2_0_4 := rowcell R2_0 4; have c2_0_5 := rowcell R2_0 5; have cf2_0 := rowfree R2_0; simp only [List.getElem?_toArray, List.getElem?_cons_zero, List.getElem?_cons_succ] at c2_0_0 c2_0_1 c2_0_2 c2_0_3 c2_0_4 c2_0_5; have HR2_0 : Hid _ := R2_0; clear R2_0; have HB2 : Hid (Below _ _ _) := hb2; clear hb2)
      | (go_at_call 16; go_must (refine (k3 _).mono ?_); rintro e w3 ⟨rfl, hb3⟩; have R3_0 := (hb3.block (w.heap.size) (by first | (simp; done) | (simp; omega) | omega)).trans HR2_0.out; have z3_0 : w.heap.size < w3.heap.size := Nat.lt_of_lt_of_le (by first | (simp; done) | (simp; omega) | omega) hb3.size; have ne3_0 : ¬ w.heap.size = w3.heap.size := (by omega); have en3_0 : ¬ w3.heap.size = w.heap.size := (by omega); have c3_0_0 := rowcell R3_0 0; have c3_0_1 := rowcell R3_0 1; have c3_0_2 := rowcell R3_0 2; have c3_0_3 := rowcell R3_0 3; have c3_0_4 := rowcell R3_0 4; have c3_0_5 := rowcell R3_0 5; have cf3_0 := rowfree R3_0; simp only [List.getElem?_toArray, List.getElem?_cons_zero, List.getElem?_cons_succ] at c3_0_0 c3_0_1 c3_0_2 c3_0_3 c3_0_4 c3_0_5; have HR3_0 : Hid _ := R3_0; clear R3_0; have HB3 : Hid (Below _ _ _) := hb3; clear hb3)
      | (go_at_call 12; go_must (refine (k5 _).mono ?_); rintro e wx ⟨rfl, hwx⟩; rw [hwx]; clear hwx wx))
    all_goals exact hQ.out _ _ ⟨by simp, cthen (cthen (cthen (cmore (Below.refl _ _) _) HB1.out) HB2.out) HB3.out⟩
  · obtain ⟨m, rfl, hm⟩ := isW_yes hb
    cases hs : soundX k neg s hi lo rest
    · have k1 := rcut_bad m k neg s hi lo rest hm hh hl hs
      have k3 := cut7_bad m k neg s hi lo rest hm hs
      have k5 := code_any 1
      rw [show codeOf 1 = 1 from rfl] at k5
      unfold exV codeV at *
      clear hb wn hh hl hs hm
      go_enter Try.func5, Try.ntmps5
      go_wp2_with (first
        | (go_at_call 9; go_must (refine (rup_any _).mono ?_); rintro e w1 ⟨rfl, hb1⟩; have R1_0 := (hb1.block (w.heap.size) (by first | (simp; done) | (simp; omega) | omega)).trans (rownew' _ _ _ _ (by simp)); have z1_0 : w.heap.size < w1.heap.size := Nat.lt_of_lt_of_le (by first | (simp; done) | (simp; omega) | omega) hb1.size; have ne1_0 : ¬ w.heap.size = w1.heap.size := (by omega); have en1_0 : ¬ w1.heap.size = w.heap.size := (by omega); have c1_0_0 := rowcell R1_0 0; have c1_0_1 := rowcell R1_0 1; have c1_0_2 := rowcell R1_0 2; have c1_0_3 := rowcell R1_0 3; have c1_0_4 := rowcell R1_0 4; have c1_0_5 := rowcell R1_0 5; have cf1_0 := rowfree R1_0; simp only [List.getElem?_toArray, List.getElem?_cons_zero, List.getElem?_cons_succ] at c1_0_0 c1_0_1 c1_0_2 c1_0_3 c1_0_4 c1_0_5; have HR1_0 : Hid _ := R1_0; clear R1_0; have HB1 : Hid (Below _ _ _) := hb1; clear hb1)
        | (go_at_call 15; go_must (refine (k1 _).mono ?_); rintro e w2 ⟨rfl, hb2⟩; have R2_0 := (hb2.block (w.heap.size) (by first | (simp; done) | (simp; omega) | omega)).trans HR1_0.out; have z2_0 : w.heap.size < w2.heap.size := Nat.lt_of_lt_of_le (by first | (simp; done) | (simp; omega) | omega) hb2.size; have ne2_0 : ¬ w.heap.size = w2.heap.size := (by omega); have en2_0 : ¬ w2.heap.size = w.heap.size := (by omega); have c2_0_0 := rowcell R2_0 0; have c2_0_1 := rowcell R2_0 1; have c2_0_2 := rowcell R2_0 2; have c2_0_3 := rowcell R2_0 3; have c2_0_4 := rowcell R2_0 4; have c2_0_5 := rowcell R2_0 5; have cf2_0 := rowfree R2_0; simp only [List.getElem?_toArray, List.getElem?_cons_zero, List.getElem?_cons_succ] at c2_0_0 c2_0_1 c2_0_2 c2_0_3 c2_0_4 c2_0_5; have HR2_0 : Hid _ := R2_0; clear R2_0; have HB2 : Hid (Below _ _ _) := hb2; clear hb2)
        | (go_at_call 16; go_must (refine (k3 _).mono ?_); rintro e w3 ⟨rfl, hb3⟩; have R3_0 := (hb3.block (w.heap.size) (by first | (simp; done) | (simp; omega) | omega)).trans HR2_0.out; have z3_0 : w.heap.size < w3.heap.size := Nat.lt_of_lt_of_le (by first | (simp; done) | (simp; omega) | omega) hb3.size; have ne3_0 : ¬ w.heap.size = w3.heap.size := (by omega); have en3_0 : ¬ w3.heap.size = w.heap.size := (by omega); have c3_0_0 := rowcell R3_0 0; have c3_0_1 := rowcell R3_0 1; have c3_0_2 := rowcell R3_0 2; have c3_0_3 := rowcell R3_0 3; have c3_0_4 := rowcell R3_0 4; have c3_0_5 := rowcell R3_0 5; have cf3_0 := rowfree R3_0; simp only [List.getElem?_toArray, List.getElem?_cons_zero, List.getElem?_cons_succ] at c3_0_0 c3_0_1 c3_0_2 c3_0_3 c3_0_4 c3_0_5; have HR3_0 : Hid _ := R3_0; clear R3_0; have HB3 : Hid (Below _ _ _) := hb3; clear hb3)
        | (go_at_call 12; go_must (refine (k5 _).mono ?_); rintro e wx ⟨rfl, hwx⟩; rw [hwx]; clear hwx wx))
      all_goals exact hQ.out _ _ ⟨by simp, cthen (cthen (cthen (cmore (Below.refl _ _) _) HB1.out) HB2.out) HB3.out⟩
    · have k5 := code_nil
      rcases soundX_cases hs with ⟨rfl, rfl, rfl, rfl, rfl, rfl⟩ | ⟨rfl, rfl, rfl, rfl, rfl, rfl⟩ | rfl
      · have k1 := rcut_zero m hm
        have k3 := cut7_zero m hm
        unfold exV at *
        rw [show ((0 : Nat) : Int) = 0 from rfl] at *
        clear hb wn hh hl hs hm
        go_enter Try.func5, Try.ntmps5
        go_wp2_with (first
          | (go_at_call 9; go_must (refine (rup_any _).mono ?_); rintro e w1 ⟨rfl, hb1⟩; have R1_0 := (hb1.block (w.heap.size) (by first | (simp; done) | (simp; omega) | omega)).trans (rownew' _ _ _ _ (by simp)); have z1_0 : w.heap.size < w1.heap.size := Nat.lt_of_lt_of_le (by first | (simp; done) | (simp; omega) | omega) hb1.size; have ne1_0 : ¬ w.heap.size = w1.heap.size := (by omega); have en1_0 : ¬ w1.heap.size = w.heap.size := (by omega); have c1_0_0 := rowcell R1_0 0; have c1_0_1 := rowcell R1_0 1; have c1_0_2 := rowcell R1_0 2; have c1_0_3 := rowcell R1_0 3; have c1_0_4 := rowcell R1_0 4; have c1_0_5 := rowcell R1_0 5; have cf1_0 := rowfree R1_0; simp only [List.getElem?_toArray, List.getElem?_cons_zero, List.getElem?_cons_succ] at c1_0_0 c1_0_1 c1_0_2 c1_0_3 c1_0_4 c1_0_5; have HR1_0 : Hid _ := R1_0; clear R1_0; have HB1 : Hid (Below _ _ _) := hb1; clear hb1)
          | (go_at_call 15; go_must (refine (k1 _).mono ?_); rintro e w2 ⟨rfl, hb2⟩; have R2_0 := (hb2.block (w.heap.size) (by first | (simp; done) | (simp; omega) | omega)).trans HR1_0.out; have z2_0 : w.heap.size < w2.heap.size := Nat.lt_of_lt_of_le (by first | (simp; done) | (simp; omega) | omega) hb2.size; have ne2_0 : ¬ w.heap.size = w2.heap.size := (by omega); have en2_0 : ¬ w2.heap.size = w.heap.size := (by omega); have c2_0_0 := rowcell R2_0 0; have c2_0_1 := rowcell R2_0 1; have c2_0_2 := rowcell R2_0 2; have c2_0_3 := rowcell R2_0 3; have c2_0_4 := rowcell R2_0 4; have c2_0_5 := rowcell R2_0 5; have cf2_0 := rowfree R2_0; simp only [List.getElem?_toArray, List.getElem?_cons_zero, List.getElem?_cons_succ] at c2_0_0 c2_0_1 c2_0_2 c2_0_3 c2_0_4 c2_0_5; have HR2_0 : Hid _ := R2_0; clear R2_0; have HB2 : Hid (Below _ _ _) := hb2; clear hb2)
          | (go_at_call 16; go_must (refine (k3 _).mono ?_); rintro e w3 ⟨rfl, hb3⟩; have R3_0 := (hb3.block (w.heap.size) (by first | (simp; done) | (simp; omega) | omega)).trans HR2_0.out; have z3_0 : w.heap.size < w3.heap.size := Nat.lt_of_lt_of_le (by first | (simp; done) | (simp; omega) | omega) hb3.size; have ne3_0 : ¬ w.heap.size = w3.heap.size := (by omega); have en3_0 : ¬ w3.heap.size = w.heap.size := (by omega); have c3_0_0 := rowcell R3_0 0; have c3_0_1 := rowcell R3_0 1; have c3_0_2 := rowcell R3_0 2; have c3_0_3 := rowcell R3_0 3; have c3_0_4 := rowcell R3_0 4; have c3_0_5 := rowcell R3_0 5; have cf3_0 := rowfree R3_0; simp only [List.getElem?_toArray, List.getElem?_cons_zero, List.getElem?_cons_succ] at c3_0_0 c3_0_1 c3_0_2 c3_0_3 c3_0_4 c3_0_5; have HR3_0 : Hid _ := R3_0; clear R3_0; have HB3 : Hid (Below _ _ _) := hb3; clear hb3)
          | (go_at_call 12; go_must (refine (k5 _).mono ?_); rintro e wx ⟨rfl, hwx⟩; rw [hwx]; clear hwx wx))
        all_goals exact hQ.out _ _ ⟨by simp, cthen (cthen (cthen (cmore (Below.refl _ _) _) HB1.out) HB2.out) HB3.out⟩
      · have k1 := rcut_nar m hm
        have k3 := cut7_nar m hm
        unfold exV at *
        rw [show ((0 : Nat) : Int) = 0 from rfl] at *
        clear hb wn hh hl hs hm
        generalize ((2 ^ (m - 1) : Nat) : Int) = nv at *
        go_enter Try.func5, Try.ntmps5
        go_wp2_with (first
          | (go_at_call 9; go_must (refine (rup_any _).mono ?_); rintro e w1 ⟨rfl, hb1⟩; have R1_0 := (hb1.block (w.heap.size) (by first | (simp; done) | (simp; omega) | omega)).trans (rownew' _ _ _ _ (by simp)); have z1_0 : w.heap.size < w1.heap.size := Nat.lt_of_lt_of_le (by first | (simp; done) | (simp; omega) | omega) hb1.size; have ne1_0 : ¬ w.heap.size = w1.heap.size := (by omega); have en1_0 : ¬ w1.heap.size = w.heap.size := (by omega); have c1_0_0 := rowcell R1_0 0; have c1_0_1 := rowcell R1_0 1; have c1_0_2 := rowcell R1_0 2; have c1_0_3 := rowcell R1_0 3; have c1_0_4 := rowcell R1_0 4; have c1_0_5 := rowcell R1_0 5; have cf1_0 := rowfree R1_0; simp only [List.getElem?_toArray, List.getElem?_cons_zero, List.getElem?_cons_succ] at c1_0_0 c1_0_1 c1_0_2 c1_0_3 c1_0_4 c1_0_5; have HR1_0 : Hid _ := R1_0; clear R1_0; have HB1 : Hid (Below _ _ _) := hb1; clear hb1)
          | (go_at_call 15; go_must (refine (k1 _).mono ?_); rintro e w2 ⟨rfl, hb2⟩; have R2_0 := (hb2.block (w.heap.size) (by first | (simp; done) | (simp; omega) | omega)).trans HR1_0.out; have z2_0 : w.heap.size < w2.heap.size := Nat.lt_of_lt_of_le (by first | (simp; done) | (simp; omega) | omega) hb2.size; have ne2_0 : ¬ w.heap.size = w2.heap.size := (by omega); have en2_0 : ¬ w2.heap.size = w.heap.size := (by omega); have c2_0_0 := rowcell R2_0 0; have c2_0_1 := rowcell R2_0 1; have c2_0_2 := rowcell R2_0 2; have c2_0_3 := rowcell R2_0 3; have c2_0_4 := rowcell R2_0 4; have c2_0_5 := rowcell R2_0 5; have cf2_0 := rowfree R2_0; simp only [List.getElem?_toArray, List.getElem?_cons_zero, List.getElem?_cons_succ] at c2_0_0 c2_0_1 c2_0_2 c2_0_3 c2_0_4 c2_0_5; have HR2_0 : Hid _ := R2_0; clear R2_0; have HB2 : Hid (Below _ _ _) := hb2; clear hb2)
          | (go_at_call 16; go_must (refine (k3 _).mono ?_); rintro e w3 ⟨rfl, hb3⟩; have R3_0 := (hb3.block (w.heap.size) (by first | (simp; done) | (simp; omega) | omega)).trans HR2_0.out; have z3_0 : w.heap.size < w3.heap.size := Nat.lt_of_lt_of_le (by first | (simp; done) | (simp; omega) | omega) hb3.size; have ne3_0 : ¬ w.heap.size = w3.heap.size := (by omega); have en3_0 : ¬ w3.heap.size = w.heap.size := (by omega); have c3_0_0 := rowcell R3_0 0; have c3_0_1 := rowcell R3_0 1; have c3_0_2 := rowcell R3_0 2; have c3_0_3 := rowcell R3_0 3; have c3_0_4 := rowcell R3_0 4; have c3_0_5 := rowcell R3_0 5; have cf3_0 := rowfree R3_0; simp only [List.getElem?_toArray, List.getElem?_cons_zero, List.getElem?_cons_succ] at c3_0_0 c3_0_1 c3_0_2 c3_0_3 c3_0_4 c3_0_5; have HR3_0 : Hid _ := R3_0; clear R3_0; have HB3 : Hid (Below _ _ _) := hb3; clear hb3)
          | (go_at_call 12; go_must (refine (k5 _).mono ?_); rintro e wx ⟨rfl, hwx⟩; rw [hwx]; clear hwx wx))
        all_goals exact hQ.out _ _ ⟨by simp, cthen (cthen (cthen (cmore (Below.refl _ _) _) HB1.out) HB2.out) HB3.out⟩
      · have hx : WordsX hi lo := ⟨soundX_top hs, hh, hl⟩
        have k1 := rcut_real m neg s hi lo rest hm hs hx
        have k3 := cut7_real m neg s hi lo rest hm hs hx
        unfold exV at *
        clear hb wn hh hl hs hm hx
        generalize (cutX m s hi lo rest).1 = c1 at *
        generalize (cutX m s hi lo rest).2 = c2 at *
        go_enter Try.func5, Try.ntmps5
        go_wp2_with (first
          | (go_at_call 9; go_must (refine (rup_any _).mono ?_); rintro e w1 ⟨rfl, hb1⟩; have R1_0 := (hb1.block (w.heap.size) (by first | (simp; done) | (simp; omega) | omega)).trans (rownew' _ _ _ _ (by simp)); have z1_0 : w.heap.size < w1.heap.size := Nat.lt_of_lt_of_le (by first | (simp; done) | (simp; omega) | omega) hb1.size; have ne1_0 : ¬ w.heap.size = w1.heap.size := (by omega); have en1_0 : ¬ w1.heap.size = w.heap.size := (by omega); have c1_0_0 := rowcell R1_0 0; have c1_0_1 := rowcell R1_0 1; have c1_0_2 := rowcell R1_0 2; have c1_0_3 := rowcell R1_0 3; have c1_0_4 := rowcell R1_0 4; have c1_0_5 := rowcell R1_0 5; have cf1_0 := rowfree R1_0; simp only [List.getElem?_toArray, List.getElem?_cons_zero, List.getElem?_cons_succ] at c1_0_0 c1_0_1 c1_0_2 c1_0_3 c1_0_4 c1_0_5; have HR1_0 : Hid _ := R1_0; clear R1_0; have HB1 : Hid (Below _ _ _) := hb1; clear hb1)
          | (go_at_call 15; go_must (refine (k1 _).mono ?_); rintro e w2 ⟨rfl, hb2⟩; have R2_0 := (hb2.block (w.heap.size) (by first | (simp; done) | (simp; omega) | omega)).trans HR1_0.out; have z2_0 : w.heap.size < w2.heap.size := Nat.lt_of_lt_of_le (by first | (simp; done) | (simp; omega) | omega) hb2.size; have ne2_0 : ¬ w.heap.size = w2.heap.size := (by omega); have en2_0 : ¬ w2.heap.size = w.heap.size := (by omega); have c2_0_0 := rowcell R2_0 0; have c2_0_1 := rowcell R2_0 1; have c2_0_2 := rowcell R2_0 2; have c2_0_3 := rowcell R2_0 3; have c2_0_4 := rowcell R2_0 4; have c2_0_5 := rowcell R2_0 5; have cf2_0 := rowfree R2_0; simp only [List.getElem?_toArray, List.getElem?_cons_zero, List.getElem?_cons_succ] at c2_0_0 c2_0_1 c2_0_2 c2_0_3 c2_0_4 c2_0_5; have HR2_0 : Hid _ := R2_0; clear R2_0; have HB2 : Hid (Below _ _ _) := hb2; clear hb2)
          | (go_at_call 16; go_must (refine (k3 _).mono ?_); rintro e w3 ⟨rfl, hb3⟩; have R3_0 := (hb3.block (w.heap.size) (by first | (simp; done) | (simp; omega) | omega)).trans HR2_0.out; have z3_0 : w.heap.size < w3.heap.size := Nat.lt_of_lt_of_le (by first | (simp; done) | (simp; omega) | omega) hb3.size; have ne3_0 : ¬ w.heap.size = w3.heap.size := (by omega); have en3_0 : ¬ w3.heap.size = w.heap.size := (by omega); have c3_0_0 := rowcell R3_0 0; have c3_0_1 := rowcell R3_0 1; have c3_0_2 := rowcell R3_0 2; have c3_0_3 := rowcell R3_0 3; have c3_0_4 := rowcell R3_0 4; have c3_0_5 := rowcell R3_0 5; have cf3_0 := rowfree R3_0; simp only [List.getElem?_toArray, List.getElem?_cons_zero, List.getElem?_cons_succ] at c3_0_0 c3_0_1 c3_0_2 c3_0_3 c3_0_4 c3_0_5; have HR3_0 : Hid _ := R3_0; clear R3_0; have HB3 : Hid (Below _ _ _) := hb3; clear hb3)
          | (go_at_call 12; go_must (refine (k5 _).mono ?_); rintro e wx ⟨rfl, hwx⟩; rw [hwx]; clear hwx wx))
        all_goals exact hQ.out _ _ ⟨by simp, cthen (cthen (cthen (cmore (Below.refl _ _) _) HB1.out) HB2.out) HB3.out⟩
end Go.Proofs.Ytajlgpamcpgalaa
