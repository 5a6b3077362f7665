import Derived.Test.YtajlgpamcpgalabJoin3
import Derived.Test.YtajlgpamcpgalabJoin4
import Derived.Deep.CutBlock
import Derived.Deep.CutRange
namespace Go.Proofs.Ytajlgpamcpgalab
open Go.ChangeShapes Go.WideShapes Go.ChangeAt Go.RowKit
set_option linter.unusedVariables false
set_option linter.unusedSimpArgs false
set_option maxRecDepth 100000

theorem roundTies_none (n : Int) (k : Int) (neg : Bool) (s : Int) (hi lo : Nat) (rest : Bool) (h : n ≠ 8 ∧ n ≠ 16 ∧ n ≠ 32) (w : World) :
    Calls Try.prog 3 #[.int .i64 n, .agg #[.int .i64 k, .bool neg, .int .i64 s, .int .u64 hi, .int .u64 lo, .bool rest]] w fun e w' => e = .returned (.bool true) ∧ Below w.heap.size w w' := by
  have ks := sound7_any k neg s hi lo rest
  unfold exV at ks
  generalize soundX k neg s hi lo rest = so at *
  refine cps fun Q hQ => ?_
  obtain ⟨h1, h2, h3⟩ := h
  have d1 : (n == 8) = false := beq_eq_false_iff_ne.2 h1
  have d2 : (n == 16) = false := beq_eq_false_iff_ne.2 h2
  have d3 : (n == 32) = false := beq_eq_false_iff_ne.2 h3
  have f1 : ¬ n = 8 := h1
  have f2 : ¬ n = 16 := h2
  have f3 : ¬ n = 32 := h3
  go_enter Try.func3, Try.ntmps3
  go_wp2_with (first
    | (go_at_call 4; go_must (refine (rup_any _).mono ?_); rintro e w1 ⟨rfl, hb1⟩; have R1_0 := (hb1.block (w.heap.size) (by first | (simp; done) | (simp; omega) | omega)).trans (rownew' _ _ _ _ (by simp)); have z1_0 : w.heap.size < w1.heap.size := Nat.lt_of_lt_of_le (by first | (simp; done) | (simp; omega) | omega) hb1.size; have ne1_0 : ¬ w.heap.size = w1.heap.size := (by omega); have en1_0 : ¬ w1.heap.size = w.heap.size := (by omega); have c1_0_0 := rowcell R1_0 0; have c1_0_1 := rowcell R1_0 1; have c1_0_2 := rowcell R1_0 2; have c1_0_3 := rowcell R1_0 3; have c1_0_4 := rowcell R1_0 4; have c1_0_5 := rowcell R1_0 5; have cf1_0 := rowfree R1_0; simp only [List.getElem?_toArray, List.getElem?_cons_zero, List.getElem?_cons_succ] at c1_0_0 c1_0_1 c1_0_2 c1_0_3 c1_0_4 c1_0_5; have HR1_0 : Hid _ := R1_0; clear R1_0; have HB1 : Hid (Below _ _ _) := hb1; clear hb1)
    | (go_at_call 5; go_must (refine (ks _).mono ?_); rintro e w2 ⟨rfl, hb2⟩; have R2_0 := (hb2.block (w.heap.size) (by first | (simp; done) | (simp; omega) | omega)).trans HR1_0.out; have z2_0 : w.heap.size < w2.heap.size := Nat.lt_of_lt_of_le (by first | (simp; done) | (simp; omega) | omega) hb2.size; have ne2_0 : ¬ w.heap.size = w2.heap.size := (by omega); have en2_0 : ¬ w2.heap.size = w.heap.size := (by omega); have c2_0_0 := rowcell R2_0 0; have c2_0_1 := rowcell R2_0 1; have c2_0_2 := rowcell R2_0 2; have c2_0_3 := rowcell R2_0 3; have c2_0_4 := rowcell R2_0 4; have c2_0_5 := rowcell R2_0 5; have cf2_0 := rowfree R2_0; simp only [List.getElem?_toArray, List.getElem?_cons_zero, List.getElem?_cons_succ] at c2_0_0 c2_0_1 c2_0_2 c2_0_3 c2_0_4 c2_0_5; have HR2_0 : Hid _ := R2_0; clear R2_0; have HB2 : Hid (Below _ _ _) := hb2; clear hb2))
  all_goals exact hQ.out _ _ ⟨by first | rfl | simp, cthen (cthen (cmore (Below.refl _ _) _) HB1.out) HB2.out⟩
theorem roundTies_e8 (k : Int) (neg : Bool) (s : Int) (hi lo : Nat) (rest : Bool) (h' : soundX k neg s hi lo rest = false ∨ k ≠ 1 ∨ rest = true) (w : World) :
    Calls Try.prog 3 #[.int .i64 8, .agg #[.int .i64 k, .bool neg, .int .i64 s, .int .u64 hi, .int .u64 lo, .bool rest]] w fun e w' => e = .returned (.bool true) ∧ Below w.heap.size w w' := by
  have ks := sound7_any k neg s hi lo rest
  unfold exV at ks
  generalize soundX k neg s hi lo rest = so at *
  refine cps fun Q hQ => ?_
  cases so
  · clear h'
    go_enter Try.func3, Try.ntmps3
    go_wp2_with (first
      | (go_at_call 4; go_must (refine (rup_any _).mono ?_); rintro e w1 ⟨rfl, hb1⟩; have R1_0 := (hb1.block (w.heap.size) (by first | (simp; done) | (simp; omega) | omega)).trans (rownew' _ _ _ _ (by simp)); have z1_0 : w.heap.size < w1.heap.size := Nat.lt_of_lt_of_le (by first | (simp; done) | (simp; omega) | omega) hb1.size; have ne1_0 : ¬ w.heap.size = w1.heap.size := (by omega); have en1_0 : ¬ w1.heap.size = w.heap.size := (by omega); have c1_0_0 := rowcell R1_0 0; have c1_0_1 := rowcell R1_0 1; have c1_0_2 := rowcell R1_0 2; have c1_0_3 := rowcell R1_0 3; have c1_0_4 := rowcell R1_0 4; have c1_0_5 := rowcell R1_0 5; have cf1_0 := rowfree R1_0; simp only [List.getElem?_toArray, List.getElem?_cons_zero, List.getElem?_cons_succ] at c1_0_0 c1_0_1 c1_0_2 c1_0_3 c1_0_4 c1_0_5; have HR1_0 : Hid _ := R1_0; clear R1_0; have HB1 : Hid (Below _ _ _) := hb1; clear hb1)
      | (go_at_call 5; go_must (refine (ks _).mono ?_); rintro e w2 ⟨rfl, hb2⟩; have R2_0 := (hb2.block (w.heap.size) (by first | (simp; done) | (simp; omega) | omega)).trans HR1_0.out; have z2_0 : w.heap.size < w2.heap.size := Nat.lt_of_lt_of_le (by first | (simp; done) | (simp; omega) | omega) hb2.size; have ne2_0 : ¬ w.heap.size = w2.heap.size := (by omega); have en2_0 : ¬ w2.heap.size = w.heap.size := (by omega); have c2_0_0 := rowcell R2_0 0; have c2_0_1 := rowcell R2_0 1; have c2_0_2 := rowcell R2_0 2; have c2_0_3 := rowcell R2_0 3; have c2_0_4 := rowcell R2_0 4; have c2_0_5 := rowcell R2_0 5; have cf2_0 := rowfree R2_0; simp only [List.getElem?_toArray, List.getElem?_cons_zero, List.getElem?_cons_succ] at c2_0_0 c2_0_1 c2_0_2 c2_0_3 c2_0_4 c2_0_5; have HR2_0 : Hid _ := R2_0; clear R2_0; have HB2 : Hid (Below _ _ _) := hb2; clear hb2))
    all_goals exact hQ.out _ _ ⟨by first | rfl | simp, cthen (cthen (cmore (Below.refl _ _) _) HB1.out) HB2.out⟩
  · have h2 : k ≠ 1 ∨ rest = true := by
      rcases h' with h | h
      · cases h
      · exact h
    clear h'
    by_cases hk : k = 1
    · have h3 : rest = true := by
        rcases h2 with h | h
        · exact absurd hk h
        · exact h
      subst h3 hk
      clear h2
      go_enter Try.func3, Try.ntmps3
      go_wp2_with (first
        | (go_at_call 4; go_must (refine (rup_any _).mono ?_); rintro e w1 ⟨rfl, hb1⟩; have R1_0 := (hb1.block (w.heap.size) (by first | (simp; done) | (simp; omega) | omega)).trans (rownew' _ _ _ _ (by simp)); have z1_0 : w.heap.size < w1.heap.size := Nat.lt_of_lt_of_le (by first | (simp; done) | (simp; omega) | omega) hb1.size; have ne1_0 : ¬ w.heap.size = w1.heap.size := (by omega); have en1_0 : ¬ w1.heap.size = w.heap.size := (by omega); have c1_0_0 := rowcell R1_0 0; have c1_0_1 := rowcell R1_0 1; have c1_0_2 := rowcell R1_0 2; have c1_0_3 := rowcell R1_0 3; have c1_0_4 := rowcell R1_0 4; have c1_0_5 := rowcell R1_0 5; have cf1_0 := rowfree R1_0; simp only [List.getElem?_toArray, List.getElem?_cons_zero, List.getElem?_cons_succ] at c1_0_0 c1_0_1 c1_0_2 c1_0_3 c1_0_4 c1_0_5; have HR1_0 : Hid _ := R1_0; clear R1_0; have HB1 : Hid (Below _ _ _) := hb1; clear hb1)
        | (go_at_call 5; go_must (refine (ks _).mono ?_); rintro e w2 ⟨rfl, hb2⟩; have R2_0 := (hb2.block (w.heap.size) (by first | (simp; done) | (simp; omega) | omega)).trans HR1_0.out; have z2_0 : w.heap.size < w2.heap.size := Nat.lt_of_lt_of_le (by first | (simp; done) | (simp; omega) | omega) hb2.size; have ne2_0 : ¬ w.heap.size = w2.heap.size := (by omega); have en2_0 : ¬ w2.heap.size = w.heap.size := (by omega); have c2_0_0 := rowcell R2_0 0; have c2_0_1 := rowcell R2_0 1; have c2_0_2 := rowcell R2_0 2; have c2_0_3 := rowcell R2_0 3; have c2_0_4 := rowcell R2_0 4; have c2_0_5 := rowcell R2_0 5; have cf2_0 := rowfree R2_0; simp only [List.getElem?_toArray, List.getElem?_cons_zero, List.getElem?_cons_succ] at c2_0_0 c2_0_1 c2_0_2 c2_0_3 c2_0_4 c2_0_5; have HR2_0 : Hid _ := R2_0; clear R2_0; have HB2 : Hid (Below _ _ _) := hb2; clear hb2))
      all_goals exact hQ.out _ _ ⟨by first | rfl | simp, cthen (cthen (cmore (Below.refl _ _) _) HB1.out) HB2.out⟩
    · have dk : (k == 1) = false := beq_eq_false_iff_ne.2 hk
      clear h2
      go_enter Try.func3, Try.ntmps3
      go_wp2_with (first
        | (go_at_call 4; go_must (refine (rup_any _).mono ?_); rintro e w1 ⟨rfl, hb1⟩; have R1_0 := (hb1.block (w.heap.size) (by first | (simp; done) | (simp; omega) | omega)).trans (rownew' _ _ _ _ (by simp)); have z1_0 : w.heap.size < w1.heap.size := Nat.lt_of_lt_of_le (by first | (simp; done) | (simp; omega) | omega) hb1.size; have ne1_0 : ¬ w.heap.size = w1.heap.size := (by omega); have en1_0 : ¬ w1.heap.size = w.heap.size := (by omega); have c1_0_0 := rowcell R1_0 0; have c1_0_1 := rowcell R1_0 1; have c1_0_2 := rowcell R1_0 2; have c1_0_3 := rowcell R1_0 3; have c1_0_4 := rowcell R1_0 4; have c1_0_5 := rowcell R1_0 5; have cf1_0 := rowfree R1_0; simp only [List.getElem?_toArray, List.getElem?_cons_zero, List.getElem?_cons_succ] at c1_0_0 c1_0_1 c1_0_2 c1_0_3 c1_0_4 c1_0_5; have HR1_0 : Hid _ := R1_0; clear R1_0; have HB1 : Hid (Below _ _ _) := hb1; clear hb1)
        | (go_at_call 5; go_must (refine (ks _).mono ?_); rintro e w2 ⟨rfl, hb2⟩; have R2_0 := (hb2.block (w.heap.size) (by first | (simp; done) | (simp; omega) | omega)).trans HR1_0.out; have z2_0 : w.heap.size < w2.heap.size := Nat.lt_of_lt_of_le (by first | (simp; done) | (simp; omega) | omega) hb2.size; have ne2_0 : ¬ w.heap.size = w2.heap.size := (by omega); have en2_0 : ¬ w2.heap.size = w.heap.size := (by omega); have c2_0_0 := rowcell R2_0 0; have c2_0_1 := rowcell R2_0 1; have c2_0_2 := rowcell R2_0 2; have c2_0_3 := rowcell R2_0 3; have c2_0_4 := rowcell R2_0 4; have c2_0_5 := rowcell R2_0 5; have cf2_0 := rowfree R2_0; simp only [List.getElem?_toArray, List.getElem?_cons_zero, List.getElem?_cons_succ] at c2_0_0 c2_0_1 c2_0_2 c2_0_3 c2_0_4 c2_0_5; have HR2_0 : Hid _ := R2_0; clear R2_0; have HB2 : Hid (Below _ _ _) := hb2; clear hb2))
      all_goals exact hQ.out _ _ ⟨by first | rfl | simp, cthen (cthen (cmore (Below.refl _ _) _) HB1.out) HB2.out⟩
theorem roundTies_e16 (k : Int) (neg : Bool) (s : Int) (hi lo : Nat) (rest : Bool) (h' : soundX k neg s hi lo rest = false ∨ k ≠ 1 ∨ rest = true) (w : World) :
    Calls Try.prog 3 #[.int .i64 16, .agg #[.int .i64 k, .bool neg, .int .i64 s, .int .u64 hi, .int .u64 lo, .bool rest]] w fun e w' => e = .returned (.bool true) ∧ Below w.heap.size w w' := by
  have ks := sound7_any k neg s hi lo rest
  unfold exV at ks
  generalize soundX k neg s hi lo rest = so at *
  refine cps fun Q hQ => ?_
  cases so
  · clear h'
    go_enter Try.func3, Try.ntmps3
    go_wp2_with (first
      | (go_at_call 4; go_must (refine (rup_any _).mono ?_); rintro e w1 ⟨rfl, hb1⟩; have R1_0 := (hb1.block (w.heap.size) (by first | (simp; done) | (simp; omega) | omega)).trans (rownew' _ _ _ _ (by simp)); have z1_0 : w.heap.size < w1.heap.size := Nat.lt_of_lt_of_le (by first | (simp; done) | (simp; omega) | omega) hb1.size; have ne1_0 : ¬ w.heap.size = w1.heap.size := (by omega); have en1_0 : ¬ w1.heap.size = w.heap.size := (by omega); have c1_0_0 := rowcell R1_0 0; have c1_0_1 := rowcell R1_0 1; have c1_0_2 := rowcell R1_0 2; have c1_0_3 := rowcell R1_0 3; have c1_0_4 := rowcell R1_0 4; have c1_0_5 := rowcell R1_0 5; have cf1_0 := rowfree R1_0; simp only [List.getElem?_toArray, List.getElem?_cons_zero, List.getElem?_cons_succ] at c1_0_0 c1_0_1 c1_0_2 c1_0_3 c1_0_4 c1_0_5; have HR1_0 : Hid _ := R1_0; clear R1_0; have HB1 : Hid (Below _ _ _) := hb1; clear hb1)
      | (go_at_call 5; go_must (refine (ks _).mono ?_); rintro e w2 ⟨rfl, hb2⟩; have R2_0 := (hb2.block (w.heap.size) (by first | (simp; done) | (simp; omega) | omega)).trans HR1_0.out; have z2_0 : w.heap.size < w2.heap.size := Nat.lt_of_lt_of_le (by first | (simp; done) | (simp; omega) | omega) hb2.size; have ne2_0 : ¬ w.heap.size = w2.heap.size := (by omega); have en2_0 : ¬ w2.heap.size = w.heap.size := (by omega); have c2_0_0 := rowcell R2_0 0; have c2_0_1 := rowcell R2_0 1; have c2_0_2 := rowcell R2_0 2; have c2_0_3 := rowcell R2_0 3; have c2_0_4 := rowcell R2_0 4; have c2_0_5 := rowcell R2_0 5; have cf2_0 := rowfree R2_0; simp only [List.getElem?_toArray, List.getElem?_cons_zero, List.getElem?_cons_succ] at c2_0_0 c2_0_1 c2_0_2 c2_0_3 c2_0_4 c2_0_5; have HR2_0 : Hid _ := R2_0; clear R2_0; have HB2 : Hid (Below _ _ _) := hb2; clear hb2))
    all_goals exact hQ.out _ _ ⟨by first | rfl | simp, cthen (cthen (cmore (Below.refl _ _) _) HB1.out) HB2.out⟩
  · have h2 : k ≠ 1 ∨ rest = true := by
      rcases h' with h | h
      · cases h
      · exact h
    clear h'
    by_cases hk : k = 1
    · have h3 : rest = true := by
        rcases h2 with h | h
        · exact absurd hk h
        · exact h
      subst h3 hk
      clear h2
      go_enter Try.func3, Try.ntmps3
      go_wp2_with (first
        | (go_at_call 4; go_must (refine (rup_any _).mono ?_); rintro e w1 ⟨rfl, hb1⟩; have R1_0 := (hb1.block (w.heap.size) (by first | (simp; done) | (simp; omega) | omega)).trans (rownew' _ _ _ _ (by simp)); have z1_0 : w.heap.size < w1.heap.size := Nat.lt_of_lt_of_le (by first | (simp; done) | (simp; omega) | omega) hb1.size; have ne1_0 : ¬ w.heap.size = w1.heap.size := (by omega); have en1_0 : ¬ w1.heap.size = w.heap.size := (by omega); have c1_0_0 := rowcell R1_0 0; have c1_0_1 := rowcell R1_0 1; have c1_0_2 := rowcell R1_0 2; have c1_0_3 := rowcell R1_0 3; have c1_0_4 := rowcell R1_0 4; have c1_0_5 := rowcell R1_0 5; have cf1_0 := rowfree R1_0; simp only [List.getElem?_toArray, List.getElem?_cons_zero, List.getElem?_cons_succ] at c1_0_0 c1_0_1 c1_0_2 c1_0_3 c1_0_4 c1_0_5; have HR1_0 : Hid _ := R1_0; clear R1_0; have HB1 : Hid (Below _ _ _) := hb1; clear hb1)
        | (go_at_call 5; go_must (refine (ks _).mono ?_); rintro e w2 ⟨rfl, hb2⟩; have R2_0 := (hb2.block (w.heap.size) (by first | (simp; done) | (simp; omega) | omega)).trans HR1_0.out; have z2_0 : w.heap.size < w2.heap.size := Nat.lt_of_lt_of_le (by first | (simp; done) | (simp; omega) | omega) hb2.size; have ne2_0 : ¬ w.heap.size = w2.heap.size := (by omega); have en2_0 : ¬ w2.heap.size = w.heap.size := (by omega); have c2_0_0 := rowcell R2_0 0; have c2_0_1 := rowcell R2_0 1; have c2_0_2 := rowcell R2_0 2; have c2_0_3 := rowcell R2_0 3; have c2_0_4 := rowcell R2_0 4; have c2_0_5 := rowcell R2_0 5; have cf2_0 := rowfree R2_0; simp only [List.getElem?_toArray, List.getElem?_cons_zero, List.getElem?_cons_succ] at c2_0_0 c2_0_1 c2_0_2 c2_0_3 c2_0_4 c2_0_5; have HR2_0 : Hid _ := R2_0; clear R2_0; have HB2 : Hid (Below _ _ _) := hb2; clear hb2))
      all_goals exact hQ.out _ _ ⟨by first | rfl | simp, cthen (cthen (cmore (Below.refl _ _) _) HB1.out) HB2.out⟩
    · have dk : (k == 1) = false := beq_eq_false_iff_ne.2 hk
      clear h2
      go_enter Try.func3, Try.ntmps3
      go_wp2_with (first
        | (go_at_call 4; go_must (refine (rup_any _).mono ?_); rintro e w1 ⟨rfl, hb1⟩; have R1_0 := (hb1.block (w.heap.size) (by first | (simp; done) | (simp; omega) | omega)).trans (rownew' _ _ _ _ (by simp)); have z1_0 : w.heap.size < w1.heap.size := Nat.lt_of_lt_of_le (by first | (simp; done) | (simp; omega) | omega) hb1.size; have ne1_0 : ¬ w.heap.size = w1.heap.size := (by omega); have en1_0 : ¬ w1.heap.size = w.heap.size := (by omega); have c1_0_0 := rowcell R1_0 0; have c1_0_1 := rowcell R1_0 1; have c1_0_2 := rowcell R1_0 2; have c1_0_3 := rowcell R1_0 3; have c1_0_4 := rowcell R1_0 4; have c1_0_5 := rowcell R1_0 5; have cf1_0 := rowfree R1_0; simp only [List.getElem?_toArray, List.getElem?_cons_zero, List.getElem?_cons_succ] at c1_0_0 c1_0_1 c1_0_2 c1_0_3 c1_0_4 c1_0_5; have HR1_0 : Hid _ := R1_0; clear R1_0; have HB1 : Hid (Below _ _ _) := hb1; clear hb1)
        | (go_at_call 5; go_must (refine (ks _).mono ?_); rintro e w2 ⟨rfl, hb2⟩; have R2_0 := (hb2.block (w.heap.size) (by first | (simp; done) | (simp; omega) | omega)).trans HR1_0.out; have z2_0 : w.heap.size < w2.heap.size := Nat.lt_of_lt_of_le (by first | (simp; done) | (simp; omega) | omega) hb2.size; have ne2_0 : ¬ w.heap.size = w2.heap.size := (by omega); have en2_0 : ¬ w2.heap.size = w.heap.size := (by omega); have c2_0_0 := rowcell R2_0 0; have c2_0_1 := rowcell R2_0 1; have c2_0_2 := rowcell R2_0 2; have c2_0_3 := rowcell R2_0 3; have c2_0_4 := rowcell R2_0 4; have c2_0_5 := rowcell R2_0 5; have cf2_0 := rowfree R2_0; simp only [List.getElem?_toArray, List.getElem?_cons_zero, List.getElem?_cons_succ] at c2_0_0 c2_0_1 c2_0_2 c2_0_3 c2_0_4 c2_0_5; have HR2_0 : Hid _ := R2_0; clear R2_0; have HB2 : Hid (Below _ _ _) := hb2; clear hb2))
      all_goals exact hQ.out _ _ ⟨by first | rfl | simp, cthen (cthen (cmore (Below.refl _ _) _) HB1.out) HB2.out⟩
theorem roundTies_e32 (k : Int) (neg : Bool) (s : Int) (hi lo : Nat) (rest : Bool) (h' : soundX k neg s hi lo rest = false ∨ k ≠ 1 ∨ rest = true) (w : World) :
    Calls Try.prog 3 #[.int .i64 32, .agg #[.int .i64 k, .bool neg, .int .i64 s, .int .u64 hi, .int .u64 lo, .bool rest]] w fun e w' => e = .returned (.bool true) ∧ Below w.heap.size w w' := by
  have ks := sound7_any k neg s hi lo rest
  unfold exV at ks
  generalize soundX k neg s hi lo rest = so at *
  refine cps fun Q hQ => ?_
  cases so
  · clear h'
    go_enter Try.func3, Try.ntmps3
    go_wp2_with (first
      | (go_at_call 4; go_must (refine (rup_any _).mono ?_); rintro e w1 ⟨rfl, hb1⟩; have R1_0 := (hb1.block (w.heap.size) (by first | (simp; done) | (simp; omega) | omega)).trans (rownew' _ _ _ _ (by simp)); have z1_0 : w.heap.size < w1.heap.size := Nat.lt_of_lt_of_le (by first | (simp; done) | (simp; omega) | omega) hb1.size; have ne1_0 : ¬ w.heap.size = w1.heap.size := (by omega); have en1_0 : ¬ w1.heap.size = w.heap.size := (by omega); have c1_0_0 := rowcell R1_0 0; have c1_0_1 := rowcell R1_0 1; have c1_0_2 := rowcell R1_0 2; have c1_0_3 := rowcell R1_0 3; have c1_0_4 := rowcell R1_0 4; have c1_0_5 := rowcell R1_0 5; have cf1_0 := rowfree R1_0; simp only [List.getElem?_toArray, List.getElem?_cons_zero, List.getElem?_cons_succ] at c1_0_0 c1_0_1 c1_0_2 c1_0_3 c1_0_4 c1_0_5; have HR1_0 : Hid _ := R1_0; clear R1_0; have HB1 : Hid (Below _ _ _) := hb1; clear hb1)
      | (go_at_call 5; go_must (refine (ks _).mono ?_); rintro e w2 ⟨rfl, hb2⟩; have R2_0 := (hb2.block (w.heap.size) (by first | (simp; done) | (simp; omega) | omega)).trans HR1_0.out; have z2_0 : w.heap.size < w2.heap.size := Nat.lt_of_lt_of_le (by first | (simp; done) | (simp; omega) | omega) hb2.size; have ne2_0 : ¬ w.heap.size = w2.heap.size := (by omega); have en2_0 : ¬ w2.heap.size = w.heap.size := (by omega); have c2_0_0 := rowcell R2_0 0; have c2_0_1 := rowcell R2_0 1; have c2_0_2 := rowcell R2_0 2; have c2_0_3 := rowcell R2_0 3; have c2_0_4 := rowcell R2_0 4; have c2_0_5 := rowcell R2_0 5; have cf2_0 := rowfree R2_0; simp only [List.getElem?_toArray, List.getElem?_cons_zero, List.getElem?_cons_succ] at c2_0_0 c2_0_1 c2_0_2 c2_0_3 c2_0_4 c2_0_5; have HR2_0 : Hid _ := R2_0; clear R2_0; have HB2 : Hid (Below _ _ _) := hb2; clear hb2))
    all_goals exact hQ.out _ _ ⟨by first | rfl | simp, cthen (cthen (cmore (Below.refl _ _) _) HB1.out) HB2.out⟩
  · have h2 : k ≠ 1 ∨ rest = true := by
      rcases h' with h | h
      · cases h
      · exact h
    clear h'
    by_cases hk : k = 1
    · have h3 : rest = true := by
        rcases h2 with h | h
        · exact absurd hk h
        · exact h
      subst h3 hk
      clear h2
      go_enter Try.func3, Try.ntmps3
      go_wp2_with (first
        | (go_at_call 4; go_must (refine (rup_any _).mono ?_); rintro e w1 ⟨rfl, hb1⟩; have R1_0 := (hb1.block (w.heap.size) (by first | (simp; done) | (simp; omega) | omega)).trans (rownew' _ _ _ _ (by simp)); have z1_0 : w.heap.size < w1.heap.size := Nat.lt_of_lt_of_le (by first | (simp; done) | (simp; omega) | omega) hb1.size; have ne1_0 : ¬ w.heap.size = w1.heap.size := (by omega); have en1_0 : ¬ w1.heap.size = w.heap.size := (by omega); have c1_0_0 := rowcell R1_0 0; have c1_0_1 := rowcell R1_0 1; have c1_0_2 := rowcell R1_0 2; have c1_0_3 := rowcell R1_0 3; have c1_0_4 := rowcell R1_0 4; have c1_0_5 := rowcell R1_0 5; have cf1_0 := rowfree R1_0; simp only [List.getElem?_toArray, List.getElem?_cons_zero, List.getElem?_cons_succ] at c1_0_0 c1_0_1 c1_0_2 c1_0_3 c1_0_4 c1_0_5; have HR1_0 : Hid _ := R1_0; clear R1_0; have HB1 : Hid (Below _ _ _) := hb1; clear hb1)
        | (go_at_call 5; go_must (refine (ks _).mono ?_); rintro e w2 ⟨rfl, hb2⟩; have R2_0 := (hb2.block (w.heap.size) (by first | (simp; done) | (simp; omega) | omega)).trans HR1_0.out; have z2_0 : w.heap.size < w2.heap.size := Nat.lt_of_lt_of_le (by first | (simp; done) | (simp; omega) | omega) hb2.size; have ne2_0 : ¬ w.heap.size = w2.heap.size := (by omega); have en2_0 : ¬ w2.heap.size = w.heap.size := (by omega); have c2_0_0 := rowcell R2_0 0; have c2_0_1 := rowcell R2_0 1; have c2_0_2 := rowcell R2_0 2; have c2_0_3 := rowcell R2_0 3; have c2_0_4 := rowcell R2_0 4; have c2_0_5 := rowcell R2_0 5; have cf2_0 := rowfree R2_0; simp only [List.getElem?_toArray, List.getElem?_cons_zero, List.getElem?_cons_succ] at c2_0_0 c2_0_1 c2_0_2 c2_0_3 c2_0_4 c2_0_5; have HR2_0 : Hid _ := R2_0; clear R2_0; have HB2 : Hid (Below _ _ _) := hb2; clear hb2))
      all_goals exact hQ.out _ _ ⟨by first | rfl | simp, cthen (cthen (cmore (Below.refl _ _) _) HB1.out) HB2.out⟩
    · have dk : (k == 1) = false := beq_eq_false_iff_ne.2 hk
      clear h2
      go_enter Try.func3, Try.ntmps3
      go_wp2_with (first
        | (go_at_call 4; go_must (refine (rup_any _).mono ?_); rintro e w1 ⟨rfl, hb1⟩; have R1_0 := (hb1.block (w.heap.size) (by first | (simp; done) | (simp; omega) | omega)).trans (rownew' _ _ _ _ (by simp)); have z1_0 : w.heap.size < w1.heap.size := Nat.lt_of_lt_of_le (by first | (simp; done) | (simp; omega) | omega) hb1.size; have ne1_0 : ¬ w.heap.size = w1.heap.size := (by omega); have en1_0 : ¬ w1.heap.size = w.heap.size := (by omega); have c1_0_0 := rowcell R1_0 0; have c1_0_1 := rowcell R1_0 1; have c1_0_2 := rowcell R1_0 2; have c1_0_3 := rowcell R1_0 3; have c1_0_4 := rowcell R1_0 4; have c1_0_5 := rowcell R1_0 5; have cf1_0 := rowfree R1_0; simp only [List.getElem?_toArray, List.getElem?_cons_zero, List.getElem?_cons_succ] at c1_0_0 c1_0_1 c1_0_2 c1_0_3 c1_0_4 c1_0_5; have HR1_0 : Hid _ := R1_0; clear R1_0; have HB1 : Hid (Below _ _ _) := hb1; clear hb1)
        | (go_at_call 5; go_must (refine (ks _).mono ?_); rintro e w2 ⟨rfl, hb2⟩; have R2_0 := (hb2.block (w.heap.size) (by first | (simp; done) | (simp; omega) | omega)).trans HR1_0.out; have z2_0 : w.heap.size < w2.heap.size := Nat.lt_of_lt_of_le (by first | (simp; done) | (simp; omega) | omega) hb2.size; have ne2_0 : ¬ w.heap.size = w2.heap.size := (by omega); have en2_0 : ¬ w2.heap.size = w.heap.size := (by omega); have c2_0_0 := rowcell R2_0 0; have c2_0_1 := rowcell R2_0 1; have c2_0_2 := rowcell R2_0 2; have c2_0_3 := rowcell R2_0 3; have c2_0_4 := rowcell R2_0 4; have c2_0_5 := rowcell R2_0 5; have cf2_0 := rowfree R2_0; simp only [List.getElem?_toArray, List.getElem?_cons_zero, List.getElem?_cons_succ] at c2_0_0 c2_0_1 c2_0_2 c2_0_3 c2_0_4 c2_0_5; have HR2_0 : Hid _ := R2_0; clear R2_0; have HB2 : Hid (Below _ _ _) := hb2; clear hb2))
      all_goals exact hQ.out _ _ ⟨by first | rfl | simp, cthen (cthen (cmore (Below.refl _ _) _) HB1.out) HB2.out⟩
theorem roundTies_early (n : Int) (k : Int) (neg : Bool) (s : Int) (hi lo : Nat) (rest : Bool) (h : (n ≠ 8 ∧ n ≠ 16 ∧ n ≠ 32) ∨ soundX k neg s hi lo rest = false ∨ k ≠ 1 ∨ rest = true) (w : World) :
    Calls Try.prog 3 #[.int .i64 n, .agg #[.int .i64 k, .bool neg, .int .i64 s, .int .u64 hi, .int .u64 lo, .bool rest]] w fun e w' => e = .returned (.bool true) ∧ Below w.heap.size w w' := by
  by_cases hn : n ≠ 8 ∧ n ≠ 16 ∧ n ≠ 32
  · exact roundTies_none n k neg s hi lo rest hn w
  · have h' : soundX k neg s hi lo rest = false ∨ k ≠ 1 ∨ rest = true := by
      rcases h with h | h
      · exact absurd h hn
      · exact h
    have hn' : n = 8 ∨ n = 16 ∨ n = 32 := by omega
    rcases hn' with rfl | rfl | rfl
    · exact roundTies_e8 k neg s hi lo rest h' w
    · exact roundTies_e16 k neg s hi lo rest h' w
    · exact roundTies_e32 k neg s hi lo rest h' w
theorem roundTies_walk (n k : Int) (neg : Bool) (s h l : Int) (rest : Bool) (wn : (Lit.int .i64 n).wf = true) (w1 : (Lit.int .i64 k).wf = true) (w2 : (Lit.int .i64 s).wf = true) (wh : (Lit.int .u64 h).wf = true) (wl : (Lit.int .u64 l).wf = true) (w : World) :
    Calls Try.prog 3 #[.int .i64 n, .agg #[.int .i64 k, .bool neg, .int .i64 s, .int .u64 h, .int .u64 l, .bool rest]] w fun e w' => e = .returned (.bool true) ∧ Below w.heap.size w w' := by
  obtain ⟨hi, rfl, hh⟩ := nat_of_u64 wh
  obtain ⟨lo, rfl, hl⟩ := nat_of_u64 wl
  by_cases he : (n ≠ 8 ∧ n ≠ 16 ∧ n ≠ 32) ∨ soundX k neg s hi lo rest = false ∨ k ≠ 1 ∨ rest = true
  · exact roundTies_early n k neg s hi lo rest he w
  · have hn : n = 8 ∨ n = 16 ∨ n = 32 := by omega
    have hk : k = 1 := by
      rcases Int.decEq k 1 with h | h
      · exact absurd (.inr (.inr (.inl h))) he
      · exact h
    have hr : rest = false := by
      cases rest
      · rfl
      · exact absurd (.inr (.inr (.inr rfl))) he
    subst hk hr
    have hs : soundX 1 neg s hi lo false = true := by
      cases h : soundX 1 neg s hi lo false
      · exact absurd (.inr (.inl h)) he
      · rfl
    rcases hn with rfl | rfl | rfl
    · exact roundTies_main8 neg s hi lo hh hl hs w
    · exact roundTies_main16 neg s hi lo hh hl hs w
    · exact roundTies_main32 neg s hi lo hh hl hs w
end Go.Proofs.Ytajlgpamcpgalab
