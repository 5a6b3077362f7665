import Derived.Test.YthbhcdokjlpjbaaCodL
import Derived.Test.YthbhcdokjlpjbaaCode
namespace Go.Proofs.Ythbhcdokjlpjbaa
open Go.ChangeShapes Go.WideShapes Go.ChangeAt Go.RowKit
set_option linter.unusedVariables false
set_option linter.unusedSimpArgs false
set_option maxRecDepth 100000

set_option maxHeartbeats 1000000 in
theorem codecJoins_walk (n : Int) (neg ones : Bool) (run reg eb ex fb p : Int) (wn : (Lit.int .i64 n).wf = true) (w1 : (Lit.int .i64 run).wf = true) (w2 : (Lit.int .i64 reg).wf = true) (w3 : (Lit.int .i64 eb).wf = true) (w4 : (Lit.int .i64 ex).wf = true) (w5 : (Lit.int .i64 fb).wf = true) (wp : (Lit.int .u64 p).wf = true) (w : World) :
    Calls Try.prog 4 #[.int .i64 n, .agg #[.bool neg, .bool ones, .int .i64 run, .int .i64 reg, .int .i64 eb, .int .i64 ex, .int .i64 fb, .int .u64 p]] w fun e w' => e = .returned (.bool true) ∧ Below w.heap.size w w' := by
  obtain ⟨fr, rfl, hx⟩ := nat_of_u64 wp
  clear w1 w2 w3 w4 w5
  refine cps fun Q hQ => ?_
  cases hb : isW n
  · have k1 := fun w => cjoin_no n neg ones run reg eb ex fb fr hb w
    have k3 := fun w => join6_no n neg ones run reg eb ex fb fr hb w
    have k5 := fun w => code_any 2 w
    rw [show codeOf 2 = 2 from rfl] at k5
    simp only [fdI, codeV] at k1 k3
    clear hb wn wp hx
    go_enter Try.func4, Try.ntmps4
    go_wp2_with (first
      | (go_at_call 9; refine (cup_any _).mono ?_; rintro e w1 ⟨rfl, hb1⟩; have HB1 : Hid (Below _ _ _) := cthen (cmore (Below.refl _ _) _) hb1; have R1 := (hb1.block w.heap.size (by simp)).trans (rownew w _ _); have z1 : w.heap.size < w1.heap.size := (by have := hb1.size; simp at this; omega); have b10 := rowcell R1 0; have b11 := rowcell R1 1; have b12 := rowcell R1 2; have b13 := rowcell R1 3; have b14 := rowcell R1 4; have b15 := rowcell R1 5; have b16 := rowcell R1 6; have b17 := rowcell R1 7; have bf1 := rowfree R1; simp only [List.getElem?_toArray, List.getElem?_cons_zero, List.getElem?_cons_succ] at b10 b11 b12 b13 b14 b15 b16 b17; have HR1 : Hid _ := R1; clear R1; clear hb1)
      | (go_at_call 13; refine (k1 _).mono ?_; rintro e w2 ⟨rfl, hb2⟩; have HB2 : Hid (Below _ _ _) := hb2; have R2 := (hb2.block w.heap.size z1).trans HR1.out; have z2 : w.heap.size < w2.heap.size := (Nat.lt_of_lt_of_le z1 hb2.size); have b20 := rowcell R2 0; have b21 := rowcell R2 1; have b22 := rowcell R2 2; have b23 := rowcell R2 3; have b24 := rowcell R2 4; have b25 := rowcell R2 5; have b26 := rowcell R2 6; have b27 := rowcell R2 7; have bf2 := rowfree R2; simp only [List.getElem?_toArray, List.getElem?_cons_zero, List.getElem?_cons_succ] at b20 b21 b22 b23 b24 b25 b26 b27; have HR2 : Hid _ := R2; clear R2; clear hb2)
      | (go_at_call 14; refine (k3 _).mono ?_; rintro e w3 ⟨rfl, hb3⟩)
      | (go_at_call 12; refine (k5 _).mono ?_; rintro e w' ⟨rfl, hw⟩; rw [hw]; clear hw w'))
    all_goals exact hQ.out _ _ ⟨by simp, cthen (cthen HB1.out HB2.out) hb3⟩
  · obtain ⟨m, rfl, hm⟩ := isW_yes hb
    by_cases h : ∃ t, t.length = m - 1 ∧ true ∈ t ∧ isParts t ones run reg eb ex fb fr
    · obtain ⟨t, h1, h2, e1, e2, e3, e4, e5, e6, e7⟩ := h
      have k1 := fun w => cjoin_yes m neg t hm h1 h2 w
      have k3 := fun w => join6_yes m neg t hm h1 h2 w
      have k5 := fun w => code_nil w
      simp only [fdV] at k1 k3
      rw [← e1, ← e2, ← e3, ← e4, ← e5, ← e6, ← e7] at k1 k3
      clear hb wn wp hx e1 e2 e3 e4 e5 e6 e7 h1 h2 hm
      generalize patOf m neg t = pp at *
      go_enter Try.func4, Try.ntmps4
      go_wp2_with (first
        | (go_at_call 9; refine (cup_any _).mono ?_; rintro e w1 ⟨rfl, hb1⟩; have HB1 : Hid (Below _ _ _) := cthen (cmore (Below.refl _ _) _) hb1; have R1 := (hb1.block w.heap.size (by simp)).trans (rownew w _ _); have z1 : w.heap.size < w1.heap.size := (by have := hb1.size; simp at this; omega); have b10 := rowcell R1 0; have b11 := rowcell R1 1; have b12 := rowcell R1 2; have b13 := rowcell R1 3; have b14 := rowcell R1 4; have b15 := rowcell R1 5; have b16 := rowcell R1 6; have b17 := rowcell R1 7; have bf1 := rowfree R1; simp only [List.getElem?_toArray, List.getElem?_cons_zero, List.getElem?_cons_succ] at b10 b11 b12 b13 b14 b15 b16 b17; have HR1 : Hid _ := R1; clear R1; clear hb1)
        | (go_at_call 13; refine (k1 _).mono ?_; rintro e w2 ⟨rfl, hb2⟩; have HB2 : Hid (Below _ _ _) := hb2; have R2 := (hb2.block w.heap.size z1).trans HR1.out; have z2 : w.heap.size < w2.heap.size := (Nat.lt_of_lt_of_le z1 hb2.size); have b20 := rowcell R2 0; have b21 := rowcell R2 1; have b22 := rowcell R2 2; have b23 := rowcell R2 3; have b24 := rowcell R2 4; have b25 := rowcell R2 5; have b26 := rowcell R2 6; have b27 := rowcell R2 7; have bf2 := rowfree R2; simp only [List.getElem?_toArray, List.getElem?_cons_zero, List.getElem?_cons_succ] at b20 b21 b22 b23 b24 b25 b26 b27; have HR2 : Hid _ := R2; clear R2; clear hb2)
        | (go_at_call 14; refine (k3 _).mono ?_; rintro e w3 ⟨rfl, hb3⟩)
        | (go_at_call 12; refine (k5 _).mono ?_; rintro e w' ⟨rfl, hw⟩; rw [hw]; clear hw w'))
      all_goals exact hQ.out _ _ ⟨by simp, cthen (cthen HB1.out HB2.out) hb3⟩
    · have hbad : ∀ t, t.length = m - 1 → true ∈ t → ¬ isParts t ones run reg eb ex fb fr := fun t h1 h2 h3 => h ⟨t, h1, h2, h3⟩
      have k1 := fun w => cjoin_bad m neg ones run reg eb ex fb fr hm hx hbad w
      have k3 := fun w => join6_bad m neg ones run reg eb ex fb fr hm hbad w
      have k5 := fun w => code_any 23 w
      rw [show codeOf 23 = 23 from rfl] at k5
      simp only [fdI, codeV] at k1 k3
      clear hb wn wp hx h hbad hm
      go_enter Try.func4, Try.ntmps4
      go_wp2_with (first
        | (go_at_call 9; refine (cup_any _).mono ?_; rintro e w1 ⟨rfl, hb1⟩; have HB1 : Hid (Below _ _ _) := cthen (cmore (Below.refl _ _) _) hb1; have R1 := (hb1.block w.heap.size (by simp)).trans (rownew w _ _); have z1 : w.heap.size < w1.heap.size := (by have := hb1.size; simp at this; omega); have b10 := rowcell R1 0; have b11 := rowcell R1 1; have b12 := rowcell R1 2; have b13 := rowcell R1 3; have b14 := rowcell R1 4; have b15 := rowcell R1 5; have b16 := rowcell R1 6; have b17 := rowcell R1 7; have bf1 := rowfree R1; simp only [List.getElem?_toArray, List.getElem?_cons_zero, List.getElem?_cons_succ] at b10 b11 b12 b13 b14 b15 b16 b17; have HR1 : Hid _ := R1; clear R1; clear hb1)
        | (go_at_call 13; refine (k1 _).mono ?_; rintro e w2 ⟨rfl, hb2⟩; have HB2 : Hid (Below _ _ _) := hb2; have R2 := (hb2.block w.heap.size z1).trans HR1.out; have z2 : w.heap.size < w2.heap.size := (Nat.lt_of_lt_of_le z1 hb2.size); have b20 := rowcell R2 0; have b21 := rowcell R2 1; have b22 := rowcell R2 2; have b23 := rowcell R2 3; have b24 := rowcell R2 4; have b25 := rowcell R2 5; have b26 := rowcell R2 6; have b27 := rowcell R2 7; have bf2 := rowfree R2; simp only [List.getElem?_toArray, List.getElem?_cons_zero, List.getElem?_cons_succ] at b20 b21 b22 b23 b24 b25 b26 b27; have HR2 : Hid _ := R2; clear R2; clear hb2)
        | (go_at_call 14; refine (k3 _).mono ?_; rintro e w3 ⟨rfl, hb3⟩)
        | (go_at_call 12; refine (k5 _).mono ?_; rintro e w' ⟨rfl, hw⟩; rw [hw]; clear hw w'))
      all_goals exact hQ.out _ _ ⟨by simp, cthen (cthen HB1.out HB2.out) hb3⟩
end Go.Proofs.Ythbhcdokjlpjbaa
