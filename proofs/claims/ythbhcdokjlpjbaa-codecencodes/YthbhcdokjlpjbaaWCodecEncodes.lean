import Derived.Test.YthbhcdokjlpjbaaCodL
import Derived.Test.YthbhcdokjlpjbaaCode
namespace Go.Proofs.Ythbhcdokjlpjbaa
open Go.ChangeShapes Go.WideShapes Go.ChangeAt Go.RowKit
set_option linter.unusedVariables false
set_option linter.unusedSimpArgs false
set_option maxRecDepth 100000

set_option maxHeartbeats 1000000 in
theorem codecEncodes_walk (n k : Int) (neg : Bool) (s p : Int) (wn : (Lit.int .i64 n).wf = true) (w1 : (Lit.int .i64 k).wf = true) (w2 : (Lit.int .i64 s).wf = true) (wp : (Lit.int .u64 p).wf = true) (w : World) :
    Calls Try.prog 6 #[.int .i64 n, .agg #[.int .i64 k, .bool neg, .int .i64 s, .int .u64 p]] w fun e w' => e = .returned (.bool true) ∧ Below w.heap.size w w' := by
  obtain ⟨f, rfl, hx⟩ := nat_of_u64 wp
  clear w1 w2
  refine cps fun Q hQ => ?_
  cases hb : isW n
  · have k1 := fun w => cencode_no n k neg s f hb w
    have k3 := fun w => encode6_no n k neg s f hb w
    have k5 := fun w => code_any 2 w
    rw [show codeOf 2 = 2 from rfl] at k5
    simp only [numV, codeV] at k1 k3
    clear hb wn wp hx
    go_enter Try.func6, Try.ntmps6
    go_wp2_with (first
      | (go_at_call 9; refine (cup_any _).mono ?_; rintro e w1 ⟨rfl, hb1⟩; have HB1 : Hid (Below _ _ _) := cthen (cmore (Below.refl _ _) _) hb1; have R1 := (hb1.block w.heap.size (by simp)).trans (rownew w _ _); have z1 : w.heap.size < w1.heap.size := (by have := hb1.size; simp at this; omega); have b10 := rowcell R1 0; have b11 := rowcell R1 1; have b12 := rowcell R1 2; have b13 := rowcell R1 3; have bf1 := rowfree R1; simp only [List.getElem?_toArray, List.getElem?_cons_zero, List.getElem?_cons_succ] at b10 b11 b12 b13; have HR1 : Hid _ := R1; clear R1; clear hb1)
      | (go_at_call 17; refine (k1 _).mono ?_; rintro e w2 ⟨rfl, hb2⟩; have HB2 : Hid (Below _ _ _) := hb2; have R2 := (hb2.block w.heap.size z1).trans HR1.out; have z2 : w.heap.size < w2.heap.size := (Nat.lt_of_lt_of_le z1 hb2.size); have b20 := rowcell R2 0; have b21 := rowcell R2 1; have b22 := rowcell R2 2; have b23 := rowcell R2 3; have bf2 := rowfree R2; simp only [List.getElem?_toArray, List.getElem?_cons_zero, List.getElem?_cons_succ] at b20 b21 b22 b23; have HR2 : Hid _ := R2; clear R2; clear hb2)
      | (go_at_call 18; refine (k3 _).mono ?_; rintro e w3 ⟨rfl, hb3⟩)
      | (go_at_call 12; refine (k5 _).mono ?_; rintro e w' ⟨rfl, hw⟩; rw [hw]; clear hw w'))
    all_goals exact hQ.out _ _ ⟨by simp, cthen (cthen HB1.out HB2.out) hb3⟩
  · obtain ⟨m, rfl, hm⟩ := isW_yes hb
    cases hs : soundN k neg s f
    · have k1 := fun w => cencode_bad m k neg s f hm hx hs w
      have k3 := fun w => encode6_bad m k neg s f hm hs w
      have k5 := fun w => code_any 1 w
      rw [show codeOf 1 = 1 from rfl] at k5
      simp only [numV, codeV] at k1 k3
      clear hb wn wp hx hm hs
      go_enter Try.func6, Try.ntmps6
      go_wp2_with (first
        | (go_at_call 9; refine (cup_any _).mono ?_; rintro e w1 ⟨rfl, hb1⟩; have HB1 : Hid (Below _ _ _) := cthen (cmore (Below.refl _ _) _) hb1; have R1 := (hb1.block w.heap.size (by simp)).trans (rownew w _ _); have z1 : w.heap.size < w1.heap.size := (by have := hb1.size; simp at this; omega); have b10 := rowcell R1 0; have b11 := rowcell R1 1; have b12 := rowcell R1 2; have b13 := rowcell R1 3; have bf1 := rowfree R1; simp only [List.getElem?_toArray, List.getElem?_cons_zero, List.getElem?_cons_succ] at b10 b11 b12 b13; have HR1 : Hid _ := R1; clear R1; clear hb1)
        | (go_at_call 17; refine (k1 _).mono ?_; rintro e w2 ⟨rfl, hb2⟩; have HB2 : Hid (Below _ _ _) := hb2; have R2 := (hb2.block w.heap.size z1).trans HR1.out; have z2 : w.heap.size < w2.heap.size := (Nat.lt_of_lt_of_le z1 hb2.size); have b20 := rowcell R2 0; have b21 := rowcell R2 1; have b22 := rowcell R2 2; have b23 := rowcell R2 3; have bf2 := rowfree R2; simp only [List.getElem?_toArray, List.getElem?_cons_zero, List.getElem?_cons_succ] at b20 b21 b22 b23; have HR2 : Hid _ := R2; clear R2; clear hb2)
        | (go_at_call 18; refine (k3 _).mono ?_; rintro e w3 ⟨rfl, hb3⟩)
        | (go_at_call 12; refine (k5 _).mono ?_; rintro e w' ⟨rfl, hw⟩; rw [hw]; clear hw w'))
      all_goals exact hQ.out _ _ ⟨by simp, cthen (cthen HB1.out HB2.out) hb3⟩
    · rcases sound_cases hs with ⟨rfl, rfl, rfl, rfl⟩ | ⟨rfl, rfl, rfl, rfl⟩ | rfl
      · have k1 := fun w => cencode_zero m hm w
        have k3 := fun w => encode6_zero m hm w
        have k5 := fun w => code_nil w
        simp only [numV] at k1 k3
        clear hb wn wp hx hm hs
        go_enter Try.func6, Try.ntmps6
        go_wp2_with (first
          | (go_at_call 9; refine (cup_any _).mono ?_; rintro e w1 ⟨rfl, hb1⟩; have HB1 : Hid (Below _ _ _) := cthen (cmore (Below.refl _ _) _) hb1; have R1 := (hb1.block w.heap.size (by simp)).trans (rownew w _ _); have z1 : w.heap.size < w1.heap.size := (by have := hb1.size; simp at this; omega); have b10 := rowcell R1 0; have b11 := rowcell R1 1; have b12 := rowcell R1 2; have b13 := rowcell R1 3; have bf1 := rowfree R1; simp only [List.getElem?_toArray, List.getElem?_cons_zero, List.getElem?_cons_succ] at b10 b11 b12 b13; have HR1 : Hid _ := R1; clear R1; clear hb1)
          | (go_at_call 17; refine (k1 _).mono ?_; rintro e w2 ⟨rfl, hb2⟩; have HB2 : Hid (Below _ _ _) := hb2; have R2 := (hb2.block w.heap.size z1).trans HR1.out; have z2 : w.heap.size < w2.heap.size := (Nat.lt_of_lt_of_le z1 hb2.size); have b20 := rowcell R2 0; have b21 := rowcell R2 1; have b22 := rowcell R2 2; have b23 := rowcell R2 3; have bf2 := rowfree R2; simp only [List.getElem?_toArray, List.getElem?_cons_zero, List.getElem?_cons_succ] at b20 b21 b22 b23; have HR2 : Hid _ := R2; clear R2; clear hb2)
          | (go_at_call 18; refine (k3 _).mono ?_; rintro e w3 ⟨rfl, hb3⟩)
          | (go_at_call 12; refine (k5 _).mono ?_; rintro e w' ⟨rfl, hw⟩; rw [hw]; clear hw w'))
        all_goals exact hQ.out _ _ ⟨by simp, cthen (cthen HB1.out HB2.out) hb3⟩
      · have k1 := fun w => cencode_nar m hm w
        have k3 := fun w => encode6_nar m hm w
        have k5 := fun w => code_nil w
        simp only [numV] at k1 k3
        clear hb wn wp hx hm hs
        generalize 2 ^ (m - 1) = pp at *
        go_enter Try.func6, Try.ntmps6
        go_wp2_with (first
          | (go_at_call 9; refine (cup_any _).mono ?_; rintro e w1 ⟨rfl, hb1⟩; have HB1 : Hid (Below _ _ _) := cthen (cmore (Below.refl _ _) _) hb1; have R1 := (hb1.block w.heap.size (by simp)).trans (rownew w _ _); have z1 : w.heap.size < w1.heap.size := (by have := hb1.size; simp at this; omega); have b10 := rowcell R1 0; have b11 := rowcell R1 1; have b12 := rowcell R1 2; have b13 := rowcell R1 3; have bf1 := rowfree R1; simp only [List.getElem?_toArray, List.getElem?_cons_zero, List.getElem?_cons_succ] at b10 b11 b12 b13; have HR1 : Hid _ := R1; clear R1; clear hb1)
          | (go_at_call 17; refine (k1 _).mono ?_; rintro e w2 ⟨rfl, hb2⟩; have HB2 : Hid (Below _ _ _) := hb2; have R2 := (hb2.block w.heap.size z1).trans HR1.out; have z2 : w.heap.size < w2.heap.size := (Nat.lt_of_lt_of_le z1 hb2.size); have b20 := rowcell R2 0; have b21 := rowcell R2 1; have b22 := rowcell R2 2; have b23 := rowcell R2 3; have bf2 := rowfree R2; simp only [List.getElem?_toArray, List.getElem?_cons_zero, List.getElem?_cons_succ] at b20 b21 b22 b23; have HR2 : Hid _ := R2; clear R2; clear hb2)
          | (go_at_call 18; refine (k3 _).mono ?_; rintro e w3 ⟨rfl, hb3⟩)
          | (go_at_call 12; refine (k5 _).mono ?_; rintro e w' ⟨rfl, hw⟩; rw [hw]; clear hw w'))
        all_goals exact hQ.out _ _ ⟨by simp, cthen (cthen HB1.out HB2.out) hb3⟩
      · by_cases hr : inR m s = true
        · by_cases hf : fitsN m s f = true
          · have k1 := fun w => cencode_fit m neg s f hm hs hx hr hf w
            have k3 := fun w => encode6_real m neg s f hm hs hx hr w
            rw [if_pos hf] at k3
            have k5 := fun w => code_nil w
            simp only [numV] at k1 k3
            clear hb wn wp hx hm hs hr hf
            generalize patOf m neg (cutL m s f) = pp at *
            go_enter Try.func6, Try.ntmps6
            go_wp2_with (first
              | (go_at_call 9; refine (cup_any _).mono ?_; rintro e w1 ⟨rfl, hb1⟩; have HB1 : Hid (Below _ _ _) := cthen (cmore (Below.refl _ _) _) hb1; have R1 := (hb1.block w.heap.size (by simp)).trans (rownew w _ _); have z1 : w.heap.size < w1.heap.size := (by have := hb1.size; simp at this; omega); have b10 := rowcell R1 0; have b11 := rowcell R1 1; have b12 := rowcell R1 2; have b13 := rowcell R1 3; have bf1 := rowfree R1; simp only [List.getElem?_toArray, List.getElem?_cons_zero, List.getElem?_cons_succ] at b10 b11 b12 b13; have HR1 : Hid _ := R1; clear R1; clear hb1)
              | (go_at_call 17; refine (k1 _).mono ?_; rintro e w2 ⟨rfl, hb2⟩; have HB2 : Hid (Below _ _ _) := hb2; have R2 := (hb2.block w.heap.size z1).trans HR1.out; have z2 : w.heap.size < w2.heap.size := (Nat.lt_of_lt_of_le z1 hb2.size); have b20 := rowcell R2 0; have b21 := rowcell R2 1; have b22 := rowcell R2 2; have b23 := rowcell R2 3; have bf2 := rowfree R2; simp only [List.getElem?_toArray, List.getElem?_cons_zero, List.getElem?_cons_succ] at b20 b21 b22 b23; have HR2 : Hid _ := R2; clear R2; clear hb2)
              | (go_at_call 18; refine (k3 _).mono ?_; rintro e w3 ⟨rfl, hb3⟩)
              | (go_at_call 12; refine (k5 _).mono ?_; rintro e w' ⟨rfl, hw⟩; rw [hw]; clear hw w'))
            all_goals exact hQ.out _ _ ⟨by simp, cthen (cthen HB1.out HB2.out) hb3⟩
          · have hf2 : fitsN m s f = false := by simpa using hf
            have k1 := fun w => cencode_not m neg s f hm hs hx (.inr hf2) w
            have k3 := fun w => encode6_real m neg s f hm hs hx hr w
            rw [if_neg hf] at k3
            have k5 := fun w => code_any 8 w
            rw [show codeOf 8 = 8 from rfl] at k5
            simp only [numV, codeV] at k1 k3
            clear hb wn wp hx hm hs hr hf hf2
            go_enter Try.func6, Try.ntmps6
            go_wp2_with (first
              | (go_at_call 9; refine (cup_any _).mono ?_; rintro e w1 ⟨rfl, hb1⟩; have HB1 : Hid (Below _ _ _) := cthen (cmore (Below.refl _ _) _) hb1; have R1 := (hb1.block w.heap.size (by simp)).trans (rownew w _ _); have z1 : w.heap.size < w1.heap.size := (by have := hb1.size; simp at this; omega); have b10 := rowcell R1 0; have b11 := rowcell R1 1; have b12 := rowcell R1 2; have b13 := rowcell R1 3; have bf1 := rowfree R1; simp only [List.getElem?_toArray, List.getElem?_cons_zero, List.getElem?_cons_succ] at b10 b11 b12 b13; have HR1 : Hid _ := R1; clear R1; clear hb1)
              | (go_at_call 17; refine (k1 _).mono ?_; rintro e w2 ⟨rfl, hb2⟩; have HB2 : Hid (Below _ _ _) := hb2; have R2 := (hb2.block w.heap.size z1).trans HR1.out; have z2 : w.heap.size < w2.heap.size := (Nat.lt_of_lt_of_le z1 hb2.size); have b20 := rowcell R2 0; have b21 := rowcell R2 1; have b22 := rowcell R2 2; have b23 := rowcell R2 3; have bf2 := rowfree R2; simp only [List.getElem?_toArray, List.getElem?_cons_zero, List.getElem?_cons_succ] at b20 b21 b22 b23; have HR2 : Hid _ := R2; clear R2; clear hb2)
              | (go_at_call 18; refine (k3 _).mono ?_; rintro e w3 ⟨rfl, hb3⟩)
              | (go_at_call 12; refine (k5 _).mono ?_; rintro e w' ⟨rfl, hw⟩; rw [hw]; clear hw w'))
            all_goals exact hQ.out _ _ ⟨by simp, cthen (cthen HB1.out HB2.out) hb3⟩
        · have hr2 : inR m s = false := by simpa using hr
          have k1 := fun w => cencode_not m neg s f hm hs hx (.inl hr2) w
          have k3 := fun w => encode6_out m neg s f hm hs hr2 w
          have k5 := fun w => code_any 8 w
          rw [show codeOf 8 = 8 from rfl] at k5
          simp only [numV, codeV] at k1 k3
          clear hb wn wp hx hm hs hr hr2
          go_enter Try.func6, Try.ntmps6
          go_wp2_with (first
            | (go_at_call 9; refine (cup_any _).mono ?_; rintro e w1 ⟨rfl, hb1⟩; have HB1 : Hid (Below _ _ _) := cthen (cmore (Below.refl _ _) _) hb1; have R1 := (hb1.block w.heap.size (by simp)).trans (rownew w _ _); have z1 : w.heap.size < w1.heap.size := (by have := hb1.size; simp at this; omega); have b10 := rowcell R1 0; have b11 := rowcell R1 1; have b12 := rowcell R1 2; have b13 := rowcell R1 3; have bf1 := rowfree R1; simp only [List.getElem?_toArray, List.getElem?_cons_zero, List.getElem?_cons_succ] at b10 b11 b12 b13; have HR1 : Hid _ := R1; clear R1; clear hb1)
            | (go_at_call 17; refine (k1 _).mono ?_; rintro e w2 ⟨rfl, hb2⟩; have HB2 : Hid (Below _ _ _) := hb2; have R2 := (hb2.block w.heap.size z1).trans HR1.out; have z2 : w.heap.size < w2.heap.size := (Nat.lt_of_lt_of_le z1 hb2.size); have b20 := rowcell R2 0; have b21 := rowcell R2 1; have b22 := rowcell R2 2; have b23 := rowcell R2 3; have bf2 := rowfree R2; simp only [List.getElem?_toArray, List.getElem?_cons_zero, List.getElem?_cons_succ] at b20 b21 b22 b23; have HR2 : Hid _ := R2; clear R2; clear hb2)
            | (go_at_call 18; refine (k3 _).mono ?_; rintro e w3 ⟨rfl, hb3⟩)
            | (go_at_call 12; refine (k5 _).mono ?_; rintro e w' ⟨rfl, hw⟩; rw [hw]; clear hw w'))
          all_goals exact hQ.out _ _ ⟨by simp, cthen (cthen HB1.out HB2.out) hb3⟩
end Go.Proofs.Ythbhcdokjlpjbaa
