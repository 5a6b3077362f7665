import Derived.Test.YthbhcdokjlpjbaaCkG
import Derived.Test.YthbhcdokjlpjbaaShapeC
namespace Go.Proofs.Ythbhcdokjlpjbaa
open Go.ChangeShapes Go.WideShapes Go.ChangeAt Go.RowKit
set_option linter.unusedVariables false
set_option linter.unusedSimpArgs false
set_option maxRecDepth 100000

/-! ### Join -/
theorem cjoin_no (n : Int) (neg ones : Bool) (run reg eb ex fb : Int) (fr : Nat) (hn : isW n = false) (w : World) :
    Calls Try.prog 13 #[.int .i64 n, fdI neg ones run reg eb ex fb fr] w fun e w' => e = .returned (.tuple #[.int .u64 0, codeV 2]) ∧ Below w.heap.size w w' := by
  have k1 := of_no n hn
  unfold fdI
  unfold shp0 at k1
  clear hn
  refine cps fun Q hQ => ?_
  go_enter Try.func13, Try.ntmps13
  go_wp2_with (go_at_call 33; refine (k1 _).mono ?_; rintro e w1 ⟨rfl, hb1⟩)
  exact hQ.out _ _ ⟨rfl, cmore (cthen (cmore (Below.refl _ _) _) hb1) _⟩
theorem cjoin_out (n : Nat) (neg ones : Bool) (run reg eb ex fb : Int) (fr : Nat) (hn : Wd n) (hr : run < 1 ∨ (n : Int) - 1 < run) (w : World) :
    Calls Try.prog 13 #[.int .i64 n, fdI neg ones run reg eb ex fb fr] w fun e w' => e = .returned (.tuple #[.int .u64 0, codeV 23]) ∧ Below w.heap.size w w' := by
  have k1 := of_ok n hn
  have hw := wd_le hn
  unfold fdI
  unfold shp at k1
  generalize ((2 ^ (n - 1) : Nat) : Int) = nv at *
  generalize ((2 ^ (n - 1) - 1 : Nat) : Int) = mv at *
  generalize ((4 * n - 8 : Nat) : Int) = tv at *
  clear hn
  rcases Int.lt_or_le run 1 with h1 | h1
  · have hd : decide (run < 1) = true := decide_eq_true h1
    clear hr
    refine cps fun Q hQ => ?_
    go_enter Try.func13, Try.ntmps13
    go_wp2_with (first
      | (go_at_call 33; go_must (refine (k1 _).mono ?_); rintro e w1 ⟨rfl, hb1⟩; have R1 := (hb1.block w.heap.size (by simp)).trans (rownew w _ _); have z1 : w.heap.size < w1.heap.size := (by have := hb1.size; simp at this; omega); have hne1 : ¬ w.heap.size = w1.heap.size := (by omega); have hne2 : ¬ w1.heap.size = w.heap.size := (by omega); have b0 := rowcell R1 0; have b1 := rowcell R1 1; have b2 := rowcell R1 2; have b3 := rowcell R1 3; have b4 := rowcell R1 4; have b5 := rowcell R1 5; have b6 := rowcell R1 6; have b7 := rowcell R1 7; have bf := rowfree R1; simp only [List.getElem?_toArray, List.getElem?_cons_zero, List.getElem?_cons_succ] at b0 b1 b2 b3 b4 b5 b6 b7; have HR1 : Hid _ := R1; have HB1 : Hid (Below _ _ _) := hb1; clear hb1 R1))
    all_goals exact hQ.out _ _ ⟨rfl, cmore (cthen (cmore (Below.refl _ _) _) HB1.out) _⟩
  · have hd : decide (run < 1) = false := decide_eq_false (by omega)
    have hd2 : decide ((n : Int) - 1 < run) = true := decide_eq_true (by omega)
    clear hr
    refine cps fun Q hQ => ?_
    go_enter Try.func13, Try.ntmps13
    go_wp2_with (first
      | (go_at_call 33; go_must (refine (k1 _).mono ?_); rintro e w1 ⟨rfl, hb1⟩; have R1 := (hb1.block w.heap.size (by simp)).trans (rownew w _ _); have z1 : w.heap.size < w1.heap.size := (by have := hb1.size; simp at this; omega); have hne1 : ¬ w.heap.size = w1.heap.size := (by omega); have hne2 : ¬ w1.heap.size = w.heap.size := (by omega); have b0 := rowcell R1 0; have b1 := rowcell R1 1; have b2 := rowcell R1 2; have b3 := rowcell R1 3; have b4 := rowcell R1 4; have b5 := rowcell R1 5; have b6 := rowcell R1 6; have b7 := rowcell R1 7; have bf := rowfree R1; simp only [List.getElem?_toArray, List.getElem?_cons_zero, List.getElem?_cons_succ] at b0 b1 b2 b3 b4 b5 b6 b7; have HR1 : Hid _ := R1; have HB1 : Hid (Below _ _ _) := hb1; clear hb1 R1))
    all_goals exact hQ.out _ _ ⟨rfl, cmore (cthen (cmore (Below.refl _ _) _) HB1.out) _⟩
theorem cjoin_yes (n : Nat) (neg : Bool) (t : List Bool) (hn : Wd n) (hl : t.length = n - 1) (ht : true ∈ t) (w : World) :
    Calls Try.prog 13 #[.int .i64 n, fdV neg t] w fun e w' => e = .returned (.tuple #[.int .u64 (patOf n neg t : Nat), .nilIface]) ∧ Below w.heap.size w w' := by
  have k1 := of_ok n hn
  have hw := wd_le hn
  have hne : t ≠ [] := by rintro rfl; cases ht
  have hrl := runL_le t
  rw [hl] at hrl
  have hr1 : 1 ≤ runL t := by
    cases t with
    | nil => exact absurd rfl hne
    | cons b t => rw [runL]; omega
  have hfl : fracL t < 2 ^ 64 := Nat.lt_of_lt_of_le (numOf_lt _) (Nat.pow_le_pow_right (by decide) (by rw [List.length_drop, restL_length, hl]; omega))
  have k2 := assemble_any n hn neg (onesL t) (runL t) hr1 hrl (regL t) (min (restL t).length 2 : Nat) (expL t) ((restL t).length - 2 : Nat) (fracL t) hfl
  rw [asmP_parts n hn neg t hl ht] at k2
  obtain ⟨p1, p2, p3, p4⟩ := patOf_facts n hn neg t hl ht
  have p1' : patOf n neg t < 2 ^ 64 := Nat.lt_of_lt_of_le p1 (Nat.pow_le_pow_right (by decide) hw.2)
  have k3 := csplit_real n _ hn p1' p2
  rw [p3, p4] at k3
  unfold fdV at *
  unfold fdI at k2
  unfold shp at k1
  have hd : decide (((runL t : Nat) : Int) < 1) = false := decide_eq_false (by omega)
  have hd2 : decide ((n : Int) - 1 < ((runL t : Nat) : Int)) = false := decide_eq_false (by omega)
  have hrb : 1 ≤ ((runL t : Nat) : Int) ∧ ((runL t : Nat) : Int) ≤ 64 := by omega
  clear hn p1 p2 p3 p4 p1' ht hne hl hrl hr1
  generalize patOf n neg t = pp at *
  generalize onesL t = o at *
  generalize ((runL t : Nat) : Int) = r at *
  generalize regL t = reg at *
  generalize ((min (restL t).length 2 : Nat) : Int) = eb at *
  generalize ((expL t : Nat) : Int) = ex at *
  generalize (((restL t).length - 2 : Nat) : Int) = fb at *
  generalize fracL t = fr at *
  generalize ((2 ^ (n - 1) : Nat) : Int) = nv at *
  generalize ((2 ^ (n - 1) - 1 : Nat) : Int) = mv at *
  generalize ((4 * n - 8 : Nat) : Int) = tv at *
  refine cps fun Q hQ => ?_
  go_enter Try.func13, Try.ntmps13
  go_wp2_with (first
    | (go_at_call 33; go_must (refine (k1 _).mono ?_); rintro e w1 ⟨rfl, hb1⟩; have R1 := (hb1.block w.heap.size (by simp)).trans (rownew w _ _); have z1 : w.heap.size < w1.heap.size := (by have := hb1.size; simp at this; omega); have hne1 : ¬ w.heap.size = w1.heap.size := (by omega); have hne2 : ¬ w1.heap.size = w.heap.size := (by omega); have b0 := rowcell R1 0; have b1 := rowcell R1 1; have b2 := rowcell R1 2; have b3 := rowcell R1 3; have b4 := rowcell R1 4; have b5 := rowcell R1 5; have b6 := rowcell R1 6; have b7 := rowcell R1 7; have bf := rowfree R1; simp only [List.getElem?_toArray, List.getElem?_cons_zero, List.getElem?_cons_succ] at b0 b1 b2 b3 b4 b5 b6 b7; have HR1 : Hid _ := R1; have HB1 : Hid (Below _ _ _) := hb1; clear hb1 R1)
    | (go_at_call 34; go_must (refine (k2 _).mono ?_); rintro e w2 ⟨rfl, hb2⟩; have R2 := (hb2.block w.heap.size (by simp; omega)).trans ((Below.heap_alloc w1 _ _ z1).trans HR1.out); have z2 : w.heap.size < w2.heap.size := (by have := hb2.size; simp at this; omega); have HR2 : Hid _ := R2; have HB2 : Hid (Below _ _ _) := hb2; clear hb2 R2)
    | (go_at_call 10; go_must (refine (k3 _).mono ?_); rintro e w3 ⟨rfl, hb3⟩; have R3 := (hb3.block _ z2).trans HR2.out; have z3 : w.heap.size < w3.heap.size := (Nat.lt_of_lt_of_le z2 hb3.size); have hne3 : ¬ w.heap.size = w3.heap.size := (by omega); have hne4 : ¬ w3.heap.size = w.heap.size := (by omega); have c0 := rowcell R3 0; have c1 := rowcell R3 1; have c2 := rowcell R3 2; have c3 := rowcell R3 3; have c4 := rowcell R3 4; have c5 := rowcell R3 5; have c6 := rowcell R3 6; have c7 := rowcell R3 7; have cf := rowfree R3; simp only [List.getElem?_toArray, List.getElem?_cons_zero, List.getElem?_cons_succ] at c0 c1 c2 c3 c4 c5 c6 c7; have HB3 : Hid (Below _ _ _) := hb3; clear hb3 R3))
  all_goals exact hQ.out _ _ ⟨rfl, cmore (cthen (cthen (cmore (cthen (cmore (Below.refl _ _) _) HB1.out) _) HB2.out) HB3.out) _⟩
theorem cjoin_bad (n : Nat) (neg ones : Bool) (run reg eb ex fb : Int) (fr : Nat) (hn : Wd n) (hfr : fr < 2 ^ 64) (hbad : ∀ t, t.length = n - 1 → true ∈ t → ¬ isParts t ones run reg eb ex fb fr) (w : World) :
    Calls Try.prog 13 #[.int .i64 n, fdI neg ones run reg eb ex fb fr] w fun e w' => e = .returned (.tuple #[.int .u64 0, codeV 23]) ∧ Below w.heap.size w w' := by
  by_cases hr : run < 1 ∨ (n : Int) - 1 < run
  · exact cjoin_out n neg ones run reg eb ex fb fr hn hr w
  have hw := wd_le hn
  obtain ⟨r, rfl⟩ : ∃ r : Nat, run = r := ⟨run.toNat, by omega⟩
  have k1 := of_ok n hn
  have k2 := assemble_any n hn neg ones r (by omega) (by omega) reg eb ex fb fr hfr
  have hlt := asmP_lt n hn neg ones r (by omega) ex fr
  have hd : decide ((r : Int) < 1) = false := decide_eq_false (by omega)
  have hd2 : decide ((n : Int) - 1 < (r : Int)) = false := decide_eq_false (by omega)
  have hrb : 1 ≤ (r : Int) ∧ (r : Int) ≤ 64 := by omega
  generalize asmP n neg ones r ex fr = pp at *
  unfold shp at k1
  unfold fdI at *
  by_cases hk : kindOf n (pp % 2 ^ n) = 1
  · have k3 := csplit_real n pp hn hlt hk
    obtain ⟨ht, _⟩ := patOf_str n pp hn hlt hk
    have hb := hbad (strS n pp) (strS_length n pp) ht
    unfold isParts at hb
    unfold fdV at k3
    have HNE : Hid _ := hb
    clear hb hbad hn hr hk ht hlt
    generalize pp.testBit (n - 1) = bb at *
    generalize onesL (strS n pp) = o' at *
    generalize ((runL (strS n pp) : Nat) : Int) = r' at *
    generalize regL (strS n pp) = reg' at *
    generalize ((min (restL (strS n pp)).length 2 : Nat) : Int) = eb' at *
    generalize ((expL (strS n pp) : Nat) : Int) = ex' at *
    generalize (((restL (strS n pp)).length - 2 : Nat) : Int) = fb' at *
    generalize fracL (strS n pp) = fr' at *
    generalize ((2 ^ (n - 1) : Nat) : Int) = nv at *
    generalize ((2 ^ (n - 1) - 1 : Nat) : Int) = mv at *
    generalize ((4 * n - 8 : Nat) : Int) = tv at *
    refine cps fun Q hQ => ?_
    go_enter Try.func13, Try.ntmps13
    go_wp2_with (first
      | (go_at_call 33; go_must (refine (k1 _).mono ?_); rintro e w1 ⟨rfl, hb1⟩; have R1 := (hb1.block w.heap.size (by simp)).trans (rownew w _ _); have z1 : w.heap.size < w1.heap.size := (by have := hb1.size; simp at this; omega); have hne1 : ¬ w.heap.size = w1.heap.size := (by omega); have hne2 : ¬ w1.heap.size = w.heap.size := (by omega); have b0 := rowcell R1 0; have b1 := rowcell R1 1; have b2 := rowcell R1 2; have b3 := rowcell R1 3; have b4 := rowcell R1 4; have b5 := rowcell R1 5; have b6 := rowcell R1 6; have b7 := rowcell R1 7; have bf := rowfree R1; simp only [List.getElem?_toArray, List.getElem?_cons_zero, List.getElem?_cons_succ] at b0 b1 b2 b3 b4 b5 b6 b7; have HR1 : Hid _ := R1; have HB1 : Hid (Below _ _ _) := hb1; clear hb1 R1)
      | (go_at_call 34; go_must (refine (k2 _).mono ?_); rintro e w2 ⟨rfl, hb2⟩; have R2 := (hb2.block w.heap.size (by simp; omega)).trans ((Below.heap_alloc w1 _ _ z1).trans HR1.out); have z2 : w.heap.size < w2.heap.size := (by have := hb2.size; simp at this; omega); have HR2 : Hid _ := R2; have HB2 : Hid (Below _ _ _) := hb2; clear hb2 R2)
      | (go_at_call 10; go_must (refine (k3 _).mono ?_); rintro e w3 ⟨rfl, hb3⟩; have R3 := (hb3.block _ z2).trans HR2.out; have z3 : w.heap.size < w3.heap.size := (Nat.lt_of_lt_of_le z2 hb3.size); have hne3 : ¬ w.heap.size = w3.heap.size := (by omega); have hne4 : ¬ w3.heap.size = w.heap.size := (by omega); have c0 := rowcell R3 0; have c1 := rowcell R3 1; have c2 := rowcell R3 2; have c3 := rowcell R3 3; have c4 := rowcell R3 4; have c5 := rowcell R3 5; have c6 := rowcell R3 6; have c7 := rowcell R3 7; have cf := rowfree R3; simp only [List.getElem?_toArray, List.getElem?_cons_zero, List.getElem?_cons_succ] at c0 c1 c2 c3 c4 c5 c6 c7; have HB3 : Hid (Below _ _ _) := hb3; clear hb3 R3))
    all_goals first
      | exact hQ.out _ _ ⟨rfl, cmore (cthen (cthen (cmore (cthen (cmore (Below.refl _ _) _) HB1.out) _) HB2.out) HB3.out) _⟩
      | exact (HNE.out ⟨by first | rfl | assumption | (symm; assumption) | omega, by first | rfl | assumption | (symm; assumption) | omega, by first | rfl | assumption | (symm; assumption) | omega, by first | rfl | assumption | (symm; assumption) | omega, by first | rfl | assumption | (symm; assumption) | omega, by first | rfl | assumption | (symm; assumption) | omega, by first | rfl | assumption | (symm; assumption) | omega⟩).elim
  · have k3 := csplit_other n pp hn hlt hk
    unfold fd0 at k3
    have hz : ((0 : Int) == (r : Int)) = false := beq_eq_false_iff_ne.2 (by omega)
    clear hbad hn hr hk hlt
    generalize ((2 ^ (n - 1) : Nat) : Int) = nv at *
    generalize ((2 ^ (n - 1) - 1 : Nat) : Int) = mv at *
    generalize ((4 * n - 8 : Nat) : Int) = tv at *
    refine cps fun Q hQ => ?_
    go_enter Try.func13, Try.ntmps13
    go_wp2_with (first
      | (go_at_call 33; go_must (refine (k1 _).mono ?_); rintro e w1 ⟨rfl, hb1⟩; have R1 := (hb1.block w.heap.size (by simp)).trans (rownew w _ _); have z1 : w.heap.size < w1.heap.size := (by have := hb1.size; simp at this; omega); have hne1 : ¬ w.heap.size = w1.heap.size := (by omega); have hne2 : ¬ w1.heap.size = w.heap.size := (by omega); have b0 := rowcell R1 0; have b1 := rowcell R1 1; have b2 := rowcell R1 2; have b3 := rowcell R1 3; have b4 := rowcell R1 4; have b5 := rowcell R1 5; have b6 := rowcell R1 6; have b7 := rowcell R1 7; have bf := rowfree R1; simp only [List.getElem?_toArray, List.getElem?_cons_zero, List.getElem?_cons_succ] at b0 b1 b2 b3 b4 b5 b6 b7; have HR1 : Hid _ := R1; have HB1 : Hid (Below _ _ _) := hb1; clear hb1 R1)
      | (go_at_call 34; go_must (refine (k2 _).mono ?_); rintro e w2 ⟨rfl, hb2⟩; have R2 := (hb2.block w.heap.size (by simp; omega)).trans ((Below.heap_alloc w1 _ _ z1).trans HR1.out); have z2 : w.heap.size < w2.heap.size := (by have := hb2.size; simp at this; omega); have HR2 : Hid _ := R2; have HB2 : Hid (Below _ _ _) := hb2; clear hb2 R2)
      | (go_at_call 10; go_must (refine (k3 _).mono ?_); rintro e w3 ⟨rfl, hb3⟩; have R3 := (hb3.block _ z2).trans HR2.out; have z3 : w.heap.size < w3.heap.size := (Nat.lt_of_lt_of_le z2 hb3.size); have hne3 : ¬ w.heap.size = w3.heap.size := (by omega); have hne4 : ¬ w3.heap.size = w.heap.size := (by omega); have c0 := rowcell R3 0; have c1 := rowcell R3 1; have c2 := rowcell R3 2; have c3 := rowcell R3 3; have c4 := rowcell R3 4; have c5 := rowcell R3 5; have c6 := rowcell R3 6; have c7 := rowcell R3 7; have cf := rowfree R3; simp only [List.getElem?_toArray, List.getElem?_cons_zero, List.getElem?_cons_succ] at c0 c1 c2 c3 c4 c5 c6 c7; have HB3 : Hid (Below _ _ _) := hb3; clear hb3 R3))
    all_goals exact hQ.out _ _ ⟨rfl, cmore (cthen (cthen (cmore (cthen (cmore (Below.refl _ _) _) HB1.out) _) HB2.out) HB3.out) _⟩
end Go.Proofs.Ythbhcdokjlpjbaa
