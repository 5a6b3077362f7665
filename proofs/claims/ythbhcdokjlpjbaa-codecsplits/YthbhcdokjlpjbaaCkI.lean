import Derived.Test.YthbhcdokjlpjbaaCkH
import Derived.Test.YthbhcdokjlpjbaaCkD
namespace Go.Proofs.Ythbhcdokjlpjbaa
open Go.ChangeShapes Go.WideShapes Go.ChangeAt Go.RowKit
set_option linter.unusedVariables false
set_option linter.unusedSimpArgs false
set_option maxRecDepth 100000

/-! ### Encode -/
theorem cencode_no (n : Int) (k : Int) (neg : Bool) (s : Int) (f : Nat) (hn : isW n = false) (w : World) :
    Calls Try.prog 17 #[.int .i64 n, numV k neg s f] w fun e w' => e = .returned (.tuple #[.int .u64 0, codeV 2]) ∧ Below w.heap.size w w' := by
  have k1 := of_no n hn
  unfold numV
  unfold shp0 at k1
  clear hn
  refine cps fun Q hQ => ?_
  go_enter Try.func17, Try.ntmps17
  go_wp2_with (go_at_call 33; refine (k1 _).mono ?_; rintro e w1 ⟨rfl, hb1⟩)
  exact hQ.out _ _ ⟨rfl, cmore (cthen (cmore (Below.refl _ _) _) hb1) _⟩
theorem cencode_bad (n : Nat) (k : Int) (neg : Bool) (s : Int) (f : Nat) (hn : Wd n) (hf : f < 2 ^ 64) (hs : soundN k neg s f = false) (w : World) :
    Calls Try.prog 17 #[.int .i64 n, numV k neg s f] w fun e w' => e = .returned (.tuple #[.int .u64 0, codeV 1]) ∧ Below w.heap.size w w' := by
  have k1 := of_ok n hn
  have k2 := csound_any k neg s f hf
  rw [hs] at k2
  unfold numV at *
  unfold shp at k1
  generalize ((2 ^ (n - 1) : Nat) : Int) = nv at *
  generalize ((2 ^ (n - 1) - 1 : Nat) : Int) = mv at *
  generalize ((4 * n - 8 : Nat) : Int) = tv at *
  clear hn hs
  refine cps fun Q hQ => ?_
  go_enter Try.func17, Try.ntmps17
  go_wp2_with (first
    | (go_at_call 33; go_must (refine (k1 _).mono ?_); rintro e w1 ⟨rfl, hb1⟩; have R1 := (hb1.block w.heap.size (by simp)).trans (rownew w _ _); have z1 : w.heap.size < w1.heap.size := (by have := hb1.size; simp at this; omega); have hne1 : ¬ w.heap.size = w1.heap.size := (by omega); have hne2 : ¬ w1.heap.size = w.heap.size := (by omega); have b0 := rowcell R1 0; have b1 := rowcell R1 1; have b2 := rowcell R1 2; have b3 := rowcell R1 3; have bf := rowfree R1; simp only [List.getElem?_toArray, List.getElem?_cons_zero, List.getElem?_cons_succ] at b0 b1 b2 b3; have HR1 : Hid _ := R1; have HB1 : Hid (Below _ _ _) := hb1; clear hb1 R1)
    | (go_at_call 37; go_must (refine (k2 _).mono ?_); rintro e w2 ⟨rfl, hb2⟩; have R2 := (hb2.block w.heap.size (by simp; omega)).trans ((Below.heap_alloc w1 _ _ z1).trans HR1.out); have S2 := (hb2.block w1.heap.size (by simp)).trans (rownew w1 _ _); have z2 : w1.heap.size < w2.heap.size := (by have := hb2.size; simp at this; omega); have y2 : w.heap.size < w2.heap.size := (Nat.lt_trans z1 z2); have c0 := rowcell R2 0; have c1 := rowcell R2 1; have c2 := rowcell R2 2; have c3 := rowcell R2 3; have cf := rowfree R2; simp only [List.getElem?_toArray, List.getElem?_cons_zero, List.getElem?_cons_succ] at c0 c1 c2 c3; have s0 := rowcell S2 0; have s1 := rowcell S2 1; have s2 := rowcell S2 2; have s3 := rowcell S2 3; have s4 := rowcell S2 4; have sf := rowfree S2; simp only [List.getElem?_toArray, List.getElem?_cons_zero, List.getElem?_cons_succ] at s0 s1 s2 s3 s4; have HR2 : Hid _ := R2; have HB2 : Hid (Below _ _ _) := hb2; clear hb2 R2 S2))
  all_goals exact hQ.out _ _ ⟨rfl, cthen (cmore (cthen (cmore (Below.refl _ _) _) HB1.out) _) HB2.out⟩
theorem cencode_zero (n : Nat) (hn : Wd n) (w : World) :
    Calls Try.prog 17 #[.int .i64 n, numV 0 false 0 0] w fun e w' => e = .returned (.tuple #[.int .u64 0, .nilIface]) ∧ Below w.heap.size w w' := by
  have k1 := of_ok n hn
  have k2 := csound_any 0 false 0 0 (by decide)
  rw [show soundN 0 false 0 0 = true from rfl] at k2
  unfold numV at *
  unfold shp at k1
  rw [show ((0 : Nat) : Int) = 0 from rfl] at *
  generalize ((2 ^ (n - 1) : Nat) : Int) = nv at *
  generalize ((2 ^ (n - 1) - 1 : Nat) : Int) = mv at *
  generalize ((4 * n - 8 : Nat) : Int) = tv at *
  clear hn
  refine cps fun Q hQ => ?_
  go_enter Try.func17, Try.ntmps17
  go_wp2_with (first
    | (go_at_call 33; go_must (refine (k1 _).mono ?_); rintro e w1 ⟨rfl, hb1⟩; have R1 := (hb1.block w.heap.size (by simp)).trans (rownew w _ _); have z1 : w.heap.size < w1.heap.size := (by have := hb1.size; simp at this; omega); have hne1 : ¬ w.heap.size = w1.heap.size := (by omega); have hne2 : ¬ w1.heap.size = w.heap.size := (by omega); have b0 := rowcell R1 0; have b1 := rowcell R1 1; have b2 := rowcell R1 2; have b3 := rowcell R1 3; have bf := rowfree R1; simp only [List.getElem?_toArray, List.getElem?_cons_zero, List.getElem?_cons_succ] at b0 b1 b2 b3; have HR1 : Hid _ := R1; have HB1 : Hid (Below _ _ _) := hb1; clear hb1 R1)
    | (go_at_call 37; go_must (refine (k2 _).mono ?_); rintro e w2 ⟨rfl, hb2⟩; have R2 := (hb2.block w.heap.size (by simp; omega)).trans ((Below.heap_alloc w1 _ _ z1).trans HR1.out); have S2 := (hb2.block w1.heap.size (by simp)).trans (rownew w1 _ _); have z2 : w1.heap.size < w2.heap.size := (by have := hb2.size; simp at this; omega); have y2 : w.heap.size < w2.heap.size := (Nat.lt_trans z1 z2); have c0 := rowcell R2 0; have c1 := rowcell R2 1; have c2 := rowcell R2 2; have c3 := rowcell R2 3; have cf := rowfree R2; simp only [List.getElem?_toArray, List.getElem?_cons_zero, List.getElem?_cons_succ] at c0 c1 c2 c3; have s0 := rowcell S2 0; have s1 := rowcell S2 1; have s2 := rowcell S2 2; have s3 := rowcell S2 3; have s4 := rowcell S2 4; have sf := rowfree S2; simp only [List.getElem?_toArray, List.getElem?_cons_zero, List.getElem?_cons_succ] at s0 s1 s2 s3 s4; have HR2 : Hid _ := R2; have HB2 : Hid (Below _ _ _) := hb2; clear hb2 R2 S2))
  all_goals exact hQ.out _ _ ⟨rfl, cthen (cmore (cthen (cmore (Below.refl _ _) _) HB1.out) _) HB2.out⟩
theorem cencode_nar (n : Nat) (hn : Wd n) (w : World) :
    Calls Try.prog 17 #[.int .i64 n, numV 2 false 0 0] w fun e w' => e = .returned (.tuple #[.int .u64 (2 ^ (n - 1) : Nat), .nilIface]) ∧ Below w.heap.size w w' := by
  have k1 := of_ok n hn
  have k2 := csound_any 2 false 0 0 (by decide)
  rw [show soundN 2 false 0 0 = true from rfl] at k2
  unfold numV at *
  unfold shp at k1
  rw [show ((0 : Nat) : Int) = 0 from rfl] at *
  generalize ((2 ^ (n - 1) : Nat) : Int) = nv at *
  generalize ((2 ^ (n - 1) - 1 : Nat) : Int) = mv at *
  generalize ((4 * n - 8 : Nat) : Int) = tv at *
  clear hn
  refine cps fun Q hQ => ?_
  go_enter Try.func17, Try.ntmps17
  go_wp2_with (first
    | (go_at_call 33; go_must (refine (k1 _).mono ?_); rintro e w1 ⟨rfl, hb1⟩; have R1 := (hb1.block w.heap.size (by simp)).trans (rownew w _ _); have z1 : w.heap.size < w1.heap.size := (by have := hb1.size; simp at this; omega); have hne1 : ¬ w.heap.size = w1.heap.size := (by omega); have hne2 : ¬ w1.heap.size = w.heap.size := (by omega); have b0 := rowcell R1 0; have b1 := rowcell R1 1; have b2 := rowcell R1 2; have b3 := rowcell R1 3; have bf := rowfree R1; simp only [List.getElem?_toArray, List.getElem?_cons_zero, List.getElem?_cons_succ] at b0 b1 b2 b3; have HR1 : Hid _ := R1; have HB1 : Hid (Below _ _ _) := hb1; clear hb1 R1)
    | (go_at_call 37; go_must (refine (k2 _).mono ?_); rintro e w2 ⟨rfl, hb2⟩; have R2 := (hb2.block w.heap.size (by simp; omega)).trans ((Below.heap_alloc w1 _ _ z1).trans HR1.out); have S2 := (hb2.block w1.heap.size (by simp)).trans (rownew w1 _ _); have z2 : w1.heap.size < w2.heap.size := (by have := hb2.size; simp at this; omega); have y2 : w.heap.size < w2.heap.size := (Nat.lt_trans z1 z2); have c0 := rowcell R2 0; have c1 := rowcell R2 1; have c2 := rowcell R2 2; have c3 := rowcell R2 3; have cf := rowfree R2; simp only [List.getElem?_toArray, List.getElem?_cons_zero, List.getElem?_cons_succ] at c0 c1 c2 c3; have s0 := rowcell S2 0; have s1 := rowcell S2 1; have s2 := rowcell S2 2; have s3 := rowcell S2 3; have s4 := rowcell S2 4; have sf := rowfree S2; simp only [List.getElem?_toArray, List.getElem?_cons_zero, List.getElem?_cons_succ] at s0 s1 s2 s3 s4; have HR2 : Hid _ := R2; have HB2 : Hid (Below _ _ _) := hb2; clear hb2 R2 S2))
  all_goals exact hQ.out _ _ ⟨rfl, cthen (cmore (cthen (cmore (Below.refl _ _) _) HB1.out) _) HB2.out⟩
theorem cencode_out (n : Nat) (neg : Bool) (s : Int) (f : Nat) (hn : Wd n) (hf : f < 2 ^ 64) (hs : soundN 1 neg s f = true) (hr : inR n s = false) (w : World) :
    Calls Try.prog 17 #[.int .i64 n, numV 1 neg s f] w fun e w' => e = .returned (.tuple #[.int .u64 0, codeV 8]) ∧ Below w.heap.size w w' := by
  have k1 := of_ok n hn
  have k2 := csound_any 1 neg s f hf
  rw [hs] at k2
  have hw := wd_le hn
  have hr' := of_decide_eq_false hr
  have htv : ((4 * n - 8 : Nat) : Int) = 4 * (n : Int) - 8 := by omega
  have hsb : -1073741824 ≤ s ∧ s ≤ 1073741824 := by
    have := hs
    unfold soundN at this
    rw [if_neg (by decide)] at this
    exact (of_decide_eq_true this).2.2
  unfold numV at *
  unfold shp at k1
  generalize ((2 ^ (n - 1) : Nat) : Int) = nv at *
  generalize ((2 ^ (n - 1) - 1 : Nat) : Int) = mv at *
  obtain ⟨tv, htv2⟩ : ∃ tv, tv = ((4 * n - 8 : Nat) : Int) := ⟨_, rfl⟩
  rw [← htv2] at k1 htv
  have htb : 0 ≤ tv ∧ tv ≤ 248 := by omega
  rcases Int.lt_or_le s (-tv) with h1 | h1
  · have hd : decide (s < -tv) = true := decide_eq_true h1
    clear hn hs hr hr' htv htv2 h1
    refine cps fun Q hQ => ?_
    go_enter Try.func17, Try.ntmps17
    go_wp2_with (first
      | (go_at_call 33; go_must (refine (k1 _).mono ?_); rintro e w1 ⟨rfl, hb1⟩; have R1 := (hb1.block w.heap.size (by simp)).trans (rownew w _ _); have z1 : w.heap.size < w1.heap.size := (by have := hb1.size; simp at this; omega); have hne1 : ¬ w.heap.size = w1.heap.size := (by omega); have hne2 : ¬ w1.heap.size = w.heap.size := (by omega); have b0 := rowcell R1 0; have b1 := rowcell R1 1; have b2 := rowcell R1 2; have b3 := rowcell R1 3; have bf := rowfree R1; simp only [List.getElem?_toArray, List.getElem?_cons_zero, List.getElem?_cons_succ] at b0 b1 b2 b3; have HR1 : Hid _ := R1; have HB1 : Hid (Below _ _ _) := hb1; clear hb1 R1)
      | (go_at_call 37; go_must (refine (k2 _).mono ?_); rintro e w2 ⟨rfl, hb2⟩; have R2 := (hb2.block w.heap.size (by simp; omega)).trans ((Below.heap_alloc w1 _ _ z1).trans HR1.out); have S2 := (hb2.block w1.heap.size (by simp)).trans (rownew w1 _ _); have z2 : w1.heap.size < w2.heap.size := (by have := hb2.size; simp at this; omega); have y2 : w.heap.size < w2.heap.size := (Nat.lt_trans z1 z2); have c0 := rowcell R2 0; have c1 := rowcell R2 1; have c2 := rowcell R2 2; have c3 := rowcell R2 3; have cf := rowfree R2; simp only [List.getElem?_toArray, List.getElem?_cons_zero, List.getElem?_cons_succ] at c0 c1 c2 c3; have s0 := rowcell S2 0; have s1 := rowcell S2 1; have s2 := rowcell S2 2; have s3 := rowcell S2 3; have s4 := rowcell S2 4; have sf := rowfree S2; simp only [List.getElem?_toArray, List.getElem?_cons_zero, List.getElem?_cons_succ] at s0 s1 s2 s3 s4; have HR2 : Hid _ := R2; have HB2 : Hid (Below _ _ _) := hb2; clear hb2 R2 S2))
    all_goals exact hQ.out _ _ ⟨rfl, cthen (cmore (cthen (cmore (Below.refl _ _) _) HB1.out) _) HB2.out⟩
  · have hd : decide (s < -tv) = false := decide_eq_false (by omega)
    have hd2 : decide (tv < s) = true := decide_eq_true (by omega)
    clear hn hs hr hr' htv htv2 h1
    refine cps fun Q hQ => ?_
    go_enter Try.func17, Try.ntmps17
    go_wp2_with (first
      | (go_at_call 33; go_must (refine (k1 _).mono ?_); rintro e w1 ⟨rfl, hb1⟩; have R1 := (hb1.block w.heap.size (by simp)).trans (rownew w _ _); have z1 : w.heap.size < w1.heap.size := (by have := hb1.size; simp at this; omega); have hne1 : ¬ w.heap.size = w1.heap.size := (by omega); have hne2 : ¬ w1.heap.size = w.heap.size := (by omega); have b0 := rowcell R1 0; have b1 := rowcell R1 1; have b2 := rowcell R1 2; have b3 := rowcell R1 3; have bf := rowfree R1; simp only [List.getElem?_toArray, List.getElem?_cons_zero, List.getElem?_cons_succ] at b0 b1 b2 b3; have HR1 : Hid _ := R1; have HB1 : Hid (Below _ _ _) := hb1; clear hb1 R1)
      | (go_at_call 37; go_must (refine (k2 _).mono ?_); rintro e w2 ⟨rfl, hb2⟩; have R2 := (hb2.block w.heap.size (by simp; omega)).trans ((Below.heap_alloc w1 _ _ z1).trans HR1.out); have S2 := (hb2.block w1.heap.size (by simp)).trans (rownew w1 _ _); have z2 : w1.heap.size < w2.heap.size := (by have := hb2.size; simp at this; omega); have y2 : w.heap.size < w2.heap.size := (Nat.lt_trans z1 z2); have c0 := rowcell R2 0; have c1 := rowcell R2 1; have c2 := rowcell R2 2; have c3 := rowcell R2 3; have cf := rowfree R2; simp only [List.getElem?_toArray, List.getElem?_cons_zero, List.getElem?_cons_succ] at c0 c1 c2 c3; have s0 := rowcell S2 0; have s1 := rowcell S2 1; have s2 := rowcell S2 2; have s3 := rowcell S2 3; have s4 := rowcell S2 4; have sf := rowfree S2; simp only [List.getElem?_toArray, List.getElem?_cons_zero, List.getElem?_cons_succ] at s0 s1 s2 s3 s4; have HR2 : Hid _ := R2; have HB2 : Hid (Below _ _ _) := hb2; clear hb2 R2 S2))
    all_goals exact hQ.out _ _ ⟨rfl, cthen (cmore (cthen (cmore (Below.refl _ _) _) HB1.out) _) HB2.out⟩
theorem cencode_real (n : Nat) (neg : Bool) (s : Int) (f : Nat) (hn : Wd n) (hs : soundN 1 neg s f = true) (hf : f < 2 ^ 64) (hr : inR n s = true) (w : World) :
    Calls Try.prog 17 #[.int .i64 n, numV 1 neg s f] w fun e w' => e = .returned (if fitsN n s f then .tuple #[.int .u64 (patOf n neg (cutL n s f) : Nat), .nilIface] else .tuple #[.int .u64 0, codeV 8]) ∧ Below w.heap.size w w' := by
  have k1 := of_ok n hn
  have k2 := csound_any 1 neg s f hf
  rw [hs] at k2
  have hw := wd_le hn
  have hr' := of_decide_eq_true hr
  obtain ⟨ones, r, hk, _⟩ := headK_form (s / 4)
  obtain ⟨hrn, hP⟩ := asmP_cut n hn neg s f hr ones (r + 1) _ hk rfl
  have k3 := cparts_any n hn neg s f hf hr ones (r + 1) _ hk hrn rfl
  have hv : fieldOf f (63 - (n - 2 - (r + 1) - 2)) (n - 2 - (r + 1) - 2) < 2 ^ 64 := Nat.lt_of_lt_of_le (Nat.mod_lt _ (Nat.pos_of_ne_zero (by simp))) (Nat.pow_le_pow_right (by decide) (by omega))
  have k4 := assemble_any n hn neg ones (r + 1) (by omega) hrn 0 0 (((s % 4).toNat : Nat) : Int) 0 _ hv
  rw [hP] at k4
  obtain ⟨ht, hl⟩ := cut_true n s f hn hr
  obtain ⟨p1, p2, p3, p4⟩ := patOf_facts n hn neg (cutL n s f) hl ht
  have p1' : patOf n neg (cutL n s f) < 2 ^ 64 := Nat.lt_of_lt_of_le p1 (Nat.pow_le_pow_right (by decide) hw.2)
  have k5 := cdecode_real n _ hn p1' p2
  rw [p3, p4] at k5
  have hfit : fitsN n s f = decide (scaleL (cutL n s f) = s ∧ wordL (cutL n s f) = f) := rfl
  rw [hfit]
  have htv : ((4 * n - 8 : Nat) : Int) = 4 * (n : Int) - 8 := by omega
  clear hfit p1 p2 p3 p4 p1' ht hl hP
  generalize patOf n neg (cutL n s f) = pp at *
  generalize scaleL (cutL n s f) = st at *
  generalize wordL (cutL n s f) = wt at *
  unfold numV fdI at *
  unfold shp at k1
  generalize fieldOf f (63 - (n - 2 - (r + 1) - 2)) (n - 2 - (r + 1) - 2) = vv at *
  generalize ((r + 1 : Nat) : Int) = rr at *
  generalize (((s % 4).toNat : Nat) : Int) = ex at *
  generalize ((2 ^ (n - 1) : Nat) : Int) = nv at *
  generalize ((2 ^ (n - 1) - 1 : Nat) : Int) = mv at *
  obtain ⟨tv, htv2⟩ : ∃ tv, tv = ((4 * n - 8 : Nat) : Int) := ⟨_, rfl⟩
  rw [← htv2] at k1 htv
  have htb : 0 ≤ tv ∧ tv ≤ 248 := by omega
  have hd : decide (s < -tv) = false := decide_eq_false (by omega)
  have hd2 : decide (tv < s) = false := decide_eq_false (by omega)
  have hsb : -300 ≤ s ∧ s ≤ 300 := by omega
  clear hn hs hr hr' htv htv2 hk hrn hv
  by_cases hfit : st = s ∧ wt = f
  · rw [if_pos (decide_eq_true hfit)]
    obtain ⟨rfl, rfl⟩ := hfit
    refine cps fun Q hQ => ?_
    go_enter Try.func17, Try.ntmps17
    go_wp2_with (first
      | (go_at_call 33; go_must (refine (k1 _).mono ?_); rintro e w1 ⟨rfl, hb1⟩; have R1 := (hb1.block w.heap.size (by simp)).trans (rownew w _ _); have z1 : w.heap.size < w1.heap.size := (by have := hb1.size; simp at this; omega); have hne1 : ¬ w.heap.size = w1.heap.size := (by omega); have hne2 : ¬ w1.heap.size = w.heap.size := (by omega); have b0 := rowcell R1 0; have b1 := rowcell R1 1; have b2 := rowcell R1 2; have b3 := rowcell R1 3; have bf := rowfree R1; simp only [List.getElem?_toArray, List.getElem?_cons_zero, List.getElem?_cons_succ] at b0 b1 b2 b3; have HR1 : Hid _ := R1; have HB1 : Hid (Below _ _ _) := hb1; clear hb1 R1)
      | (go_at_call 37; go_must (refine (k2 _).mono ?_); rintro e w2 ⟨rfl, hb2⟩; have R2 := (hb2.block w.heap.size (by simp; omega)).trans ((Below.heap_alloc w1 _ _ z1).trans HR1.out); have S2 := (hb2.block w1.heap.size (by simp)).trans (rownew w1 _ _); have z2 : w1.heap.size < w2.heap.size := (by have := hb2.size; simp at this; omega); have y2 : w.heap.size < w2.heap.size := (Nat.lt_trans z1 z2); have c0 := rowcell R2 0; have c1 := rowcell R2 1; have c2 := rowcell R2 2; have c3 := rowcell R2 3; have cf := rowfree R2; simp only [List.getElem?_toArray, List.getElem?_cons_zero, List.getElem?_cons_succ] at c0 c1 c2 c3; have s0 := rowcell S2 0; have s1 := rowcell S2 1; have s2 := rowcell S2 2; have s3 := rowcell S2 3; have s4 := rowcell S2 4; have sf := rowfree S2; simp only [List.getElem?_toArray, List.getElem?_cons_zero, List.getElem?_cons_succ] at s0 s1 s2 s3 s4; have HR2 : Hid _ := R2; have HB2 : Hid (Below _ _ _) := hb2; clear hb2 R2 S2)
      | (go_at_call 38; go_must (refine (k3 _).mono ?_); rintro e w3 ⟨rfl, hb3⟩; have R3 := (hb3.block _ y2).trans HR2.out; have y3 : w.heap.size < w3.heap.size := (Nat.lt_of_lt_of_le y2 hb3.size); have HR3 : Hid _ := R3; have HB3 : Hid (Below _ _ _) := hb3; clear hb3 R3)
      | (go_at_call 34; go_must (refine (k4 _).mono ?_); rintro e w4 ⟨rfl, hb4⟩; have R4 := (hb4.block _ y3).trans HR3.out; have y4 : w.heap.size < w4.heap.size := (Nat.lt_of_lt_of_le y3 hb4.size); have HR4 : Hid _ := R4; have HB4 : Hid (Below _ _ _) := hb4; clear hb4 R4)
      | (go_at_call 15; go_must (refine (k5 _).mono ?_); rintro e w5 ⟨rfl, hb5⟩; have R5 := (hb5.block _ y4).trans HR4.out; have y5 : w.heap.size < w5.heap.size := (Nat.lt_of_lt_of_le y4 hb5.size); have hne5 : ¬ w.heap.size = w5.heap.size := (by omega); have hne6 : ¬ w5.heap.size = w.heap.size := (by omega); have d0 := rowcell R5 0; have d1 := rowcell R5 1; have d2 := rowcell R5 2; have d3 := rowcell R5 3; have df := rowfree R5; simp only [List.getElem?_toArray, List.getElem?_cons_zero, List.getElem?_cons_succ] at d0 d1 d2 d3; have HB5 : Hid (Below _ _ _) := hb5; clear hb5 R5))
    all_goals exact hQ.out _ _ ⟨rfl, cmore (cthen (cthen (cthen (cthen (cmore (cthen (cmore (Below.refl _ _) _) HB1.out) _) HB2.out) HB3.out) HB4.out) HB5.out) _⟩
  · rw [if_neg (by rw [decide_eq_false hfit]; decide)]
    have HNE : Hid _ := hfit
    clear hfit
    refine cps fun Q hQ => ?_
    go_enter Try.func17, Try.ntmps17
    go_wp2_with (first
      | (go_at_call 33; go_must (refine (k1 _).mono ?_); rintro e w1 ⟨rfl, hb1⟩; have R1 := (hb1.block w.heap.size (by simp)).trans (rownew w _ _); have z1 : w.heap.size < w1.heap.size := (by have := hb1.size; simp at this; omega); have hne1 : ¬ w.heap.size = w1.heap.size := (by omega); have hne2 : ¬ w1.heap.size = w.heap.size := (by omega); have b0 := rowcell R1 0; have b1 := rowcell R1 1; have b2 := rowcell R1 2; have b3 := rowcell R1 3; have bf := rowfree R1; simp only [List.getElem?_toArray, List.getElem?_cons_zero, List.getElem?_cons_succ] at b0 b1 b2 b3; have HR1 : Hid _ := R1; have HB1 : Hid (Below _ _ _) := hb1; clear hb1 R1)
      | (go_at_call 37; go_must (refine (k2 _).mono ?_); rintro e w2 ⟨rfl, hb2⟩; have R2 := (hb2.block w.heap.size (by simp; omega)).trans ((Below.heap_alloc w1 _ _ z1).trans HR1.out); have S2 := (hb2.block w1.heap.size (by simp)).trans (rownew w1 _ _); have z2 : w1.heap.size < w2.heap.size := (by have := hb2.size; simp at this; omega); have y2 : w.heap.size < w2.heap.size := (Nat.lt_trans z1 z2); have c0 := rowcell R2 0; have c1 := rowcell R2 1; have c2 := rowcell R2 2; have c3 := rowcell R2 3; have cf := rowfree R2; simp only [List.getElem?_toArray, List.getElem?_cons_zero, List.getElem?_cons_succ] at c0 c1 c2 c3; have s0 := rowcell S2 0; have s1 := rowcell S2 1; have s2 := rowcell S2 2; have s3 := rowcell S2 3; have s4 := rowcell S2 4; have sf := rowfree S2; simp only [List.getElem?_toArray, List.getElem?_cons_zero, List.getElem?_cons_succ] at s0 s1 s2 s3 s4; have HR2 : Hid _ := R2; have HB2 : Hid (Below _ _ _) := hb2; clear hb2 R2 S2)
      | (go_at_call 38; go_must (refine (k3 _).mono ?_); rintro e w3 ⟨rfl, hb3⟩; have R3 := (hb3.block _ y2).trans HR2.out; have y3 : w.heap.size < w3.heap.size := (Nat.lt_of_lt_of_le y2 hb3.size); have HR3 : Hid _ := R3; have HB3 : Hid (Below _ _ _) := hb3; clear hb3 R3)
      | (go_at_call 34; go_must (refine (k4 _).mono ?_); rintro e w4 ⟨rfl, hb4⟩; have R4 := (hb4.block _ y3).trans HR3.out; have y4 : w.heap.size < w4.heap.size := (Nat.lt_of_lt_of_le y3 hb4.size); have HR4 : Hid _ := R4; have HB4 : Hid (Below _ _ _) := hb4; clear hb4 R4)
      | (go_at_call 15; go_must (refine (k5 _).mono ?_); rintro e w5 ⟨rfl, hb5⟩; have R5 := (hb5.block _ y4).trans HR4.out; have y5 : w.heap.size < w5.heap.size := (Nat.lt_of_lt_of_le y4 hb5.size); have hne5 : ¬ w.heap.size = w5.heap.size := (by omega); have hne6 : ¬ w5.heap.size = w.heap.size := (by omega); have d0 := rowcell R5 0; have d1 := rowcell R5 1; have d2 := rowcell R5 2; have d3 := rowcell R5 3; have df := rowfree R5; simp only [List.getElem?_toArray, List.getElem?_cons_zero, List.getElem?_cons_succ] at d0 d1 d2 d3; have HB5 : Hid (Below _ _ _) := hb5; clear hb5 R5))
    all_goals first
      | exact hQ.out _ _ ⟨rfl, cmore (cthen (cthen (cthen (cthen (cmore (cthen (cmore (Below.refl _ _) _) HB1.out) _) HB2.out) HB3.out) HB4.out) HB5.out) _⟩
      | exact (HNE.out ⟨by first | rfl | assumption | (symm; assumption) | omega, by first | rfl | assumption | (symm; assumption) | omega⟩).elim
theorem cencode_fit (n : Nat) (neg : Bool) (s : Int) (f : Nat) (hn : Wd n) (hs : soundN 1 neg s f = true) (hf : f < 2 ^ 64) (hr : inR n s = true) (hfit : fitsN n s f = true) (w : World) :
    Calls Try.prog 17 #[.int .i64 n, numV 1 neg s f] w fun e w' => e = .returned (.tuple #[.int .u64 (patOf n neg (cutL n s f) : Nat), .nilIface]) ∧ Below w.heap.size w w' := by
  have := cencode_real n neg s f hn hs hf hr w
  rwa [hfit, if_pos rfl] at this
theorem cencode_not (n : Nat) (neg : Bool) (s : Int) (f : Nat) (hn : Wd n) (hs : soundN 1 neg s f = true) (hf : f < 2 ^ 64) (hr : inR n s = false ∨ fitsN n s f = false) (w : World) :
    Calls Try.prog 17 #[.int .i64 n, numV 1 neg s f] w fun e w' => e = .returned (.tuple #[.int .u64 0, codeV 8]) ∧ Below w.heap.size w w' := by
  cases h : inR n s
  · exact cencode_out n neg s f hn hf hs h w
  · have h2 : fitsN n s f = false := by rcases hr with h1 | h1; rw [h] at h1; cases h1; exact h1
    have := cencode_real n neg s f hn hs hf h w
    rwa [h2, if_neg (by decide)] at this
end Go.Proofs.Ythbhcdokjlpjbaa
