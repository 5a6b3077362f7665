import Derived.Test.YtheliihkkoohnaaGreatJoin3
import Derived.Test.YtheliihkkoohnaaGreatJoin1
import Derived.Test.YtheliihkkoohnaaGreatJoin2
namespace Go.Proofs.YtheliihkkoohnaaGreat
open Go.ChangeShapes Go.WideShapes Go.ChangeAt Go.RowKit
set_option linter.unusedVariables false
set_option linter.unusedSimpArgs false
set_option maxRecDepth 100000

/-! ### Cut -/
theorem rcut_zero (n : Nat) (hn : Wd n) (w : World) :
    Calls Tryz.prog 36 #[.int .i64 n, exV 0 false 0 0 0 false] w fun e w' => e = .returned (.tuple #[.int .u64 0, .int .i64 0, .nilIface]) ∧ Below w.heap.size w w' := by
  have k1 := of_ok n hn
  have k2 := rsound_any 0 false 0 0 0 false 1099511627776 (by decide) (by decide)
  rw [soundF_X, show soundX 0 false 0 0 0 false = true from rfl] at k2
  unfold exV at *
  unfold shp at k1
  rw [show ((0 : Nat) : Int) = 0 from rfl] at *
  generalize ((2 ^ (n - 1) : Nat) : Int) = nv at *
  generalize ((2 ^ (n - 1) - 1 : Nat) : Int) = mv at *
  generalize ((4 * n - 8 : Nat) : Int) = tv at *
  clear hn
  refine cps fun Q hQ => ?_
  go_enter Tryz.func36, Tryz.ntmps36
  go_wp2_with (first
    | (go_at_call 68; go_must (refine (k1 _).mono ?_); rintro e w1 ⟨rfl, hb1⟩; have R1 := (hb1.block w.heap.size (by simp)).trans (rownew w _ _); have z1 : w.heap.size < w1.heap.size := (by have := hb1.size; simp at this; omega); have hne1 : ¬ w.heap.size = w1.heap.size := (by omega); have hne2 : ¬ w1.heap.size = w.heap.size := (by omega); have b0 := rowcell R1 0; have b1 := rowcell R1 1; have b2 := rowcell R1 2; have b3 := rowcell R1 3; have b4 := rowcell R1 4; have b5 := rowcell R1 5; simp only [List.getElem?_toArray, List.getElem?_cons_zero, List.getElem?_cons_succ] at b0 b1 b2 b3 b4 b5; have HR1 : Hid _ := R1; have HB1 : Hid (Below _ _ _) := hb1; clear hb1 R1)
    | (go_at_call 34; go_must (refine (k2 _).mono ?_); rintro e w2 ⟨rfl, hb2⟩; have R2 := (hb2.block w.heap.size (by simp; omega)).trans ((Below.heap_alloc w1 _ _ z1).trans HR1.out); have S2 := (hb2.block w1.heap.size (by simp)).trans (rownew w1 _ _); have z2 : w1.heap.size < w2.heap.size := (by have := hb2.size; simp at this; omega); have y2 : w.heap.size < w2.heap.size := (Nat.lt_trans z1 z2); have c0 := rowcell R2 0; have c1 := rowcell R2 1; have c2 := rowcell R2 2; simp only [List.getElem?_toArray, List.getElem?_cons_zero, List.getElem?_cons_succ] at c0 c1 c2; have s1 := rowcell S2 1; have s2 := rowcell S2 2; have s3 := rowcell S2 3; have s4 := rowcell S2 4; simp only [List.getElem?_toArray, List.getElem?_cons_zero, List.getElem?_cons_succ] at s1 s2 s3 s4; have HB2 : Hid (Below _ _ _) := hb2; clear hb2 R2 S2))
  go_ret3
  exact hQ.out _ _ ⟨rfl, cthen (cmore (cthen (cmore (Below.refl _ _) _) HB1.out) _) HB2.out⟩
theorem rcut_nar (n : Nat) (hn : Wd n) (w : World) :
    Calls Tryz.prog 36 #[.int .i64 n, exV 2 false 0 0 0 false] w fun e w' => e = .returned (.tuple #[.int .u64 (2 ^ (n - 1) : Nat), .int .i64 0, .nilIface]) ∧ Below w.heap.size w w' := by
  have k1 := of_ok n hn
  have k2 := rsound_any 2 false 0 0 0 false 1099511627776 (by decide) (by decide)
  rw [soundF_X, show soundX 2 false 0 0 0 false = true from rfl] at k2
  unfold exV at *
  unfold shp at k1
  rw [show ((0 : Nat) : Int) = 0 from rfl] at *
  generalize ((2 ^ (n - 1) : Nat) : Int) = nv at *
  generalize ((2 ^ (n - 1) - 1 : Nat) : Int) = mv at *
  generalize ((4 * n - 8 : Nat) : Int) = tv at *
  clear hn
  refine cps fun Q hQ => ?_
  go_enter Tryz.func36, Tryz.ntmps36
  go_wp2_with (first
    | (go_at_call 68; go_must (refine (k1 _).mono ?_); rintro e w1 ⟨rfl, hb1⟩; have R1 := (hb1.block w.heap.size (by simp)).trans (rownew w _ _); have z1 : w.heap.size < w1.heap.size := (by have := hb1.size; simp at this; omega); have hne1 : ¬ w.heap.size = w1.heap.size := (by omega); have hne2 : ¬ w1.heap.size = w.heap.size := (by omega); have b0 := rowcell R1 0; have b1 := rowcell R1 1; have b2 := rowcell R1 2; have b3 := rowcell R1 3; have b4 := rowcell R1 4; have b5 := rowcell R1 5; simp only [List.getElem?_toArray, List.getElem?_cons_zero, List.getElem?_cons_succ] at b0 b1 b2 b3 b4 b5; have HR1 : Hid _ := R1; have HB1 : Hid (Below _ _ _) := hb1; clear hb1 R1)
    | (go_at_call 34; go_must (refine (k2 _).mono ?_); rintro e w2 ⟨rfl, hb2⟩; have R2 := (hb2.block w.heap.size (by simp; omega)).trans ((Below.heap_alloc w1 _ _ z1).trans HR1.out); have S2 := (hb2.block w1.heap.size (by simp)).trans (rownew w1 _ _); have z2 : w1.heap.size < w2.heap.size := (by have := hb2.size; simp at this; omega); have y2 : w.heap.size < w2.heap.size := (Nat.lt_trans z1 z2); have c0 := rowcell R2 0; have c1 := rowcell R2 1; have c2 := rowcell R2 2; simp only [List.getElem?_toArray, List.getElem?_cons_zero, List.getElem?_cons_succ] at c0 c1 c2; have s1 := rowcell S2 1; have s2 := rowcell S2 2; have s3 := rowcell S2 3; have s4 := rowcell S2 4; simp only [List.getElem?_toArray, List.getElem?_cons_zero, List.getElem?_cons_succ] at s1 s2 s3 s4; have HB2 : Hid (Below _ _ _) := hb2; clear hb2 R2 S2))
  go_ret3
  exact hQ.out _ _ ⟨rfl, cthen (cmore (cthen (cmore (Below.refl _ _) _) HB1.out) _) HB2.out⟩
theorem least_kind (n : Nat) (hn : Wd n) : kindOf n (1 % 2 ^ n) = 1 := by rcases hn with rfl | rfl | rfl | rfl <;> decide
theorem least_scale (n : Nat) (hn : Wd n) : scaleL (strS n 1) = 8 - 4 * (n : Int) := by rcases hn with rfl | rfl | rfl | rfl <;> decide +kernel
/-- the least value's own string: all of it before the cut -/
theorem least_cut (n : Nat) (hi lo : Nat) (rest : Bool) (hn : Wd n) (h : justX hi lo rest = true) :
    numOf ((strX (8 - 4 * (n : Int)) hi lo).take (n - 1)) = 1 ∧ leftL ((strX (8 - 4 * (n : Int)) hi lo).drop (n - 1)) rest = 0 := by
  have hw := wd_le hn
  have e1 : (8 - 4 * (n : Int)) / 4 = 2 - n := by omega
  have e2 : ((8 - 4 * (n : Int)) % 4).toNat = 0 := by omega
  have hk : headK (2 - (n : Int)) = noughts (n - 2) ++ [true] := by
    unfold headK
    rw [if_neg (by omega), show (-(2 - (n : Int))).toNat = n - 2 by omega]
    try rfl
  have hl : (noughts (n - 2) ++ [true]).length = n - 1 := by simp [noughts]; omega
  have e : strX (8 - 4 * (n : Int)) hi lo = (noughts (n - 2) ++ [true]) ++ (bitsOf 0 2 ++ digX hi lo) := by
    unfold strX; rw [e1, e2, hk]; simp
  unfold justX at h
  have hr : rest = false := by cases rest <;> simp at h ⊢
  have ha : (digX hi lo).any id = false := by rw [hr] at h; simpa using h
  rw [e]
  refine ⟨?_, ?_⟩
  · rw [List.take_append, List.take_of_length_le (by omega), hl, Nat.sub_self, List.take_zero, List.append_nil, numOf_append, numOf_noughts]
    rfl
  · rw [List.drop_append, List.drop_of_length_le (by omega), hl, Nat.sub_self, List.drop_zero, List.nil_append]
    have : bitsOf 0 2 = [false, false] := rfl
    rw [this]
    unfold leftL
    show (if false = true then _ else _) = 0
    have hd : (([false, false] ++ digX hi lo).drop 1).any id = false := by
      show (false :: digX hi lo).any id = false
      rw [List.any_cons, ha]; rfl
    rw [hd, hr]; rfl
set_option maxHeartbeats 2000000 in
theorem rcut_real (n : Nat) (neg : Bool) (s : Int) (hi lo : Nat) (rest : Bool) (hn : Wd n) (hs : soundX 1 neg s hi lo rest = true) (h : WordsX hi lo) (w : World) :
    Calls Tryz.prog 36 #[.int .i64 n, exV 1 neg s hi lo rest] w fun e w' => e = .returned (.tuple #[.int .u64 (cutX n s hi lo rest).1, .int .i64 (cutX n s hi lo rest).2, .nilIface]) ∧ Below w.heap.size w w' := by
  have hw := wd_le hn
  have k1 := of_ok n hn
  have k2 := rsound_any 1 neg s hi lo rest 1099511627776 h.hi64 (by decide)
  rw [soundF_X, hs] at k2
  have k3 := cdecode_real n 1 hn (by decide) (least_kind n hn)
  rw [least_scale n hn] at k3
  have htv : ((4 * n - 8 : Nat) : Int) = 4 * (n : Int) - 8 := by omega
  unfold shp at k1
  rw [htv] at k1
  unfold numV at k3
  generalize Nat.testBit 1 (n - 1) = ng at *
  generalize wordL (strS n 1) = wl at *
  rw [show ((1 : Nat) : Int) = 1 from rfl] at *
  have key : (4 * (n : Int) - 8 ≤ s ∧ cutX n s hi lo rest = (2 ^ (n - 1) - 1, 0)) ∨ (¬ 4 * (n : Int) - 8 ≤ s ∧ s < 8 - 4 * (n : Int) ∧ cutX n s hi lo rest = (1, 0)) ∨
      (¬ 4 * (n : Int) - 8 ≤ s ∧ ¬ s < 8 - 4 * (n : Int) ∧ cutX n s hi lo rest = (numOf ((strX s hi lo).take (n - 1)), leftL ((strX s hi lo).drop (n - 1)) rest)) := by
    unfold cutX
    by_cases ct : 4 * (n : Int) - 8 ≤ s
    · exact .inl ⟨ct, by rw [if_pos ct]⟩
    · by_cases cl : s < 8 - 4 * (n : Int)
      · exact .inr (.inl ⟨ct, cl, by rw [if_neg ct, if_pos (.inl cl)]⟩)
      · refine .inr (.inr ⟨ct, cl, ?_⟩)
        by_cases cj : s = 8 - 4 * (n : Int) ∧ justX hi lo rest = true
        · rw [if_neg ct, if_pos (.inr cj)]
          obtain ⟨rfl, hj⟩ := cj
          obtain ⟨a, b⟩ := least_cut n hi lo rest hn hj
          rw [a, b]
        · rw [if_neg ct, if_neg (by rintro (c | c); exact cl c; exact cj c)]
  refine cps fun Q hQ => ?_
  rcases key with ⟨ct, hc⟩ | ⟨ct, cl, hc⟩ | ⟨ct, cl, hc⟩
  · rw [hc] at hQ
    have g1 : decide (4 * (n : Int) - 8 ≤ s) = true := decide_eq_true ct
    generalize 4 * (n : Int) - 8 = tv at *
    generalize 8 - 4 * (n : Int) = lv at *
    generalize 2 ^ (n - 1) - 1 = mv at *
    generalize 2 ^ (n - 1) = nv at *
    unfold exV at *
    clear hc ct hn hs h hw htv
    go_enter Tryz.func36, Tryz.ntmps36
    go_wp2_with (first
      | (go_at_call 68; go_must (refine (k1 _).mono ?_); rintro e w1 ⟨rfl, hb1⟩; have R1 := (hb1.block w.heap.size (by simp)).trans (rownew w _ _); have z1 : w.heap.size < w1.heap.size := (by have := hb1.size; simp at this; omega); have hne1 : ¬ w.heap.size = w1.heap.size := (by omega); have hne2 : ¬ w1.heap.size = w.heap.size := (by omega); have b0 := rowcell R1 0; have b1 := rowcell R1 1; have b2 := rowcell R1 2; have b3 := rowcell R1 3; have b4 := rowcell R1 4; have b5 := rowcell R1 5; simp only [List.getElem?_toArray, List.getElem?_cons_zero, List.getElem?_cons_succ] at b0 b1 b2 b3 b4 b5; have HR1 : Hid _ := R1; have HB1 : Hid (Below _ _ _) := hb1; clear hb1 R1)
      | (go_at_call 34; go_must (refine (k2 _).mono ?_); rintro e w2 ⟨rfl, hb2⟩; have R2 := (hb2.block w.heap.size (by simp; omega)).trans ((Below.heap_alloc w1 _ _ z1).trans HR1.out); have S2 := (hb2.block w1.heap.size (by simp)).trans (rownew w1 _ _); have z2 : w1.heap.size < w2.heap.size := (by have := hb2.size; simp at this; omega); have y2 : w.heap.size < w2.heap.size := (Nat.lt_trans z1 z2); have c0 := rowcell R2 0; have c2 := rowcell R2 2; simp only [List.getElem?_toArray, List.getElem?_cons_zero, List.getElem?_cons_succ] at c0 c2; have s1 := rowcell S2 1; have s2 := rowcell S2 2; have s4 := rowcell S2 4; simp only [List.getElem?_toArray, List.getElem?_cons_zero, List.getElem?_cons_succ] at s1 s2 s4; have HR2 : Hid _ := R2; have HS2 : Hid _ := S2; have HB2 : Hid (Below _ _ _) := hb2; clear hb2 R2 S2)
      | (go_at_call 17; go_must (refine (k3 _).mono ?_); rintro e w3 ⟨rfl, hb3⟩; have R3 := (hb3.block w.heap.size y2).trans HR2.out; have S3 := (hb3.block w1.heap.size z2).trans HS2.out; have z3 : w1.heap.size < w3.heap.size := rowlt S3; have y3 : w.heap.size < w3.heap.size := rowlt R3; have d2 := rowcell R3 2; simp only [List.getElem?_toArray, List.getElem?_cons_zero, List.getElem?_cons_succ] at d2; have t1 := rowcell S3 1; have t2 := rowcell S3 2; have t4 := rowcell S3 4; simp only [List.getElem?_toArray, List.getElem?_cons_zero, List.getElem?_cons_succ] at t1 t2 t4; have HB3 : Hid (Below _ _ _) := hb3; clear hb3 R3 S3))
    go_ret3
    exact hQ.out _ _ ⟨rfl, cmore (cthen (cthen (cmore (cthen (cmore (Below.refl _ _) _) HB1.out) _) HB2.out) HB3.out) _⟩
  · rw [hc] at hQ
    have g1 : decide (4 * (n : Int) - 8 ≤ s) = false := decide_eq_false ct
    have g2 : decide (s < 8 - 4 * (n : Int)) = true := decide_eq_true cl
    generalize 4 * (n : Int) - 8 = tv at *
    generalize 8 - 4 * (n : Int) = lv at *
    generalize 2 ^ (n - 1) - 1 = mv at *
    generalize 2 ^ (n - 1) = nv at *
    unfold exV at *
    clear hc ct cl hn hs h hw htv
    go_enter Tryz.func36, Tryz.ntmps36
    go_wp2_with (first
      | (go_at_call 68; go_must (refine (k1 _).mono ?_); rintro e w1 ⟨rfl, hb1⟩; have R1 := (hb1.block w.heap.size (by simp)).trans (rownew w _ _); have z1 : w.heap.size < w1.heap.size := (by have := hb1.size; simp at this; omega); have hne1 : ¬ w.heap.size = w1.heap.size := (by omega); have hne2 : ¬ w1.heap.size = w.heap.size := (by omega); have b0 := rowcell R1 0; have b1 := rowcell R1 1; have b2 := rowcell R1 2; have b3 := rowcell R1 3; have b4 := rowcell R1 4; have b5 := rowcell R1 5; simp only [List.getElem?_toArray, List.getElem?_cons_zero, List.getElem?_cons_succ] at b0 b1 b2 b3 b4 b5; have HR1 : Hid _ := R1; have HB1 : Hid (Below _ _ _) := hb1; clear hb1 R1)
      | (go_at_call 34; go_must (refine (k2 _).mono ?_); rintro e w2 ⟨rfl, hb2⟩; have R2 := (hb2.block w.heap.size (by simp; omega)).trans ((Below.heap_alloc w1 _ _ z1).trans HR1.out); have S2 := (hb2.block w1.heap.size (by simp)).trans (rownew w1 _ _); have z2 : w1.heap.size < w2.heap.size := (by have := hb2.size; simp at this; omega); have y2 : w.heap.size < w2.heap.size := (Nat.lt_trans z1 z2); have c0 := rowcell R2 0; have c2 := rowcell R2 2; simp only [List.getElem?_toArray, List.getElem?_cons_zero, List.getElem?_cons_succ] at c0 c2; have s1 := rowcell S2 1; have s2 := rowcell S2 2; have s4 := rowcell S2 4; simp only [List.getElem?_toArray, List.getElem?_cons_zero, List.getElem?_cons_succ] at s1 s2 s4; have HR2 : Hid _ := R2; have HS2 : Hid _ := S2; have HB2 : Hid (Below _ _ _) := hb2; clear hb2 R2 S2)
      | (go_at_call 17; go_must (refine (k3 _).mono ?_); rintro e w3 ⟨rfl, hb3⟩; have R3 := (hb3.block w.heap.size y2).trans HR2.out; have S3 := (hb3.block w1.heap.size z2).trans HS2.out; have z3 : w1.heap.size < w3.heap.size := rowlt S3; have y3 : w.heap.size < w3.heap.size := rowlt R3; have d2 := rowcell R3 2; simp only [List.getElem?_toArray, List.getElem?_cons_zero, List.getElem?_cons_succ] at d2; have t1 := rowcell S3 1; have t2 := rowcell S3 2; have t4 := rowcell S3 4; simp only [List.getElem?_toArray, List.getElem?_cons_zero, List.getElem?_cons_succ] at t1 t2 t4; have HB3 : Hid (Below _ _ _) := hb3; clear hb3 R3 S3))
    go_ret3
    exact hQ.out _ _ ⟨rfl, cmore (cthen (cthen (cmore (cthen (cmore (Below.refl _ _) _) HB1.out) _) HB2.out) HB3.out) _⟩
  · rw [hc] at hQ
    have k4 := rcutstr_any n neg s hi lo rest hn h (by omega) (by omega)
    have g1 : decide (4 * (n : Int) - 8 ≤ s) = false := decide_eq_false ct
    have g2 : decide (s < 8 - 4 * (n : Int)) = false := decide_eq_false cl
    generalize 4 * (n : Int) - 8 = tv at *
    generalize 8 - 4 * (n : Int) = lv at *
    generalize numOf ((strX s hi lo).take (n - 1)) = P at *
    generalize leftL ((strX s hi lo).drop (n - 1)) rest = L at *
    generalize 2 ^ (n - 1) - 1 = mv at *
    generalize 2 ^ (n - 1) = nv at *
    unfold exV at *
    clear hc ct cl hn hs h hw htv
    go_enter Tryz.func36, Tryz.ntmps36
    go_wp2_with (first
      | (go_at_call 68; go_must (refine (k1 _).mono ?_); rintro e w1 ⟨rfl, hb1⟩; have R1 := (hb1.block w.heap.size (by simp)).trans (rownew w _ _); have z1 : w.heap.size < w1.heap.size := (by have := hb1.size; simp at this; omega); have hne1 : ¬ w.heap.size = w1.heap.size := (by omega); have hne2 : ¬ w1.heap.size = w.heap.size := (by omega); have b0 := rowcell R1 0; have b1 := rowcell R1 1; have b2 := rowcell R1 2; have b3 := rowcell R1 3; have b4 := rowcell R1 4; have b5 := rowcell R1 5; simp only [List.getElem?_toArray, List.getElem?_cons_zero, List.getElem?_cons_succ] at b0 b1 b2 b3 b4 b5; have HR1 : Hid _ := R1; have HB1 : Hid (Below _ _ _) := hb1; clear hb1 R1)
      | (go_at_call 34; go_must (refine (k2 _).mono ?_); rintro e w2 ⟨rfl, hb2⟩; have R2 := (hb2.block w.heap.size (by simp; omega)).trans ((Below.heap_alloc w1 _ _ z1).trans HR1.out); have S2 := (hb2.block w1.heap.size (by simp)).trans (rownew w1 _ _); have z2 : w1.heap.size < w2.heap.size := (by have := hb2.size; simp at this; omega); have y2 : w.heap.size < w2.heap.size := (Nat.lt_trans z1 z2); have c0 := rowcell R2 0; have c2 := rowcell R2 2; simp only [List.getElem?_toArray, List.getElem?_cons_zero, List.getElem?_cons_succ] at c0 c2; have s1 := rowcell S2 1; have s2 := rowcell S2 2; have s4 := rowcell S2 4; simp only [List.getElem?_toArray, List.getElem?_cons_zero, List.getElem?_cons_succ] at s1 s2 s4; have HR2 : Hid _ := R2; have HS2 : Hid _ := S2; have HB2 : Hid (Below _ _ _) := hb2; clear hb2 R2 S2)
      | (go_at_call 17; go_must (refine (k3 _).mono ?_); rintro e w3 ⟨rfl, hb3⟩; have R3 := (hb3.block w.heap.size y2).trans HR2.out; have S3 := (hb3.block w1.heap.size z2).trans HS2.out; have z3 : w1.heap.size < w3.heap.size := rowlt S3; have y3 : w.heap.size < w3.heap.size := rowlt R3; have d0 := rowcell R3 0; have d1 := rowcell R3 1; have d2 := rowcell R3 2; have d3 := rowcell R3 3; have d4 := rowcell R3 4; have d5 := rowcell R3 5; simp only [List.getElem?_toArray, List.getElem?_cons_zero, List.getElem?_cons_succ] at d0 d1 d2 d3 d4 d5; have t1 := rowcell S3 1; have t2 := rowcell S3 2; have t4 := rowcell S3 4; simp only [List.getElem?_toArray, List.getElem?_cons_zero, List.getElem?_cons_succ] at t1 t2 t4; have HB3 : Hid (Below _ _ _) := hb3; clear hb3 R3 S3)
      | (go_at_call 69; go_must (refine (k4 _).mono ?_); rintro e w4 ⟨rfl, hb4⟩; have HB4 : Hid (Below _ _ _) := hb4; clear hb4))
    go_ret3
    exact hQ.out _ _ ⟨rfl, cthen (cmore (cthen (cthen (cmore (cthen (cmore (Below.refl _ _) _) HB1.out) _) HB2.out) HB3.out) _) HB4.out⟩
end Go.Proofs.YtheliihkkoohnaaGreat

namespace Go.Proofs.YtheliihkkoohnaaGreat
open Go.ChangeShapes Go.WideShapes Go.ChangeAt Go.RowKit
set_option linter.unusedVariables false
set_option linter.unusedSimpArgs false
set_option maxRecDepth 100000

/-! ### Of -/
theorem rndof_ok (k : Int) (neg : Bool) (s : Int) (f : Nat) (hf : f < 2 ^ 64) (hs : soundN k neg s f = true) (w : World) :
    Calls Tryz.prog 18 #[numV k neg s f] w fun e w' => e = .returned (.tuple #[exV k neg s f 0 false, .nilIface]) ∧ Below w.heap.size w w' := by
  have k2 := rsound_any k neg s f 0 false 1073741824 hf (by decide)
  rw [soundF_N, hs] at k2
  unfold numV exV at *
  rw [show ((0 : Nat) : Int) = 0 from rfl] at *
  clear hs
  refine cps fun Q hQ => ?_
  go_enter Tryz.func18, Tryz.ntmps18
  go_wp2_with (go_at_call 34; refine (k2 _).mono ?_; rintro e w2 ⟨rfl, hb2⟩; have RR := (hb2.block (w.heap.size + 1) (by simp)).trans ((Below.heap_alloc ((w.alloc _).alloc _) _ _ (by simp)).trans (rownew' _ _ _ _ (by simp))); have r0 := rowcell RR 0; have r1 := rowcell RR 1; have r2 := rowcell RR 2; have r3 := rowcell RR 3; have r4 := rowcell RR 4; have r5 := rowcell RR 5; have rf := rowfree RR; simp only [List.getElem?_toArray, List.getElem?_cons_zero, List.getElem?_cons_succ] at r0 r1 r2 r3 r4 r5; have RY := (hb2.block (w.heap.size + 2) (by simp)).trans (rownew' _ _ _ _ (by simp)); have y0 := rowcell RY 0; have y1 := rowcell RY 1; have y2 := rowcell RY 2; have y3 := rowcell RY 3; have y4 := rowcell RY 4; have y5 := rowcell RY 5; simp only [List.getElem?_toArray, List.getElem?_cons_zero, List.getElem?_cons_succ] at y0 y1 y2 y3 y4 y5; have HB2 : Hid (Below _ _ _) := cthen (cmore (cmore (cmore (Below.refl _ _) _) _) _) hb2; clear hb2 RR RY)
  refine bodyPost_ret (v := .tuple #[.agg #[.int .i64 k, .bool neg, .int .i64 s, .int .u64 f, .int .u64 0, .bool false], .nilIface]) (by simp [results, Tryz.results18, go_sem, r0, r1, r2, r3, r4, r5]) rfl (hQ.out _ _ ⟨rfl, ?_⟩)
  have hle : w.heap.size ≤ w.heap.size + 1 := by omega
  exact cset (cset (cset (cset (cset (cset HB2.out hle _ _) hle _ _) hle _ _) hle _ _) hle _ _) hle _ _
/-! ### Round -/
theorem rround_plain (n : Int) (k : Int) (P : Nat) (w : World)
    (k1 : ∀ w, Calls Tryz.prog 36 #[.int .i64 n, exV k false 0 0 0 false] w fun e w' => e = .returned (.tuple #[.int .u64 P, .int .i64 0, .nilIface]) ∧ Below w.heap.size w w') :
    Calls Tryz.prog 20 #[.int .i64 n, exV k false 0 0 0 false] w fun e w' => e = .returned (.tuple #[.int .u64 P, .nilIface]) ∧ Below w.heap.size w w' := by
  unfold exV at *
  refine cps fun Q hQ => ?_
  go_enter Tryz.func20, Tryz.ntmps20
  go_wp2_with (go_at_call 36; refine (k1 _).mono ?_; rintro e w2 ⟨rfl, hb2⟩; have hc := fun b o h => hb2.cell (p := ⟨b, o, none⟩) h; have z1 : w.heap.size < w2.heap.size := (by have := hb2.size; simp at this; omega))
  exact hQ.out _ _ ⟨rfl, cthen (cmore (Below.refl _ _) _) hb2⟩
theorem rround_zero (n : Nat) (hn : Wd n) (w : World) :
    Calls Tryz.prog 20 #[.int .i64 n, exV 0 false 0 0 0 false] w fun e w' => e = .returned (.tuple #[.int .u64 0, .nilIface]) ∧ Below w.heap.size w w' :=
  rround_plain n 0 0 w (rcut_zero n hn)
theorem rround_nar (n : Nat) (hn : Wd n) (w : World) :
    Calls Tryz.prog 20 #[.int .i64 n, exV 2 false 0 0 0 false] w fun e w' => e = .returned (.tuple #[.int .u64 (2 ^ (n - 1) : Nat), .nilIface]) ∧ Below w.heap.size w w' :=
  rround_plain n 2 (2 ^ (n - 1)) w (rcut_nar n hn)
set_option maxHeartbeats 2000000 in
theorem rround_real (n : Nat) (neg : Bool) (s : Int) (hi lo : Nat) (rest : Bool) (hn : Wd n) (hs : soundX 1 neg s hi lo rest = true) (h : WordsX hi lo) (w : World) :
    Calls Tryz.prog 20 #[.int .i64 n, exV 1 neg s hi lo rest] w fun e w' => e = .returned (.tuple #[.int .u64 (patR n neg (rndX n s hi lo rest)), .nilIface]) ∧ Below w.heap.size w w' := by
  have k1 := rcut_real n neg s hi lo rest hn hs h
  obtain ⟨r1, r2⟩ := rnd_range n s hi lo rest hn h
  obtain ⟨H, e1, e2, e3, _⟩ := wd_pows hn
  have hw := wd_le hn
  have hH : H ≤ 2 ^ 63 := by rw [← e2]; exact Nat.pow_le_pow_right (by decide) (by omega)
  have k2 := fold_ok n (minusU (rndX n s hi lo rest)) hn (minusU_lt _)
  have hneg : minusU (rndX n s hi lo rest) % 2 ^ n = 2 ^ n - rndX n s hi lo rest := by
    rw [minusU_mod n _ hn (by omega), Nat.mod_eq_of_lt (a := rndX n s hi lo rest) (by omega), Nat.mod_eq_of_lt (by omega)]
  rw [hneg] at k2
  have hmw := minusU_wrap (rndX n s hi lo rest) (by omega)
  have HR : Hid (rndX n s hi lo rest = roundP (cutX n s hi lo rest).1 (cutX n s hi lo rest).2) := rfl
  have hle := (roundP_le (cutX n s hi lo rest).1 (cutX n s hi lo rest).2).1
  have hle2 : (cutX n s hi lo rest).1 ≤ rndX n s hi lo rest := hle
  unfold patR
  generalize 2 ^ n - rndX n s hi lo rest = M at *
  generalize minusU (rndX n s hi lo rest) = U at *
  generalize (cutX n s hi lo rest).1 = P at *
  generalize (cutX n s hi lo rest).2 = l at *
  generalize rndX n s hi lo rest = R at *
  unfold exV at *
  rw [e2] at r2
  have hR63 : R < 2 ^ 63 := by omega
  clear hn hs h hneg e1 e2 e3 hle r2 hH
  have hup : (l = 3 ∨ (l = 2 ∧ P % 2 = 1)) → P + 1 = R := fun c => by rw [HR.out]; unfold roundP; rw [if_pos c]
  have hst : ¬ (l = 3 ∨ (l = 2 ∧ P % 2 = 1)) → P = R := fun c => by rw [HR.out]; unfold roundP; rw [if_neg c]
  have ew : IntKind.u64.wrap ((P : Int) + 1) = (P : Int) + 1 := by rw [IntKind.wrap_u64]; omega
  refine cps fun Q hQ => ?_
  by_cases c : l = 3 ∨ (l = 2 ∧ P % 2 = 1)
  · have hP := hup c
    have hc2 : ((P : Int) + 1) = (R : Int) := by omega
    have ew2 : IntKind.u64.wrap ((P : Int) + 1) = (R : Int) := by rw [ew, hc2]
    clear hup hst hP hc2 ew
    rcases c with rfl | ⟨rfl, c⟩
    · cases neg
      · go_enter Tryz.func20, Tryz.ntmps20
        go_wp2_with (first
          | (go_at_call 36; refine (k1 _).mono ?_; rintro e w2 ⟨rfl, hb2⟩; have a1 := ((hb2.cell (p := ⟨w.heap.size, 1, none⟩) (by simp)).trans (rowcell (rownew w _ _) 1)); simp only [List.getElem?_toArray, List.getElem?_cons_zero, List.getElem?_cons_succ] at a1; have z1 : w.heap.size < w2.heap.size := (by have := hb2.size; simp at this; omega)))
        exact hQ.out _ _ ⟨rfl, cthen (cmore (Below.refl _ _) _) hb2⟩
      · go_enter Tryz.func20, Tryz.ntmps20
        go_wp2_with (first
          | (go_at_call 36; refine (k1 _).mono ?_; rintro e w2 ⟨rfl, hb2⟩; have a1 := ((hb2.cell (p := ⟨w.heap.size, 1, none⟩) (by simp)).trans (rowcell (rownew w _ _) 1)); simp only [List.getElem?_toArray, List.getElem?_cons_zero, List.getElem?_cons_succ] at a1; have z1 : w.heap.size < w2.heap.size := (by have := hb2.size; simp at this; omega))
          | (go_at_call 37; refine (k2 _).mono ?_; rintro e w4 ⟨rfl, hb4⟩))
        exact hQ.out _ _ ⟨rfl, cthen (cthen (cmore (Below.refl _ _) _) hb2) hb4⟩
    · have m2 : (Int.tmod (P : Int) 2) = (P : Int) % 2 := Int.tmod_eq_emod_of_nonneg (by omega)
      have m3 : (P : Int) % 2 = 1 := by omega
      clear c
      cases neg
      · go_enter Tryz.func20, Tryz.ntmps20
        go_wp2_with (first
          | (go_at_call 36; refine (k1 _).mono ?_; rintro e w2 ⟨rfl, hb2⟩; have a1 := ((hb2.cell (p := ⟨w.heap.size, 1, none⟩) (by simp)).trans (rowcell (rownew w _ _) 1)); simp only [List.getElem?_toArray, List.getElem?_cons_zero, List.getElem?_cons_succ] at a1; have z1 : w.heap.size < w2.heap.size := (by have := hb2.size; simp at this; omega)))
        exact hQ.out _ _ ⟨rfl, cthen (cmore (Below.refl _ _) _) hb2⟩
      · go_enter Tryz.func20, Tryz.ntmps20
        go_wp2_with (first
          | (go_at_call 36; refine (k1 _).mono ?_; rintro e w2 ⟨rfl, hb2⟩; have a1 := ((hb2.cell (p := ⟨w.heap.size, 1, none⟩) (by simp)).trans (rowcell (rownew w _ _) 1)); simp only [List.getElem?_toArray, List.getElem?_cons_zero, List.getElem?_cons_succ] at a1; have z1 : w.heap.size < w2.heap.size := (by have := hb2.size; simp at this; omega))
          | (go_at_call 37; refine (k2 _).mono ?_; rintro e w4 ⟨rfl, hb4⟩))
        exact hQ.out _ _ ⟨rfl, cthen (cthen (cmore (Below.refl _ _) _) hb2) hb4⟩
  · have hP := hst c
    subst hP
    clear hup hst
    have d3 : ((l : Int) == 3) = false := beq_eq_false_iff_ne.2 (by omega)
    by_cases h2 : l = 2
    · subst h2
      have m3 : (P : Int) % 2 = 0 := by omega
      have m2 : (Int.tmod (P : Int) 2) = (P : Int) % 2 := Int.tmod_eq_emod_of_nonneg (by omega)
      clear c
      cases neg
      · go_enter Tryz.func20, Tryz.ntmps20
        go_wp2_with (first
          | (go_at_call 36; refine (k1 _).mono ?_; rintro e w2 ⟨rfl, hb2⟩; have a1 := ((hb2.cell (p := ⟨w.heap.size, 1, none⟩) (by simp)).trans (rowcell (rownew w _ _) 1)); simp only [List.getElem?_toArray, List.getElem?_cons_zero, List.getElem?_cons_succ] at a1; have z1 : w.heap.size < w2.heap.size := (by have := hb2.size; simp at this; omega)))
        exact hQ.out _ _ ⟨rfl, cthen (cmore (Below.refl _ _) _) hb2⟩
      · go_enter Tryz.func20, Tryz.ntmps20
        go_wp2_with (first
          | (go_at_call 36; refine (k1 _).mono ?_; rintro e w2 ⟨rfl, hb2⟩; have a1 := ((hb2.cell (p := ⟨w.heap.size, 1, none⟩) (by simp)).trans (rowcell (rownew w _ _) 1)); simp only [List.getElem?_toArray, List.getElem?_cons_zero, List.getElem?_cons_succ] at a1; have z1 : w.heap.size < w2.heap.size := (by have := hb2.size; simp at this; omega))
          | (go_at_call 37; refine (k2 _).mono ?_; rintro e w4 ⟨rfl, hb4⟩))
        exact hQ.out _ _ ⟨rfl, cthen (cthen (cmore (Below.refl _ _) _) hb2) hb4⟩
    · have d2 : ((l : Int) == 2) = false := beq_eq_false_iff_ne.2 (by omega)
      clear c h2
      cases neg
      · go_enter Tryz.func20, Tryz.ntmps20
        go_wp2_with (first
          | (go_at_call 36; refine (k1 _).mono ?_; rintro e w2 ⟨rfl, hb2⟩; have a1 := ((hb2.cell (p := ⟨w.heap.size, 1, none⟩) (by simp)).trans (rowcell (rownew w _ _) 1)); simp only [List.getElem?_toArray, List.getElem?_cons_zero, List.getElem?_cons_succ] at a1; have z1 : w.heap.size < w2.heap.size := (by have := hb2.size; simp at this; omega)))
        exact hQ.out _ _ ⟨rfl, cthen (cmore (Below.refl _ _) _) hb2⟩
      · go_enter Tryz.func20, Tryz.ntmps20
        go_wp2_with (first
          | (go_at_call 36; refine (k1 _).mono ?_; rintro e w2 ⟨rfl, hb2⟩; have a1 := ((hb2.cell (p := ⟨w.heap.size, 1, none⟩) (by simp)).trans (rowcell (rownew w _ _) 1)); simp only [List.getElem?_toArray, List.getElem?_cons_zero, List.getElem?_cons_succ] at a1; have z1 : w.heap.size < w2.heap.size := (by have := hb2.size; simp at this; omega))
          | (go_at_call 37; refine (k2 _).mono ?_; rintro e w4 ⟨rfl, hb4⟩))
        exact hQ.out _ _ ⟨rfl, cthen (cthen (cmore (Below.refl _ _) _) hb2) hb4⟩
end Go.Proofs.YtheliihkkoohnaaGreat

namespace Go.Proofs.YtheliihkkoohnaaGreat
open Go.ChangeShapes Go.WideShapes Go.ChangeAt Go.RowKit
set_option linter.unusedVariables false
set_option linter.unusedSimpArgs false
set_option maxRecDepth 100000

/-! ### package sum: two reals held against each other, their signs apart -/
def cmpZ (x y : Int) : Int := if x < y then -1 else if y < x then 1 else 0
theorem mnan_any (x : Int) (w : World) : Calls Tryz.prog 123 #[.int .i64 x] w fun e w' => e = .returned (.bool false) ∧ w' = w := by
  refine cps fun Q hQ => ?_
  go_enter Tryz.func123, Tryz.ntmps123
  go_wp2
  exact hQ.out _ _ ⟨by simp, rfl⟩
theorem mcompare_any (x y : Int) (w : World) : Calls Tryz.prog 97 #[.int .i64 x, .int .i64 y] w fun e w' => e = .returned (.int .i64 (cmpZ x y)) ∧ w' = w := by
  refine cps fun Q hQ => ?_
  have hE : (x < y ∧ cmpZ x y = -1) ∨ (y < x ∧ cmpZ x y = 1) ∨ (x = y ∧ cmpZ x y = 0) := by
    unfold cmpZ; split
    · exact .inl ⟨by assumption, rfl⟩
    · split
      · exact .inr (.inl ⟨by assumption, rfl⟩)
      · exact .inr (.inr ⟨by omega, rfl⟩)
  rcases hE with ⟨h, hE⟩ | ⟨h, hE⟩ | ⟨rfl, hE⟩
  · have d1 : decide (x < y) = true := decide_eq_true h
    rw [hE] at hQ
    clear h hE
    go_enter Tryz.func97, Tryz.ntmps97
    go_wp2_with (go_at_call 123; refine (mnan_any _ _).mono ?_; rintro e w' ⟨rfl, hw⟩; rw [hw]; clear hw w')
    exact hQ.out _ _ ⟨rfl, rfl⟩
  · have d1 : decide (x < y) = false := decide_eq_false (by omega)
    have d2 : decide (y < x) = true := decide_eq_true h
    rw [hE] at hQ
    clear h hE
    go_enter Tryz.func97, Tryz.ntmps97
    go_wp2_with (go_at_call 123; refine (mnan_any _ _).mono ?_; rintro e w' ⟨rfl, hw⟩; rw [hw]; clear hw w')
    exact hQ.out _ _ ⟨rfl, rfl⟩
  · have d1 : decide (x < x) = false := decide_eq_false (by omega)
    rw [hE] at hQ
    clear hE
    go_enter Tryz.func97, Tryz.ntmps97
    go_wp2_with (go_at_call 123; refine (mnan_any _ _).mono ?_; rintro e w' ⟨rfl, hw⟩; rw [hw]; clear hw w')
    exact hQ.out _ _ ⟨rfl, rfl⟩
/-- below 0 just where the second is the greater -/
def cmpR2 (s : Int) (f : Nat) (s' : Int) (g : Nat) : Int := if cmpZ s s' = 0 then cmpN f g else cmpZ s s'
theorem cmpR2_lt (s : Int) (f : Nat) (s' : Int) (g : Nat) : cmpR2 s f s' g < 0 ↔ s < s' ∨ (s = s' ∧ f < g) := by
  unfold cmpR2 cmpZ cmpN
  repeat' split
  all_goals constructor <;> intro h <;> omega
end Go.Proofs.YtheliihkkoohnaaGreat

namespace Go.Proofs.YtheliihkkoohnaaGreat
open Go.ChangeShapes Go.WideShapes Go.ChangeAt Go.RowKit
set_option linter.unusedVariables false
set_option linter.unusedSimpArgs false
set_option maxRecDepth 100000

/-! ### numbers of 256 bits, the lowest word first -/
end Go.Proofs.YtheliihkkoohnaaGreat

namespace Go.Proofs.YtheliihkkoohnaaGreat
open Go.ChangeShapes Go.WideShapes Go.ChangeAt Go.RowKit
set_option linter.unusedVariables false
set_option linter.unusedSimpArgs false
set_option maxRecDepth 100000

/-! ### sums and differences of 256 bits -/
theorem rowset_other {w : World} {m g : Nat} {c : Array Value} {t : TypeId} {o : Nat} {v : Value} (h : w.heap[m]? = some (.cells c t (0, 0))) (hne : m ≠ g) : (w.setCell ⟨g, o, none⟩ v).drew.heap[m]? = some (.cells c t (0, 0)) := by
  show (w.setCell ⟨g, o, none⟩ v).heap[m]? = _
  rw [heap_setCell_other w _ m _ hne]
  exact h
end Go.Proofs.YtheliihkkoohnaaGreat

namespace Go.Proofs.YtheliihkkoohnaaGreat
open Go.ChangeShapes Go.WideShapes Go.ChangeAt Go.RowKit
set_option linter.unusedVariables false
set_option linter.unusedSimpArgs false
set_option maxRecDepth 100000

/-! ### numbers of four words (plain mathematics) -/
structure Qw (n a b c d : Nat) : Prop where
  eq : n = a + b * 18446744073709551616 + c * 340282366920938463463374607431768211456 + d * 6277101735386680763835789423207666416102355444464034512896
  h0 : a ≤ 18446744073709551615
  h1 : b ≤ 18446744073709551615
  h2 : c ≤ 18446744073709551615
  h3 : d ≤ 18446744073709551615
theorem Qw.one {n a b c d a' b' c' d' : Nat} (h : Qw n a b c d) (g : Qw n a' b' c' d') : a = a' ∧ b = b' ∧ c = c' ∧ d = d' := by
  obtain ⟨e, h0, h1, h2, h3⟩ := h
  obtain ⟨e', g0, g1, g2, g3⟩ := g
  omega
theorem Qw.lt {n a b c d : Nat} (h : Qw n a b c d) : n < 115792089237316195423570985008687907853269984665640564039457584007913129639936 := by
  obtain ⟨e, h0, h1, h2, h3⟩ := h
  omega
/-- a word shifted up, and what goes over -/
theorem word_up (x few G : Nat) (h : few + G = 64) : x * 2 ^ few = (x / 2 ^ G) * 18446744073709551616 + x * 2 ^ few % 18446744073709551616 := by
  have e : 18446744073709551616 = 2 ^ G * 2 ^ few := by rw [← Nat.pow_add, Nat.add_comm, h]
  have hp : 0 < 2 ^ few := Nat.pow_pos (by decide)
  have := Nat.div_add_mod (x * 2 ^ few) 18446744073709551616
  rw [show x * 2 ^ few / 18446744073709551616 = x / 2 ^ G by rw [e, Nat.mul_div_mul_right _ _ hp]] at this
  omega
theorem word_join (x y few G : Nat) (h : few + G = 64) (hy : y ≤ 18446744073709551615) :
    (x * 2 ^ few % 18446744073709551616) ||| (y / 2 ^ G) = x * 2 ^ few % 18446744073709551616 + y / 2 ^ G ∧ x * 2 ^ few % 18446744073709551616 + y / 2 ^ G ≤ 18446744073709551615 := by
  have e : 18446744073709551616 = 2 ^ G * 2 ^ few := by rw [← Nat.pow_add, Nat.add_comm, h]
  have hp : 0 < 2 ^ few := Nat.pow_pos (by decide)
  have hg : 0 < 2 ^ G := Nat.pow_pos (by decide)
  have h1 : y / 2 ^ G < 2 ^ few := Nat.div_lt_of_lt_mul (by rw [← e]; omega)
  have h2 : x * 2 ^ few % 18446744073709551616 = (x % 2 ^ G) * 2 ^ few := by rw [e, Nat.mul_mod_mul_right]
  rw [h2]
  refine ⟨by rw [← Nat.shiftLeft_eq, ← Nat.shiftLeft_add_eq_or_of_lt h1], ?_⟩
  have h3 := Nat.mod_lt x hg
  have h4 : (x % 2 ^ G + 1) * 2 ^ few ≤ 2 ^ G * 2 ^ few := Nat.mul_le_mul h3 (Nat.le_refl _)
  rw [Nat.add_mul, Nat.one_mul, ← e] at h4
  omega
theorem mlz_any (x : Nat) (hx : x ≤ 18446744073709551615) (w : World) :
    Calls Tryz.prog 93 #[.int .u64 x] w fun e w' => e = .returned (.int .i64 (64 - (blen x : Int))) ∧ w' = w := by
  have hl : blen x ≤ 64 := blen_le.2 (by omega)
  have k1 := fun w => len64_any x (by omega) w
  rw [bitLen_eq x hx] at k1
  generalize blen x = L at *
  refine cps fun Q hQ => ?_
  go_enter Tryz.func93, Tryz.ntmps93
  go_wp2_with (go_at_call 122; refine (k1 _).mono ?_; rintro e w' ⟨rfl, rfl⟩)
  exact hQ.out _ _ ⟨rfl, rfl⟩
end Go.Proofs.YtheliihkkoohnaaGreat

namespace Go.Proofs.YtheliihkkoohnaaGreat
open Go.ChangeShapes Go.WideShapes Go.ChangeAt Go.RowKit
set_option linter.unusedVariables false
set_option linter.unusedSimpArgs false
set_option maxRecDepth 100000

/-! ### Make -/
theorem rmake_zero (neg : Bool) (exp : Int) (w : World) :
    Calls Tryz.prog 50 #[.bool neg, .int .u64 0, .int .u64 0, .int .i64 exp, .bool false] w fun e w' => e = .returned (.tuple #[exV 0 false 0 0 0 false, .nilIface]) ∧ Below w.heap.size w w' := by
  have k1 := tnorm_zero
  unfold exV
  refine cps fun Q hQ => ?_
  go_enter Tryz.func50, Tryz.ntmps50
  go_wp2_with (go_at_call 90; refine (k1 _).mono ?_; rintro e w2 ⟨rfl, hb2⟩; have RR := (hb2.block w.heap.size (by simp)).trans (rownew' _ _ _ _ rfl); have z2 : w.heap.size < w2.heap.size := (by have := hb2.size; simp at this; omega); have r0 := rowcell RR 0; have r1 := rowcell RR 1; have r2 := rowcell RR 2; have r3 := rowcell RR 3; have r4 := rowcell RR 4; have r5 := rowcell RR 5; have rf := rowfree RR; simp only [List.getElem?_toArray, List.getElem?_cons_zero, List.getElem?_cons_succ] at r0 r1 r2 r3 r4 r5; have HB2 : Hid (Below _ _ _) := cthen (cmore (Below.refl _ _) _) hb2; clear hb2 RR)
  refine bodyPost_ret (v := .tuple #[.agg #[.int .i64 0, .bool false, .int .i64 0, .int .u64 0, .int .u64 0, .bool false], .nilIface]) (by simp [results, Tryz.results50, go_sem, r0, r1, r2, r3, r4, r5, z2]) rfl (hQ.out _ _ ⟨rfl, ?_⟩)
  exact cmore (cset6 HB2.out (Nat.le_refl _)) _
theorem norm_shift {M k : Nat} (hM : blen M ≤ 128) (hk : k + blen M = 128) : normN M = M * 2 ^ k ∧ lostN M = false := by
  constructor
  · unfold normN
    by_cases h : blen M < 128
    · rw [if_pos h, show 128 - blen M = k by omega]
    · rw [if_neg h, show blen M - 128 = 0 by omega, show k = 0 by omega, Nat.pow_zero, Nat.div_one, Nat.mul_one]
  · unfold lostN
    rw [decide_eq_false (show ¬ 128 < blen M by omega), Bool.false_and]
set_option maxHeartbeats 1000000 in
theorem rmake_walk (neg : Bool) (hi lo : Nat) (exp : Int) (rest : Bool) (nh nl k : Nat) (m x hv : Int) (hne : ¬ (nh : Int) = 0) (g : rest = false ∨ ((hi : Int) / 9223372036854775808 == 0) = false)
    (k1 : ∀ w, Calls Tryz.prog 90 #[.agg #[.int .u64 hi, .int .u64 lo]] w fun e w' => e = .returned (.tuple #[.agg #[.int .u64 nh, .int .u64 nl], .int .i64 k]) ∧ Below w.heap.size w w')
    (hm : (if 1099511627776 < exp then 1099511627776 else exp) = m) (q1 : IntKind.i64.wrap (m + 127) = m + 127) (q2 : IntKind.i64.wrap (m + 127 - (k : Int)) = m + 127 - (k : Int))
    (hx : (if m + 127 - (k : Int) < -1099511627776 then -1099511627776 else m + 127 - (k : Int)) = x) (hy : (if 1099511627776 < x then 1099511627776 else x) = hv) (w : World) :
    Calls Tryz.prog 50 #[.bool neg, .int .u64 hi, .int .u64 lo, .int .i64 exp, .bool rest] w fun e w' => e = .returned (.tuple #[exV 1 neg hv nh nl rest, .nilIface]) ∧ Below w.heap.size w w' := by
  unfold exV
  refine cps fun Q hQ => ?_
  cases rest
  · clear g
    go_enter Tryz.func50, Tryz.ntmps50
    go_wp2_with (go_at_call 90; refine (k1 _).mono ?_; rintro e w2 ⟨rfl, hb2⟩; have RR := (hb2.block w.heap.size (by simp)).trans (rownew' _ _ _ _ rfl); have z2 : w.heap.size < w2.heap.size := (by have := hb2.size; simp at this; omega); have r0 := rowcell RR 0; have r1 := rowcell RR 1; have r2 := rowcell RR 2; have r3 := rowcell RR 3; have r4 := rowcell RR 4; have r5 := rowcell RR 5; have rf := rowfree RR; simp only [List.getElem?_toArray, List.getElem?_cons_zero, List.getElem?_cons_succ] at r0 r1 r2 r3 r4 r5; have HB2 : Hid (Below _ _ _) := cthen (cmore (Below.refl _ _) _) hb2; clear hb2 RR)
    all_goals
      refine bodyPost_ret (v := .tuple #[.agg #[.int .i64 1, .bool neg, .int .i64 hv, .int .u64 nh, .int .u64 nl, .bool false], .nilIface]) (by simp [results, Tryz.results50, go_sem, r0, r1, r2, r3, r4, r5, z2]) rfl (hQ.out _ _ ⟨rfl, ?_⟩)
      exact cmore (cset6 HB2.out (Nat.le_refl _)) _
  · have g : ((hi : Int) / 9223372036854775808 == 0) = false := by rcases g with g | g; cases g; exact g
    go_enter Tryz.func50, Tryz.ntmps50
    go_wp2_with (go_at_call 90; refine (k1 _).mono ?_; rintro e w2 ⟨rfl, hb2⟩; have RR := (hb2.block w.heap.size (by simp)).trans (rownew' _ _ _ _ rfl); have z2 : w.heap.size < w2.heap.size := (by have := hb2.size; simp at this; omega); have r0 := rowcell RR 0; have r1 := rowcell RR 1; have r2 := rowcell RR 2; have r3 := rowcell RR 3; have r4 := rowcell RR 4; have r5 := rowcell RR 5; have rf := rowfree RR; simp only [List.getElem?_toArray, List.getElem?_cons_zero, List.getElem?_cons_succ] at r0 r1 r2 r3 r4 r5; have HB2 : Hid (Below _ _ _) := cthen (cmore (Below.refl _ _) _) hb2; clear hb2 RR)
    all_goals
      refine bodyPost_ret (v := .tuple #[.agg #[.int .i64 1, .bool neg, .int .i64 hv, .int .u64 nh, .int .u64 nl, .bool true], .nilIface]) (by simp [results, Tryz.results50, go_sem, r0, r1, r2, r3, r4, r5, z2]) rfl (hQ.out _ _ ⟨rfl, ?_⟩)
      exact cmore (cset6 HB2.out (Nat.le_refl _)) _
theorem norm_tw {M : Nat} (h : M < 340282366920938463463374607431768211456) : Tw M (M / 2 ^ 64 % 2 ^ 64) (M % 2 ^ 64) := ⟨by omega, by omega, by omega⟩
theorem rmake_real (neg : Bool) (hi lo : Nat) (exp : Int) (rest : Bool) (hh : hi < 2 ^ 64) (hl : lo < 2 ^ 64) (he : -9223372036854775808 ≤ exp ∧ exp ≤ 9223372036854775807) (h : rest = false ∨ 9223372036854775808 ≤ hi) (h0 : manX hi lo ≠ 0) (w : World) :
    Calls Tryz.prog 50 #[.bool neg, .int .u64 hi, .int .u64 lo, .int .i64 exp, .bool rest] w fun e w' => e = .returned (.tuple #[exactV neg (manX hi lo) exp rest, .nilIface]) ∧ Below w.heap.size w w' := by
  have hM := manX_lt hh hl
  have hbl : blen (manX hi lo) ≤ 128 := blen_le.2 hM
  have hb1 : 1 ≤ blen (manX hi lo) := by rw [blen_pos h0]; omega
  obtain ⟨k, hk⟩ : ∃ k, k + blen (manX hi lo) = 128 := ⟨128 - blen (manX hi lo), by omega⟩
  obtain ⟨n1, n2⟩ := norm_shift hbl hk
  have hmt := (normN_mant h0).2
  have htop := (normN_words h0).top
  have hTM : Tw (manX hi lo) hi lo := ⟨rfl, by omega, by omega⟩
  have hN : normN (manX hi lo) < 340282366920938463463374607431768211456 := hmt
  have hTN := norm_tw hN
  have hTk : Tw ((manX hi lo * 2 ^ k) % 340282366920938463463374607431768211456) (normN (manX hi lo) / 2 ^ 64 % 2 ^ 64) (normN (manX hi lo) % 2 ^ 64) := by
    rw [← n1, Nat.mod_eq_of_lt hN]; exact hTN
  have k1 := fun w => tnorm_any hTM h0 hk hTk w
  have hv : exactV neg (manX hi lo) exp rest = exV 1 neg (heldX (exp + blen (manX hi lo) - 1)) (normN (manX hi lo) / 2 ^ 64 % 2 ^ 64) (normN (manX hi lo) % 2 ^ 64) rest := by
    unfold exactV; rw [if_neg h0, n2, Bool.or_false]
  rw [hv]
  have hkr : k ≤ 127 := by omega
  have hsc : exp + blen (manX hi lo) - 1 = exp + 127 - k := by omega
  rw [hsc]
  have hm : ∃ m, (if 1099511627776 < exp then 1099511627776 else exp) = m := ⟨_, rfl⟩
  obtain ⟨m, hm⟩ := hm
  have hmr : -9223372036854775808 ≤ m ∧ m ≤ 1099511627776 := by rw [← hm]; clear hTM hTN hTk k1 hmt hN htop; split <;> omega
  obtain ⟨x, hx⟩ : ∃ x, (if m + 127 - (k : Int) < -1099511627776 then -1099511627776 else m + 127 - (k : Int)) = x := ⟨_, rfl⟩
  have hy : (if 1099511627776 < x then 1099511627776 else x) = heldX (exp + 127 - k) := by
    clear hTM hTN hTk k1 hmt hN htop
    rw [← hx, ← hm]; unfold heldX
    by_cases c : 1099511627776 < exp
    · rw [if_pos c]
      repeat' split
      all_goals omega
    · rw [if_neg c]
      repeat' split
      all_goals omega
  have q1 : IntKind.i64.wrap (m + 127) = m + 127 := wrapI (by omega)
  have q2 : IntKind.i64.wrap (m + 127 - (k : Int)) = m + 127 - (k : Int) := wrapI (by omega)
  refine rmake_walk neg hi lo exp rest _ _ k m x _ ?_ ?_ k1 hm q1 q2 hx hy w
  · intro c; have c2 := Int.ofNat_eq_zero.1 c; rw [c2] at htop; exact absurd htop (by decide)
  · rcases h with h | h
    · exact .inl h
    · exact .inr (beq_eq_false_iff_ne.2 (by omega))
theorem rmake_ok (neg : Bool) (hi lo : Nat) (exp : Int) (rest : Bool) (hh : hi < 2 ^ 64) (hl : lo < 2 ^ 64) (he : -9223372036854775808 ≤ exp ∧ exp ≤ 9223372036854775807) (h : rest = false ∨ 9223372036854775808 ≤ hi) (w : World) :
    Calls Tryz.prog 50 #[.bool neg, .int .u64 hi, .int .u64 lo, .int .i64 exp, .bool rest] w fun e w' => e = .returned (.tuple #[exactV neg (manX hi lo) exp rest, .nilIface]) ∧ Below w.heap.size w w' := by
  by_cases h0 : manX hi lo = 0
  · have hz : hi = 0 ∧ lo = 0 := by unfold manX at h0; omega
    obtain ⟨rfl, rfl⟩ := hz
    have hr : rest = false := by rcases h with h | h; exact h; omega
    subst hr
    have hv : exactV neg (manX 0 0) exp false = exV 0 false 0 0 0 false := by unfold exactV; rw [if_pos h0]
    rw [hv]
    exact rmake_zero neg exp w
  · exact rmake_real neg hi lo exp rest hh hl he h h0 w
end Go.Proofs.YtheliihkkoohnaaGreat

namespace Go.Proofs.YtheliihkkoohnaaGreat
set_option maxRecDepth 100000
/-! ### the contracts of package round stand in RkD (Cut), RkE (Of, Round), RkF (Make) -/
end Go.Proofs.YtheliihkkoohnaaGreat

namespace Go.Proofs.YtheliihkkoohnaaGreat
open Go.ChangeShapes Go.WideShapes Go.ChangeAt Go.RowKit
set_option linter.unusedVariables false
set_option linter.unusedSimpArgs false
set_option maxRecDepth 100000

theorem soundX_cases {k : Int} {neg : Bool} {s : Int} {hi lo : Nat} {rest : Bool} (h : soundX k neg s hi lo rest = true) : (k = 0 ∧ neg = false ∧ s = 0 ∧ hi = 0 ∧ lo = 0 ∧ rest = false) ∨ (k = 2 ∧ neg = false ∧ s = 0 ∧ hi = 0 ∧ lo = 0 ∧ rest = false) ∨ k = 1 := by
  unfold soundX at h
  split at h
  · rename_i hk
    have := of_decide_eq_true h
    rcases hk with rfl | rfl
    · exact .inl ⟨rfl, this⟩
    · exact .inr (.inl ⟨rfl, this⟩)
  · exact .inr (.inr (of_decide_eq_true h).1)
end Go.Proofs.YtheliihkkoohnaaGreat

namespace Go.Proofs.YtheliihkkoohnaaGreat
set_option maxRecDepth 100000
set_option linter.unusedVariables false
set_option linter.unusedSimpArgs false

/-! ### what a string means, as the number of its string (plain mathematics: P7.5's ties) -/
theorem scaleL_range (t : List Bool) (hl : t.length ≤ 63) : -256 ≤ scaleL t ∧ scaleL t ≤ 255 := by
  have hex : expL t < 4 := by
    have := numOf_lt ((restL t ++ noughts 2).take 2)
    rw [show ((restL t ++ noughts 2).take 2).length = 2 by simp] at this
    exact this
  have h1 := runL_le t
  unfold scaleL regL
  split <;> omega
theorem words_of (t : List Bool) : WordsX (wordL t) 0 := ⟨(wordL_bounds t).1, (wordL_bounds t).2, by decide⟩
theorem strX_canon (s : Int) (f : Nat) : strX s f 0 = canon s f ++ noughts 64 := by
  have : bitsOf 0 64 = noughts 64 := by decide
  unfold strX canon digX
  rw [this]; simp
theorem zed_parse (t : List Bool) (ht : true ∈ t) (hl : t.length ≤ 63) : zed (scaleL t) (manX (wordL t) 0) = numOf t * 2 ^ (209 - t.length) := by
  obtain ⟨z, hz, _⟩ := canon_parse t ht (by omega)
  have hr := scaleL_range t hl
  obtain ⟨h1, h2⟩ := zed_str (scaleL t) (manX (wordL t) 0) (digX (wordL t) 0) (digX_length _ _) (digX_num (words_of t)) (by omega) (by omega)
  have e : headK (scaleL t / 4) ++ bitsOf (scaleL t % 4).toNat 2 ++ digX (wordL t) 0 = t ++ noughts (z + 64) := by
    have := strX_canon (scaleL t) (wordL t)
    rw [hz, List.append_assoc, noughts_add] at this
    exact this
  rw [e, List.length_append, List.length_replicate] at h1 h2
  rw [← h2, numOf_append, numOf_noughts, Nat.add_zero, List.length_replicate, Nat.mul_assoc, ← Nat.pow_add]
  congr 2; omega
end Go.Proofs.YtheliihkkoohnaaGreat

namespace Go.Proofs.YtheliihkkoohnaaGreat
open Go.ChangeShapes Go.WideShapes Go.ChangeAt Go.RowKit
set_option linter.unusedVariables false
set_option linter.unusedSimpArgs false
set_option maxRecDepth 100000

/-! ### what a pattern means is rounded to it (plain mathematics) -/
theorem rhe_mul (H p : Nat) (hH : 0 < H) : rhe H (p * (2 * H)) = p := by
  unfold rhe
  rw [Nat.mul_div_cancel _ (by omega), Nat.mul_mod_left, if_pos rfl]
  unfold roundP
  rw [if_neg (by omega)]
theorem str_ends (m : Nat) (t : List Bool) (hm : Wd m) (hl : t.length = m - 1) (ht : true ∈ t) :
    (scaleL t = 4 * (m : Int) - 8 → numOf t = 2 ^ (m - 1) - 1) ∧ (scaleL t = 8 - 4 * (m : Int) → numOf t = 1) := by
  have hw := wd_le hm
  have hne : t ≠ [] := by rintro rfl; cases ht
  have hex : expL t < 4 := by
    have := numOf_lt ((restL t ++ noughts 2).take 2)
    rw [show ((restL t ++ noughts 2).take 2).length = 2 by simp] at this
    exact this
  obtain ⟨b, r, tl, rfl, htl⟩ := split_run t hne
  rw [List.length_append, List.length_replicate] at hl
  unfold scaleL regL
  rw [runL_rep b r tl htl, onesL_rep]
  generalize expL (List.replicate (r + 1) b ++ tl) = ex at *
  constructor
  · intro h
    cases b
    · simp at h; omega
    · simp at h
      have hr : r + 1 = m - 1 := by omega
      have htl0 : tl = [] := List.length_eq_zero_iff.1 (by omega)
      rw [htl0, List.append_nil, numOf_ones, hr]
  · intro h
    cases b
    · simp at h
      have hr : r + 1 = m - 2 ∨ r + 1 = m - 1 := by omega
      rcases htl with rfl | ⟨u, rfl⟩
      · rw [List.append_nil, List.mem_replicate] at ht
        exact absurd ht.2 (by decide)
      · rw [List.length_cons] at hl
        have hu : u = [] := List.length_eq_zero_iff.1 (by omega)
        subst hu
        rw [show List.replicate (r + 1) false = noughts (r + 1) from rfl, numOf_noughts_append]
        rfl
    · simp at h; omega
theorem rnd_home (m : Nat) (t : List Bool) (hm : Wd m) (hl : t.length = m - 1) (ht : true ∈ t) : rndX m (scaleL t) (wordL t) 0 false = numOf t := by
  have hw := wd_le hm
  have hr := of_decide_eq_true (inR_of m t hm hl ht)
  obtain ⟨e1, e2⟩ := str_ends m t hm hl ht
  rcases mid_or m (scaleL t) (justX (wordL t) 0 false) with h | h | ⟨h0, h⟩
  · rw [(rnd_mid m _ _ _ _ hm (words_of t) h).1]
    unfold zX
    rw [zed_parse t ht (by omega), hl, show 209 - (m - 1) = 210 - m by omega]
    have := rhe_mul (2 ^ (210 - m)) (numOf t) (Nat.pow_pos (by decide))
    rw [show numOf t * (2 * 2 ^ (210 - m)) = 2 * (numOf t * 2 ^ (210 - m)) by rw [Nat.mul_left_comm]] at this
    simpa using this
  · rw [rnd_top m _ _ _ _ h, e1 (by omega)]
  · rw [rnd_low m _ _ _ _ h0 h, e2 (by rcases h with h | h <;> omega)]
/-! ### ranks of patterns that are rounded -/
end Go.Proofs.YtheliihkkoohnaaGreat

namespace Go.Proofs.YtheliihkkoohnaaGreat
set_option maxRecDepth 100000
set_option linter.unusedVariables false
set_option linter.unusedSimpArgs false

/-! ### exact whole numbers times a power of 2, and their first 128 digits (plain mathematics) -/
theorem blen_two {N : Nat} (j : Nat) (h : N ≠ 0) : blen (N * 2 ^ j) = blen N + j := by
  have hp : 0 < 2 ^ j := Nat.pow_pos (by decide)
  have e : N * 2 ^ j / 2 ^ j = N := Nat.mul_div_cancel _ hp
  have := @blen_shift (N * 2 ^ j) j (by rw [e]; exact h)
  rw [e] at this
  exact this
theorem blen_at {N m : Nat} (h1 : 2 ^ m ≤ N) (h2 : N < 2 ^ (m + 1)) : blen N = m + 1 := by
  have a := blen_le.2 h2
  have b : ¬ blen N ≤ m := fun c => by have := blen_le.1 c; omega
  omega
/-- what the first 128 digits are, and what is lost -/
theorem norm_at {N j : Nat} (h1 : 2 ^ (127 + j) ≤ N) (h2 : N < 2 ^ (128 + j)) : blen N = 128 + j ∧ normN N = N / 2 ^ j ∧ lostN N = decide (N % 2 ^ j ≠ 0) := by
  have hb : blen N = 128 + j := by
    have := @blen_at N (127 + j) h1 (by rw [show 127 + j + 1 = 128 + j by omega]; exact h2)
    omega
  refine ⟨hb, ?_, ?_⟩
  · unfold normN; rw [hb, if_neg (by omega), show 128 + j - 128 = j by omega]
  · unfold lostN; rw [hb, show 128 + j - 128 = j by omega]
    rcases Nat.eq_zero_or_pos j with rfl | hj
    · rw [Nat.pow_zero, Nat.mod_one]; rfl
    · rw [decide_eq_true (show 128 < 128 + j by omega), Bool.true_and]
theorem norm_two {N : Nat} (j : Nat) (h : N ≠ 0) : normN (N * 2 ^ j) = normN N ∧ lostN (N * 2 ^ j) = lostN N := by
  have hb := blen_two j h
  have hp : 0 < 2 ^ j := Nat.pow_pos (by decide)
  unfold normN lostN
  rw [hb]
  by_cases h1 : blen N < 128
  · rw [if_pos h1, decide_eq_false (show ¬ 128 < blen N by omega), Bool.false_and]
    by_cases h2 : blen N + j < 128
    · rw [if_pos h2, decide_eq_false (show ¬ 128 < blen N + j by omega), Bool.false_and, Nat.mul_assoc, ← Nat.pow_add, show j + (128 - (blen N + j)) = 128 - blen N by omega]
      exact ⟨rfl, rfl⟩
    · have e : 2 ^ j = 2 ^ (128 - blen N) * 2 ^ (blen N + j - 128) := by rw [← Nat.pow_add, show 128 - blen N + (blen N + j - 128) = j by omega]
      have hq : 0 < 2 ^ (blen N + j - 128) := Nat.pow_pos (by decide)
      rw [if_neg h2, e, ← Nat.mul_assoc, Nat.mul_div_cancel _ hq, Nat.mul_mod_left]
      refine ⟨rfl, ?_⟩
      simp
  · have e : 2 ^ (blen N + j - 128) = 2 ^ (blen N - 128) * 2 ^ j := by rw [← Nat.pow_add, show blen N - 128 + j = blen N + j - 128 by omega]
    rw [if_neg h1, if_neg (by omega), e, Nat.mul_div_mul_right _ _ hp, Nat.mul_mod_mul_right]
    refine ⟨rfl, ?_⟩
    by_cases h3 : 128 < blen N
    · rw [decide_eq_true h3, decide_eq_true (show 128 < blen N + j by omega), Bool.true_and, Bool.true_and]
      generalize N % 2 ^ (blen N - 128) = x at *
      generalize 2 ^ j = y at *
      by_cases hx : x = 0
      · rw [hx, Nat.zero_mul]
      · have : x * y ≠ 0 := fun c => by rcases Nat.mul_eq_zero.1 c with c | c; exact hx c; omega
        rw [decide_eq_true this, decide_eq_true hx]
    · rw [decide_eq_false h3, Bool.false_and, show blen N - 128 = 0 by omega, Nat.pow_zero, Nat.mod_one, Nat.zero_mul]
      simp
theorem exactV_two (neg : Bool) {N : Nat} (j : Nat) (e : Int) (r : Bool) : exactV neg (N * 2 ^ j) (e - j) r = exactV neg N e r := by
  have hp : 0 < 2 ^ j := Nat.pow_pos (by decide)
  by_cases h : N = 0
  · subst h; rw [Nat.zero_mul]; unfold exactV; rw [if_pos rfl, if_pos rfl]
  · have h2 : N * 2 ^ j ≠ 0 := fun c => by rcases Nat.mul_eq_zero.1 c with c | c; exact h c; omega
    obtain ⟨a, b⟩ := norm_two j h
    unfold exactV
    rw [if_neg h, if_neg h2, a, b, blen_two j h, show e - (j : Int) + ((blen N + j : Nat) : Int) - 1 = e + (blen N : Int) - 1 by omega]
/-- the first 128 digits of a sum don't hang on a far lesser number -/
theorem far_add (neg : Bool) (s : Int) {M B d : Nat} (hM : Mant M) (hB : 1 ≤ B) (hd : B < 2 ^ d) :
    exactV neg (M * 2 ^ d + B) (s - 127 - d) false = exV 1 neg (heldX s) (M / 2 ^ 64 % 2 ^ 64) (M % 2 ^ 64) true := by
  obtain ⟨m1, m2⟩ := hM
  have hp : 0 < 2 ^ d := Nat.pow_pos (by decide)
  have l1 : 2 ^ (127 + d) ≤ M * 2 ^ d + B := by rw [Nat.pow_add]; exact Nat.le_trans (Nat.mul_le_mul_right _ m1) (Nat.le_add_right _ _)
  have l2 : M * 2 ^ d + B < 2 ^ (128 + d) := by
    rw [Nat.pow_add]
    have := Nat.mul_le_mul_right (2 ^ d) (show M + 1 ≤ 2 ^ 128 from m2)
    rw [Nat.add_mul, Nat.one_mul] at this
    omega
  obtain ⟨b, nn, ll⟩ := norm_at l1 l2
  have e1 : (M * 2 ^ d + B) / 2 ^ d = M := by rw [Nat.mul_comm, Nat.mul_add_div hp, Nat.div_eq_of_lt hd, Nat.add_zero]
  have e2 : (M * 2 ^ d + B) % 2 ^ d = B := by rw [Nat.mul_comm, Nat.mul_add_mod, Nat.mod_eq_of_lt hd]
  unfold exactV
  rw [if_neg (by omega), b, nn, ll, e1, e2, decide_eq_true (show B ≠ 0 by omega), show s - 127 - (d : Int) + ((128 + d : Nat) : Int) - 1 = s by omega]
  rfl
theorem far_sub (neg : Bool) (s : Int) {M B d : Nat} (hM : Mant M) (hB : 1 ≤ B) (hd : B < 2 ^ d) :
    exactV neg (M * 2 ^ (d + 1) - B) (s - 127 - (d + 1 : Nat)) false = if M = 2 ^ 127 then exV 1 neg (heldX (s - 1)) (2 ^ 64 - 1) (2 ^ 64 - 1) true else exV 1 neg (heldX s) ((M - 1) / 2 ^ 64 % 2 ^ 64) ((M - 1) % 2 ^ 64) true := by
  obtain ⟨m1, m2⟩ := hM
  have hp : 0 < 2 ^ d := Nat.pow_pos (by decide)
  by_cases h : M = 2 ^ 127
  · rw [if_pos h]
    have eN : M * 2 ^ (d + 1) - B = (2 ^ 128 - 1) * 2 ^ d + (2 ^ d - B) := by
      rw [h, Nat.pow_succ 2 d, Nat.sub_mul, Nat.one_mul, Nat.mul_comm (2 ^ d) 2, ← Nat.mul_assoc, ← Nat.pow_succ]
      have : 2 ^ d ≤ 2 ^ 128 * 2 ^ d := Nat.le_mul_of_pos_left _ (by decide)
      show 2 ^ 128 * 2 ^ d - B = _
      omega
    have hlt : 2 ^ d - B < 2 ^ d := by omega
    have l1 : 2 ^ (127 + d) ≤ (2 ^ 128 - 1) * 2 ^ d + (2 ^ d - B) := by
      rw [Nat.pow_add]; exact Nat.le_trans (Nat.mul_le_mul_right _ (by decide)) (Nat.le_add_right _ _)
    have l2 : (2 ^ 128 - 1) * 2 ^ d + (2 ^ d - B) < 2 ^ (128 + d) := by
      rw [Nat.pow_add, Nat.sub_mul, Nat.one_mul]
      have : 2 ^ d ≤ 2 ^ 128 * 2 ^ d := Nat.le_mul_of_pos_left _ (by decide)
      omega
    obtain ⟨b, nn, ll⟩ := norm_at l1 l2
    have e1 : ((2 ^ 128 - 1) * 2 ^ d + (2 ^ d - B)) / 2 ^ d = 2 ^ 128 - 1 := by rw [Nat.mul_comm, Nat.mul_add_div hp, Nat.div_eq_of_lt hlt, Nat.add_zero]
    have e2 : ((2 ^ 128 - 1) * 2 ^ d + (2 ^ d - B)) % 2 ^ d = 2 ^ d - B := by rw [Nat.mul_comm, Nat.mul_add_mod, Nat.mod_eq_of_lt hlt]
    rw [eN]
    have h0 : ¬ ((2 ^ 128 - 1) * 2 ^ d + (2 ^ d - B) = 0) := by
      have := Nat.pow_pos (n := 127 + d) (show 0 < 2 by decide); omega
    unfold exactV
    rw [if_neg h0, b, nn, ll, e1, e2, decide_eq_true (show 2 ^ d - B ≠ 0 by omega), show s - 127 - ((d + 1 : Nat) : Int) + ((128 + d : Nat) : Int) - 1 = s - 1 by omega]
    rfl
  · rw [if_neg h]
    have hd2 : 2 ^ d ≤ 2 ^ (d + 1) := Nat.pow_le_pow_right (by decide) (by omega)
    have hp2 : 0 < 2 ^ (d + 1) := Nat.pow_pos (by decide)
    obtain ⟨m, rfl⟩ : ∃ m, M = m + 1 := ⟨M - 1, by have := Nat.pow_pos (n := 127) (show 0 < 2 by decide); omega⟩
    rw [Nat.add_sub_cancel]
    have hm1 : 2 ^ 127 ≤ m := by omega
    have hm2 : m + 1 ≤ 2 ^ 128 := by omega
    generalize hD : d + 1 = D at *
    have eN : (m + 1) * 2 ^ D - B = m * 2 ^ D + (2 ^ D - B) := by rw [Nat.add_mul, Nat.one_mul]; omega
    have hlt : 2 ^ D - B < 2 ^ D := by omega
    have l1 : 2 ^ (127 + D) ≤ m * 2 ^ D + (2 ^ D - B) := by
      rw [Nat.pow_add]; exact Nat.le_trans (Nat.mul_le_mul_right _ hm1) (Nat.le_add_right _ _)
    have l2 : m * 2 ^ D + (2 ^ D - B) < 2 ^ (128 + D) := by
      rw [Nat.pow_add]
      have := Nat.mul_le_mul_right (2 ^ D) hm2
      rw [Nat.add_mul, Nat.one_mul] at this
      omega
    obtain ⟨b, nn, ll⟩ := norm_at l1 l2
    have e1 : (m * 2 ^ D + (2 ^ D - B)) / 2 ^ D = m := by rw [Nat.mul_comm, Nat.mul_add_div hp2, Nat.div_eq_of_lt hlt, Nat.add_zero]
    have e2 : (m * 2 ^ D + (2 ^ D - B)) % 2 ^ D = 2 ^ D - B := by rw [Nat.mul_comm, Nat.mul_add_mod, Nat.mod_eq_of_lt hlt]
    rw [eN]
    have h0 : ¬ (m * 2 ^ D + (2 ^ D - B) = 0) := by
      have := Nat.pow_pos (n := 127 + D) (show 0 < 2 by decide); omega
    unfold exactV
    rw [if_neg h0, b, nn, ll, e1, e2, decide_eq_true (show 2 ^ D - B ≠ 0 by omega), show s - 127 - (D : Int) + ((128 + D : Nat) : Int) - 1 = s by omega]
    rfl
end Go.Proofs.YtheliihkkoohnaaGreat

namespace Go.Proofs.YtheliihkkoohnaaGreat
open Go.ChangeShapes Go.WideShapes Go.ChangeAt Go.RowKit
set_option linter.unusedVariables false
set_option linter.unusedSimpArgs false
set_option maxRecDepth 100000

/-! ### a number shifted up till its highest bit is 1 -/
end Go.Proofs.YtheliihkkoohnaaGreat

namespace Go.Proofs.YtheliihkkoohnaaGreat
open Go.ChangeShapes Go.WideShapes Go.ChangeAt Go.RowKit
set_option linter.unusedVariables false
set_option linter.unusedSimpArgs false
set_option maxRecDepth 100000

/-! ### rows of five cells -/
theorem row5 {w : World} {m : Nat} {u0 u1 u2 u3 u4 v0 v1 v2 v3 v4 : Value} {t : TypeId} (h : w.heap[m]? = some (.cells #[u0, u1, u2, u3, u4] t (0, 0))) :
    (((((w.setCell ⟨m, 0, none⟩ v0).setCell ⟨m, 1, none⟩ v1).setCell ⟨m, 2, none⟩ v2).setCell ⟨m, 3, none⟩ v3).setCell ⟨m, 4, none⟩ v4).heap[m]? = some (.cells #[v0, v1, v2, v3, v4] t (0, 0)) := by
  have h := rowset h 0 v0
  simp only [List.setIfInBounds_toArray, List.set_cons_zero, List.set_cons_succ] at h
  have h := rowset h 1 v1
  simp only [List.setIfInBounds_toArray, List.set_cons_zero, List.set_cons_succ] at h
  have h := rowset h 2 v2
  simp only [List.setIfInBounds_toArray, List.set_cons_zero, List.set_cons_succ] at h
  have h := rowset h 3 v3
  simp only [List.setIfInBounds_toArray, List.set_cons_zero, List.set_cons_succ] at h
  have h := rowset h 4 v4
  simp only [List.setIfInBounds_toArray, List.set_cons_zero, List.set_cons_succ] at h
  exact h
theorem cset5 {a W : World} {m : Nat} {v0 v1 v2 v3 v4 : Value} (h : Below a.heap.size a W) (hb : a.heap.size ≤ m) :
    Below a.heap.size a (((((W.setCell ⟨m, 0, none⟩ v0).setCell ⟨m, 1, none⟩ v1).setCell ⟨m, 2, none⟩ v2).setCell ⟨m, 3, none⟩ v3).setCell ⟨m, 4, none⟩ v4) :=
  cset (cset (cset (cset (cset h hb 0 v0) hb 1 v1) hb 2 v2) hb 3 v3) hb 4 v4
theorem row5_other {w : World} {m g : Nat} {c : Array Value} {v0 v1 v2 v3 v4 : Value} {t : TypeId} (h : w.heap[m]? = some (.cells c t (0, 0))) (hne : m ≠ g) :
    (((((w.setCell ⟨g, 0, none⟩ v0).setCell ⟨g, 1, none⟩ v1).setCell ⟨g, 2, none⟩ v2).setCell ⟨g, 3, none⟩ v3).setCell ⟨g, 4, none⟩ v4).heap[m]? = some (.cells c t (0, 0)) := by
  rw [heap_setCell_other _ _ m _ hne, heap_setCell_other _ _ m _ hne, heap_setCell_other _ _ m _ hne, heap_setCell_other _ _ m _ hne, heap_setCell_other _ _ m _ hne]
  exact h
theorem rowE6 {w : World} {m : Nat} {u0 u1 u2 u3 u4 u5 v0 v1 v2 v3 v4 v5 : Value} {t : TypeId} (h : w.heap[m]? = some (.cells #[u0, u1, u2, u3, u4, u5] t (0, 0))) :
    ((((((w.setCell ⟨m, 0, none⟩ v0).setCell ⟨m, 1, none⟩ v1).setCell ⟨m, 2, none⟩ v2).setCell ⟨m, 3, none⟩ v3).setCell ⟨m, 4, none⟩ v4).setCell ⟨m, 5, none⟩ v5).heap[m]? = some (.cells #[v0, v1, v2, v3, v4, v5] t (0, 0)) := by
  have h := rowset h 0 v0
  simp only [List.setIfInBounds_toArray, List.set_cons_zero, List.set_cons_succ] at h
  have h := rowset h 1 v1
  simp only [List.setIfInBounds_toArray, List.set_cons_zero, List.set_cons_succ] at h
  have h := rowset h 2 v2
  simp only [List.setIfInBounds_toArray, List.set_cons_zero, List.set_cons_succ] at h
  have h := rowset h 3 v3
  simp only [List.setIfInBounds_toArray, List.set_cons_zero, List.set_cons_succ] at h
  have h := rowset h 4 v4
  simp only [List.setIfInBounds_toArray, List.set_cons_zero, List.set_cons_succ] at h
  have h := rowset h 5 v5
  simp only [List.setIfInBounds_toArray, List.set_cons_zero, List.set_cons_succ] at h
  exact h
theorem rowE6_other {w : World} {m g : Nat} {c : Array Value} {v0 v1 v2 v3 v4 v5 : Value} {t : TypeId} (h : w.heap[m]? = some (.cells c t (0, 0))) (hne : m ≠ g) :
    ((((((w.setCell ⟨g, 0, none⟩ v0).setCell ⟨g, 1, none⟩ v1).setCell ⟨g, 2, none⟩ v2).setCell ⟨g, 3, none⟩ v3).setCell ⟨g, 4, none⟩ v4).setCell ⟨g, 5, none⟩ v5).heap[m]? = some (.cells c t (0, 0)) := by
  rw [heap_setCell_other _ _ m _ hne, heap_setCell_other _ _ m _ hne, heap_setCell_other _ _ m _ hne, heap_setCell_other _ _ m _ hne, heap_setCell_other _ _ m _ hne, heap_setCell_other _ _ m _ hne]
  exact h
/-! ### numbers of five words (plain mathematics) -/
def w5V (a0 a1 a2 a3 a4 : Nat) : Value := .agg #[.int .u64 a0, .int .u64 a1, .int .u64 a2, .int .u64 a3, .int .u64 a4]
structure Q5 (n a0 a1 a2 a3 a4 : Nat) : Prop where
  eq : n = a0 + a1 * 18446744073709551616 + a2 * 340282366920938463463374607431768211456 + a3 * 6277101735386680763835789423207666416102355444464034512896 + a4 * 115792089237316195423570985008687907853269984665640564039457584007913129639936
  h0 : a0 ≤ 18446744073709551615
  h1 : a1 ≤ 18446744073709551615
  h2 : a2 ≤ 18446744073709551615
  h3 : a3 ≤ 18446744073709551615
  h4 : a4 ≤ 18446744073709551615
theorem Q5.one {n a0 a1 a2 a3 a4 b0 b1 b2 b3 b4 : Nat} (h : Q5 n a0 a1 a2 a3 a4) (g : Q5 n b0 b1 b2 b3 b4) : a0 = b0 ∧ a1 = b1 ∧ a2 = b2 ∧ a3 = b3 ∧ a4 = b4 := by
  obtain ⟨e, h0, h1, h2, h3, h4⟩ := h
  obtain ⟨e', g0, g1, g2, g3, g4⟩ := g
  omega
theorem q5_of {n : Nat} (h : n < 2135987035920910082395021706169552114602704522356652769947041607822219725780640550022962086936576) :
    Q5 n (n % 18446744073709551616) (n / 18446744073709551616 % 18446744073709551616) (n / 340282366920938463463374607431768211456 % 18446744073709551616) (n / 6277101735386680763835789423207666416102355444464034512896 % 18446744073709551616) (n / 115792089237316195423570985008687907853269984665640564039457584007913129639936) := by
  refine ⟨by omega, by omega, by omega, by omega, by omega, by omega⟩
theorem Q5.lt {n a0 a1 a2 a3 a4 : Nat} (h : Q5 n a0 a1 a2 a3 a4) : n < 2135987035920910082395021706169552114602704522356652769947041607822219725780640550022962086936576 := by
  obtain ⟨e, h0, h1, h2, h3, h4⟩ := h
  omega
/-- five words shifted up together -/
theorem q5_up {n p q r s u : Nat} (few G : Nat) (h : few + G = 64) (hq : Q5 n p q r s u) (ht : u * 2 ^ few ≤ 18446744073709551615) :
    Q5 (n * 2 ^ few) (p * 2 ^ few % 18446744073709551616) ((q * 2 ^ few % 18446744073709551616) ||| (p / 2 ^ G)) ((r * 2 ^ few % 18446744073709551616) ||| (q / 2 ^ G)) ((s * 2 ^ few % 18446744073709551616) ||| (r / 2 ^ G)) ((u * 2 ^ few % 18446744073709551616) ||| (s / 2 ^ G)) := by
  obtain ⟨e, h0, h1, h2, h3, h4⟩ := hq
  obtain ⟨j1, k1⟩ := word_join q p few G h h0
  obtain ⟨j2, k2⟩ := word_join r q few G h h1
  obtain ⟨j3, k3⟩ := word_join s r few G h h2
  obtain ⟨j4, k4⟩ := word_join u s few G h h3
  rw [j1, j2, j3, j4]
  have u0 := word_up p few G h
  have u1 := word_up q few G h
  have u2 := word_up r few G h
  have u3 := word_up s few G h
  have u4 := Nat.mod_eq_of_lt (show u * 2 ^ few < 18446744073709551616 by omega)
  have en : n * 2 ^ few = p * 2 ^ few + q * 2 ^ few * 18446744073709551616 + r * 2 ^ few * 340282366920938463463374607431768211456 + s * 2 ^ few * 6277101735386680763835789423207666416102355444464034512896 + u * 2 ^ few * 115792089237316195423570985008687907853269984665640564039457584007913129639936 := by
    rw [e, Nat.add_mul, Nat.add_mul, Nat.add_mul, Nat.add_mul, Nat.mul_right_comm q, Nat.mul_right_comm r, Nat.mul_right_comm s, Nat.mul_right_comm u]
  have m0 := Nat.mod_lt (p * 2 ^ few) (show 0 < 18446744073709551616 by decide)
  rw [u4] at k4 ⊢
  rw [en]
  generalize p * 2 ^ few = P at *
  generalize q * 2 ^ few = Q at *
  generalize r * 2 ^ few = R at *
  generalize s * 2 ^ few = S at *
  generalize u * 2 ^ few = U at *
  generalize p / 2 ^ G = p1 at *
  generalize q / 2 ^ G = q1 at *
  generalize r / 2 ^ G = r1 at *
  generalize s / 2 ^ G = s1 at *
  generalize P % 18446744073709551616 = P0 at *
  generalize Q % 18446744073709551616 = Q0 at *
  generalize R % 18446744073709551616 = R0 at *
  generalize S % 18446744073709551616 = S0 at *
  clear j1 j2 j3 j4 u4 e en
  refine ⟨by omega, by omega, by omega, by omega, by omega, by omega⟩
/-- what the last steps reckon -/
theorem risen5_facts {n p q r s u : Nat} (h : Q5 n p q r s u) (hs : u ≠ 0) :
    ∃ few G A1 A2 A3 A4 B1 B2 B3 B4 n0 n1 n2 n3 n4 : Nat, few + G = 64 ∧ few ≤ 63 ∧ (64 : Int) - (blen u : Int) = (few : Int) ∧ blen n + few = 320 ∧ Q5 (n * 2 ^ few) n0 n1 n2 n3 n4 ∧
      IntKind.u64.wrap ((p : Int) * 2 ^ few) = (n0 : Int) ∧ IntKind.u64.wrap ((q : Int) * 2 ^ few) = (A1 : Int) ∧ IntKind.u64.wrap ((r : Int) * 2 ^ few) = (A2 : Int) ∧ IntKind.u64.wrap ((s : Int) * 2 ^ few) = (A3 : Int) ∧ IntKind.u64.wrap ((u : Int) * 2 ^ few) = (A4 : Int) ∧
      (p : Int) / 2 ^ G = (B1 : Int) ∧ (q : Int) / 2 ^ G = (B2 : Int) ∧ (r : Int) / 2 ^ G = (B3 : Int) ∧ (s : Int) / 2 ^ G = (B4 : Int) ∧
      bits BinOp.or IntKind.u64 (A1 : Int) (B1 : Int) = (n1 : Int) ∧ bits BinOp.or IntKind.u64 (A2 : Int) (B2 : Int) = (n2 : Int) ∧ bits BinOp.or IntKind.u64 (A3 : Int) (B3 : Int) = (n3 : Int) ∧ bits BinOp.or IntKind.u64 (A4 : Int) (B4 : Int) = (n4 : Int) := by
  have hb : 1 ≤ blen u := by rw [blen_pos hs]; omega
  have hb2 : blen u ≤ 64 := blen_le.2 (by have := h.h4; omega)
  obtain ⟨few, hf⟩ : ∃ few, few + blen u = 64 := ⟨64 - blen u, by omega⟩
  have h1 : u < 2 ^ blen u := blen_le.1 (Nat.le_refl _)
  have hp : 0 < 2 ^ few := Nat.pow_pos (by decide)
  have ht : u * 2 ^ few ≤ 18446744073709551615 := by
    have a : u * 2 ^ few < 2 ^ blen u * 2 ^ few := (Nat.mul_lt_mul_right hp).2 h1
    rw [← Nat.pow_add, Nat.add_comm, hf] at a
    omega
  have hw : ∀ x : Nat, IntKind.u64.wrap ((x : Int) * 2 ^ few) = ((x * 2 ^ few % 18446744073709551616 : Nat) : Int) := fun x => by
    have e : ((x : Int) * 2 ^ few) = ((x * 2 ^ few : Nat) : Int) := by simp
    rw [e, wrapN]
  have hd : ∀ x : Nat, (x : Int) / 2 ^ (64 - few) = ((x / 2 ^ (64 - few) : Nat) : Int) := fun x => by simp
  have hor : ∀ x y : Nat, y ≤ 18446744073709551615 → bits BinOp.or IntKind.u64 ((x * 2 ^ few % 18446744073709551616 : Nat) : Int) ((y / 2 ^ (64 - few) : Nat) : Int) = (((x * 2 ^ few % 18446744073709551616) ||| (y / 2 ^ (64 - few)) : Nat) : Int) := fun x y hy =>
    u64_or_nat _ _ (by have := Nat.mod_lt (x * 2 ^ few) (show 0 < 18446744073709551616 by decide); omega) (by have := Nat.div_le_self y (2 ^ (64 - few)); omega)
  have hbl : blen n + few = 320 := by
    have e : n / 2 ^ 256 = u := by
      obtain ⟨e, a0, a1, a2, a3, a4⟩ := h
      rw [show (2 : Nat) ^ 256 = 115792089237316195423570985008687907853269984665640564039457584007913129639936 by decide]
      omega
    have := @blen_shift n 256 (by rw [e]; exact hs)
    rw [e] at this
    omega
  exact ⟨few, 64 - few, _, _, _, _, _, _, _, _, _, _, _, _, _, by omega, by omega, by omega, hbl, q5_up few (64 - few) (by omega) h ht, hw p, hw q, hw r, hw s, hw u, hd p, hd q, hd r, hd s, hor q p h.h0, hor r q h.h1, hor s r h.h2, hor u s h.h3⟩
/-- the bounds, written out -/
theorem pow320 (E : Nat) (h : E = 256 + 64) : 2 ^ E = 2135987035920910082395021706169552114602704522356652769947041607822219725780640550022962086936576 := (congrArg (fun e => 2 ^ e) h).trans ((Nat.pow_add 2 256 64).trans (by decide))
theorem pow319 (E : Nat) (h : E = 255 + 64) : 2 ^ E = 1067993517960455041197510853084776057301352261178326384973520803911109862890320275011481043468288 := (congrArg (fun e => 2 ^ e) h).trans ((Nat.pow_add 2 255 64).trans (by decide))
theorem blen320 {n : Nat} : blen n ≤ 320 ↔ n < 2135987035920910082395021706169552114602704522356652769947041607822219725780640550022962086936576 := by
  obtain ⟨E, hE⟩ : ∃ E, E = 256 + 64 := ⟨_, rfl⟩
  rw [← pow320 E hE, ← blen_le]
  omega
theorem q5_ex {n : Nat} (h : n < 2135987035920910082395021706169552114602704522356652769947041607822219725780640550022962086936576) : ∃ a0 a1 a2 a3 a4, Q5 n a0 a1 a2 a3 a4 :=
  ⟨_, _, _, _, _, q5_of h⟩
theorem q5_zero {n a0 a1 a2 a3 a4 : Nat} (h : Q5 n a0 a1 a2 a3 a4) : (decide ((a0 : Int) = 0) && decide ((a1 : Int) = 0) && decide ((a2 : Int) = 0) && decide ((a3 : Int) = 0) && decide ((a4 : Int) = 0)) = decide (n = 0) := by
  obtain ⟨e, h0, h1, h2, h3, h4⟩ := h
  rw [← Bool.decide_and, ← Bool.decide_and, ← Bool.decide_and, ← Bool.decide_and]
  refine decide_eq_decide.2 ?_
  omega
theorem or_rest3 (a b c : Nat) (ha : a ≤ 18446744073709551615) (hb : b ≤ 18446744073709551615) (hc : c ≤ 18446744073709551615) : ∃ o o2 : Nat, bits BinOp.or IntKind.u64 (c : Int) (b : Int) = (o : Int) ∧ bits BinOp.or IntKind.u64 (o : Int) (a : Int) = (o2 : Int) ∧ ((o2 : Int) != 0) = decide (a ≠ 0 ∨ b ≠ 0 ∨ c ≠ 0) := by
  have hob : c ||| b < 2 ^ 64 := Nat.or_lt_two_pow (by omega) (by omega)
  refine ⟨c ||| b, (c ||| b) ||| a, u64_or_nat c b (by omega) (by omega), u64_or_nat _ a (by omega) (by omega), ?_⟩
  have e : c ||| b ||| a = 0 ↔ (c = 0 ∧ b = 0) ∧ a = 0 := by rw [Nat.or_eq_zero_iff, Nat.or_eq_zero_iff]
  by_cases h : c ||| b ||| a = 0
  · obtain ⟨⟨rfl, rfl⟩, rfl⟩ := e.1 h
    rfl
  · rw [decide_eq_true (by
      by_cases h0 : a = 0
      · by_cases h1 : b = 0
        · exact .inr (.inr (fun c2 => h (e.2 ⟨⟨c2, h1⟩, h0⟩)))
        · exact .inr (.inl h1)
      · exact .inl h0)]
    rw [bne_iff_ne]
    omega
theorem risen5_at {n : Nat} (h : n ≠ 0) (h2 : n < 2135987035920910082395021706169552114602704522356652769947041607822219725780640550022962086936576) : ∃ k a0 a1 a2 a3 a4, k + blen n = 320 ∧ Q5 (n * 2 ^ k) a0 a1 a2 a3 a4 := by
  have hb : blen n ≤ 320 := blen320.2 h2
  obtain ⟨k, hk⟩ : ∃ k, k + blen n = 320 := ⟨320 - blen n, by omega⟩
  have e := blen_two k h
  obtain ⟨a0, a1, a2, a3, a4, hq⟩ := q5_ex (n := n * 2 ^ k) (blen320.1 (by omega))
  exact ⟨k, a0, a1, a2, a3, a4, hk, hq⟩
end Go.Proofs.YtheliihkkoohnaaGreat

namespace Go.Proofs.YtheliihkkoohnaaGreat
open Go.ChangeShapes Go.WideShapes Go.ChangeAt Go.RowKit
set_option linter.unusedVariables false
set_option linter.unusedSimpArgs false
set_option maxRecDepth 100000

/-! ### package fuse: digits, compare, placed -/
theorem fdigits_any (k : Int) (neg : Bool) (s : Int) (hi lo : Nat) (rest : Bool) (w : World) :
    Calls Tryz.prog 64 #[exV k neg s hi lo rest] w fun e w' => e = .returned (.agg #[.int .u64 hi, .int .u64 lo]) ∧ Below w.heap.size w w' := by
  unfold exV
  refine cps fun Q hQ => ?_
  go_enter Tryz.func64, Tryz.ntmps64
  go_wp2
  first
  | exact hQ.out _ _ ⟨rfl, cmore (Below.refl _ _) _⟩
  | (refine bodyPost_ret (v := .agg #[.int .u64 hi, .int .u64 lo]) (by simp [results, Tryz.results64, go_sem]; done) rfl (hQ.out _ _ ⟨rfl, ?_⟩); first | exact bset (bset (cmore (cmore (Below.refl _ _) _) _) (by omega) _ _) (by omega) _ _ | exact cmore (cmore (Below.refl _ _) _) _)
set_option maxHeartbeats 4000000 in
theorem fcompare_any (k : Int) (neg : Bool) (s : Int) {a hi lo : Nat} (rest : Bool) (k' : Int) (neg' : Bool) (s' : Int) {b hi' lo' : Nat} (rest' : Bool) (ha : Tw a hi lo) (hb : Tw b hi' lo') (w : World) :
    Calls Tryz.prog 62 #[exV k neg s hi lo rest, exV k' neg' s' hi' lo' rest'] w fun e w' => e = .returned (.int .i64 (cmpR2 s a s' b)) ∧ Below w.heap.size w w' := by
  have d1 := fdigits_any k neg s hi lo rest
  have d2 := fdigits_any k' neg' s' hi' lo' rest'
  unfold cmpR2 exV at *
  refine cps fun Q hQ => ?_
  obtain ⟨x, hx⟩ : ∃ x, x = cmpZ s s' := ⟨_, rfl⟩
  obtain ⟨y, hy⟩ : ∃ x, x = cmpN a b := ⟨_, rfl⟩
  have r1 := mcompare_any s s'
  have r2 := fun w => tcmp_any ha hb w
  rw [← hx] at r1 hQ
  rw [← hy] at r2 hQ
  obtain ⟨z, hz⟩ : ∃ z, z = if x = 0 then y else x := ⟨_, rfl⟩
  rw [← hz] at hQ
  have HZ : Hid (z = if x = 0 then y else x) := hz
  clear hx hy hz ha hb
  go_enter Tryz.func62, Tryz.ntmps62
  go_wp2
  have B0 : Below w.heap.size w ((w.alloc (.cells #[.int .i64 k, .bool neg, .int .i64 s, .int .u64 hi, .int .u64 lo, .bool rest] 39)).alloc (.cells #[.int .i64 k', .bool neg', .int .i64 s', .int .u64 hi', .int .u64 lo', .bool rest'] 39)) := cmore (cmore (Below.refl _ _) _) _
  have X1 := rownew' (w.alloc (.cells #[.int .i64 k, .bool neg, .int .i64 s, .int .u64 hi, .int .u64 lo, .bool rest] 39)) #[.int .i64 k', .bool neg', .int .i64 s', .int .u64 hi', .int .u64 lo', .bool rest'] 39 (w.heap.size + 1) (by simp)
  have X0 := (Below.heap_alloc (w.alloc (.cells #[.int .i64 k, .bool neg, .int .i64 s, .int .u64 hi, .int .u64 lo, .bool rest] 39)) (.cells #[.int .i64 k', .bool neg', .int .i64 s', .int .u64 hi', .int .u64 lo', .bool rest'] 39) w.heap.size (by simp)).trans (rownew w _ _)
  generalize (w.alloc (.cells #[.int .i64 k, .bool neg, .int .i64 s, .int .u64 hi, .int .u64 lo, .bool rest] 39)).alloc (.cells #[.int .i64 k', .bool neg', .int .i64 s', .int .u64 hi', .int .u64 lo', .bool rest'] 39) = W0 at *
  have y0 : w.heap.size < W0.heap.size := rowlt X0
  have y1 : w.heap.size + 1 < W0.heap.size := rowlt X1
  have cls : ∀ V, Below W0.heap.size W0 V → V.cell? ⟨w.heap.size, 0, none⟩ = some (.int .i64 k) ∧ V.cell? ⟨w.heap.size, 1, none⟩ = some (.bool neg) ∧ V.cell? ⟨w.heap.size, 2, none⟩ = some (.int .i64 s) ∧ V.cell? ⟨w.heap.size, 3, none⟩ = some (.int .u64 hi) ∧ V.cell? ⟨w.heap.size, 4, none⟩ = some (.int .u64 lo) ∧ V.cell? ⟨w.heap.size, 5, none⟩ = some (.bool rest) ∧ V.cell? ⟨w.heap.size + 1, 0, none⟩ = some (.int .i64 k') ∧ V.cell? ⟨w.heap.size + 1, 1, none⟩ = some (.bool neg') ∧ V.cell? ⟨w.heap.size + 1, 2, none⟩ = some (.int .i64 s') ∧ V.cell? ⟨w.heap.size + 1, 3, none⟩ = some (.int .u64 hi') ∧ V.cell? ⟨w.heap.size + 1, 4, none⟩ = some (.int .u64 lo') ∧ V.cell? ⟨w.heap.size + 1, 5, none⟩ = some (.bool rest') := fun V hV => by
    have q0 := (hV.block w.heap.size y0).trans X0
    have q1 := (hV.block (w.heap.size + 1) y1).trans X1
    exact ⟨rowcell q0 0, rowcell q0 1, rowcell q0 2, rowcell q0 3, rowcell q0 4, rowcell q0 5, rowcell q1 0, rowcell q1 1, rowcell q1 2, rowcell q1 3, rowcell q1 4, rowcell q1 5⟩
  have B1 : Below W0.heap.size W0 W0 := Below.refl _ _
  clear X0 X1
  refine wpC_region (fun V => V.cell? ⟨w.heap.size, 0, none⟩ = some (.int .i64 k) ∧ V.cell? ⟨w.heap.size, 1, none⟩ = some (.bool neg) ∧ V.cell? ⟨w.heap.size, 2, none⟩ = some (.int .i64 s) ∧ V.cell? ⟨w.heap.size, 3, none⟩ = some (.int .u64 hi) ∧ V.cell? ⟨w.heap.size, 4, none⟩ = some (.int .u64 lo) ∧ V.cell? ⟨w.heap.size, 5, none⟩ = some (.bool rest) ∧ V.cell? ⟨w.heap.size + 1, 0, none⟩ = some (.int .i64 k') ∧ V.cell? ⟨w.heap.size + 1, 1, none⟩ = some (.bool neg') ∧ V.cell? ⟨w.heap.size + 1, 2, none⟩ = some (.int .i64 s') ∧ V.cell? ⟨w.heap.size + 1, 3, none⟩ = some (.int .u64 hi') ∧ V.cell? ⟨w.heap.size + 1, 4, none⟩ = some (.int .u64 lo') ∧ V.cell? ⟨w.heap.size + 1, 5, none⟩ = some (.bool rest')) (by kernel_rfl) ?_
  refine wpC_take 0 (v := ?_) rfl (by kernel_rfl) (fun _ _ _ h => h) (by kernel_rfl) ?_ ?_; rotate_left; · (intro wC hC; obtain ⟨c0, c1, c2, c3, c4, c5, e0, e1, e2, e3, e4, e5⟩ := hC; go_simp <;> with_reducible rfl)
  refine wpC_take 1 (v := ?_) rfl (by kernel_rfl) (fun _ _ _ h => h) (by kernel_rfl) ?_ ?_; rotate_left; · (intro wC hC; obtain ⟨c0, c1, c2, c3, c4, c5, e0, e1, e2, e3, e4, e5⟩ := hC; go_simp <;> with_reducible rfl)
  refine wpC_take 2 (v := ?_) rfl (by kernel_rfl) (fun _ _ _ h => h) (by kernel_rfl) ?_ ?_; rotate_left; · (intro wC hC; obtain ⟨c0, c1, c2, c3, c4, c5, e0, e1, e2, e3, e4, e5⟩ := hC; go_simp <;> with_reducible rfl)
  refine wpC_take 3 (v := ?_) rfl (by kernel_rfl) (fun _ _ _ h => h) (by kernel_rfl) ?_ ?_; rotate_left; · (intro wC hC; obtain ⟨c0, c1, c2, c3, c4, c5, e0, e1, e2, e3, e4, e5⟩ := hC; go_simp <;> with_reducible rfl)
  refine wpC_take 5 (v := ?_) rfl (by kernel_rfl) (fun _ _ _ h => h) (by kernel_rfl) ?_ ?_; rotate_left; · (intro wC hC; obtain ⟨c0, c1, c2, c3, c4, c5, e0, e1, e2, e3, e4, e5⟩ := hC; go_simp <;> with_reducible rfl)
  refine wpC_take 7 (v := ?_) rfl (by kernel_rfl) (fun _ _ _ h => h) (by kernel_rfl) ?_ ?_; rotate_left; · (intro wC hC; obtain ⟨c0, c1, c2, c3, c4, c5, e0, e1, e2, e3, e4, e5⟩ := hC; go_simp <;> with_reducible rfl)
  refine wpC_step 4 rfl (by kernel_rfl) (by kernel_rfl) (cls _ (bdrew B1)) (fun K hK => ?_)
  go_simp
  go_wp2_with ((go_at_call 97; refine (r1 _).mono ?_; rintro e w' ⟨rfl, hw⟩; rw [hw]; clear hw w'))
  try (refine hK _ _ ?_; clear hK K)
  refine wpC_step 6 rfl (by kernel_rfl) (by kernel_rfl) (cls _ (bdrew B1)) (fun K hK => ?_)
  go_simp
  go_wp2_with ((go_at_call 64; refine (d1 _).mono ?_; rintro e w2 ⟨rfl, hb2⟩; have B2 := bthen (bdrew B1) hb2))
  try (refine hK _ _ ?_; clear hK K)
  refine wpC_step 8 rfl (by kernel_rfl) (by kernel_rfl) (cls _ B2) (fun K hK => ?_)
  go_simp
  go_wp2_with ((go_at_call 64; refine (d2 _).mono ?_; rintro e w3 ⟨rfl, hb3⟩; have B3 := bthen B2 hb3))
  try (refine hK _ _ ?_; clear hK K)
  refine wpC_step 9 rfl (by kernel_rfl) (by kernel_rfl) (cls _ B3) (fun K hK => ?_)
  go_simp
  go_wp2_with ((go_at_call 98; refine (r2 _).mono ?_; rintro e w4 ⟨rfl, hb4⟩; have B4 := bthen B3 hb4))
  try (refine hK _ _ ?_; clear hK K)
  refine wpC_step 10 rfl (by kernel_rfl) (by kernel_rfl) (cls _ B4) (fun K hK => ?_)
  go_simp
  try (refine hK _ _ ?_; clear hK K)
  refine wpC_step 11 rfl (by kernel_rfl) (by kernel_rfl) (cls _ (bmore B4 _)) (fun K hK => ?_)
  go_simp
  go_wp2_with ((go_at_call 96; refine (or_any' x y z HZ.out _ _ (by simp [go_sem]) (by simp [go_sem])).mono ?_; rintro e w' ⟨rfl, hw⟩; rw [hw]; clear hw w'))
  try (refine hK _ _ ?_; clear hK K)
  refine wpC_step 12 rfl (by kernel_rfl) (by kernel_rfl) (cls _ (bmore B4 _)) (fun K hK => ?_)
  go_simp
  try (refine hK _ _ ?_; clear hK K)
  refine wpC_done (by kernel_rfl) (cls _ (bmore B4 _)) ?_
  go_wp2
  exact hQ.out _ _ ⟨rfl, bthen B0 (bmore B4 _)⟩
set_option maxHeartbeats 4000000 in
theorem fplaced_at {a hi lo : Nat} (k q r h l g g' : Nat) (c c' : Bool) (u0 u1 u2 u3 u4 : Nat) (hr : r ≤ 63) (hk : k = 64 * q + r) (ha : Tw a hi lo) (hs : Tw ((a * 2 ^ r) % 340282366920938463463374607431768211456) h l) (hc : c = decide (340282366920938463463374607431768211456 ≤ a * 2 ^ r))
    (hg : Tw (a / 2 ^ (128 - r)) g' g) (hc' : c' = decide (a % 2 ^ (128 - r) ≠ 0))
    (hq : (q = 0 ∧ l = u0 ∧ h = u1 ∧ g = u2 ∧ u3 = 0 ∧ u4 = 0) ∨ (q = 1 ∧ u0 = 0 ∧ l = u1 ∧ h = u2 ∧ g = u3 ∧ u4 = 0) ∨ (q = 2 ∧ u0 = 0 ∧ u1 = 0 ∧ l = u2 ∧ h = u3 ∧ g = u4)) (w : World) :
    Calls Tryz.prog 63 #[.agg #[.int .u64 hi, .int .u64 lo], .int .i64 k] w fun e w' => e = .returned (w5V u0 u1 u2 u3 u4) ∧ Below w.heap.size w w' := by
  have k1 := fun w => tshl_any r (by omega) ha hs hc w
  have k2 := fun w => tshr_any (128 - r) (by omega) ha hg hc' w
  have m1 : Int.tmod (k : Int) 64 = (r : Int) := by rw [Int.tmod_eq_emod_of_nonneg (by omega)]; omega
  have m2 : Int.tdiv (k : Int) 64 = (q : Int) := by rw [Int.tdiv_eq_ediv_of_nonneg (by omega)]; omega
  have m3 : (k : Int) % 64 = (r : Int) := by omega
  have m4 : (k : Int) / 64 = (q : Int) := by omega
  have m5 : IntKind.i64.wrap (128 - (r : Int)) = ((128 - r : Nat) : Int) := by rw [wrapI (by omega)]; omega
  have m6 : (128 : Int) - (r : Int) = ((128 - r : Nat) : Int) := by omega
  generalize 128 - r = G at *
  clear hs hk ha hr hc hg hc'
  have v0 : IntKind.i64.wrap 0 = 0 := rfl
  have v1 : IntKind.i64.wrap 1 = 1 := rfl
  have v2 : IntKind.i64.wrap 2 = 2 := rfl
  have v3 : IntKind.i64.wrap 3 = 3 := rfl
  have v4 : IntKind.i64.wrap 4 = 4 := rfl
  unfold w5V
  refine cps fun Q hQ => ?_
  rcases hq with ⟨rfl, rfl, rfl, rfl, rfl, rfl⟩ | ⟨rfl, rfl, rfl, rfl, rfl, rfl⟩ | ⟨rfl, rfl, rfl, rfl, rfl, rfl⟩
  all_goals
    go_enter Tryz.func63, Tryz.ntmps63
    go_upto_region 5 with (first
      | (go_at_call 88; have chk := HB1; go_must (refine (k2 _).mono ?_); rintro e w2 ⟨rfl, hb2⟩; have R2_0 := (hb2.block (w.heap.size) (by first | (simp; done) | (simp; omega) | omega)).trans ((Below.heap_alloc _ _ _ (by first | (simp; done) | (simp; omega) | omega)).trans HR1_0.out); have z2_0 : w.heap.size < w2.heap.size := Nat.lt_of_lt_of_le (by first | (simp; done) | (simp; omega) | omega) hb2.size; have HR2_0 : Hid _ := R2_0; clear R2_0; have R2_1 := (hb2.block (w.heap.size + 1) (by first | (simp; done) | (simp; omega) | omega)).trans ((Below.heap_alloc _ _ _ (by first | (simp; done) | (simp; omega) | omega)).trans HR1_1.out); have z2_1 : w.heap.size + 1 < w2.heap.size := Nat.lt_of_lt_of_le (by first | (simp; done) | (simp; omega) | omega) hb2.size; have c2_1_0 := rowcell R2_1 0; have c2_1_1 := rowcell R2_1 1; have c2_1_2 := rowcell R2_1 2; have c2_1_3 := rowcell R2_1 3; have c2_1_4 := rowcell R2_1 4; simp only [List.getElem?_toArray, List.getElem?_cons_zero, List.getElem?_cons_succ] at c2_1_0 c2_1_1 c2_1_2 c2_1_3 c2_1_4; have HR2_1 : Hid _ := R2_1; clear R2_1; have R2_2 := (hb2.block (w1.heap.size) (by first | (simp; done) | (simp; omega) | omega)).trans (rownew' _ _ _ _ (by simp)); have z2_2 : w1.heap.size < w2.heap.size := Nat.lt_of_lt_of_le (by first | (simp; done) | (simp; omega) | omega) hb2.size; have c2_2_0 := rowcell R2_2 0; have c2_2_1 := rowcell R2_2 1; simp only [List.getElem?_toArray, List.getElem?_cons_zero, List.getElem?_cons_succ] at c2_2_0 c2_2_1; have HR2_2 : Hid _ := R2_2; clear R2_2; have HB2 : Hid (Below _ _ _) := hb2; clear hb2; have f1 := rowfree HR2_1.out)
      | (go_at_call 99; go_must (refine (k1 _).mono ?_); rintro e w1 ⟨rfl, hb1⟩; have R1_0 := (hb1.block (w.heap.size) (by first | (simp; done) | (simp; omega) | omega)).trans ((Below.heap_alloc _ _ _ (by first | (simp; done) | (simp; omega) | omega)).trans (rownew' _ _ _ _ (by simp))); have z1_0 : w.heap.size < w1.heap.size := Nat.lt_of_lt_of_le (by first | (simp; done) | (simp; omega) | omega) hb1.size; have c1_0_0 := rowcell R1_0 0; have c1_0_1 := rowcell R1_0 1; simp only [List.getElem?_toArray, List.getElem?_cons_zero, List.getElem?_cons_succ] at c1_0_0 c1_0_1; have HR1_0 : Hid _ := R1_0; clear R1_0; have R1_1 := (hb1.block (w.heap.size + 1) (by first | (simp; done) | (simp; omega) | omega)).trans (rownew' _ _ _ _ (by simp)); have z1_1 : w.heap.size + 1 < w1.heap.size := Nat.lt_of_lt_of_le (by first | (simp; done) | (simp; omega) | omega) hb1.size; have HR1_1 : Hid _ := R1_1; clear R1_1; have HB1 : Hid (Below _ _ _) := hb1; clear hb1))
    have y0 := rowcell (rownew' (w2.alloc (.cells #[.int .u64 g', .int .u64 g] 79)) #[.int .u64 0, .int .u64 0, .int .u64 0, .int .u64 0, .int .u64 0] 104 (w2.heap.size + 1) (by simp))
    have X0 := (Below.heap_alloc (w2.alloc (.cells #[.int .u64 g', .int .u64 g] 79)) (.cells #[.int .u64 0, .int .u64 0, .int .u64 0, .int .u64 0, .int .u64 0] 104) w2.heap.size (by simp)).trans (rownew w2 _ _)
    have X1 := (Below.heap_alloc (w2.alloc (.cells #[.int .u64 g', .int .u64 g] 79)) (.cells #[.int .u64 0, .int .u64 0, .int .u64 0, .int .u64 0, .int .u64 0] 104) w1.heap.size (by simp; omega)).trans ((Below.heap_alloc w2 (.cells #[.int .u64 g', .int .u64 g] 79) w1.heap.size z2_2).trans HR2_2.out)
    have z2_3 : w1.heap.size < w2.heap.size + 1 := by omega
    have x0 := rowcell X0 1
    have x1 := rowcell X1 0
    have x2 := rowcell X1 1
    simp only [List.getElem?_toArray, List.getElem?_cons_zero, List.getElem?_cons_succ] at x0 x1 x2
    refine wpC_region (fun W => W.cell? ⟨w2.heap.size, 1, none⟩ = some (.int .u64 g) ∧ W.cell? ⟨w1.heap.size, 0, none⟩ = some (.int .u64 h) ∧ W.cell? ⟨w1.heap.size, 1, none⟩ = some (.int .u64 l)) (by kernel_rfl) ?_
    refine wpC_take 0 (v := ?_) rfl (by kernel_rfl) (fun _ _ _ h => h) (by kernel_rfl) ?_ ?_; rotate_left; · (intro wC hC; obtain ⟨d0, d1, d2⟩ := hC; go_simp <;> with_reducible rfl)
    refine wpC_take 1 (v := ?_) rfl (by kernel_rfl) (fun _ _ _ h => h) (by kernel_rfl) ?_ ?_; rotate_left; · (intro wC hC; obtain ⟨d0, d1, d2⟩ := hC; go_simp <;> with_reducible rfl)
    refine wpC_take 2 (v := ?_) rfl (by kernel_rfl) (fun _ _ _ h => h) (by kernel_rfl) ?_ ?_; rotate_left; · (intro wC hC; obtain ⟨d0, d1, d2⟩ := hC; go_simp <;> with_reducible rfl)
    refine wpC_take 3 (v := ?_) rfl (by kernel_rfl) (fun _ _ _ h => h) (by kernel_rfl) ?_ ?_; rotate_left; · (intro wC hC; obtain ⟨d0, d1, d2⟩ := hC; go_simp <;> with_reducible rfl)
    refine wpC_take 4 (v := ?_) rfl (by kernel_rfl) (fun _ _ _ h => h) (by kernel_rfl) ?_ ?_; rotate_left; · (intro wC hC; obtain ⟨d0, d1, d2⟩ := hC; go_simp <;> with_reducible rfl)
    refine wpC_take 5 (v := ?_) rfl (by kernel_rfl) (fun _ _ _ h => h) (by kernel_rfl) ?_ ?_; rotate_left; · (intro wC hC; obtain ⟨d0, d1, d2⟩ := hC; go_simp <;> with_reducible rfl)
    refine wpC_take 6 (v := ?_) rfl (by kernel_rfl) (fun _ _ _ h => h) (by kernel_rfl) ?_ ?_; rotate_left; · (intro wC hC; obtain ⟨d0, d1, d2⟩ := hC; go_simp <;> with_reducible rfl)
    refine wpC_take 7 (v := ?_) rfl (by kernel_rfl) (fun _ _ _ h => h) (by kernel_rfl) ?_ ?_; rotate_left; · (intro wC hC; obtain ⟨d0, d1, d2⟩ := hC; go_simp <;> with_reducible rfl)
    refine wpC_take 8 (v := ?_) rfl (by kernel_rfl) (fun _ _ _ h => h) (by kernel_rfl) ?_ ?_; rotate_left; · (intro wC hC; obtain ⟨d0, d1, d2⟩ := hC; go_simp <;> with_reducible rfl)
    refine wpC_take 9 (v := ?_) rfl (by kernel_rfl) (fun _ _ _ h => h) (by kernel_rfl) ?_ ?_; rotate_left; · (intro wC hC; obtain ⟨d0, d1, d2⟩ := hC; go_simp <;> with_reducible rfl)
    refine wpC_take 10 (v := ?_) rfl (by kernel_rfl) (fun _ _ _ h => h) (by kernel_rfl) ?_ ?_; rotate_left; · (intro wC hC; obtain ⟨d0, d1, d2⟩ := hC; go_simp <;> with_reducible rfl)
    refine wpC_take 11 (v := ?_) rfl (by kernel_rfl) (fun _ _ _ h => h) (by kernel_rfl) ?_ ?_; rotate_left; · (intro wC hC; obtain ⟨d0, d1, d2⟩ := hC; go_simp <;> with_reducible rfl)
    refine wpC_step 12 rfl (by kernel_rfl) (by kernel_rfl) ⟨x0, x1, x2⟩ (fun K hK => ?_)
    go_simp
    try (refine hK _ _ ?_; clear hK K)
    refine wpC_take 13 (v := ?_) rfl (by kernel_rfl) (fun _ _ _ h => h) (by kernel_rfl) ?_ ?_; rotate_left; · (intro wC hC; obtain ⟨d0, d1, d2⟩ := hC; go_simp <;> with_reducible rfl)
    refine wpC_step 14 rfl (by kernel_rfl) (by kernel_rfl) (by simp [go_sem, x0, c2_2_0, c2_2_1, z2_2, z2_3]) (fun K hK => ?_)
    go_simp
    try (refine hK _ _ ?_; clear hK K)
    refine wpC_take 15 (v := ?_) rfl (by kernel_rfl) (fun _ _ _ h => h) (by kernel_rfl) ?_ ?_; rotate_left; · (intro wC hC; obtain ⟨d0, d1, d2⟩ := hC; go_simp <;> with_reducible rfl)
    refine wpC_step 16 rfl (by kernel_rfl) (by kernel_rfl) (by simp [go_sem, x0, c2_2_0, c2_2_1, z2_2, z2_3]) (fun K hK => ?_)
    go_simp
    try (refine hK _ _ ?_; clear hK K)
    refine wpC_done (by kernel_rfl) (by simp [go_sem, x0, c2_2_0, c2_2_1, z2_2, z2_3]) ?_
    have n1 : ¬ w.heap.size + 1 = w2.heap.size := by omega
    have z2_4 : w.heap.size + 1 < w2.heap.size + 1 := by omega
    have n2 : ¬ w.heap.size + 1 = w2.heap.size + 1 := by omega
    have n3 : ¬ w.heap.size + 1 = w1.heap.size := by omega
    go_wp2
    refine bodyPost_ret (v := w5V _ _ _ _ _) (by simp [results, Tryz.results63, go_sem, c2_1_0, c2_1_1, c2_1_2, c2_1_3, c2_1_4, f1, z2_0, z2_1, z2_4, n1, n2, n3, w5V]; done) rfl (hQ.out _ _ ⟨rfl, ?_⟩)
    refine cdrew (cmore (cmore (cset5 (cthen (cmore (cthen (cmore (cmore (Below.refl _ _) _) _) HB1.out) _) HB2.out) (by omega)) _) _)
theorem fplaced_any {a hi lo k a0 a1 a2 a3 a4 : Nat} (ha : Tw a hi lo) (hk : k ≤ 191) (h : Q5 (a * 2 ^ k) a0 a1 a2 a3 a4) (w : World) :
    Calls Tryz.prog 63 #[.agg #[.int .u64 hi, .int .u64 lo], .int .i64 k] w fun e w' => e = .returned (w5V a0 a1 a2 a3 a4) ∧ Below w.heap.size w w' := by
  obtain ⟨q, r, hr, hq, e⟩ : ∃ q r, r ≤ 63 ∧ q ≤ 2 ∧ k = 64 * q + r := ⟨k / 64, k % 64, by omega, by omega, by omega⟩
  have hal := ha.lt
  have hv : a * 2 ^ k = a * 2 ^ r * 2 ^ (64 * q) := by rw [e, Nat.mul_assoc, ← Nat.pow_add, Nat.add_comm]
  have hp : 2 ^ r * 2 ^ (128 - r) = 340282366920938463463374607431768211456 := by rw [← Nat.pow_add, show r + (128 - r) = 128 by omega]
  have hd : a / 2 ^ (128 - r) = a * 2 ^ r / 340282366920938463463374607431768211456 := by
    rw [← hp, Nat.mul_comm (2 ^ r), Nat.mul_div_mul_right _ _ (Nat.pow_pos (by decide))]
  have hr2 : 2 ^ r ≤ 9223372036854775808 := Nat.le_trans (Nat.pow_le_pow_right (by decide) hr) (by decide)
  have hlt : a * 2 ^ r < 340282366920938463463374607431768211456 * 9223372036854775808 := Nat.lt_of_lt_of_le ((Nat.mul_lt_mul_right (Nat.pow_pos (by decide))).2 hal) (Nat.mul_le_mul (Nat.le_refl _) hr2)
  obtain ⟨h1, l1, t⟩ : ∃ h l, Tw ((a * 2 ^ r) % 340282366920938463463374607431768211456) h l := ⟨_ / 18446744073709551616, _ % 18446744073709551616, ⟨(Nat.div_add_mod' _ _).symm, by omega, by omega⟩⟩
  obtain ⟨g, hg⟩ : ∃ g, g = a * 2 ^ r / 340282366920938463463374607431768211456 := ⟨_, rfl⟩
  have t2 : Tw (a / 2 ^ (128 - r)) 0 g := ⟨by rw [hd, ← hg]; omega, by decide, by omega⟩
  have ht := t
  obtain ⟨te, th, tl⟩ := t
  have hfull : a * 2 ^ r = g * 340282366920938463463374607431768211456 + h1 * 18446744073709551616 + l1 := by omega
  rw [hv, hfull] at h
  have hc : q = 0 ∨ q = 1 ∨ q = 2 := by omega
  rcases hc with rfl | rfl | rfl
  · obtain ⟨rfl, rfl, rfl, rfl, rfl⟩ := h.one (show Q5 _ l1 h1 g 0 0 from ⟨by omega, by omega, by omega, by omega, by omega, by omega⟩)
    exact fplaced_at k 0 r _ _ _ _ _ _ _ _ _ _ _ hr e ha ht rfl t2 rfl (.inl ⟨rfl, rfl, rfl, rfl, rfl, rfl⟩) w
  · obtain ⟨rfl, rfl, rfl, rfl, rfl⟩ := h.one (show Q5 _ 0 l1 h1 g 0 from ⟨by rw [show 64 * 1 = 64 from rfl, show (2 : Nat) ^ 64 = 18446744073709551616 by decide]; omega, by omega, by omega, by omega, by omega, by omega⟩)
    exact fplaced_at k 1 r _ _ _ _ _ _ _ _ _ _ _ hr e ha ht rfl t2 rfl (.inr (.inl ⟨rfl, rfl, rfl, rfl, rfl, rfl⟩)) w
  · obtain ⟨rfl, rfl, rfl, rfl, rfl⟩ := h.one (show Q5 _ 0 0 l1 h1 g from ⟨by rw [show 64 * 2 = 128 from rfl, show (2 : Nat) ^ 128 = 340282366920938463463374607431768211456 by decide]; omega, by omega, by omega, by omega, by omega, by omega⟩)
    exact fplaced_at k 2 r _ _ _ _ _ _ _ _ _ _ _ hr e ha ht rfl t2 rfl (.inr (.inr ⟨rfl, rfl, rfl, rfl, rfl, rfl⟩)) w
end Go.Proofs.YtheliihkkoohnaaGreat

namespace Go.Proofs.YtheliihkkoohnaaGreat
open Go.ChangeShapes Go.WideShapes Go.ChangeAt Go.RowKit
set_option linter.unusedVariables false
set_option linter.unusedSimpArgs false
set_option maxRecDepth 100000

/-! ### sums and differences of 320 bits -/
set_option maxHeartbeats 4000000 in
theorem fplus_walk (x0 x1 x2 x3 x4 y0 y1 y2 y3 y4 s0 s1 s2 s3 s4 c1 c2 c3 c4 c5 : Nat)
    (r0 : ∀ w, (callFunc 100 #[.int .u64 x0, .int .u64 y0, .int .u64 0]).run Tryz.prog w = .ok (.value (.tuple #[.int .u64 s0, .int .u64 c1])) w)
    (r1 : ∀ w, (callFunc 100 #[.int .u64 x1, .int .u64 y1, .int .u64 c1]).run Tryz.prog w = .ok (.value (.tuple #[.int .u64 s1, .int .u64 c2])) w)
    (r2 : ∀ w, (callFunc 100 #[.int .u64 x2, .int .u64 y2, .int .u64 c2]).run Tryz.prog w = .ok (.value (.tuple #[.int .u64 s2, .int .u64 c3])) w)
    (r3 : ∀ w, (callFunc 100 #[.int .u64 x3, .int .u64 y3, .int .u64 c3]).run Tryz.prog w = .ok (.value (.tuple #[.int .u64 s3, .int .u64 c4])) w)
    (r4 : ∀ w, (callFunc 100 #[.int .u64 x4, .int .u64 y4, .int .u64 c4]).run Tryz.prog w = .ok (.value (.tuple #[.int .u64 s4, .int .u64 c5])) w) (w : World) :
    Calls Tryz.prog 65 #[w5V x0 x1 x2 x3 x4, w5V y0 y1 y2 y3 y4] w fun e w' => e = .returned (w5V s0 s1 s2 s3 s4) ∧ Below w.heap.size w w' := by
  unfold w5V
  have v0 : IntKind.i64.wrap 0 = 0 := rfl
  have v1 : IntKind.i64.wrap 1 = 1 := rfl
  have v2 : IntKind.i64.wrap 2 = 2 := rfl
  have v3 : IntKind.i64.wrap 3 = 3 := rfl
  have v4 : IntKind.i64.wrap 4 = 4 := rfl
  refine cps fun Q hQ => ?_
  go_enter Tryz.func65, Tryz.ntmps65
  go_wp2
  go_loopw [6, 7, 8] (fun cv _ iv wr => Hid (Below w.heap.size w wr) ∧ wr.heap[w.heap.size]? = some (.cells #[.int .u64 x0, .int .u64 x1, .int .u64 x2, .int .u64 x3, .int .u64 x4] 104 (0, 0)) ∧ wr.heap[w.heap.size + 1]? = some (.cells #[.int .u64 y0, .int .u64 y1, .int .u64 y2, .int .u64 y3, .int .u64 y4] 104 (0, 0)) ∧ wr.heap[w.heap.size + 2]? = some (.cells #[.int .u64 0, .int .u64 0, .int .u64 0, .int .u64 0, .int .u64 0] 104 (0, 0)) ∧ ∃ a0 a1 a2 a3 a4 c : Nat, wr.heap[w.heap.size + 3]? = some (.cells #[.int .u64 a0, .int .u64 a1, .int .u64 a2, .int .u64 a3, .int .u64 a4] 104 (0, 0)) ∧ cv = .int .u64 c ∧ ((iv = .int .i64 0 ∧ 0 = c ∧ 0 = a0 ∧ 0 = a1 ∧ 0 = a2 ∧ 0 = a3 ∧ 0 = a4) ∨ (iv = .int .i64 1 ∧ c1 = c ∧ s0 = a0 ∧ 0 = a1 ∧ 0 = a2 ∧ 0 = a3 ∧ 0 = a4) ∨ (iv = .int .i64 2 ∧ c2 = c ∧ s0 = a0 ∧ s1 = a1 ∧ 0 = a2 ∧ 0 = a3 ∧ 0 = a4) ∨ (iv = .int .i64 3 ∧ c3 = c ∧ s0 = a0 ∧ s1 = a1 ∧ s2 = a2 ∧ 0 = a3 ∧ 0 = a4) ∨ (iv = .int .i64 4 ∧ c4 = c ∧ s0 = a0 ∧ s1 = a1 ∧ s2 = a2 ∧ s3 = a3 ∧ 0 = a4) ∨ (iv = .int .i64 5 ∧ s0 = a0 ∧ s1 = a1 ∧ s2 = a2 ∧ s3 = a3 ∧ s4 = a4))) (fun _ _ iv _ => (5 - intOf iv).toNat)
  case atStart => exact ⟨cmore (cmore (cmore (cmore (Below.refl _ _) _) _) _) _, (Below.heap_alloc _ _ _ (by first | (simp; done) | (simp; omega))).trans ((Below.heap_alloc _ _ _ (by first | (simp; done) | (simp; omega))).trans ((Below.heap_alloc _ _ _ (by first | (simp; done) | (simp; omega))).trans (rownew' _ _ _ _ (by simp)))), (Below.heap_alloc _ _ _ (by first | (simp; done) | (simp; omega))).trans ((Below.heap_alloc _ _ _ (by first | (simp; done) | (simp; omega))).trans (rownew' _ _ _ _ (by simp))), (Below.heap_alloc _ _ _ (by first | (simp; done) | (simp; omega))).trans (rownew' _ _ _ _ (by simp)), 0, 0, 0, 0, 0, 0, rownew' _ _ _ _ (by simp), rfl, .inl ⟨rfl, rfl, rfl, rfl, rfl, rfl, rfl⟩⟩
  case round =>
    obtain ⟨hB, hX, hY, hR, a0, a1, a2, a3, a4, c, hS, rfl, hrel⟩ := hrel
    have HB : Hid (Below w.heap.size w wr) := hB.out
    have xx0 := rowcell hX 0
    have xx1 := rowcell hX 1
    have xx2 := rowcell hX 2
    have xx3 := rowcell hX 3
    have xx4 := rowcell hX 4
    have yy0 := rowcell hY 0
    have yy1 := rowcell hY 1
    have yy2 := rowcell hY 2
    have yy3 := rowcell hY 3
    have yy4 := rowcell hY 4
    have tt0 := rowcell hR 0
    have tt1 := rowcell hR 1
    have tt2 := rowcell hR 2
    have tt3 := rowcell hR 3
    have tt4 := rowcell hR 4
    have bb0 := rowcell hS 0
    have bb1 := rowcell hS 1
    have bb2 := rowcell hS 2
    have bb3 := rowcell hS 3
    have bb4 := rowcell hS 4
    have tf := rowfree hR
    have sf := rowfree hS
    simp only [List.getElem?_toArray, List.getElem?_cons_zero, List.getElem?_cons_succ] at xx0 xx1 xx2 xx3 xx4 yy0 yy1 yy2 yy3 yy4 tt0 tt1 tt2 tt3 tt4 bb0 bb1 bb2 bb3 bb4
    have GhX : Hid _ := hX
    have GhY : Hid _ := hY
    have GhR : Hid _ := hR
    have GhS : Hid _ := hS
    clear hX hY hR hS hB
    rcases hrel with ⟨rfl, rfl, rfl, rfl, rfl, rfl, rfl⟩ | ⟨rfl, rfl, rfl, rfl, rfl, rfl, rfl⟩ | ⟨rfl, rfl, rfl, rfl, rfl, rfl, rfl⟩ | ⟨rfl, rfl, rfl, rfl, rfl, rfl, rfl⟩ | ⟨rfl, rfl, rfl, rfl, rfl, rfl, rfl⟩ | ⟨rfl, rfl, rfl, rfl, rfl, rfl⟩
    · go_wp2
      refine wpC_region (fun W => W.cell? ⟨w.heap.size, 0, none⟩ = some (.int .u64 x0) ∧ W.cell? ⟨w.heap.size, 1, none⟩ = some (.int .u64 x1) ∧ W.cell? ⟨w.heap.size, 2, none⟩ = some (.int .u64 x2) ∧ W.cell? ⟨w.heap.size, 3, none⟩ = some (.int .u64 x3) ∧ W.cell? ⟨w.heap.size, 4, none⟩ = some (.int .u64 x4) ∧ W.cell? ⟨w.heap.size + 1, 0, none⟩ = some (.int .u64 y0) ∧ W.cell? ⟨w.heap.size + 1, 1, none⟩ = some (.int .u64 y1) ∧ W.cell? ⟨w.heap.size + 1, 2, none⟩ = some (.int .u64 y2) ∧ W.cell? ⟨w.heap.size + 1, 3, none⟩ = some (.int .u64 y3) ∧ W.cell? ⟨w.heap.size + 1, 4, none⟩ = some (.int .u64 y4)) (by kernel_rfl) ?_
      refine wpC_take 0 (v := ?_) rfl (by kernel_rfl) (fun _ _ _ h => h) (by kernel_rfl) ?_ ?_; rotate_left; · (intro wC hC; obtain ⟨d0, d1, d2, d3, d4, d5, d6, d7, d8, d9⟩ := hC; go_simp <;> with_reducible rfl)
      refine wpC_take 1 (v := ?_) rfl (by kernel_rfl) (fun _ _ _ h => h) (by kernel_rfl) ?_ ?_; rotate_left; · (intro wC hC; obtain ⟨d0, d1, d2, d3, d4, d5, d6, d7, d8, d9⟩ := hC; go_simp <;> with_reducible rfl)
      refine wpC_take 2 (v := ?_) rfl (by kernel_rfl) (fun _ _ _ h => h) (by kernel_rfl) ?_ ?_; rotate_left; · (intro wC hC; obtain ⟨d0, d1, d2, d3, d4, d5, d6, d7, d8, d9⟩ := hC; go_simp <;> with_reducible rfl)
      refine wpC_take 3 (v := ?_) rfl (by kernel_rfl) (fun _ _ _ h => h) (by kernel_rfl) ?_ ?_; rotate_left; · (intro wC hC; obtain ⟨d0, d1, d2, d3, d4, d5, d6, d7, d8, d9⟩ := hC; go_simp <;> with_reducible rfl)
      refine wpC_take 4 (v := ?_) rfl (by kernel_rfl) (fun _ _ _ h => h) (by kernel_rfl) ?_ ?_; rotate_left; · (intro wC hC; obtain ⟨d0, d1, d2, d3, d4, d5, d6, d7, d8, d9⟩ := hC; go_simp <;> with_reducible rfl)
      refine wpC_take 5 (v := ?_) rfl (by kernel_rfl) (fun _ _ _ h => h) (by kernel_rfl) ?_ ?_; rotate_left; · (intro wC hC; obtain ⟨d0, d1, d2, d3, d4, d5, d6, d7, d8, d9⟩ := hC; go_simp <;> with_reducible rfl)
      refine wpC_take 6 (v := ?_) rfl (by kernel_rfl) (fun _ _ _ h => h) (by kernel_rfl) ?_ ?_; rotate_left; · (intro wC hC; obtain ⟨d0, d1, d2, d3, d4, d5, d6, d7, d8, d9⟩ := hC; go_simp <;> with_reducible rfl)
      refine wpC_take 7 (v := ?_) rfl (by kernel_rfl) (fun _ _ _ h => h) (by kernel_rfl) ?_ ?_; rotate_left; · (intro wC hC; obtain ⟨d0, d1, d2, d3, d4, d5, d6, d7, d8, d9⟩ := hC; go_simp <;> with_reducible rfl)
      refine wpC_take 8 (v := ?_) rfl (by kernel_rfl) (fun _ _ _ h => h) (by kernel_rfl) ?_ ?_; rotate_left; · (intro wC hC; obtain ⟨d0, d1, d2, d3, d4, d5, d6, d7, d8, d9⟩ := hC; go_simp <;> with_reducible rfl)
      refine wpC_take 9 (v := ?_) rfl (by kernel_rfl) (fun _ _ _ h => h) (by kernel_rfl) ?_ ?_; rotate_left; · (intro wC hC; obtain ⟨d0, d1, d2, d3, d4, d5, d6, d7, d8, d9⟩ := hC; go_simp <;> with_reducible rfl)
      refine wpC_take 10 (v := ?_) rfl (by kernel_rfl) (fun _ _ _ h => h) (by kernel_rfl) ?_ ?_; rotate_left; · (intro wC hC; obtain ⟨d0, d1, d2, d3, d4, d5, d6, d7, d8, d9⟩ := hC; go_simp <;> with_reducible rfl)
      refine wpC_take 11 (v := ?_) rfl (by kernel_rfl) (fun _ _ _ h => h) (by kernel_rfl) ?_ ?_; rotate_left; · (intro wC hC; obtain ⟨d0, d1, d2, d3, d4, d5, d6, d7, d8, d9⟩ := hC; go_simp <;> with_reducible rfl)
      refine wpC_take 12 (v := ?_) rfl (by kernel_rfl) (fun _ _ _ h => h) (by kernel_rfl) ?_ ?_; rotate_left; · (intro wC hC; obtain ⟨d0, d1, d2, d3, d4, d5, d6, d7, d8, d9⟩ := hC; go_simp <;> with_reducible rfl)
      refine wpC_step 13 rfl (by kernel_rfl) (by kernel_rfl) ⟨xx0, xx1, xx2, xx3, xx4, yy0, yy1, yy2, yy3, yy4⟩ (fun K hK => ?_)
      go_simp
      try (refine hK _ _ ?_; clear hK K)
      refine wpC_take 14 (v := ?_) rfl (by kernel_rfl) (fun _ _ _ h => h) (by kernel_rfl) ?_ ?_; rotate_left; · (intro wC hC; obtain _ := hC; go_simp <;> with_reducible rfl)
      refine wpC_done (by kernel_rfl) (by simp [go_sem, xx0, xx1, xx2, xx3, xx4, yy0, yy1, yy2, yy3, yy4]) ?_
      go_wp2
      go_roundw
      case measure => simp [intOf]
      case rel => exact ⟨cdrew (cset HB.out (by omega) _ _), (rowset_other GhX.out (by omega)), (rowset_other GhY.out (by omega)), (rowset_other GhR.out (by omega)), s0, 0, 0, 0, 0, c1, (rowset GhS.out 0 _).trans (by simp only [List.setIfInBounds_toArray, List.set_cons_zero, List.set_cons_succ]), rfl, .inr (.inl ⟨rfl, rfl, rfl, rfl, rfl, rfl, rfl⟩)⟩
    · go_wp2
      refine wpC_region (fun W => W.cell? ⟨w.heap.size, 0, none⟩ = some (.int .u64 x0) ∧ W.cell? ⟨w.heap.size, 1, none⟩ = some (.int .u64 x1) ∧ W.cell? ⟨w.heap.size, 2, none⟩ = some (.int .u64 x2) ∧ W.cell? ⟨w.heap.size, 3, none⟩ = some (.int .u64 x3) ∧ W.cell? ⟨w.heap.size, 4, none⟩ = some (.int .u64 x4) ∧ W.cell? ⟨w.heap.size + 1, 0, none⟩ = some (.int .u64 y0) ∧ W.cell? ⟨w.heap.size + 1, 1, none⟩ = some (.int .u64 y1) ∧ W.cell? ⟨w.heap.size + 1, 2, none⟩ = some (.int .u64 y2) ∧ W.cell? ⟨w.heap.size + 1, 3, none⟩ = some (.int .u64 y3) ∧ W.cell? ⟨w.heap.size + 1, 4, none⟩ = some (.int .u64 y4)) (by kernel_rfl) ?_
      refine wpC_take 0 (v := ?_) rfl (by kernel_rfl) (fun _ _ _ h => h) (by kernel_rfl) ?_ ?_; rotate_left; · (intro wC hC; obtain ⟨d0, d1, d2, d3, d4, d5, d6, d7, d8, d9⟩ := hC; go_simp <;> with_reducible rfl)
      refine wpC_take 1 (v := ?_) rfl (by kernel_rfl) (fun _ _ _ h => h) (by kernel_rfl) ?_ ?_; rotate_left; · (intro wC hC; obtain ⟨d0, d1, d2, d3, d4, d5, d6, d7, d8, d9⟩ := hC; go_simp <;> with_reducible rfl)
      refine wpC_take 2 (v := ?_) rfl (by kernel_rfl) (fun _ _ _ h => h) (by kernel_rfl) ?_ ?_; rotate_left; · (intro wC hC; obtain ⟨d0, d1, d2, d3, d4, d5, d6, d7, d8, d9⟩ := hC; go_simp <;> with_reducible rfl)
      refine wpC_take 3 (v := ?_) rfl (by kernel_rfl) (fun _ _ _ h => h) (by kernel_rfl) ?_ ?_; rotate_left; · (intro wC hC; obtain ⟨d0, d1, d2, d3, d4, d5, d6, d7, d8, d9⟩ := hC; go_simp <;> with_reducible rfl)
      refine wpC_take 4 (v := ?_) rfl (by kernel_rfl) (fun _ _ _ h => h) (by kernel_rfl) ?_ ?_; rotate_left; · (intro wC hC; obtain ⟨d0, d1, d2, d3, d4, d5, d6, d7, d8, d9⟩ := hC; go_simp <;> with_reducible rfl)
      refine wpC_take 5 (v := ?_) rfl (by kernel_rfl) (fun _ _ _ h => h) (by kernel_rfl) ?_ ?_; rotate_left; · (intro wC hC; obtain ⟨d0, d1, d2, d3, d4, d5, d6, d7, d8, d9⟩ := hC; go_simp <;> with_reducible rfl)
      refine wpC_take 6 (v := ?_) rfl (by kernel_rfl) (fun _ _ _ h => h) (by kernel_rfl) ?_ ?_; rotate_left; · (intro wC hC; obtain ⟨d0, d1, d2, d3, d4, d5, d6, d7, d8, d9⟩ := hC; go_simp <;> with_reducible rfl)
      refine wpC_take 7 (v := ?_) rfl (by kernel_rfl) (fun _ _ _ h => h) (by kernel_rfl) ?_ ?_; rotate_left; · (intro wC hC; obtain ⟨d0, d1, d2, d3, d4, d5, d6, d7, d8, d9⟩ := hC; go_simp <;> with_reducible rfl)
      refine wpC_take 8 (v := ?_) rfl (by kernel_rfl) (fun _ _ _ h => h) (by kernel_rfl) ?_ ?_; rotate_left; · (intro wC hC; obtain ⟨d0, d1, d2, d3, d4, d5, d6, d7, d8, d9⟩ := hC; go_simp <;> with_reducible rfl)
      refine wpC_take 9 (v := ?_) rfl (by kernel_rfl) (fun _ _ _ h => h) (by kernel_rfl) ?_ ?_; rotate_left; · (intro wC hC; obtain ⟨d0, d1, d2, d3, d4, d5, d6, d7, d8, d9⟩ := hC; go_simp <;> with_reducible rfl)
      refine wpC_take 10 (v := ?_) rfl (by kernel_rfl) (fun _ _ _ h => h) (by kernel_rfl) ?_ ?_; rotate_left; · (intro wC hC; obtain ⟨d0, d1, d2, d3, d4, d5, d6, d7, d8, d9⟩ := hC; go_simp <;> with_reducible rfl)
      refine wpC_take 11 (v := ?_) rfl (by kernel_rfl) (fun _ _ _ h => h) (by kernel_rfl) ?_ ?_; rotate_left; · (intro wC hC; obtain ⟨d0, d1, d2, d3, d4, d5, d6, d7, d8, d9⟩ := hC; go_simp <;> with_reducible rfl)
      refine wpC_take 12 (v := ?_) rfl (by kernel_rfl) (fun _ _ _ h => h) (by kernel_rfl) ?_ ?_; rotate_left; · (intro wC hC; obtain ⟨d0, d1, d2, d3, d4, d5, d6, d7, d8, d9⟩ := hC; go_simp <;> with_reducible rfl)
      refine wpC_step 13 rfl (by kernel_rfl) (by kernel_rfl) ⟨xx0, xx1, xx2, xx3, xx4, yy0, yy1, yy2, yy3, yy4⟩ (fun K hK => ?_)
      go_simp
      try (refine hK _ _ ?_; clear hK K)
      refine wpC_take 14 (v := ?_) rfl (by kernel_rfl) (fun _ _ _ h => h) (by kernel_rfl) ?_ ?_; rotate_left; · (intro wC hC; obtain _ := hC; go_simp <;> with_reducible rfl)
      refine wpC_done (by kernel_rfl) (by simp [go_sem, xx0, xx1, xx2, xx3, xx4, yy0, yy1, yy2, yy3, yy4]) ?_
      go_wp2
      go_roundw
      case measure => simp [intOf]
      case rel => exact ⟨cdrew (cset HB.out (by omega) _ _), (rowset_other GhX.out (by omega)), (rowset_other GhY.out (by omega)), (rowset_other GhR.out (by omega)), s0, s1, 0, 0, 0, c2, (rowset GhS.out 1 _).trans (by simp only [List.setIfInBounds_toArray, List.set_cons_zero, List.set_cons_succ]), rfl, .inr (.inr (.inl ⟨rfl, rfl, rfl, rfl, rfl, rfl, rfl⟩))⟩
    · go_wp2
      refine wpC_region (fun W => W.cell? ⟨w.heap.size, 0, none⟩ = some (.int .u64 x0) ∧ W.cell? ⟨w.heap.size, 1, none⟩ = some (.int .u64 x1) ∧ W.cell? ⟨w.heap.size, 2, none⟩ = some (.int .u64 x2) ∧ W.cell? ⟨w.heap.size, 3, none⟩ = some (.int .u64 x3) ∧ W.cell? ⟨w.heap.size, 4, none⟩ = some (.int .u64 x4) ∧ W.cell? ⟨w.heap.size + 1, 0, none⟩ = some (.int .u64 y0) ∧ W.cell? ⟨w.heap.size + 1, 1, none⟩ = some (.int .u64 y1) ∧ W.cell? ⟨w.heap.size + 1, 2, none⟩ = some (.int .u64 y2) ∧ W.cell? ⟨w.heap.size + 1, 3, none⟩ = some (.int .u64 y3) ∧ W.cell? ⟨w.heap.size + 1, 4, none⟩ = some (.int .u64 y4)) (by kernel_rfl) ?_
      refine wpC_take 0 (v := ?_) rfl (by kernel_rfl) (fun _ _ _ h => h) (by kernel_rfl) ?_ ?_; rotate_left; · (intro wC hC; obtain ⟨d0, d1, d2, d3, d4, d5, d6, d7, d8, d9⟩ := hC; go_simp <;> with_reducible rfl)
      refine wpC_take 1 (v := ?_) rfl (by kernel_rfl) (fun _ _ _ h => h) (by kernel_rfl) ?_ ?_; rotate_left; · (intro wC hC; obtain ⟨d0, d1, d2, d3, d4, d5, d6, d7, d8, d9⟩ := hC; go_simp <;> with_reducible rfl)
      refine wpC_take 2 (v := ?_) rfl (by kernel_rfl) (fun _ _ _ h => h) (by kernel_rfl) ?_ ?_; rotate_left; · (intro wC hC; obtain ⟨d0, d1, d2, d3, d4, d5, d6, d7, d8, d9⟩ := hC; go_simp <;> with_reducible rfl)
      refine wpC_take 3 (v := ?_) rfl (by kernel_rfl) (fun _ _ _ h => h) (by kernel_rfl) ?_ ?_; rotate_left; · (intro wC hC; obtain ⟨d0, d1, d2, d3, d4, d5, d6, d7, d8, d9⟩ := hC; go_simp <;> with_reducible rfl)
      refine wpC_take 4 (v := ?_) rfl (by kernel_rfl) (fun _ _ _ h => h) (by kernel_rfl) ?_ ?_; rotate_left; · (intro wC hC; obtain ⟨d0, d1, d2, d3, d4, d5, d6, d7, d8, d9⟩ := hC; go_simp <;> with_reducible rfl)
      refine wpC_take 5 (v := ?_) rfl (by kernel_rfl) (fun _ _ _ h => h) (by kernel_rfl) ?_ ?_; rotate_left; · (intro wC hC; obtain ⟨d0, d1, d2, d3, d4, d5, d6, d7, d8, d9⟩ := hC; go_simp <;> with_reducible rfl)
      refine wpC_take 6 (v := ?_) rfl (by kernel_rfl) (fun _ _ _ h => h) (by kernel_rfl) ?_ ?_; rotate_left; · (intro wC hC; obtain ⟨d0, d1, d2, d3, d4, d5, d6, d7, d8, d9⟩ := hC; go_simp <;> with_reducible rfl)
      refine wpC_take 7 (v := ?_) rfl (by kernel_rfl) (fun _ _ _ h => h) (by kernel_rfl) ?_ ?_; rotate_left; · (intro wC hC; obtain ⟨d0, d1, d2, d3, d4, d5, d6, d7, d8, d9⟩ := hC; go_simp <;> with_reducible rfl)
      refine wpC_take 8 (v := ?_) rfl (by kernel_rfl) (fun _ _ _ h => h) (by kernel_rfl) ?_ ?_; rotate_left; · (intro wC hC; obtain ⟨d0, d1, d2, d3, d4, d5, d6, d7, d8, d9⟩ := hC; go_simp <;> with_reducible rfl)
      refine wpC_take 9 (v := ?_) rfl (by kernel_rfl) (fun _ _ _ h => h) (by kernel_rfl) ?_ ?_; rotate_left; · (intro wC hC; obtain ⟨d0, d1, d2, d3, d4, d5, d6, d7, d8, d9⟩ := hC; go_simp <;> with_reducible rfl)
      refine wpC_take 10 (v := ?_) rfl (by kernel_rfl) (fun _ _ _ h => h) (by kernel_rfl) ?_ ?_; rotate_left; · (intro wC hC; obtain ⟨d0, d1, d2, d3, d4, d5, d6, d7, d8, d9⟩ := hC; go_simp <;> with_reducible rfl)
      refine wpC_take 11 (v := ?_) rfl (by kernel_rfl) (fun _ _ _ h => h) (by kernel_rfl) ?_ ?_; rotate_left; · (intro wC hC; obtain ⟨d0, d1, d2, d3, d4, d5, d6, d7, d8, d9⟩ := hC; go_simp <;> with_reducible rfl)
      refine wpC_take 12 (v := ?_) rfl (by kernel_rfl) (fun _ _ _ h => h) (by kernel_rfl) ?_ ?_; rotate_left; · (intro wC hC; obtain ⟨d0, d1, d2, d3, d4, d5, d6, d7, d8, d9⟩ := hC; go_simp <;> with_reducible rfl)
      refine wpC_step 13 rfl (by kernel_rfl) (by kernel_rfl) ⟨xx0, xx1, xx2, xx3, xx4, yy0, yy1, yy2, yy3, yy4⟩ (fun K hK => ?_)
      go_simp
      try (refine hK _ _ ?_; clear hK K)
      refine wpC_take 14 (v := ?_) rfl (by kernel_rfl) (fun _ _ _ h => h) (by kernel_rfl) ?_ ?_; rotate_left; · (intro wC hC; obtain _ := hC; go_simp <;> with_reducible rfl)
      refine wpC_done (by kernel_rfl) (by simp [go_sem, xx0, xx1, xx2, xx3, xx4, yy0, yy1, yy2, yy3, yy4]) ?_
      go_wp2
      go_roundw
      case measure => simp [intOf]
      case rel => exact ⟨cdrew (cset HB.out (by omega) _ _), (rowset_other GhX.out (by omega)), (rowset_other GhY.out (by omega)), (rowset_other GhR.out (by omega)), s0, s1, s2, 0, 0, c3, (rowset GhS.out 2 _).trans (by simp only [List.setIfInBounds_toArray, List.set_cons_zero, List.set_cons_succ]), rfl, .inr (.inr (.inr (.inl ⟨rfl, rfl, rfl, rfl, rfl, rfl, rfl⟩)))⟩
    · go_wp2
      refine wpC_region (fun W => W.cell? ⟨w.heap.size, 0, none⟩ = some (.int .u64 x0) ∧ W.cell? ⟨w.heap.size, 1, none⟩ = some (.int .u64 x1) ∧ W.cell? ⟨w.heap.size, 2, none⟩ = some (.int .u64 x2) ∧ W.cell? ⟨w.heap.size, 3, none⟩ = some (.int .u64 x3) ∧ W.cell? ⟨w.heap.size, 4, none⟩ = some (.int .u64 x4) ∧ W.cell? ⟨w.heap.size + 1, 0, none⟩ = some (.int .u64 y0) ∧ W.cell? ⟨w.heap.size + 1, 1, none⟩ = some (.int .u64 y1) ∧ W.cell? ⟨w.heap.size + 1, 2, none⟩ = some (.int .u64 y2) ∧ W.cell? ⟨w.heap.size + 1, 3, none⟩ = some (.int .u64 y3) ∧ W.cell? ⟨w.heap.size + 1, 4, none⟩ = some (.int .u64 y4)) (by kernel_rfl) ?_
      refine wpC_take 0 (v := ?_) rfl (by kernel_rfl) (fun _ _ _ h => h) (by kernel_rfl) ?_ ?_; rotate_left; · (intro wC hC; obtain ⟨d0, d1, d2, d3, d4, d5, d6, d7, d8, d9⟩ := hC; go_simp <;> with_reducible rfl)
      refine wpC_take 1 (v := ?_) rfl (by kernel_rfl) (fun _ _ _ h => h) (by kernel_rfl) ?_ ?_; rotate_left; · (intro wC hC; obtain ⟨d0, d1, d2, d3, d4, d5, d6, d7, d8, d9⟩ := hC; go_simp <;> with_reducible rfl)
      refine wpC_take 2 (v := ?_) rfl (by kernel_rfl) (fun _ _ _ h => h) (by kernel_rfl) ?_ ?_; rotate_left; · (intro wC hC; obtain ⟨d0, d1, d2, d3, d4, d5, d6, d7, d8, d9⟩ := hC; go_simp <;> with_reducible rfl)
      refine wpC_take 3 (v := ?_) rfl (by kernel_rfl) (fun _ _ _ h => h) (by kernel_rfl) ?_ ?_; rotate_left; · (intro wC hC; obtain ⟨d0, d1, d2, d3, d4, d5, d6, d7, d8, d9⟩ := hC; go_simp <;> with_reducible rfl)
      refine wpC_take 4 (v := ?_) rfl (by kernel_rfl) (fun _ _ _ h => h) (by kernel_rfl) ?_ ?_; rotate_left; · (intro wC hC; obtain ⟨d0, d1, d2, d3, d4, d5, d6, d7, d8, d9⟩ := hC; go_simp <;> with_reducible rfl)
      refine wpC_take 5 (v := ?_) rfl (by kernel_rfl) (fun _ _ _ h => h) (by kernel_rfl) ?_ ?_; rotate_left; · (intro wC hC; obtain ⟨d0, d1, d2, d3, d4, d5, d6, d7, d8, d9⟩ := hC; go_simp <;> with_reducible rfl)
      refine wpC_take 6 (v := ?_) rfl (by kernel_rfl) (fun _ _ _ h => h) (by kernel_rfl) ?_ ?_; rotate_left; · (intro wC hC; obtain ⟨d0, d1, d2, d3, d4, d5, d6, d7, d8, d9⟩ := hC; go_simp <;> with_reducible rfl)
      refine wpC_take 7 (v := ?_) rfl (by kernel_rfl) (fun _ _ _ h => h) (by kernel_rfl) ?_ ?_; rotate_left; · (intro wC hC; obtain ⟨d0, d1, d2, d3, d4, d5, d6, d7, d8, d9⟩ := hC; go_simp <;> with_reducible rfl)
      refine wpC_take 8 (v := ?_) rfl (by kernel_rfl) (fun _ _ _ h => h) (by kernel_rfl) ?_ ?_; rotate_left; · (intro wC hC; obtain ⟨d0, d1, d2, d3, d4, d5, d6, d7, d8, d9⟩ := hC; go_simp <;> with_reducible rfl)
      refine wpC_take 9 (v := ?_) rfl (by kernel_rfl) (fun _ _ _ h => h) (by kernel_rfl) ?_ ?_; rotate_left; · (intro wC hC; obtain ⟨d0, d1, d2, d3, d4, d5, d6, d7, d8, d9⟩ := hC; go_simp <;> with_reducible rfl)
      refine wpC_take 10 (v := ?_) rfl (by kernel_rfl) (fun _ _ _ h => h) (by kernel_rfl) ?_ ?_; rotate_left; · (intro wC hC; obtain ⟨d0, d1, d2, d3, d4, d5, d6, d7, d8, d9⟩ := hC; go_simp <;> with_reducible rfl)
      refine wpC_take 11 (v := ?_) rfl (by kernel_rfl) (fun _ _ _ h => h) (by kernel_rfl) ?_ ?_; rotate_left; · (intro wC hC; obtain ⟨d0, d1, d2, d3, d4, d5, d6, d7, d8, d9⟩ := hC; go_simp <;> with_reducible rfl)
      refine wpC_take 12 (v := ?_) rfl (by kernel_rfl) (fun _ _ _ h => h) (by kernel_rfl) ?_ ?_; rotate_left; · (intro wC hC; obtain ⟨d0, d1, d2, d3, d4, d5, d6, d7, d8, d9⟩ := hC; go_simp <;> with_reducible rfl)
      refine wpC_step 13 rfl (by kernel_rfl) (by kernel_rfl) ⟨xx0, xx1, xx2, xx3, xx4, yy0, yy1, yy2, yy3, yy4⟩ (fun K hK => ?_)
      go_simp
      try (refine hK _ _ ?_; clear hK K)
      refine wpC_take 14 (v := ?_) rfl (by kernel_rfl) (fun _ _ _ h => h) (by kernel_rfl) ?_ ?_; rotate_left; · (intro wC hC; obtain _ := hC; go_simp <;> with_reducible rfl)
      refine wpC_done (by kernel_rfl) (by simp [go_sem, xx0, xx1, xx2, xx3, xx4, yy0, yy1, yy2, yy3, yy4]) ?_
      go_wp2
      go_roundw
      case measure => simp [intOf]
      case rel => exact ⟨cdrew (cset HB.out (by omega) _ _), (rowset_other GhX.out (by omega)), (rowset_other GhY.out (by omega)), (rowset_other GhR.out (by omega)), s0, s1, s2, s3, 0, c4, (rowset GhS.out 3 _).trans (by simp only [List.setIfInBounds_toArray, List.set_cons_zero, List.set_cons_succ]), rfl, .inr (.inr (.inr (.inr (.inl ⟨rfl, rfl, rfl, rfl, rfl, rfl, rfl⟩))))⟩
    · go_wp2
      refine wpC_region (fun W => W.cell? ⟨w.heap.size, 0, none⟩ = some (.int .u64 x0) ∧ W.cell? ⟨w.heap.size, 1, none⟩ = some (.int .u64 x1) ∧ W.cell? ⟨w.heap.size, 2, none⟩ = some (.int .u64 x2) ∧ W.cell? ⟨w.heap.size, 3, none⟩ = some (.int .u64 x3) ∧ W.cell? ⟨w.heap.size, 4, none⟩ = some (.int .u64 x4) ∧ W.cell? ⟨w.heap.size + 1, 0, none⟩ = some (.int .u64 y0) ∧ W.cell? ⟨w.heap.size + 1, 1, none⟩ = some (.int .u64 y1) ∧ W.cell? ⟨w.heap.size + 1, 2, none⟩ = some (.int .u64 y2) ∧ W.cell? ⟨w.heap.size + 1, 3, none⟩ = some (.int .u64 y3) ∧ W.cell? ⟨w.heap.size + 1, 4, none⟩ = some (.int .u64 y4)) (by kernel_rfl) ?_
      refine wpC_take 0 (v := ?_) rfl (by kernel_rfl) (fun _ _ _ h => h) (by kernel_rfl) ?_ ?_; rotate_left; · (intro wC hC; obtain ⟨d0, d1, d2, d3, d4, d5, d6, d7, d8, d9⟩ := hC; go_simp <;> with_reducible rfl)
      refine wpC_take 1 (v := ?_) rfl (by kernel_rfl) (fun _ _ _ h => h) (by kernel_rfl) ?_ ?_; rotate_left; · (intro wC hC; obtain ⟨d0, d1, d2, d3, d4, d5, d6, d7, d8, d9⟩ := hC; go_simp <;> with_reducible rfl)
      refine wpC_take 2 (v := ?_) rfl (by kernel_rfl) (fun _ _ _ h => h) (by kernel_rfl) ?_ ?_; rotate_left; · (intro wC hC; obtain ⟨d0, d1, d2, d3, d4, d5, d6, d7, d8, d9⟩ := hC; go_simp <;> with_reducible rfl)
      refine wpC_take 3 (v := ?_) rfl (by kernel_rfl) (fun _ _ _ h => h) (by kernel_rfl) ?_ ?_; rotate_left; · (intro wC hC; obtain ⟨d0, d1, d2, d3, d4, d5, d6, d7, d8, d9⟩ := hC; go_simp <;> with_reducible rfl)
      refine wpC_take 4 (v := ?_) rfl (by kernel_rfl) (fun _ _ _ h => h) (by kernel_rfl) ?_ ?_; rotate_left; · (intro wC hC; obtain ⟨d0, d1, d2, d3, d4, d5, d6, d7, d8, d9⟩ := hC; go_simp <;> with_reducible rfl)
      refine wpC_take 5 (v := ?_) rfl (by kernel_rfl) (fun _ _ _ h => h) (by kernel_rfl) ?_ ?_; rotate_left; · (intro wC hC; obtain ⟨d0, d1, d2, d3, d4, d5, d6, d7, d8, d9⟩ := hC; go_simp <;> with_reducible rfl)
      refine wpC_take 6 (v := ?_) rfl (by kernel_rfl) (fun _ _ _ h => h) (by kernel_rfl) ?_ ?_; rotate_left; · (intro wC hC; obtain ⟨d0, d1, d2, d3, d4, d5, d6, d7, d8, d9⟩ := hC; go_simp <;> with_reducible rfl)
      refine wpC_take 7 (v := ?_) rfl (by kernel_rfl) (fun _ _ _ h => h) (by kernel_rfl) ?_ ?_; rotate_left; · (intro wC hC; obtain ⟨d0, d1, d2, d3, d4, d5, d6, d7, d8, d9⟩ := hC; go_simp <;> with_reducible rfl)
      refine wpC_take 8 (v := ?_) rfl (by kernel_rfl) (fun _ _ _ h => h) (by kernel_rfl) ?_ ?_; rotate_left; · (intro wC hC; obtain ⟨d0, d1, d2, d3, d4, d5, d6, d7, d8, d9⟩ := hC; go_simp <;> with_reducible rfl)
      refine wpC_take 9 (v := ?_) rfl (by kernel_rfl) (fun _ _ _ h => h) (by kernel_rfl) ?_ ?_; rotate_left; · (intro wC hC; obtain ⟨d0, d1, d2, d3, d4, d5, d6, d7, d8, d9⟩ := hC; go_simp <;> with_reducible rfl)
      refine wpC_take 10 (v := ?_) rfl (by kernel_rfl) (fun _ _ _ h => h) (by kernel_rfl) ?_ ?_; rotate_left; · (intro wC hC; obtain ⟨d0, d1, d2, d3, d4, d5, d6, d7, d8, d9⟩ := hC; go_simp <;> with_reducible rfl)
      refine wpC_take 11 (v := ?_) rfl (by kernel_rfl) (fun _ _ _ h => h) (by kernel_rfl) ?_ ?_; rotate_left; · (intro wC hC; obtain ⟨d0, d1, d2, d3, d4, d5, d6, d7, d8, d9⟩ := hC; go_simp <;> with_reducible rfl)
      refine wpC_take 12 (v := ?_) rfl (by kernel_rfl) (fun _ _ _ h => h) (by kernel_rfl) ?_ ?_; rotate_left; · (intro wC hC; obtain ⟨d0, d1, d2, d3, d4, d5, d6, d7, d8, d9⟩ := hC; go_simp <;> with_reducible rfl)
      refine wpC_step 13 rfl (by kernel_rfl) (by kernel_rfl) ⟨xx0, xx1, xx2, xx3, xx4, yy0, yy1, yy2, yy3, yy4⟩ (fun K hK => ?_)
      go_simp
      try (refine hK _ _ ?_; clear hK K)
      refine wpC_take 14 (v := ?_) rfl (by kernel_rfl) (fun _ _ _ h => h) (by kernel_rfl) ?_ ?_; rotate_left; · (intro wC hC; obtain _ := hC; go_simp <;> with_reducible rfl)
      refine wpC_done (by kernel_rfl) (by simp [go_sem, xx0, xx1, xx2, xx3, xx4, yy0, yy1, yy2, yy3, yy4]) ?_
      go_wp2
      go_roundw
      case measure => simp [intOf]
      case rel => exact ⟨cdrew (cset HB.out (by omega) _ _), (rowset_other GhX.out (by omega)), (rowset_other GhY.out (by omega)), (rowset_other GhR.out (by omega)), s0, s1, s2, s3, s4, c5, (rowset GhS.out 4 _).trans (by simp only [List.setIfInBounds_toArray, List.set_cons_zero, List.set_cons_succ]), rfl, .inr (.inr (.inr (.inr (.inr ⟨rfl, rfl, rfl, rfl, rfl, rfl⟩))))⟩
    · have zw : w.heap.size + 3 < wr.heap.size := rowlt GhS.out
      go_wp2
      refine bodyPost_ret (v := w5V s0 s1 s2 s3 s4) (by simp [results, Tryz.results65, go_sem, tt0, tt1, tt2, tt3, tt4, bb0, bb1, bb2, bb3, bb4, tf, w5V]; done) rfl (hQ.out _ _ ⟨rfl, ?_⟩)
      exact cset5 HB.out (by omega)
set_option maxHeartbeats 4000000 in
theorem fminus_walk (x0 x1 x2 x3 x4 y0 y1 y2 y3 y4 s0 s1 s2 s3 s4 c1 c2 c3 c4 c5 : Nat)
    (r0 : ∀ w, (callFunc 101 #[.int .u64 x0, .int .u64 y0, .int .u64 0]).run Tryz.prog w = .ok (.value (.tuple #[.int .u64 s0, .int .u64 c1])) w)
    (r1 : ∀ w, (callFunc 101 #[.int .u64 x1, .int .u64 y1, .int .u64 c1]).run Tryz.prog w = .ok (.value (.tuple #[.int .u64 s1, .int .u64 c2])) w)
    (r2 : ∀ w, (callFunc 101 #[.int .u64 x2, .int .u64 y2, .int .u64 c2]).run Tryz.prog w = .ok (.value (.tuple #[.int .u64 s2, .int .u64 c3])) w)
    (r3 : ∀ w, (callFunc 101 #[.int .u64 x3, .int .u64 y3, .int .u64 c3]).run Tryz.prog w = .ok (.value (.tuple #[.int .u64 s3, .int .u64 c4])) w)
    (r4 : ∀ w, (callFunc 101 #[.int .u64 x4, .int .u64 y4, .int .u64 c4]).run Tryz.prog w = .ok (.value (.tuple #[.int .u64 s4, .int .u64 c5])) w) (w : World) :
    Calls Tryz.prog 66 #[w5V x0 x1 x2 x3 x4, w5V y0 y1 y2 y3 y4] w fun e w' => e = .returned (w5V s0 s1 s2 s3 s4) ∧ Below w.heap.size w w' := by
  unfold w5V
  have v0 : IntKind.i64.wrap 0 = 0 := rfl
  have v1 : IntKind.i64.wrap 1 = 1 := rfl
  have v2 : IntKind.i64.wrap 2 = 2 := rfl
  have v3 : IntKind.i64.wrap 3 = 3 := rfl
  have v4 : IntKind.i64.wrap 4 = 4 := rfl
  refine cps fun Q hQ => ?_
  go_enter Tryz.func66, Tryz.ntmps66
  go_wp2
  go_loopw [6, 7, 8] (fun cv _ iv wr => Hid (Below w.heap.size w wr) ∧ wr.heap[w.heap.size]? = some (.cells #[.int .u64 x0, .int .u64 x1, .int .u64 x2, .int .u64 x3, .int .u64 x4] 104 (0, 0)) ∧ wr.heap[w.heap.size + 1]? = some (.cells #[.int .u64 y0, .int .u64 y1, .int .u64 y2, .int .u64 y3, .int .u64 y4] 104 (0, 0)) ∧ wr.heap[w.heap.size + 2]? = some (.cells #[.int .u64 0, .int .u64 0, .int .u64 0, .int .u64 0, .int .u64 0] 104 (0, 0)) ∧ ∃ a0 a1 a2 a3 a4 c : Nat, wr.heap[w.heap.size + 3]? = some (.cells #[.int .u64 a0, .int .u64 a1, .int .u64 a2, .int .u64 a3, .int .u64 a4] 104 (0, 0)) ∧ cv = .int .u64 c ∧ ((iv = .int .i64 0 ∧ 0 = c ∧ 0 = a0 ∧ 0 = a1 ∧ 0 = a2 ∧ 0 = a3 ∧ 0 = a4) ∨ (iv = .int .i64 1 ∧ c1 = c ∧ s0 = a0 ∧ 0 = a1 ∧ 0 = a2 ∧ 0 = a3 ∧ 0 = a4) ∨ (iv = .int .i64 2 ∧ c2 = c ∧ s0 = a0 ∧ s1 = a1 ∧ 0 = a2 ∧ 0 = a3 ∧ 0 = a4) ∨ (iv = .int .i64 3 ∧ c3 = c ∧ s0 = a0 ∧ s1 = a1 ∧ s2 = a2 ∧ 0 = a3 ∧ 0 = a4) ∨ (iv = .int .i64 4 ∧ c4 = c ∧ s0 = a0 ∧ s1 = a1 ∧ s2 = a2 ∧ s3 = a3 ∧ 0 = a4) ∨ (iv = .int .i64 5 ∧ s0 = a0 ∧ s1 = a1 ∧ s2 = a2 ∧ s3 = a3 ∧ s4 = a4))) (fun _ _ iv _ => (5 - intOf iv).toNat)
  case atStart => exact ⟨cmore (cmore (cmore (cmore (Below.refl _ _) _) _) _) _, (Below.heap_alloc _ _ _ (by first | (simp; done) | (simp; omega))).trans ((Below.heap_alloc _ _ _ (by first | (simp; done) | (simp; omega))).trans ((Below.heap_alloc _ _ _ (by first | (simp; done) | (simp; omega))).trans (rownew' _ _ _ _ (by simp)))), (Below.heap_alloc _ _ _ (by first | (simp; done) | (simp; omega))).trans ((Below.heap_alloc _ _ _ (by first | (simp; done) | (simp; omega))).trans (rownew' _ _ _ _ (by simp))), (Below.heap_alloc _ _ _ (by first | (simp; done) | (simp; omega))).trans (rownew' _ _ _ _ (by simp)), 0, 0, 0, 0, 0, 0, rownew' _ _ _ _ (by simp), rfl, .inl ⟨rfl, rfl, rfl, rfl, rfl, rfl, rfl⟩⟩
  case round =>
    obtain ⟨hB, hX, hY, hR, a0, a1, a2, a3, a4, c, hS, rfl, hrel⟩ := hrel
    have HB : Hid (Below w.heap.size w wr) := hB.out
    have xx0 := rowcell hX 0
    have xx1 := rowcell hX 1
    have xx2 := rowcell hX 2
    have xx3 := rowcell hX 3
    have xx4 := rowcell hX 4
    have yy0 := rowcell hY 0
    have yy1 := rowcell hY 1
    have yy2 := rowcell hY 2
    have yy3 := rowcell hY 3
    have yy4 := rowcell hY 4
    have tt0 := rowcell hR 0
    have tt1 := rowcell hR 1
    have tt2 := rowcell hR 2
    have tt3 := rowcell hR 3
    have tt4 := rowcell hR 4
    have bb0 := rowcell hS 0
    have bb1 := rowcell hS 1
    have bb2 := rowcell hS 2
    have bb3 := rowcell hS 3
    have bb4 := rowcell hS 4
    have tf := rowfree hR
    have sf := rowfree hS
    simp only [List.getElem?_toArray, List.getElem?_cons_zero, List.getElem?_cons_succ] at xx0 xx1 xx2 xx3 xx4 yy0 yy1 yy2 yy3 yy4 tt0 tt1 tt2 tt3 tt4 bb0 bb1 bb2 bb3 bb4
    have GhX : Hid _ := hX
    have GhY : Hid _ := hY
    have GhR : Hid _ := hR
    have GhS : Hid _ := hS
    clear hX hY hR hS hB
    rcases hrel with ⟨rfl, rfl, rfl, rfl, rfl, rfl, rfl⟩ | ⟨rfl, rfl, rfl, rfl, rfl, rfl, rfl⟩ | ⟨rfl, rfl, rfl, rfl, rfl, rfl, rfl⟩ | ⟨rfl, rfl, rfl, rfl, rfl, rfl, rfl⟩ | ⟨rfl, rfl, rfl, rfl, rfl, rfl, rfl⟩ | ⟨rfl, rfl, rfl, rfl, rfl, rfl⟩
    · go_wp2
      refine wpC_region (fun W => W.cell? ⟨w.heap.size, 0, none⟩ = some (.int .u64 x0) ∧ W.cell? ⟨w.heap.size, 1, none⟩ = some (.int .u64 x1) ∧ W.cell? ⟨w.heap.size, 2, none⟩ = some (.int .u64 x2) ∧ W.cell? ⟨w.heap.size, 3, none⟩ = some (.int .u64 x3) ∧ W.cell? ⟨w.heap.size, 4, none⟩ = some (.int .u64 x4) ∧ W.cell? ⟨w.heap.size + 1, 0, none⟩ = some (.int .u64 y0) ∧ W.cell? ⟨w.heap.size + 1, 1, none⟩ = some (.int .u64 y1) ∧ W.cell? ⟨w.heap.size + 1, 2, none⟩ = some (.int .u64 y2) ∧ W.cell? ⟨w.heap.size + 1, 3, none⟩ = some (.int .u64 y3) ∧ W.cell? ⟨w.heap.size + 1, 4, none⟩ = some (.int .u64 y4)) (by kernel_rfl) ?_
      refine wpC_take 0 (v := ?_) rfl (by kernel_rfl) (fun _ _ _ h => h) (by kernel_rfl) ?_ ?_; rotate_left; · (intro wC hC; obtain ⟨d0, d1, d2, d3, d4, d5, d6, d7, d8, d9⟩ := hC; go_simp <;> with_reducible rfl)
      refine wpC_take 1 (v := ?_) rfl (by kernel_rfl) (fun _ _ _ h => h) (by kernel_rfl) ?_ ?_; rotate_left; · (intro wC hC; obtain ⟨d0, d1, d2, d3, d4, d5, d6, d7, d8, d9⟩ := hC; go_simp <;> with_reducible rfl)
      refine wpC_take 2 (v := ?_) rfl (by kernel_rfl) (fun _ _ _ h => h) (by kernel_rfl) ?_ ?_; rotate_left; · (intro wC hC; obtain ⟨d0, d1, d2, d3, d4, d5, d6, d7, d8, d9⟩ := hC; go_simp <;> with_reducible rfl)
      refine wpC_take 3 (v := ?_) rfl (by kernel_rfl) (fun _ _ _ h => h) (by kernel_rfl) ?_ ?_; rotate_left; · (intro wC hC; obtain ⟨d0, d1, d2, d3, d4, d5, d6, d7, d8, d9⟩ := hC; go_simp <;> with_reducible rfl)
      refine wpC_take 4 (v := ?_) rfl (by kernel_rfl) (fun _ _ _ h => h) (by kernel_rfl) ?_ ?_; rotate_left; · (intro wC hC; obtain ⟨d0, d1, d2, d3, d4, d5, d6, d7, d8, d9⟩ := hC; go_simp <;> with_reducible rfl)
      refine wpC_take 5 (v := ?_) rfl (by kernel_rfl) (fun _ _ _ h => h) (by kernel_rfl) ?_ ?_; rotate_left; · (intro wC hC; obtain ⟨d0, d1, d2, d3, d4, d5, d6, d7, d8, d9⟩ := hC; go_simp <;> with_reducible rfl)
      refine wpC_take 6 (v := ?_) rfl (by kernel_rfl) (fun _ _ _ h => h) (by kernel_rfl) ?_ ?_; rotate_left; · (intro wC hC; obtain ⟨d0, d1, d2, d3, d4, d5, d6, d7, d8, d9⟩ := hC; go_simp <;> with_reducible rfl)
      refine wpC_take 7 (v := ?_) rfl (by kernel_rfl) (fun _ _ _ h => h) (by kernel_rfl) ?_ ?_; rotate_left; · (intro wC hC; obtain ⟨d0, d1, d2, d3, d4, d5, d6, d7, d8, d9⟩ := hC; go_simp <;> with_reducible rfl)
      refine wpC_take 8 (v := ?_) rfl (by kernel_rfl) (fun _ _ _ h => h) (by kernel_rfl) ?_ ?_; rotate_left; · (intro wC hC; obtain ⟨d0, d1, d2, d3, d4, d5, d6, d7, d8, d9⟩ := hC; go_simp <;> with_reducible rfl)
      refine wpC_take 9 (v := ?_) rfl (by kernel_rfl) (fun _ _ _ h => h) (by kernel_rfl) ?_ ?_; rotate_left; · (intro wC hC; obtain ⟨d0, d1, d2, d3, d4, d5, d6, d7, d8, d9⟩ := hC; go_simp <;> with_reducible rfl)
      refine wpC_take 10 (v := ?_) rfl (by kernel_rfl) (fun _ _ _ h => h) (by kernel_rfl) ?_ ?_; rotate_left; · (intro wC hC; obtain ⟨d0, d1, d2, d3, d4, d5, d6, d7, d8, d9⟩ := hC; go_simp <;> with_reducible rfl)
      refine wpC_take 11 (v := ?_) rfl (by kernel_rfl) (fun _ _ _ h => h) (by kernel_rfl) ?_ ?_; rotate_left; · (intro wC hC; obtain ⟨d0, d1, d2, d3, d4, d5, d6, d7, d8, d9⟩ := hC; go_simp <;> with_reducible rfl)
      refine wpC_take 12 (v := ?_) rfl (by kernel_rfl) (fun _ _ _ h => h) (by kernel_rfl) ?_ ?_; rotate_left; · (intro wC hC; obtain ⟨d0, d1, d2, d3, d4, d5, d6, d7, d8, d9⟩ := hC; go_simp <;> with_reducible rfl)
      refine wpC_step 13 rfl (by kernel_rfl) (by kernel_rfl) ⟨xx0, xx1, xx2, xx3, xx4, yy0, yy1, yy2, yy3, yy4⟩ (fun K hK => ?_)
      go_simp
      try (refine hK _ _ ?_; clear hK K)
      refine wpC_take 14 (v := ?_) rfl (by kernel_rfl) (fun _ _ _ h => h) (by kernel_rfl) ?_ ?_; rotate_left; · (intro wC hC; obtain _ := hC; go_simp <;> with_reducible rfl)
      refine wpC_done (by kernel_rfl) (by simp [go_sem, xx0, xx1, xx2, xx3, xx4, yy0, yy1, yy2, yy3, yy4]) ?_
      go_wp2
      go_roundw
      case measure => simp [intOf]
      case rel => exact ⟨cdrew (cset HB.out (by omega) _ _), (rowset_other GhX.out (by omega)), (rowset_other GhY.out (by omega)), (rowset_other GhR.out (by omega)), s0, 0, 0, 0, 0, c1, (rowset GhS.out 0 _).trans (by simp only [List.setIfInBounds_toArray, List.set_cons_zero, List.set_cons_succ]), rfl, .inr (.inl ⟨rfl, rfl, rfl, rfl, rfl, rfl, rfl⟩)⟩
    · go_wp2
      refine wpC_region (fun W => W.cell? ⟨w.heap.size, 0, none⟩ = some (.int .u64 x0) ∧ W.cell? ⟨w.heap.size, 1, none⟩ = some (.int .u64 x1) ∧ W.cell? ⟨w.heap.size, 2, none⟩ = some (.int .u64 x2) ∧ W.cell? ⟨w.heap.size, 3, none⟩ = some (.int .u64 x3) ∧ W.cell? ⟨w.heap.size, 4, none⟩ = some (.int .u64 x4) ∧ W.cell? ⟨w.heap.size + 1, 0, none⟩ = some (.int .u64 y0) ∧ W.cell? ⟨w.heap.size + 1, 1, none⟩ = some (.int .u64 y1) ∧ W.cell? ⟨w.heap.size + 1, 2, none⟩ = some (.int .u64 y2) ∧ W.cell? ⟨w.heap.size + 1, 3, none⟩ = some (.int .u64 y3) ∧ W.cell? ⟨w.heap.size + 1, 4, none⟩ = some (.int .u64 y4)) (by kernel_rfl) ?_
      refine wpC_take 0 (v := ?_) rfl (by kernel_rfl) (fun _ _ _ h => h) (by kernel_rfl) ?_ ?_; rotate_left; · (intro wC hC; obtain ⟨d0, d1, d2, d3, d4, d5, d6, d7, d8, d9⟩ := hC; go_simp <;> with_reducible rfl)
      refine wpC_take 1 (v := ?_) rfl (by kernel_rfl) (fun _ _ _ h => h) (by kernel_rfl) ?_ ?_; rotate_left; · (intro wC hC; obtain ⟨d0, d1, d2, d3, d4, d5, d6, d7, d8, d9⟩ := hC; go_simp <;> with_reducible rfl)
      refine wpC_take 2 (v := ?_) rfl (by kernel_rfl) (fun _ _ _ h => h) (by kernel_rfl) ?_ ?_; rotate_left; · (intro wC hC; obtain ⟨d0, d1, d2, d3, d4, d5, d6, d7, d8, d9⟩ := hC; go_simp <;> with_reducible rfl)
      refine wpC_take 3 (v := ?_) rfl (by kernel_rfl) (fun _ _ _ h => h) (by kernel_rfl) ?_ ?_; rotate_left; · (intro wC hC; obtain ⟨d0, d1, d2, d3, d4, d5, d6, d7, d8, d9⟩ := hC; go_simp <;> with_reducible rfl)
      refine wpC_take 4 (v := ?_) rfl (by kernel_rfl) (fun _ _ _ h => h) (by kernel_rfl) ?_ ?_; rotate_left; · (intro wC hC; obtain ⟨d0, d1, d2, d3, d4, d5, d6, d7, d8, d9⟩ := hC; go_simp <;> with_reducible rfl)
      refine wpC_take 5 (v := ?_) rfl (by kernel_rfl) (fun _ _ _ h => h) (by kernel_rfl) ?_ ?_; rotate_left; · (intro wC hC; obtain ⟨d0, d1, d2, d3, d4, d5, d6, d7, d8, d9⟩ := hC; go_simp <;> with_reducible rfl)
      refine wpC_take 6 (v := ?_) rfl (by kernel_rfl) (fun _ _ _ h => h) (by kernel_rfl) ?_ ?_; rotate_left; · (intro wC hC; obtain ⟨d0, d1, d2, d3, d4, d5, d6, d7, d8, d9⟩ := hC; go_simp <;> with_reducible rfl)
      refine wpC_take 7 (v := ?_) rfl (by kernel_rfl) (fun _ _ _ h => h) (by kernel_rfl) ?_ ?_; rotate_left; · (intro wC hC; obtain ⟨d0, d1, d2, d3, d4, d5, d6, d7, d8, d9⟩ := hC; go_simp <;> with_reducible rfl)
      refine wpC_take 8 (v := ?_) rfl (by kernel_rfl) (fun _ _ _ h => h) (by kernel_rfl) ?_ ?_; rotate_left; · (intro wC hC; obtain ⟨d0, d1, d2, d3, d4, d5, d6, d7, d8, d9⟩ := hC; go_simp <;> with_reducible rfl)
      refine wpC_take 9 (v := ?_) rfl (by kernel_rfl) (fun _ _ _ h => h) (by kernel_rfl) ?_ ?_; rotate_left; · (intro wC hC; obtain ⟨d0, d1, d2, d3, d4, d5, d6, d7, d8, d9⟩ := hC; go_simp <;> with_reducible rfl)
      refine wpC_take 10 (v := ?_) rfl (by kernel_rfl) (fun _ _ _ h => h) (by kernel_rfl) ?_ ?_; rotate_left; · (intro wC hC; obtain ⟨d0, d1, d2, d3, d4, d5, d6, d7, d8, d9⟩ := hC; go_simp <;> with_reducible rfl)
      refine wpC_take 11 (v := ?_) rfl (by kernel_rfl) (fun _ _ _ h => h) (by kernel_rfl) ?_ ?_; rotate_left; · (intro wC hC; obtain ⟨d0, d1, d2, d3, d4, d5, d6, d7, d8, d9⟩ := hC; go_simp <;> with_reducible rfl)
      refine wpC_take 12 (v := ?_) rfl (by kernel_rfl) (fun _ _ _ h => h) (by kernel_rfl) ?_ ?_; rotate_left; · (intro wC hC; obtain ⟨d0, d1, d2, d3, d4, d5, d6, d7, d8, d9⟩ := hC; go_simp <;> with_reducible rfl)
      refine wpC_step 13 rfl (by kernel_rfl) (by kernel_rfl) ⟨xx0, xx1, xx2, xx3, xx4, yy0, yy1, yy2, yy3, yy4⟩ (fun K hK => ?_)
      go_simp
      try (refine hK _ _ ?_; clear hK K)
      refine wpC_take 14 (v := ?_) rfl (by kernel_rfl) (fun _ _ _ h => h) (by kernel_rfl) ?_ ?_; rotate_left; · (intro wC hC; obtain _ := hC; go_simp <;> with_reducible rfl)
      refine wpC_done (by kernel_rfl) (by simp [go_sem, xx0, xx1, xx2, xx3, xx4, yy0, yy1, yy2, yy3, yy4]) ?_
      go_wp2
      go_roundw
      case measure => simp [intOf]
      case rel => exact ⟨cdrew (cset HB.out (by omega) _ _), (rowset_other GhX.out (by omega)), (rowset_other GhY.out (by omega)), (rowset_other GhR.out (by omega)), s0, s1, 0, 0, 0, c2, (rowset GhS.out 1 _).trans (by simp only [List.setIfInBounds_toArray, List.set_cons_zero, List.set_cons_succ]), rfl, .inr (.inr (.inl ⟨rfl, rfl, rfl, rfl, rfl, rfl, rfl⟩))⟩
    · go_wp2
      refine wpC_region (fun W => W.cell? ⟨w.heap.size, 0, none⟩ = some (.int .u64 x0) ∧ W.cell? ⟨w.heap.size, 1, none⟩ = some (.int .u64 x1) ∧ W.cell? ⟨w.heap.size, 2, none⟩ = some (.int .u64 x2) ∧ W.cell? ⟨w.heap.size, 3, none⟩ = some (.int .u64 x3) ∧ W.cell? ⟨w.heap.size, 4, none⟩ = some (.int .u64 x4) ∧ W.cell? ⟨w.heap.size + 1, 0, none⟩ = some (.int .u64 y0) ∧ W.cell? ⟨w.heap.size + 1, 1, none⟩ = some (.int .u64 y1) ∧ W.cell? ⟨w.heap.size + 1, 2, none⟩ = some (.int .u64 y2) ∧ W.cell? ⟨w.heap.size + 1, 3, none⟩ = some (.int .u64 y3) ∧ W.cell? ⟨w.heap.size + 1, 4, none⟩ = some (.int .u64 y4)) (by kernel_rfl) ?_
      refine wpC_take 0 (v := ?_) rfl (by kernel_rfl) (fun _ _ _ h => h) (by kernel_rfl) ?_ ?_; rotate_left; · (intro wC hC; obtain ⟨d0, d1, d2, d3, d4, d5, d6, d7, d8, d9⟩ := hC; go_simp <;> with_reducible rfl)
      refine wpC_take 1 (v := ?_) rfl (by kernel_rfl) (fun _ _ _ h => h) (by kernel_rfl) ?_ ?_; rotate_left; · (intro wC hC; obtain ⟨d0, d1, d2, d3, d4, d5, d6, d7, d8, d9⟩ := hC; go_simp <;> with_reducible rfl)
      refine wpC_take 2 (v := ?_) rfl (by kernel_rfl) (fun _ _ _ h => h) (by kernel_rfl) ?_ ?_; rotate_left; · (intro wC hC; obtain ⟨d0, d1, d2, d3, d4, d5, d6, d7, d8, d9⟩ := hC; go_simp <;> with_reducible rfl)
      refine wpC_take 3 (v := ?_) rfl (by kernel_rfl) (fun _ _ _ h => h) (by kernel_rfl) ?_ ?_; rotate_left; · (intro wC hC; obtain ⟨d0, d1, d2, d3, d4, d5, d6, d7, d8, d9⟩ := hC; go_simp <;> with_reducible rfl)
      refine wpC_take 4 (v := ?_) rfl (by kernel_rfl) (fun _ _ _ h => h) (by kernel_rfl) ?_ ?_; rotate_left; · (intro wC hC; obtain ⟨d0, d1, d2, d3, d4, d5, d6, d7, d8, d9⟩ := hC; go_simp <;> with_reducible rfl)
      refine wpC_take 5 (v := ?_) rfl (by kernel_rfl) (fun _ _ _ h => h) (by kernel_rfl) ?_ ?_; rotate_left; · (intro wC hC; obtain ⟨d0, d1, d2, d3, d4, d5, d6, d7, d8, d9⟩ := hC; go_simp <;> with_reducible rfl)
      refine wpC_take 6 (v := ?_) rfl (by kernel_rfl) (fun _ _ _ h => h) (by kernel_rfl) ?_ ?_; rotate_left; · (intro wC hC; obtain ⟨d0, d1, d2, d3, d4, d5, d6, d7, d8, d9⟩ := hC; go_simp <;> with_reducible rfl)
      refine wpC_take 7 (v := ?_) rfl (by kernel_rfl) (fun _ _ _ h => h) (by kernel_rfl) ?_ ?_; rotate_left; · (intro wC hC; obtain ⟨d0, d1, d2, d3, d4, d5, d6, d7, d8, d9⟩ := hC; go_simp <;> with_reducible rfl)
      refine wpC_take 8 (v := ?_) rfl (by kernel_rfl) (fun _ _ _ h => h) (by kernel_rfl) ?_ ?_; rotate_left; · (intro wC hC; obtain ⟨d0, d1, d2, d3, d4, d5, d6, d7, d8, d9⟩ := hC; go_simp <;> with_reducible rfl)
      refine wpC_take 9 (v := ?_) rfl (by kernel_rfl) (fun _ _ _ h => h) (by kernel_rfl) ?_ ?_; rotate_left; · (intro wC hC; obtain ⟨d0, d1, d2, d3, d4, d5, d6, d7, d8, d9⟩ := hC; go_simp <;> with_reducible rfl)
      refine wpC_take 10 (v := ?_) rfl (by kernel_rfl) (fun _ _ _ h => h) (by kernel_rfl) ?_ ?_; rotate_left; · (intro wC hC; obtain ⟨d0, d1, d2, d3, d4, d5, d6, d7, d8, d9⟩ := hC; go_simp <;> with_reducible rfl)
      refine wpC_take 11 (v := ?_) rfl (by kernel_rfl) (fun _ _ _ h => h) (by kernel_rfl) ?_ ?_; rotate_left; · (intro wC hC; obtain ⟨d0, d1, d2, d3, d4, d5, d6, d7, d8, d9⟩ := hC; go_simp <;> with_reducible rfl)
      refine wpC_take 12 (v := ?_) rfl (by kernel_rfl) (fun _ _ _ h => h) (by kernel_rfl) ?_ ?_; rotate_left; · (intro wC hC; obtain ⟨d0, d1, d2, d3, d4, d5, d6, d7, d8, d9⟩ := hC; go_simp <;> with_reducible rfl)
      refine wpC_step 13 rfl (by kernel_rfl) (by kernel_rfl) ⟨xx0, xx1, xx2, xx3, xx4, yy0, yy1, yy2, yy3, yy4⟩ (fun K hK => ?_)
      go_simp
      try (refine hK _ _ ?_; clear hK K)
      refine wpC_take 14 (v := ?_) rfl (by kernel_rfl) (fun _ _ _ h => h) (by kernel_rfl) ?_ ?_; rotate_left; · (intro wC hC; obtain _ := hC; go_simp <;> with_reducible rfl)
      refine wpC_done (by kernel_rfl) (by simp [go_sem, xx0, xx1, xx2, xx3, xx4, yy0, yy1, yy2, yy3, yy4]) ?_
      go_wp2
      go_roundw
      case measure => simp [intOf]
      case rel => exact ⟨cdrew (cset HB.out (by omega) _ _), (rowset_other GhX.out (by omega)), (rowset_other GhY.out (by omega)), (rowset_other GhR.out (by omega)), s0, s1, s2, 0, 0, c3, (rowset GhS.out 2 _).trans (by simp only [List.setIfInBounds_toArray, List.set_cons_zero, List.set_cons_succ]), rfl, .inr (.inr (.inr (.inl ⟨rfl, rfl, rfl, rfl, rfl, rfl, rfl⟩)))⟩
    · go_wp2
      refine wpC_region (fun W => W.cell? ⟨w.heap.size, 0, none⟩ = some (.int .u64 x0) ∧ W.cell? ⟨w.heap.size, 1, none⟩ = some (.int .u64 x1) ∧ W.cell? ⟨w.heap.size, 2, none⟩ = some (.int .u64 x2) ∧ W.cell? ⟨w.heap.size, 3, none⟩ = some (.int .u64 x3) ∧ W.cell? ⟨w.heap.size, 4, none⟩ = some (.int .u64 x4) ∧ W.cell? ⟨w.heap.size + 1, 0, none⟩ = some (.int .u64 y0) ∧ W.cell? ⟨w.heap.size + 1, 1, none⟩ = some (.int .u64 y1) ∧ W.cell? ⟨w.heap.size + 1, 2, none⟩ = some (.int .u64 y2) ∧ W.cell? ⟨w.heap.size + 1, 3, none⟩ = some (.int .u64 y3) ∧ W.cell? ⟨w.heap.size + 1, 4, none⟩ = some (.int .u64 y4)) (by kernel_rfl) ?_
      refine wpC_take 0 (v := ?_) rfl (by kernel_rfl) (fun _ _ _ h => h) (by kernel_rfl) ?_ ?_; rotate_left; · (intro wC hC; obtain ⟨d0, d1, d2, d3, d4, d5, d6, d7, d8, d9⟩ := hC; go_simp <;> with_reducible rfl)
      refine wpC_take 1 (v := ?_) rfl (by kernel_rfl) (fun _ _ _ h => h) (by kernel_rfl) ?_ ?_; rotate_left; · (intro wC hC; obtain ⟨d0, d1, d2, d3, d4, d5, d6, d7, d8, d9⟩ := hC; go_simp <;> with_reducible rfl)
      refine wpC_take 2 (v := ?_) rfl (by kernel_rfl) (fun _ _ _ h => h) (by kernel_rfl) ?_ ?_; rotate_left; · (intro wC hC; obtain ⟨d0, d1, d2, d3, d4, d5, d6, d7, d8, d9⟩ := hC; go_simp <;> with_reducible rfl)
      refine wpC_take 3 (v := ?_) rfl (by kernel_rfl) (fun _ _ _ h => h) (by kernel_rfl) ?_ ?_; rotate_left; · (intro wC hC; obtain ⟨d0, d1, d2, d3, d4, d5, d6, d7, d8, d9⟩ := hC; go_simp <;> with_reducible rfl)
      refine wpC_take 4 (v := ?_) rfl (by kernel_rfl) (fun _ _ _ h => h) (by kernel_rfl) ?_ ?_; rotate_left; · (intro wC hC; obtain ⟨d0, d1, d2, d3, d4, d5, d6, d7, d8, d9⟩ := hC; go_simp <;> with_reducible rfl)
      refine wpC_take 5 (v := ?_) rfl (by kernel_rfl) (fun _ _ _ h => h) (by kernel_rfl) ?_ ?_; rotate_left; · (intro wC hC; obtain ⟨d0, d1, d2, d3, d4, d5, d6, d7, d8, d9⟩ := hC; go_simp <;> with_reducible rfl)
      refine wpC_take 6 (v := ?_) rfl (by kernel_rfl) (fun _ _ _ h => h) (by kernel_rfl) ?_ ?_; rotate_left; · (intro wC hC; obtain ⟨d0, d1, d2, d3, d4, d5, d6, d7, d8, d9⟩ := hC; go_simp <;> with_reducible rfl)
      refine wpC_take 7 (v := ?_) rfl (by kernel_rfl) (fun _ _ _ h => h) (by kernel_rfl) ?_ ?_; rotate_left; · (intro wC hC; obtain ⟨d0, d1, d2, d3, d4, d5, d6, d7, d8, d9⟩ := hC; go_simp <;> with_reducible rfl)
      refine wpC_take 8 (v := ?_) rfl (by kernel_rfl) (fun _ _ _ h => h) (by kernel_rfl) ?_ ?_; rotate_left; · (intro wC hC; obtain ⟨d0, d1, d2, d3, d4, d5, d6, d7, d8, d9⟩ := hC; go_simp <;> with_reducible rfl)
      refine wpC_take 9 (v := ?_) rfl (by kernel_rfl) (fun _ _ _ h => h) (by kernel_rfl) ?_ ?_; rotate_left; · (intro wC hC; obtain ⟨d0, d1, d2, d3, d4, d5, d6, d7, d8, d9⟩ := hC; go_simp <;> with_reducible rfl)
      refine wpC_take 10 (v := ?_) rfl (by kernel_rfl) (fun _ _ _ h => h) (by kernel_rfl) ?_ ?_; rotate_left; · (intro wC hC; obtain ⟨d0, d1, d2, d3, d4, d5, d6, d7, d8, d9⟩ := hC; go_simp <;> with_reducible rfl)
      refine wpC_take 11 (v := ?_) rfl (by kernel_rfl) (fun _ _ _ h => h) (by kernel_rfl) ?_ ?_; rotate_left; · (intro wC hC; obtain ⟨d0, d1, d2, d3, d4, d5, d6, d7, d8, d9⟩ := hC; go_simp <;> with_reducible rfl)
      refine wpC_take 12 (v := ?_) rfl (by kernel_rfl) (fun _ _ _ h => h) (by kernel_rfl) ?_ ?_; rotate_left; · (intro wC hC; obtain ⟨d0, d1, d2, d3, d4, d5, d6, d7, d8, d9⟩ := hC; go_simp <;> with_reducible rfl)
      refine wpC_step 13 rfl (by kernel_rfl) (by kernel_rfl) ⟨xx0, xx1, xx2, xx3, xx4, yy0, yy1, yy2, yy3, yy4⟩ (fun K hK => ?_)
      go_simp
      try (refine hK _ _ ?_; clear hK K)
      refine wpC_take 14 (v := ?_) rfl (by kernel_rfl) (fun _ _ _ h => h) (by kernel_rfl) ?_ ?_; rotate_left; · (intro wC hC; obtain _ := hC; go_simp <;> with_reducible rfl)
      refine wpC_done (by kernel_rfl) (by simp [go_sem, xx0, xx1, xx2, xx3, xx4, yy0, yy1, yy2, yy3, yy4]) ?_
      go_wp2
      go_roundw
      case measure => simp [intOf]
      case rel => exact ⟨cdrew (cset HB.out (by omega) _ _), (rowset_other GhX.out (by omega)), (rowset_other GhY.out (by omega)), (rowset_other GhR.out (by omega)), s0, s1, s2, s3, 0, c4, (rowset GhS.out 3 _).trans (by simp only [List.setIfInBounds_toArray, List.set_cons_zero, List.set_cons_succ]), rfl, .inr (.inr (.inr (.inr (.inl ⟨rfl, rfl, rfl, rfl, rfl, rfl, rfl⟩))))⟩
    · go_wp2
      refine wpC_region (fun W => W.cell? ⟨w.heap.size, 0, none⟩ = some (.int .u64 x0) ∧ W.cell? ⟨w.heap.size, 1, none⟩ = some (.int .u64 x1) ∧ W.cell? ⟨w.heap.size, 2, none⟩ = some (.int .u64 x2) ∧ W.cell? ⟨w.heap.size, 3, none⟩ = some (.int .u64 x3) ∧ W.cell? ⟨w.heap.size, 4, none⟩ = some (.int .u64 x4) ∧ W.cell? ⟨w.heap.size + 1, 0, none⟩ = some (.int .u64 y0) ∧ W.cell? ⟨w.heap.size + 1, 1, none⟩ = some (.int .u64 y1) ∧ W.cell? ⟨w.heap.size + 1, 2, none⟩ = some (.int .u64 y2) ∧ W.cell? ⟨w.heap.size + 1, 3, none⟩ = some (.int .u64 y3) ∧ W.cell? ⟨w.heap.size + 1, 4, none⟩ = some (.int .u64 y4)) (by kernel_rfl) ?_
      refine wpC_take 0 (v := ?_) rfl (by kernel_rfl) (fun _ _ _ h => h) (by kernel_rfl) ?_ ?_; rotate_left; · (intro wC hC; obtain ⟨d0, d1, d2, d3, d4, d5, d6, d7, d8, d9⟩ := hC; go_simp <;> with_reducible rfl)
      refine wpC_take 1 (v := ?_) rfl (by kernel_rfl) (fun _ _ _ h => h) (by kernel_rfl) ?_ ?_; rotate_left; · (intro wC hC; obtain ⟨d0, d1, d2, d3, d4, d5, d6, d7, d8, d9⟩ := hC; go_simp <;> with_reducible rfl)
      refine wpC_take 2 (v := ?_) rfl (by kernel_rfl) (fun _ _ _ h => h) (by kernel_rfl) ?_ ?_; rotate_left; · (intro wC hC; obtain ⟨d0, d1, d2, d3, d4, d5, d6, d7, d8, d9⟩ := hC; go_simp <;> with_reducible rfl)
      refine wpC_take 3 (v := ?_) rfl (by kernel_rfl) (fun _ _ _ h => h) (by kernel_rfl) ?_ ?_; rotate_left; · (intro wC hC; obtain ⟨d0, d1, d2, d3, d4, d5, d6, d7, d8, d9⟩ := hC; go_simp <;> with_reducible rfl)
      refine wpC_take 4 (v := ?_) rfl (by kernel_rfl) (fun _ _ _ h => h) (by kernel_rfl) ?_ ?_; rotate_left; · (intro wC hC; obtain ⟨d0, d1, d2, d3, d4, d5, d6, d7, d8, d9⟩ := hC; go_simp <;> with_reducible rfl)
      refine wpC_take 5 (v := ?_) rfl (by kernel_rfl) (fun _ _ _ h => h) (by kernel_rfl) ?_ ?_; rotate_left; · (intro wC hC; obtain ⟨d0, d1, d2, d3, d4, d5, d6, d7, d8, d9⟩ := hC; go_simp <;> with_reducible rfl)
      refine wpC_take 6 (v := ?_) rfl (by kernel_rfl) (fun _ _ _ h => h) (by kernel_rfl) ?_ ?_; rotate_left; · (intro wC hC; obtain ⟨d0, d1, d2, d3, d4, d5, d6, d7, d8, d9⟩ := hC; go_simp <;> with_reducible rfl)
      refine wpC_take 7 (v := ?_) rfl (by kernel_rfl) (fun _ _ _ h => h) (by kernel_rfl) ?_ ?_; rotate_left; · (intro wC hC; obtain ⟨d0, d1, d2, d3, d4, d5, d6, d7, d8, d9⟩ := hC; go_simp <;> with_reducible rfl)
      refine wpC_take 8 (v := ?_) rfl (by kernel_rfl) (fun _ _ _ h => h) (by kernel_rfl) ?_ ?_; rotate_left; · (intro wC hC; obtain ⟨d0, d1, d2, d3, d4, d5, d6, d7, d8, d9⟩ := hC; go_simp <;> with_reducible rfl)
      refine wpC_take 9 (v := ?_) rfl (by kernel_rfl) (fun _ _ _ h => h) (by kernel_rfl) ?_ ?_; rotate_left; · (intro wC hC; obtain ⟨d0, d1, d2, d3, d4, d5, d6, d7, d8, d9⟩ := hC; go_simp <;> with_reducible rfl)
      refine wpC_take 10 (v := ?_) rfl (by kernel_rfl) (fun _ _ _ h => h) (by kernel_rfl) ?_ ?_; rotate_left; · (intro wC hC; obtain ⟨d0, d1, d2, d3, d4, d5, d6, d7, d8, d9⟩ := hC; go_simp <;> with_reducible rfl)
      refine wpC_take 11 (v := ?_) rfl (by kernel_rfl) (fun _ _ _ h => h) (by kernel_rfl) ?_ ?_; rotate_left; · (intro wC hC; obtain ⟨d0, d1, d2, d3, d4, d5, d6, d7, d8, d9⟩ := hC; go_simp <;> with_reducible rfl)
      refine wpC_take 12 (v := ?_) rfl (by kernel_rfl) (fun _ _ _ h => h) (by kernel_rfl) ?_ ?_; rotate_left; · (intro wC hC; obtain ⟨d0, d1, d2, d3, d4, d5, d6, d7, d8, d9⟩ := hC; go_simp <;> with_reducible rfl)
      refine wpC_step 13 rfl (by kernel_rfl) (by kernel_rfl) ⟨xx0, xx1, xx2, xx3, xx4, yy0, yy1, yy2, yy3, yy4⟩ (fun K hK => ?_)
      go_simp
      try (refine hK _ _ ?_; clear hK K)
      refine wpC_take 14 (v := ?_) rfl (by kernel_rfl) (fun _ _ _ h => h) (by kernel_rfl) ?_ ?_; rotate_left; · (intro wC hC; obtain _ := hC; go_simp <;> with_reducible rfl)
      refine wpC_done (by kernel_rfl) (by simp [go_sem, xx0, xx1, xx2, xx3, xx4, yy0, yy1, yy2, yy3, yy4]) ?_
      go_wp2
      go_roundw
      case measure => simp [intOf]
      case rel => exact ⟨cdrew (cset HB.out (by omega) _ _), (rowset_other GhX.out (by omega)), (rowset_other GhY.out (by omega)), (rowset_other GhR.out (by omega)), s0, s1, s2, s3, s4, c5, (rowset GhS.out 4 _).trans (by simp only [List.setIfInBounds_toArray, List.set_cons_zero, List.set_cons_succ]), rfl, .inr (.inr (.inr (.inr (.inr ⟨rfl, rfl, rfl, rfl, rfl, rfl⟩))))⟩
    · have zw : w.heap.size + 3 < wr.heap.size := rowlt GhS.out
      go_wp2
      refine bodyPost_ret (v := w5V s0 s1 s2 s3 s4) (by simp [results, Tryz.results66, go_sem, tt0, tt1, tt2, tt3, tt4, bb0, bb1, bb2, bb3, bb4, tf, w5V]; done) rfl (hQ.out _ _ ⟨rfl, ?_⟩)
      exact cset5 HB.out (by omega)
theorem fplus_any {A B x0 x1 x2 x3 x4 y0 y1 y2 y3 y4 s0 s1 s2 s3 s4 : Nat} (ha : Q5 A x0 x1 x2 x3 x4) (hb : Q5 B y0 y1 y2 y3 y4) (hs : Q5 (A + B) s0 s1 s2 s3 s4) (w : World) :
    Calls Tryz.prog 65 #[w5V x0 x1 x2 x3 x4, w5V y0 y1 y2 y3 y4] w fun e w' => e = .returned (w5V s0 s1 s2 s3 s4) ∧ Below w.heap.size w w' := by
  obtain ⟨ea, a0, a1, a2, a3, a4⟩ := ha
  obtain ⟨eb, b0, b1, b2, b3, b4⟩ := hb
  have one : ∀ x y c : Nat, x ≤ 18446744073709551615 → y ≤ 18446744073709551615 → ∃ s d : Nat, s = (x + y + c) % 18446744073709551616 ∧ d = (x + y + c) / 18446744073709551616 ∧ s ≤ 18446744073709551615 ∧ x + y + c = s + d * 18446744073709551616 := by
    intro x y c hx hy
    exact ⟨_, _, rfl, rfl, by omega, by omega⟩
  obtain ⟨t0, d1, e0, f0, m0, u0⟩ := one x0 y0 0 a0 b0
  obtain ⟨t1, d2, e1, f1, m1, u1⟩ := one x1 y1 d1 a1 b1
  obtain ⟨t2, d3, e2, f2, m2, u2⟩ := one x2 y2 d2 a2 b2
  obtain ⟨t3, d4, e3, f3, m3, u3⟩ := one x3 y3 d3 a3 b3
  obtain ⟨t4, d5, e4, f4, m4, u4⟩ := one x4 y4 d4 a4 b4
  have r0 := run_add64_at x0 y0 0 (by omega)
  have r1 := run_add64_at x1 y1 d1 (by omega)
  have r2 := run_add64_at x2 y2 d2 (by omega)
  have r3 := run_add64_at x3 y3 d3 (by omega)
  have r4 := run_add64_at x4 y4 d4 (by omega)
  rw [← e0, ← f0] at r0
  rw [← e1, ← f1] at r1
  rw [← e2, ← f2] at r2
  rw [← e3, ← f3] at r3
  rw [← e4, ← f4] at r4
  clear e0 f0 e1 f1 e2 f2 e3 f3 e4 f4 one
  have hlt := hs.lt
  have q1 : Q5 (A + B) t0 t1 t2 t3 t4 := by
    clear r0 r1 r2 r3 r4 hs a0 a1 a2 a3 a4 b0 b1 b2 b3 b4
    obtain ⟨T, hT⟩ : ∃ T, T = t0 + t1 * 18446744073709551616 + t2 * 340282366920938463463374607431768211456 + t3 * 6277101735386680763835789423207666416102355444464034512896 + t4 * 115792089237316195423570985008687907853269984665640564039457584007913129639936 := ⟨_, rfl⟩
    have key : A + B = T + d5 * 2135987035920910082395021706169552114602704522356652769947041607822219725780640550022962086936576 := by
      clear m0 m1 m2 m3 m4 hlt
      omega
    refine ⟨?_, m0, m1, m2, m3, m4⟩
    rw [← hT]
    clear hT u0 u1 u2 u3 u4 ea eb m0 m1 m2 m3 m4
    omega
  obtain ⟨rfl, rfl, rfl, rfl, rfl⟩ := hs.one q1
  exact fplus_walk x0 x1 x2 x3 x4 y0 y1 y2 y3 y4 _ _ _ _ _ d1 d2 d3 d4 d5 r0 r1 r2 r3 r4 w
theorem fminus_any {A B x0 x1 x2 x3 x4 y0 y1 y2 y3 y4 s0 s1 s2 s3 s4 : Nat} (ha : Q5 A x0 x1 x2 x3 x4) (hb : Q5 B y0 y1 y2 y3 y4) (hle : B ≤ A) (hs : Q5 (A - B) s0 s1 s2 s3 s4) (w : World) :
    Calls Tryz.prog 66 #[w5V x0 x1 x2 x3 x4, w5V y0 y1 y2 y3 y4] w fun e w' => e = .returned (w5V s0 s1 s2 s3 s4) ∧ Below w.heap.size w w' := by
  obtain ⟨ea, a0, a1, a2, a3, a4⟩ := ha
  obtain ⟨eb, b0, b1, b2, b3, b4⟩ := hb
  have one : ∀ x y c : Nat, x ≤ 18446744073709551615 → y ≤ 18446744073709551615 → c ≤ 1 → ∃ s d : Nat, s = (x + 18446744073709551616 - y - c) % 18446744073709551616 ∧ d = (if x < y + c then 1 else 0) ∧ d ≤ 1 ∧ s ≤ 18446744073709551615 ∧ x + d * 18446744073709551616 = s + y + c := by
    intro x y c hx hy hc
    refine ⟨_, _, rfl, rfl, ?_, by omega, ?_⟩
    · split <;> omega
    · split <;> omega
  obtain ⟨t0, d1, e0, f0, l1, m0, u0⟩ := one x0 y0 0 a0 b0 (by omega)
  obtain ⟨t1, d2, e1, f1, l2, m1, u1⟩ := one x1 y1 d1 a1 b1 l1
  obtain ⟨t2, d3, e2, f2, l3, m2, u2⟩ := one x2 y2 d2 a2 b2 l2
  obtain ⟨t3, d4, e3, f3, l4, m3, u3⟩ := one x3 y3 d3 a3 b3 l3
  obtain ⟨t4, d5, e4, f4, l5, m4, u4⟩ := one x4 y4 d4 a4 b4 l4
  have r0 := run_sub64_at x0 y0 0 (by omega)
  have r1 := run_sub64_at x1 y1 d1 l1
  have r2 := run_sub64_at x2 y2 d2 l2
  have r3 := run_sub64_at x3 y3 d3 l3
  have r4 := run_sub64_at x4 y4 d4 l4
  rw [← e0, ← f0] at r0
  rw [← e1, ← f1] at r1
  rw [← e2, ← f2] at r2
  rw [← e3, ← f3] at r3
  rw [← e4, ← f4] at r4
  clear e0 f0 e1 f1 e2 f2 e3 f3 e4 f4 one
  have q1 : Q5 (A - B) t0 t1 t2 t3 t4 := by
    clear r0 r1 r2 r3 r4 hs a0 a1 a2 a3 a4 b0 b1 b2 b3 b4
    obtain ⟨T, hT⟩ : ∃ T, T = t0 + t1 * 18446744073709551616 + t2 * 340282366920938463463374607431768211456 + t3 * 6277101735386680763835789423207666416102355444464034512896 + t4 * 115792089237316195423570985008687907853269984665640564039457584007913129639936 := ⟨_, rfl⟩
    have key : A + d5 * 2135987035920910082395021706169552114602704522356652769947041607822219725780640550022962086936576 = T + B := by
      clear l1 l2 l3 l4 l5 m0 m1 m2 m3 m4 hle
      omega
    have hTl : T < 2135987035920910082395021706169552114602704522356652769947041607822219725780640550022962086936576 := by
      clear key u0 u1 u2 u3 u4 ea eb
      omega
    refine ⟨?_, m0, m1, m2, m3, m4⟩
    rw [← hT]
    clear hT u0 u1 u2 u3 u4 ea eb m0 m1 m2 m3 m4
    omega
  obtain ⟨rfl, rfl, rfl, rfl, rfl⟩ := hs.one q1
  exact fminus_walk x0 x1 x2 x3 x4 y0 y1 y2 y3 y4 _ _ _ _ _ d1 d2 d3 d4 d5 r0 r1 r2 r3 r4 w
end Go.Proofs.YtheliihkkoohnaaGreat
