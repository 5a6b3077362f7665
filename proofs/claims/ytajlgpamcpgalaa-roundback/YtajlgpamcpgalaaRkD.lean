import Derived.Test.YtajlgpamcpgalaaRkC
namespace Go.Proofs.Ytajlgpamcpgalaa
open Go.ChangeShapes Go.WideShapes Go.ChangeAt Go.RowKit
set_option linter.unusedVariables false
set_option linter.unusedSimpArgs false
set_option maxRecDepth 100000

/-! ### Cut -/
theorem rcut_no (n : Int) (k : Int) (neg : Bool) (s : Int) (hi lo : Nat) (rest : Bool) (hh : hi < 2 ^ 64) (hl : lo < 2 ^ 64) (hn : isW n = false) (w : World) :
    Calls Try.prog 15 #[.int .i64 n, exV k neg s hi lo rest] w fun e w' => e = .returned (.tuple #[.int .u64 0, .int .i64 0, codeV 2]) ∧ Below w.heap.size w w' := by
  have k1 := of_no n hn
  unfold exV
  unfold shp0 at k1
  clear hn
  refine cps fun Q hQ => ?_
  go_enter Try.func15, Try.ntmps15
  go_wp2_with (go_at_call 33; refine (k1 _).mono ?_; rintro e w1 ⟨rfl, hb1⟩)
  go_ret3
  exact hQ.out _ _ ⟨rfl, cmore (cthen (cmore (Below.refl _ _) _) hb1) _⟩
theorem rcut_bad (n : Nat) (k : Int) (neg : Bool) (s : Int) (hi lo : Nat) (rest : Bool) (hn : Wd n) (hh : hi < 2 ^ 64) (hl : lo < 2 ^ 64) (hs : soundX k neg s hi lo rest = false) (w : World) :
    Calls Try.prog 15 #[.int .i64 n, exV k neg s hi lo rest] w fun e w' => e = .returned (.tuple #[.int .u64 0, .int .i64 0, codeV 1]) ∧ Below w.heap.size w w' := by
  have k1 := of_ok n hn
  have k2 := rsound_any k neg s hi lo rest 1099511627776 hh (by decide)
  rw [soundF_X, hs] at k2
  unfold exV at *
  unfold shp at k1
  generalize ((2 ^ (n - 1) : Nat) : Int) = nv at *
  generalize ((2 ^ (n - 1) - 1 : Nat) : Int) = mv at *
  generalize ((4 * n - 8 : Nat) : Int) = tv at *
  clear hn hs
  refine cps fun Q hQ => ?_
  go_enter Try.func15, Try.ntmps15
  go_wp2_with (first
    | (go_at_call 33; go_must (refine (k1 _).mono ?_); rintro e w1 ⟨rfl, hb1⟩; have R1 := (hb1.block w.heap.size (by simp)).trans (rownew w _ _); have z1 : w.heap.size < w1.heap.size := (by have := hb1.size; simp at this; omega); have hne1 : ¬ w.heap.size = w1.heap.size := (by omega); have hne2 : ¬ w1.heap.size = w.heap.size := (by omega); have b0 := rowcell R1 0; have b1 := rowcell R1 1; have b2 := rowcell R1 2; have b3 := rowcell R1 3; have b4 := rowcell R1 4; have b5 := rowcell R1 5; simp only [List.getElem?_toArray, List.getElem?_cons_zero, List.getElem?_cons_succ] at b0 b1 b2 b3 b4 b5; have HR1 : Hid _ := R1; have HB1 : Hid (Below _ _ _) := hb1; clear hb1 R1)
    | (go_at_call 31; go_must (refine (k2 _).mono ?_); rintro e w2 ⟨rfl, hb2⟩; have HB2 : Hid (Below _ _ _) := hb2; clear hb2))
  go_ret3
  exact hQ.out _ _ ⟨rfl, cthen (cmore (cthen (cmore (Below.refl _ _) _) HB1.out) _) HB2.out⟩
theorem rcut_zero (n : Nat) (hn : Wd n) (w : World) :
    Calls Try.prog 15 #[.int .i64 n, exV 0 false 0 0 0 false] w fun e w' => e = .returned (.tuple #[.int .u64 0, .int .i64 0, .nilIface]) ∧ Below w.heap.size w w' := by
  have k1 := of_ok n hn
  have k2 := rsound_any 0 false 0 0 0 false 1099511627776 (by decide) (by decide)
  rw [soundF_X, show soundX 0 false 0 0 0 false = true from rfl] at k2
  unfold exV at *
  unfold shp at k1
  rw [show ((0 : Nat) : Int) = 0 from rfl] at *
  generalize ((2 ^ (n - 1) : Nat) : Int) = nv at *
  generalize ((2 ^ (n - 1) - 1 : Nat) : Int) = mv at *
  generalize ((4 * n - 8 : Nat) : Int) = tv at *
  clear hn
  refine cps fun Q hQ => ?_
  go_enter Try.func15, Try.ntmps15
  go_wp2_with (first
    | (go_at_call 33; go_must (refine (k1 _).mono ?_); rintro e w1 ⟨rfl, hb1⟩; have R1 := (hb1.block w.heap.size (by simp)).trans (rownew w _ _); have z1 : w.heap.size < w1.heap.size := (by have := hb1.size; simp at this; omega); have hne1 : ¬ w.heap.size = w1.heap.size := (by omega); have hne2 : ¬ w1.heap.size = w.heap.size := (by omega); have b0 := rowcell R1 0; have b1 := rowcell R1 1; have b2 := rowcell R1 2; have b3 := rowcell R1 3; have b4 := rowcell R1 4; have b5 := rowcell R1 5; simp only [List.getElem?_toArray, List.getElem?_cons_zero, List.getElem?_cons_succ] at b0 b1 b2 b3 b4 b5; have HR1 : Hid _ := R1; have HB1 : Hid (Below _ _ _) := hb1; clear hb1 R1)
    | (go_at_call 31; go_must (refine (k2 _).mono ?_); rintro e w2 ⟨rfl, hb2⟩; have R2 := (hb2.block w.heap.size (by simp; omega)).trans ((Below.heap_alloc w1 _ _ z1).trans HR1.out); have S2 := (hb2.block w1.heap.size (by simp)).trans (rownew w1 _ _); have z2 : w1.heap.size < w2.heap.size := (by have := hb2.size; simp at this; omega); have y2 : w.heap.size < w2.heap.size := (Nat.lt_trans z1 z2); have c0 := rowcell R2 0; have c1 := rowcell R2 1; have c2 := rowcell R2 2; simp only [List.getElem?_toArray, List.getElem?_cons_zero, List.getElem?_cons_succ] at c0 c1 c2; have s1 := rowcell S2 1; have s2 := rowcell S2 2; have s3 := rowcell S2 3; have s4 := rowcell S2 4; simp only [List.getElem?_toArray, List.getElem?_cons_zero, List.getElem?_cons_succ] at s1 s2 s3 s4; have HB2 : Hid (Below _ _ _) := hb2; clear hb2 R2 S2))
  go_ret3
  exact hQ.out _ _ ⟨rfl, cthen (cmore (cthen (cmore (Below.refl _ _) _) HB1.out) _) HB2.out⟩
theorem rcut_nar (n : Nat) (hn : Wd n) (w : World) :
    Calls Try.prog 15 #[.int .i64 n, exV 2 false 0 0 0 false] w fun e w' => e = .returned (.tuple #[.int .u64 (2 ^ (n - 1) : Nat), .int .i64 0, .nilIface]) ∧ Below w.heap.size w w' := by
  have k1 := of_ok n hn
  have k2 := rsound_any 2 false 0 0 0 false 1099511627776 (by decide) (by decide)
  rw [soundF_X, show soundX 2 false 0 0 0 false = true from rfl] at k2
  unfold exV at *
  unfold shp at k1
  rw [show ((0 : Nat) : Int) = 0 from rfl] at *
  generalize ((2 ^ (n - 1) : Nat) : Int) = nv at *
  generalize ((2 ^ (n - 1) - 1 : Nat) : Int) = mv at *
  generalize ((4 * n - 8 : Nat) : Int) = tv at *
  clear hn
  refine cps fun Q hQ => ?_
  go_enter Try.func15, Try.ntmps15
  go_wp2_with (first
    | (go_at_call 33; go_must (refine (k1 _).mono ?_); rintro e w1 ⟨rfl, hb1⟩; have R1 := (hb1.block w.heap.size (by simp)).trans (rownew w _ _); have z1 : w.heap.size < w1.heap.size := (by have := hb1.size; simp at this; omega); have hne1 : ¬ w.heap.size = w1.heap.size := (by omega); have hne2 : ¬ w1.heap.size = w.heap.size := (by omega); have b0 := rowcell R1 0; have b1 := rowcell R1 1; have b2 := rowcell R1 2; have b3 := rowcell R1 3; have b4 := rowcell R1 4; have b5 := rowcell R1 5; simp only [List.getElem?_toArray, List.getElem?_cons_zero, List.getElem?_cons_succ] at b0 b1 b2 b3 b4 b5; have HR1 : Hid _ := R1; have HB1 : Hid (Below _ _ _) := hb1; clear hb1 R1)
    | (go_at_call 31; go_must (refine (k2 _).mono ?_); rintro e w2 ⟨rfl, hb2⟩; have R2 := (hb2.block w.heap.size (by simp; omega)).trans ((Below.heap_alloc w1 _ _ z1).trans HR1.out); have S2 := (hb2.block w1.heap.size (by simp)).trans (rownew w1 _ _); have z2 : w1.heap.size < w2.heap.size := (by have := hb2.size; simp at this; omega); have y2 : w.heap.size < w2.heap.size := (Nat.lt_trans z1 z2); have c0 := rowcell R2 0; have c1 := rowcell R2 1; have c2 := rowcell R2 2; simp only [List.getElem?_toArray, List.getElem?_cons_zero, List.getElem?_cons_succ] at c0 c1 c2; have s1 := rowcell S2 1; have s2 := rowcell S2 2; have s3 := rowcell S2 3; have s4 := rowcell S2 4; simp only [List.getElem?_toArray, List.getElem?_cons_zero, List.getElem?_cons_succ] at s1 s2 s3 s4; have HB2 : Hid (Below _ _ _) := hb2; clear hb2 R2 S2))
  go_ret3
  exact hQ.out _ _ ⟨rfl, cthen (cmore (cthen (cmore (Below.refl _ _) _) HB1.out) _) HB2.out⟩
theorem least_kind (n : Nat) (hn : Wd n) : kindOf n (1 % 2 ^ n) = 1 := by rcases hn with rfl | rfl | rfl | rfl <;> decide
theorem least_scale (n : Nat) (hn : Wd n) : scaleL (strS n 1) = 8 - 4 * (n : Int) := by rcases hn with rfl | rfl | rfl | rfl <;> decide +kernel
/-- the least value's own string: all of it before the cut -/
theorem least_cut (n : Nat) (hi lo : Nat) (rest : Bool) (hn : Wd n) (h : justX hi lo rest = true) :
    numOf ((strX (8 - 4 * (n : Int)) hi lo).take (n - 1)) = 1 ∧ leftL ((strX (8 - 4 * (n : Int)) hi lo).drop (n - 1)) rest = 0 := by
  have hw := wd_le hn
  have e1 : (8 - 4 * (n : Int)) / 4 = 2 - n := by omega
  have e2 : ((8 - 4 * (n : Int)) % 4).toNat = 0 := by omega
  have hk : headK (2 - (n : Int)) = noughts (n - 2) ++ [true] := by
    unfold headK
    rw [if_neg (by omega), show (-(2 - (n : Int))).toNat = n - 2 by omega]
    try rfl
  have hl : (noughts (n - 2) ++ [true]).length = n - 1 := by simp [noughts]; omega
  have e : strX (8 - 4 * (n : Int)) hi lo = (noughts (n - 2) ++ [true]) ++ (bitsOf 0 2 ++ digX hi lo) := by
    unfold strX; rw [e1, e2, hk]; simp
  unfold justX at h
  have hr : rest = false := by cases rest <;> simp at h ⊢
  have ha : (digX hi lo).any id = false := by rw [hr] at h; simpa using h
  rw [e]
  refine ⟨?_, ?_⟩
  · rw [List.take_append, List.take_of_length_le (by omega), hl, Nat.sub_self, List.take_zero, List.append_nil, numOf_append, numOf_noughts]
    rfl
  · rw [List.drop_append, List.drop_of_length_le (by omega), hl, Nat.sub_self, List.drop_zero, List.nil_append]
    have : bitsOf 0 2 = [false, false] := rfl
    rw [this]
    unfold leftL
    show (if false = true then _ else _) = 0
    have hd : (([false, false] ++ digX hi lo).drop 1).any id = false := by
      show (false :: digX hi lo).any id = false
      rw [List.any_cons, ha]; rfl
    rw [hd, hr]; rfl
set_option maxHeartbeats 2000000 in
theorem rcut_real (n : Nat) (neg : Bool) (s : Int) (hi lo : Nat) (rest : Bool) (hn : Wd n) (hs : soundX 1 neg s hi lo rest = true) (h : WordsX hi lo) (w : World) :
    Calls Try.prog 15 #[.int .i64 n, exV 1 neg s hi lo rest] w fun e w' => e = .returned (.tuple #[.int .u64 (cutX n s hi lo rest).1, .int .i64 (cutX n s hi lo rest).2, .nilIface]) ∧ Below w.heap.size w w' := by
  have hw := wd_le hn
  have k1 := of_ok n hn
  have k2 := rsound_any 1 neg s hi lo rest 1099511627776 h.hi64 (by decide)
  rw [soundF_X, hs] at k2
  have k3 := cdecode_real n 1 hn (by decide) (least_kind n hn)
  rw [least_scale n hn] at k3
  have htv : ((4 * n - 8 : Nat) : Int) = 4 * (n : Int) - 8 := by omega
  unfold shp at k1
  rw [htv] at k1
  unfold numV at k3
  generalize Nat.testBit 1 (n - 1) = ng at *
  generalize wordL (strS n 1) = wl at *
  rw [show ((1 : Nat) : Int) = 1 from rfl] at *
  have key : (4 * (n : Int) - 8 ≤ s ∧ cutX n s hi lo rest = (2 ^ (n - 1) - 1, 0)) ∨ (¬ 4 * (n : Int) - 8 ≤ s ∧ s < 8 - 4 * (n : Int) ∧ cutX n s hi lo rest = (1, 0)) ∨
      (¬ 4 * (n : Int) - 8 ≤ s ∧ ¬ s < 8 - 4 * (n : Int) ∧ cutX n s hi lo rest = (numOf ((strX s hi lo).take (n - 1)), leftL ((strX s hi lo).drop (n - 1)) rest)) := by
    unfold cutX
    by_cases ct : 4 * (n : Int) - 8 ≤ s
    · exact .inl ⟨ct, by rw [if_pos ct]⟩
    · by_cases cl : s < 8 - 4 * (n : Int)
      · exact .inr (.inl ⟨ct, cl, by rw [if_neg ct, if_pos (.inl cl)]⟩)
      · refine .inr (.inr ⟨ct, cl, ?_⟩)
        by_cases cj : s = 8 - 4 * (n : Int) ∧ justX hi lo rest = true
        · rw [if_neg ct, if_pos (.inr cj)]
          obtain ⟨rfl, hj⟩ := cj
          obtain ⟨a, b⟩ := least_cut n hi lo rest hn hj
          rw [a, b]
        · rw [if_neg ct, if_neg (by rintro (c | c); exact cl c; exact cj c)]
  refine cps fun Q hQ => ?_
  rcases key with ⟨ct, hc⟩ | ⟨ct, cl, hc⟩ | ⟨ct, cl, hc⟩
  · rw [hc] at hQ
    have g1 : decide (4 * (n : Int) - 8 ≤ s) = true := decide_eq_true ct
    generalize 4 * (n : Int) - 8 = tv at *
    generalize 8 - 4 * (n : Int) = lv at *
    generalize 2 ^ (n - 1) - 1 = mv at *
    generalize 2 ^ (n - 1) = nv at *
    unfold exV at *
    clear hc ct hn hs h hw htv
    go_enter Try.func15, Try.ntmps15
    go_wp2_with (first
      | (go_at_call 33; go_must (refine (k1 _).mono ?_); rintro e w1 ⟨rfl, hb1⟩; have R1 := (hb1.block w.heap.size (by simp)).trans (rownew w _ _); have z1 : w.heap.size < w1.heap.size := (by have := hb1.size; simp at this; omega); have hne1 : ¬ w.heap.size = w1.heap.size := (by omega); have hne2 : ¬ w1.heap.size = w.heap.size := (by omega); have b0 := rowcell R1 0; have b1 := rowcell R1 1; have b2 := rowcell R1 2; have b3 := rowcell R1 3; have b4 := rowcell R1 4; have b5 := rowcell R1 5; simp only [List.getElem?_toArray, List.getElem?_cons_zero, List.getElem?_cons_succ] at b0 b1 b2 b3 b4 b5; have HR1 : Hid _ := R1; have HB1 : Hid (Below _ _ _) := hb1; clear hb1 R1)
      | (go_at_call 31; go_must (refine (k2 _).mono ?_); rintro e w2 ⟨rfl, hb2⟩; have R2 := (hb2.block w.heap.size (by simp; omega)).trans ((Below.heap_alloc w1 _ _ z1).trans HR1.out); have S2 := (hb2.block w1.heap.size (by simp)).trans (rownew w1 _ _); have z2 : w1.heap.size < w2.heap.size := (by have := hb2.size; simp at this; omega); have y2 : w.heap.size < w2.heap.size := (Nat.lt_trans z1 z2); have c0 := rowcell R2 0; have c2 := rowcell R2 2; simp only [List.getElem?_toArray, List.getElem?_cons_zero, List.getElem?_cons_succ] at c0 c2; have s1 := rowcell S2 1; have s2 := rowcell S2 2; have s4 := rowcell S2 4; simp only [List.getElem?_toArray, List.getElem?_cons_zero, List.getElem?_cons_succ] at s1 s2 s4; have HR2 : Hid _ := R2; have HS2 : Hid _ := S2; have HB2 : Hid (Below _ _ _) := hb2; clear hb2 R2 S2)
      | (go_at_call 19; go_must (refine (k3 _).mono ?_); rintro e w3 ⟨rfl, hb3⟩; have R3 := (hb3.block w.heap.size y2).trans HR2.out; have S3 := (hb3.block w1.heap.size z2).trans HS2.out; have z3 : w1.heap.size < w3.heap.size := rowlt S3; have y3 : w.heap.size < w3.heap.size := rowlt R3; have d2 := rowcell R3 2; simp only [List.getElem?_toArray, List.getElem?_cons_zero, List.getElem?_cons_succ] at d2; have t1 := rowcell S3 1; have t2 := rowcell S3 2; have t4 := rowcell S3 4; simp only [List.getElem?_toArray, List.getElem?_cons_zero, List.getElem?_cons_succ] at t1 t2 t4; have HB3 : Hid (Below _ _ _) := hb3; clear hb3 R3 S3))
    go_ret3
    exact hQ.out _ _ ⟨rfl, cmore (cthen (cthen (cmore (cthen (cmore (Below.refl _ _) _) HB1.out) _) HB2.out) HB3.out) _⟩
  · rw [hc] at hQ
    have g1 : decide (4 * (n : Int) - 8 ≤ s) = false := decide_eq_false ct
    have g2 : decide (s < 8 - 4 * (n : Int)) = true := decide_eq_true cl
    generalize 4 * (n : Int) - 8 = tv at *
    generalize 8 - 4 * (n : Int) = lv at *
    generalize 2 ^ (n - 1) - 1 = mv at *
    generalize 2 ^ (n - 1) = nv at *
    unfold exV at *
    clear hc ct cl hn hs h hw htv
    go_enter Try.func15, Try.ntmps15
    go_wp2_with (first
      | (go_at_call 33; go_must (refine (k1 _).mono ?_); rintro e w1 ⟨rfl, hb1⟩; have R1 := (hb1.block w.heap.size (by simp)).trans (rownew w _ _); have z1 : w.heap.size < w1.heap.size := (by have := hb1.size; simp at this; omega); have hne1 : ¬ w.heap.size = w1.heap.size := (by omega); have hne2 : ¬ w1.heap.size = w.heap.size := (by omega); have b0 := rowcell R1 0; have b1 := rowcell R1 1; have b2 := rowcell R1 2; have b3 := rowcell R1 3; have b4 := rowcell R1 4; have b5 := rowcell R1 5; simp only [List.getElem?_toArray, List.getElem?_cons_zero, List.getElem?_cons_succ] at b0 b1 b2 b3 b4 b5; have HR1 : Hid _ := R1; have HB1 : Hid (Below _ _ _) := hb1; clear hb1 R1)
      | (go_at_call 31; go_must (refine (k2 _).mono ?_); rintro e w2 ⟨rfl, hb2⟩; have R2 := (hb2.block w.heap.size (by simp; omega)).trans ((Below.heap_alloc w1 _ _ z1).trans HR1.out); have S2 := (hb2.block w1.heap.size (by simp)).trans (rownew w1 _ _); have z2 : w1.heap.size < w2.heap.size := (by have := hb2.size; simp at this; omega); have y2 : w.heap.size < w2.heap.size := (Nat.lt_trans z1 z2); have c0 := rowcell R2 0; have c2 := rowcell R2 2; simp only [List.getElem?_toArray, List.getElem?_cons_zero, List.getElem?_cons_succ] at c0 c2; have s1 := rowcell S2 1; have s2 := rowcell S2 2; have s4 := rowcell S2 4; simp only [List.getElem?_toArray, List.getElem?_cons_zero, List.getElem?_cons_succ] at s1 s2 s4; have HR2 : Hid _ := R2; have HS2 : Hid _ := S2; have HB2 : Hid (Below _ _ _) := hb2; clear hb2 R2 S2)
      | (go_at_call 19; go_must (refine (k3 _).mono ?_); rintro e w3 ⟨rfl, hb3⟩; have R3 := (hb3.block w.heap.size y2).trans HR2.out; have S3 := (hb3.block w1.heap.size z2).trans HS2.out; have z3 : w1.heap.size < w3.heap.size := rowlt S3; have y3 : w.heap.size < w3.heap.size := rowlt R3; have d2 := rowcell R3 2; simp only [List.getElem?_toArray, List.getElem?_cons_zero, List.getElem?_cons_succ] at d2; have t1 := rowcell S3 1; have t2 := rowcell S3 2; have t4 := rowcell S3 4; simp only [List.getElem?_toArray, List.getElem?_cons_zero, List.getElem?_cons_succ] at t1 t2 t4; have HB3 : Hid (Below _ _ _) := hb3; clear hb3 R3 S3))
    go_ret3
    exact hQ.out _ _ ⟨rfl, cmore (cthen (cthen (cmore (cthen (cmore (Below.refl _ _) _) HB1.out) _) HB2.out) HB3.out) _⟩
  · rw [hc] at hQ
    have k4 := rcutstr_any n neg s hi lo rest hn h (by omega) (by omega)
    have g1 : decide (4 * (n : Int) - 8 ≤ s) = false := decide_eq_false ct
    have g2 : decide (s < 8 - 4 * (n : Int)) = false := decide_eq_false cl
    generalize 4 * (n : Int) - 8 = tv at *
    generalize 8 - 4 * (n : Int) = lv at *
    generalize numOf ((strX s hi lo).take (n - 1)) = P at *
    generalize leftL ((strX s hi lo).drop (n - 1)) rest = L at *
    generalize 2 ^ (n - 1) - 1 = mv at *
    generalize 2 ^ (n - 1) = nv at *
    unfold exV at *
    clear hc ct cl hn hs h hw htv
    go_enter Try.func15, Try.ntmps15
    go_wp2_with (first
      | (go_at_call 33; go_must (refine (k1 _).mono ?_); rintro e w1 ⟨rfl, hb1⟩; have R1 := (hb1.block w.heap.size (by simp)).trans (rownew w _ _); have z1 : w.heap.size < w1.heap.size := (by have := hb1.size; simp at this; omega); have hne1 : ¬ w.heap.size = w1.heap.size := (by omega); have hne2 : ¬ w1.heap.size = w.heap.size := (by omega); have b0 := rowcell R1 0; have b1 := rowcell R1 1; have b2 := rowcell R1 2; have b3 := rowcell R1 3; have b4 := rowcell R1 4; have b5 := rowcell R1 5; simp only [List.getElem?_toArray, List.getElem?_cons_zero, List.getElem?_cons_succ] at b0 b1 b2 b3 b4 b5; have HR1 : Hid _ := R1; have HB1 : Hid (Below _ _ _) := hb1; clear hb1 R1)
      | (go_at_call 31; go_must (refine (k2 _).mono ?_); rintro e w2 ⟨rfl, hb2⟩; have R2 := (hb2.block w.heap.size (by simp; omega)).trans ((Below.heap_alloc w1 _ _ z1).trans HR1.out); have S2 := (hb2.block w1.heap.size (by simp)).trans (rownew w1 _ _); have z2 : w1.heap.size < w2.heap.size := (by have := hb2.size; simp at this; omega); have y2 : w.heap.size < w2.heap.size := (Nat.lt_trans z1 z2); have c0 := rowcell R2 0; have c2 := rowcell R2 2; simp only [List.getElem?_toArray, List.getElem?_cons_zero, List.getElem?_cons_succ] at c0 c2; have s1 := rowcell S2 1; have s2 := rowcell S2 2; have s4 := rowcell S2 4; simp only [List.getElem?_toArray, List.getElem?_cons_zero, List.getElem?_cons_succ] at s1 s2 s4; have HR2 : Hid _ := R2; have HS2 : Hid _ := S2; have HB2 : Hid (Below _ _ _) := hb2; clear hb2 R2 S2)
      | (go_at_call 19; go_must (refine (k3 _).mono ?_); rintro e w3 ⟨rfl, hb3⟩; have R3 := (hb3.block w.heap.size y2).trans HR2.out; have S3 := (hb3.block w1.heap.size z2).trans HS2.out; have z3 : w1.heap.size < w3.heap.size := rowlt S3; have y3 : w.heap.size < w3.heap.size := rowlt R3; have d0 := rowcell R3 0; have d1 := rowcell R3 1; have d2 := rowcell R3 2; have d3 := rowcell R3 3; have d4 := rowcell R3 4; have d5 := rowcell R3 5; simp only [List.getElem?_toArray, List.getElem?_cons_zero, List.getElem?_cons_succ] at d0 d1 d2 d3 d4 d5; have t1 := rowcell S3 1; have t2 := rowcell S3 2; have t4 := rowcell S3 4; simp only [List.getElem?_toArray, List.getElem?_cons_zero, List.getElem?_cons_succ] at t1 t2 t4; have HB3 : Hid (Below _ _ _) := hb3; clear hb3 R3 S3)
      | (go_at_call 34; go_must (refine (k4 _).mono ?_); rintro e w4 ⟨rfl, hb4⟩; have HB4 : Hid (Below _ _ _) := hb4; clear hb4))
    go_ret3
    exact hQ.out _ _ ⟨rfl, cthen (cmore (cthen (cthen (cmore (cthen (cmore (Below.refl _ _) _) HB1.out) _) HB2.out) HB3.out) _) HB4.out⟩
end Go.Proofs.Ytajlgpamcpgalaa
