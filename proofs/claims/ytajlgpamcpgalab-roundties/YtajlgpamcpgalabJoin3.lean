import Derived.Test.YtajlgpamcpgalabJoin2
import Derived.Test.YtajlgpamcpgalabJoin1
import Derived.Deep.CutBlock
import Derived.Deep.CutRange
namespace Go.Proofs.Ytajlgpamcpgalab
open Go.ChangeShapes Go.WideShapes Go.ChangeAt Go.RowKit
set_option linter.unusedVariables false
set_option linter.unusedSimpArgs false
set_option maxRecDepth 100000

/-! ### Cut -/
theorem rcut_no (n : Int) (k : Int) (neg : Bool) (s : Int) (hi lo : Nat) (rest : Bool) (hh : hi < 2 ^ 64) (hl : lo < 2 ^ 64) (hn : isW n = false) (w : World) :
    Calls Try.prog 11 #[.int .i64 n, exV k neg s hi lo rest] w fun e w' => e = .returned (.tuple #[.int .u64 0, .int .i64 0, codeV 2]) ∧ Below w.heap.size w w' := by
  have k1 := of_no n hn
  unfold exV
  unfold shp0 at k1
  clear hn
  refine cps fun Q hQ => ?_
  go_enter Try.func11, Try.ntmps11
  go_wp2_with (go_at_call 17; refine (k1 _).mono ?_; rintro e w1 ⟨rfl, hb1⟩)
  go_ret3
  exact hQ.out _ _ ⟨rfl, cmore (cthen (cmore (Below.refl _ _) _) hb1) _⟩
theorem rcut_bad (n : Nat) (k : Int) (neg : Bool) (s : Int) (hi lo : Nat) (rest : Bool) (hn : Wd n) (hh : hi < 2 ^ 64) (hl : lo < 2 ^ 64) (hs : soundX k neg s hi lo rest = false) (w : World) :
    Calls Try.prog 11 #[.int .i64 n, exV k neg s hi lo rest] w fun e w' => e = .returned (.tuple #[.int .u64 0, .int .i64 0, codeV 1]) ∧ Below w.heap.size w w' := by
  have k1 := of_ok n hn
  have k2 := rsound_any k neg s hi lo rest 1099511627776 hh (by decide)
  rw [soundF_X, hs] at k2
  unfold exV at *
  unfold shp at k1
  generalize ((2 ^ (n - 1) : Nat) : Int) = nv at *
  generalize ((2 ^ (n - 1) - 1 : Nat) : Int) = mv at *
  generalize ((4 * n - 8 : Nat) : Int) = tv at *
  clear hn hs
  refine cps fun Q hQ => ?_
  go_enter Try.func11, Try.ntmps11
  go_wp2_with (first
    | (go_at_call 17; go_must (refine (k1 _).mono ?_); rintro e w1 ⟨rfl, hb1⟩; have R1 := (hb1.block w.heap.size (by simp)).trans (rownew w _ _); have z1 : w.heap.size < w1.heap.size := (by have := hb1.size; simp at this; omega); have hne1 : ¬ w.heap.size = w1.heap.size := (by omega); have hne2 : ¬ w1.heap.size = w.heap.size := (by omega); have b0 := rowcell R1 0; have b1 := rowcell R1 1; have b2 := rowcell R1 2; have b3 := rowcell R1 3; have b4 := rowcell R1 4; have b5 := rowcell R1 5; simp only [List.getElem?_toArray, List.getElem?_cons_zero, List.getElem?_cons_succ] at b0 b1 b2 b3 b4 b5; have HR1 : Hid _ := R1; have HB1 : Hid (Below _ _ _) := hb1; clear hb1 R1)
    | (go_at_call 15; go_must (refine (k2 _).mono ?_); rintro e w2 ⟨rfl, hb2⟩; have HB2 : Hid (Below _ _ _) := hb2; clear hb2))
  go_ret3
  exact hQ.out _ _ ⟨rfl, cthen (cmore (cthen (cmore (Below.refl _ _) _) HB1.out) _) HB2.out⟩
theorem rcut_zero (n : Nat) (hn : Wd n) (w : World) :
    Calls Try.prog 11 #[.int .i64 n, exV 0 false 0 0 0 false] w fun e w' => e = .returned (.tuple #[.int .u64 0, .int .i64 0, .nilIface]) ∧ Below w.heap.size w w' := by
  have k1 := of_ok n hn
  have k2 := rsound_any 0 false 0 0 0 false 1099511627776 (by decide) (by decide)
  rw [soundF_X, show soundX 0 false 0 0 0 false = true from rfl] at k2
  unfold exV at *
  unfold shp at k1
  rw [show ((0 : Nat) : Int) = 0 from rfl] at *
  generalize ((2 ^ (n - 1) : Nat) : Int) = nv at *
  generalize ((2 ^ (n - 1) - 1 : Nat) : Int) = mv at *
  generalize ((4 * n - 8 : Nat) : Int) = tv at *
  clear hn
  refine cps fun Q hQ => ?_
  go_enter Try.func11, Try.ntmps11
  go_wp2_with (first
    | (go_at_call 17; go_must (refine (k1 _).mono ?_); rintro e w1 ⟨rfl, hb1⟩; have R1 := (hb1.block w.heap.size (by simp)).trans (rownew w _ _); have z1 : w.heap.size < w1.heap.size := (by have := hb1.size; simp at this; omega); have hne1 : ¬ w.heap.size = w1.heap.size := (by omega); have hne2 : ¬ w1.heap.size = w.heap.size := (by omega); have b0 := rowcell R1 0; have b1 := rowcell R1 1; have b2 := rowcell R1 2; have b3 := rowcell R1 3; have b4 := rowcell R1 4; have b5 := rowcell R1 5; simp only [List.getElem?_toArray, List.getElem?_cons_zero, List.getElem?_cons_succ] at b0 b1 b2 b3 b4 b5; have HR1 : Hid _ := R1; have HB1 : Hid (Below _ _ _) := hb1; clear hb1 R1)
    | (go_at_call 15; go_must (refine (k2 _).mono ?_); rintro e w2 ⟨rfl, hb2⟩; have R2 := (hb2.block w.heap.size (by simp; omega)).trans ((Below.heap_alloc w1 _ _ z1).trans HR1.out); have S2 := (hb2.block w1.heap.size (by simp)).trans (rownew w1 _ _); have z2 : w1.heap.size < w2.heap.size := (by have := hb2.size; simp at this; omega); have y2 : w.heap.size < w2.heap.size := (Nat.lt_trans z1 z2); have c0 := rowcell R2 0; have c1 := rowcell R2 1; have c2 := rowcell R2 2; simp only [List.getElem?_toArray, List.getElem?_cons_zero, List.getElem?_cons_succ] at c0 c1 c2; have s1 := rowcell S2 1; have s2 := rowcell S2 2; have s3 := rowcell S2 3; have s4 := rowcell S2 4; simp only [List.getElem?_toArray, List.getElem?_cons_zero, List.getElem?_cons_succ] at s1 s2 s3 s4; have HB2 : Hid (Below _ _ _) := hb2; clear hb2 R2 S2))
  go_ret3
  exact hQ.out _ _ ⟨rfl, cthen (cmore (cthen (cmore (Below.refl _ _) _) HB1.out) _) HB2.out⟩
theorem rcut_nar (n : Nat) (hn : Wd n) (w : World) :
    Calls Try.prog 11 #[.int .i64 n, exV 2 false 0 0 0 false] w fun e w' => e = .returned (.tuple #[.int .u64 (2 ^ (n - 1) : Nat), .int .i64 0, .nilIface]) ∧ Below w.heap.size w w' := by
  have k1 := of_ok n hn
  have k2 := rsound_any 2 false 0 0 0 false 1099511627776 (by decide) (by decide)
  rw [soundF_X, show soundX 2 false 0 0 0 false = true from rfl] at k2
  unfold exV at *
  unfold shp at k1
  rw [show ((0 : Nat) : Int) = 0 from rfl] at *
  generalize ((2 ^ (n - 1) : Nat) : Int) = nv at *
  generalize ((2 ^ (n - 1) - 1 : Nat) : Int) = mv at *
  generalize ((4 * n - 8 : Nat) : Int) = tv at *
  clear hn
  refine cps fun Q hQ => ?_
  go_enter Try.func11, Try.ntmps11
  go_wp2_with (first
    | (go_at_call 17; go_must (refine (k1 _).mono ?_); rintro e w1 ⟨rfl, hb1⟩; have R1 := (hb1.block w.heap.size (by simp)).trans (rownew w _ _); have z1 : w.heap.size < w1.heap.size := (by have := hb1.size; simp at this; omega); have hne1 : ¬ w.heap.size = w1.heap.size := (by omega); have hne2 : ¬ w1.heap.size = w.heap.size := (by omega); have b0 := rowcell R1 0; have b1 := rowcell R1 1; have b2 := rowcell R1 2; have b3 := rowcell R1 3; have b4 := rowcell R1 4; have b5 := rowcell R1 5; simp only [List.getElem?_toArray, List.getElem?_cons_zero, List.getElem?_cons_succ] at b0 b1 b2 b3 b4 b5; have HR1 : Hid _ := R1; have HB1 : Hid (Below _ _ _) := hb1; clear hb1 R1)
    | (go_at_call 15; go_must (refine (k2 _).mono ?_); rintro e w2 ⟨rfl, hb2⟩; have R2 := (hb2.block w.heap.size (by simp; omega)).trans ((Below.heap_alloc w1 _ _ z1).trans HR1.out); have S2 := (hb2.block w1.heap.size (by simp)).trans (rownew w1 _ _); have z2 : w1.heap.size < w2.heap.size := (by have := hb2.size; simp at this; omega); have y2 : w.heap.size < w2.heap.size := (Nat.lt_trans z1 z2); have c0 := rowcell R2 0; have c1 := rowcell R2 1; have c2 := rowcell R2 2; simp only [List.getElem?_toArray, List.getElem?_cons_zero, List.getElem?_cons_succ] at c0 c1 c2; have s1 := rowcell S2 1; have s2 := rowcell S2 2; have s3 := rowcell S2 3; have s4 := rowcell S2 4; simp only [List.getElem?_toArray, List.getElem?_cons_zero, List.getElem?_cons_succ] at s1 s2 s3 s4; have HB2 : Hid (Below _ _ _) := hb2; clear hb2 R2 S2))
  go_ret3
  exact hQ.out _ _ ⟨rfl, cthen (cmore (cthen (cmore (Below.refl _ _) _) HB1.out) _) HB2.out⟩
theorem least_kind (n : Nat) (hn : Wd n) : kindOf n (1 % 2 ^ n) = 1 := by rcases hn with rfl | rfl | rfl | rfl <;> decide
theorem least_scale (n : Nat) (hn : Wd n) : scaleL (strS n 1) = 8 - 4 * (n : Int) := by rcases hn with rfl | rfl | rfl | rfl <;> decide +kernel
/-- the least value's own string: all of it before the cut -/
theorem least_cut (n : Nat) (hi lo : Nat) (rest : Bool) (hn : Wd n) (h : justX hi lo rest = true) :
    numOf ((strX (8 - 4 * (n : Int)) hi lo).take (n - 1)) = 1 ∧ leftL ((strX (8 - 4 * (n : Int)) hi lo).drop (n - 1)) rest = 0 := by
  have hw := wd_le hn
  have e1 : (8 - 4 * (n : Int)) / 4 = 2 - n := by omega
  have e2 : ((8 - 4 * (n : Int)) % 4).toNat = 0 := by omega
  have hk : headK (2 - (n : Int)) = noughts (n - 2) ++ [true] := by
    unfold headK
    rw [if_neg (by omega), show (-(2 - (n : Int))).toNat = n - 2 by omega]
    try rfl
  have hl : (noughts (n - 2) ++ [true]).length = n - 1 := by simp [noughts]; omega
  have e : strX (8 - 4 * (n : Int)) hi lo = (noughts (n - 2) ++ [true]) ++ (bitsOf 0 2 ++ digX hi lo) := by
    unfold strX; rw [e1, e2, hk]; simp
  unfold justX at h
  have hr : rest = false := by cases rest <;> simp at h ⊢
  have ha : (digX hi lo).any id = false := by rw [hr] at h; simpa using h
  rw [e]
  refine ⟨?_, ?_⟩
  · rw [List.take_append, List.take_of_length_le (by omega), hl, Nat.sub_self, List.take_zero, List.append_nil, numOf_append, numOf_noughts]
    rfl
  · rw [List.drop_append, List.drop_of_length_le (by omega), hl, Nat.sub_self, List.drop_zero, List.nil_append]
    have : bitsOf 0 2 = [false, false] := rfl
    rw [this]
    unfold leftL
    show (if false = true then _ else _) = 0
    have hd : (([false, false] ++ digX hi lo).drop 1).any id = false := by
      show (false :: digX hi lo).any id = false
      rw [List.any_cons, ha]; rfl
    rw [hd, hr]; rfl
set_option maxHeartbeats 2000000 in
theorem rcut_real (n : Nat) (neg : Bool) (s : Int) (hi lo : Nat) (rest : Bool) (hn : Wd n) (hs : soundX 1 neg s hi lo rest = true) (h : WordsX hi lo) (w : World) :
    Calls Try.prog 11 #[.int .i64 n, exV 1 neg s hi lo rest] w fun e w' => e = .returned (.tuple #[.int .u64 (cutX n s hi lo rest).1, .int .i64 (cutX n s hi lo rest).2, .nilIface]) ∧ Below w.heap.size w w' := by
  have hw := wd_le hn
  have k1 := of_ok n hn
  have k2 := rsound_any 1 neg s hi lo rest 1099511627776 h.hi64 (by decide)
  rw [soundF_X, hs] at k2
  have k3 := cdecode_real n 1 hn (by decide) (least_kind n hn)
  rw [least_scale n hn] at k3
  have htv : ((4 * n - 8 : Nat) : Int) = 4 * (n : Int) - 8 := by omega
  unfold shp at k1
  rw [htv] at k1
  unfold numV at k3
  generalize Nat.testBit 1 (n - 1) = ng at *
  generalize wordL (strS n 1) = wl at *
  rw [show ((1 : Nat) : Int) = 1 from rfl] at *
  have key : (4 * (n : Int) - 8 ≤ s ∧ cutX n s hi lo rest = (2 ^ (n - 1) - 1, 0)) ∨ (¬ 4 * (n : Int) - 8 ≤ s ∧ s < 8 - 4 * (n : Int) ∧ cutX n s hi lo rest = (1, 0)) ∨
      (¬ 4 * (n : Int) - 8 ≤ s ∧ ¬ s < 8 - 4 * (n : Int) ∧ cutX n s hi lo rest = (numOf ((strX s hi lo).take (n - 1)), leftL ((strX s hi lo).drop (n - 1)) rest)) := by
    unfold cutX
    by_cases ct : 4 * (n : Int) - 8 ≤ s
    · exact .inl ⟨ct, by rw [if_pos ct]⟩
    · by_cases cl : s < 8 - 4 * (n : Int)
      · exact .inr (.inl ⟨ct, cl, by rw [if_neg ct, if_pos (.inl cl)]⟩)
      · refine .inr (.inr ⟨ct, cl, ?_⟩)
        by_cases cj : s = 8 - 4 * (n : Int) ∧ justX hi lo rest = true
        · rw [if_neg ct, if_pos (.inr cj)]
          obtain ⟨rfl, hj⟩ := cj
          obtain ⟨a, b⟩ := least_cut n hi lo rest hn hj
          rw [a, b]
        · rw [if_neg ct, if_neg (by rintro (c | c); exact cl c; exact cj c)]
  refine cps fun Q hQ => ?_
  rcases key with ⟨ct, hc⟩ | ⟨ct, cl, hc⟩ | ⟨ct, cl, hc⟩
  · rw [hc] at hQ
    have g1 : decide (4 * (n : Int) - 8 ≤ s) = true := decide_eq_true ct
    generalize 4 * (n : Int) - 8 = tv at *
    generalize 8 - 4 * (n : Int) = lv at *
    generalize 2 ^ (n - 1) - 1 = mv at *
    generalize 2 ^ (n - 1) = nv at *
    unfold exV at *
    clear hc ct hn hs h hw htv
    go_enter Try.func11, Try.ntmps11
    go_wp2_with (first
      | (go_at_call 17; go_must (refine (k1 _).mono ?_); rintro e w1 ⟨rfl, hb1⟩; have R1 := (hb1.block w.heap.size (by simp)).trans (rownew w _ _); have z1 : w.heap.size < w1.heap.size := (by have := hb1.size; simp at this; omega); have hne1 : ¬ w.heap.size = w1.heap.size := (by omega); have hne2 : ¬ w1.heap.size = w.heap.size := (by omega); have b0 := rowcell R1 0; have b1 := rowcell R1 1; have b2 := rowcell R1 2; have b3 := rowcell R1 3; have b4 := rowcell R1 4; have b5 := rowcell R1 5; simp only [List.getElem?_toArray, List.getElem?_cons_zero, List.getElem?_cons_succ] at b0 b1 b2 b3 b4 b5; have HR1 : Hid _ := R1; have HB1 : Hid (Below _ _ _) := hb1; clear hb1 R1)
      | (go_at_call 15; go_must (refine (k2 _).mono ?_); rintro e w2 ⟨rfl, hb2⟩; have R2 := (hb2.block w.heap.size (by simp; omega)).trans ((Below.heap_alloc w1 _ _ z1).trans HR1.out); have S2 := (hb2.block w1.heap.size (by simp)).trans (rownew w1 _ _); have z2 : w1.heap.size < w2.heap.size := (by have := hb2.size; simp at this; omega); have y2 : w.heap.size < w2.heap.size := (Nat.lt_trans z1 z2); have c0 := rowcell R2 0; have c2 := rowcell R2 2; simp only [List.getElem?_toArray, List.getElem?_cons_zero, List.getElem?_cons_succ] at c0 c2; have s1 := rowcell S2 1; have s2 := rowcell S2 2; have s4 := rowcell S2 4; simp only [List.getElem?_toArray, List.getElem?_cons_zero, List.getElem?_cons_succ] at s1 s2 s4; have HR2 : Hid _ := R2; have HS2 : Hid _ := S2; have HB2 : Hid (Below _ _ _) := hb2; clear hb2 R2 S2)
      | (go_at_call 8; go_must (refine (k3 _).mono ?_); rintro e w3 ⟨rfl, hb3⟩; have R3 := (hb3.block w.heap.size y2).trans HR2.out; have S3 := (hb3.block w1.heap.size z2).trans HS2.out; have z3 : w1.heap.size < w3.heap.size := rowlt S3; have y3 : w.heap.size < w3.heap.size := rowlt R3; have d2 := rowcell R3 2; simp only [List.getElem?_toArray, List.getElem?_cons_zero, List.getElem?_cons_succ] at d2; have t1 := rowcell S3 1; have t2 := rowcell S3 2; have t4 := rowcell S3 4; simp only [List.getElem?_toArray, List.getElem?_cons_zero, List.getElem?_cons_succ] at t1 t2 t4; have HB3 : Hid (Below _ _ _) := hb3; clear hb3 R3 S3))
    go_ret3
    exact hQ.out _ _ ⟨rfl, cmore (cthen (cthen (cmore (cthen (cmore (Below.refl _ _) _) HB1.out) _) HB2.out) HB3.out) _⟩
  · rw [hc] at hQ
    have g1 : decide (4 * (n : Int) - 8 ≤ s) = false := decide_eq_false ct
    have g2 : decide (s < 8 - 4 * (n : Int)) = true := decide_eq_true cl
    generalize 4 * (n : Int) - 8 = tv at *
    generalize 8 - 4 * (n : Int) = lv at *
    generalize 2 ^ (n - 1) - 1 = mv at *
    generalize 2 ^ (n - 1) = nv at *
    unfold exV at *
    clear hc ct cl hn hs h hw htv
    go_enter Try.func11, Try.ntmps11
    go_wp2_with (first
      | (go_at_call 17; go_must (refine (k1 _).mono ?_); rintro e w1 ⟨rfl, hb1⟩; have R1 := (hb1.block w.heap.size (by simp)).trans (rownew w _ _); have z1 : w.heap.size < w1.heap.size := (by have := hb1.size; simp at this; omega); have hne1 : ¬ w.heap.size = w1.heap.size := (by omega); have hne2 : ¬ w1.heap.size = w.heap.size := (by omega); have b0 := rowcell R1 0; have b1 := rowcell R1 1; have b2 := rowcell R1 2; have b3 := rowcell R1 3; have b4 := rowcell R1 4; have b5 := rowcell R1 5; simp only [List.getElem?_toArray, List.getElem?_cons_zero, List.getElem?_cons_succ] at b0 b1 b2 b3 b4 b5; have HR1 : Hid _ := R1; have HB1 : Hid (Below _ _ _) := hb1; clear hb1 R1)
      | (go_at_call 15; go_must (refine (k2 _).mono ?_); rintro e w2 ⟨rfl, hb2⟩; have R2 := (hb2.block w.heap.size (by simp; omega)).trans ((Below.heap_alloc w1 _ _ z1).trans HR1.out); have S2 := (hb2.block w1.heap.size (by simp)).trans (rownew w1 _ _); have z2 : w1.heap.size < w2.heap.size := (by have := hb2.size; simp at this; omega); have y2 : w.heap.size < w2.heap.size := (Nat.lt_trans z1 z2); have c0 := rowcell R2 0; have c2 := rowcell R2 2; simp only [List.getElem?_toArray, List.getElem?_cons_zero, List.getElem?_cons_succ] at c0 c2; have s1 := rowcell S2 1; have s2 := rowcell S2 2; have s4 := rowcell S2 4; simp only [List.getElem?_toArray, List.getElem?_cons_zero, List.getElem?_cons_succ] at s1 s2 s4; have HR2 : Hid _ := R2; have HS2 : Hid _ := S2; have HB2 : Hid (Below _ _ _) := hb2; clear hb2 R2 S2)
      | (go_at_call 8; go_must (refine (k3 _).mono ?_); rintro e w3 ⟨rfl, hb3⟩; have R3 := (hb3.block w.heap.size y2).trans HR2.out; have S3 := (hb3.block w1.heap.size z2).trans HS2.out; have z3 : w1.heap.size < w3.heap.size := rowlt S3; have y3 : w.heap.size < w3.heap.size := rowlt R3; have d2 := rowcell R3 2; simp only [List.getElem?_toArray, List.getElem?_cons_zero, List.getElem?_cons_succ] at d2; have t1 := rowcell S3 1; have t2 := rowcell S3 2; have t4 := rowcell S3 4; simp only [List.getElem?_toArray, List.getElem?_cons_zero, List.getElem?_cons_succ] at t1 t2 t4; have HB3 : Hid (Below _ _ _) := hb3; clear hb3 R3 S3))
    go_ret3
    exact hQ.out _ _ ⟨rfl, cmore (cthen (cthen (cmore (cthen (cmore (Below.refl _ _) _) HB1.out) _) HB2.out) HB3.out) _⟩
  · rw [hc] at hQ
    have k4 := rcutstr_any n neg s hi lo rest hn h (by omega) (by omega)
    have g1 : decide (4 * (n : Int) - 8 ≤ s) = false := decide_eq_false ct
    have g2 : decide (s < 8 - 4 * (n : Int)) = false := decide_eq_false cl
    generalize 4 * (n : Int) - 8 = tv at *
    generalize 8 - 4 * (n : Int) = lv at *
    generalize numOf ((strX s hi lo).take (n - 1)) = P at *
    generalize leftL ((strX s hi lo).drop (n - 1)) rest = L at *
    generalize 2 ^ (n - 1) - 1 = mv at *
    generalize 2 ^ (n - 1) = nv at *
    unfold exV at *
    clear hc ct cl hn hs h hw htv
    go_enter Try.func11, Try.ntmps11
    go_wp2_with (first
      | (go_at_call 17; go_must (refine (k1 _).mono ?_); rintro e w1 ⟨rfl, hb1⟩; have R1 := (hb1.block w.heap.size (by simp)).trans (rownew w _ _); have z1 : w.heap.size < w1.heap.size := (by have := hb1.size; simp at this; omega); have hne1 : ¬ w.heap.size = w1.heap.size := (by omega); have hne2 : ¬ w1.heap.size = w.heap.size := (by omega); have b0 := rowcell R1 0; have b1 := rowcell R1 1; have b2 := rowcell R1 2; have b3 := rowcell R1 3; have b4 := rowcell R1 4; have b5 := rowcell R1 5; simp only [List.getElem?_toArray, List.getElem?_cons_zero, List.getElem?_cons_succ] at b0 b1 b2 b3 b4 b5; have HR1 : Hid _ := R1; have HB1 : Hid (Below _ _ _) := hb1; clear hb1 R1)
      | (go_at_call 15; go_must (refine (k2 _).mono ?_); rintro e w2 ⟨rfl, hb2⟩; have R2 := (hb2.block w.heap.size (by simp; omega)).trans ((Below.heap_alloc w1 _ _ z1).trans HR1.out); have S2 := (hb2.block w1.heap.size (by simp)).trans (rownew w1 _ _); have z2 : w1.heap.size < w2.heap.size := (by have := hb2.size; simp at this; omega); have y2 : w.heap.size < w2.heap.size := (Nat.lt_trans z1 z2); have c0 := rowcell R2 0; have c2 := rowcell R2 2; simp only [List.getElem?_toArray, List.getElem?_cons_zero, List.getElem?_cons_succ] at c0 c2; have s1 := rowcell S2 1; have s2 := rowcell S2 2; have s4 := rowcell S2 4; simp only [List.getElem?_toArray, List.getElem?_cons_zero, List.getElem?_cons_succ] at s1 s2 s4; have HR2 : Hid _ := R2; have HS2 : Hid _ := S2; have HB2 : Hid (Below _ _ _) := hb2; clear hb2 R2 S2)
      | (go_at_call 8; go_must (refine (k3 _).mono ?_); rintro e w3 ⟨rfl, hb3⟩; have R3 := (hb3.block w.heap.size y2).trans HR2.out; have S3 := (hb3.block w1.heap.size z2).trans HS2.out; have z3 : w1.heap.size < w3.heap.size := rowlt S3; have y3 : w.heap.size < w3.heap.size := rowlt R3; have d0 := rowcell R3 0; have d1 := rowcell R3 1; have d2 := rowcell R3 2; have d3 := rowcell R3 3; have d4 := rowcell R3 4; have d5 := rowcell R3 5; simp only [List.getElem?_toArray, List.getElem?_cons_zero, List.getElem?_cons_succ] at d0 d1 d2 d3 d4 d5; have t1 := rowcell S3 1; have t2 := rowcell S3 2; have t4 := rowcell S3 4; simp only [List.getElem?_toArray, List.getElem?_cons_zero, List.getElem?_cons_succ] at t1 t2 t4; have HB3 : Hid (Below _ _ _) := hb3; clear hb3 R3 S3)
      | (go_at_call 18; go_must (refine (k4 _).mono ?_); rintro e w4 ⟨rfl, hb4⟩; have HB4 : Hid (Below _ _ _) := hb4; clear hb4))
    go_ret3
    exact hQ.out _ _ ⟨rfl, cthen (cmore (cthen (cthen (cmore (cthen (cmore (Below.refl _ _) _) HB1.out) _) HB2.out) HB3.out) _) HB4.out⟩
end Go.Proofs.Ytajlgpamcpgalab

namespace Go.Proofs.Ytajlgpamcpgalab
open Go.ChangeShapes Go.WideShapes Go.ChangeAt Go.RowKit
set_option linter.unusedVariables false
set_option linter.unusedSimpArgs false
set_option maxRecDepth 100000

/-! ### Of -/
theorem rndof_bad (k : Int) (neg : Bool) (s : Int) (f : Nat) (hf : f < 2 ^ 64) (hs : soundN k neg s f = false) (w : World) :
    Calls Try.prog 9 #[numV k neg s f] w fun e w' => e = .returned (.tuple #[exV 0 false 0 0 0 false, codeV 1]) ∧ Below w.heap.size w w' := by
  have k2 := rsound_any k neg s f 0 false 1073741824 hf (by decide)
  rw [soundF_N, hs] at k2
  unfold numV exV at *
  rw [show ((0 : Nat) : Int) = 0 from rfl] at *
  clear hs
  refine cps fun Q hQ => ?_
  go_enter Try.func9, Try.ntmps9
  go_wp2_with (go_at_call 15; refine (k2 _).mono ?_; rintro e w2 ⟨rfl, hb2⟩; have RR := (hb2.block (w.heap.size + 1) (by simp)).trans ((Below.heap_alloc ((w.alloc _).alloc _) _ _ (by simp)).trans (rownew' _ _ _ _ (by simp))); have r0 := rowcell RR 0; have r1 := rowcell RR 1; have r2 := rowcell RR 2; have r3 := rowcell RR 3; have r4 := rowcell RR 4; have r5 := rowcell RR 5; have rf := rowfree RR; simp only [List.getElem?_toArray, List.getElem?_cons_zero, List.getElem?_cons_succ] at r0 r1 r2 r3 r4 r5; have HB2 : Hid (Below _ _ _) := cthen (cmore (cmore (cmore (Below.refl _ _) _) _) _) hb2; clear hb2 RR)
  refine bodyPost_ret (v := .tuple #[.agg #[.int .i64 0, .bool false, .int .i64 0, .int .u64 0, .int .u64 0, .bool false], codeV 1]) (by simp [results, Try.results9, go_sem, r0, r1, r2, r3, r4, r5]) rfl (hQ.out _ _ ⟨rfl, ?_⟩)
  have hle : w.heap.size ≤ w.heap.size + 1 := by omega
  exact cset (cset (cset (cset (cset (cset HB2.out hle _ _) hle _ _) hle _ _) hle _ _) hle _ _) hle _ _
theorem rndof_ok (k : Int) (neg : Bool) (s : Int) (f : Nat) (hf : f < 2 ^ 64) (hs : soundN k neg s f = true) (w : World) :
    Calls Try.prog 9 #[numV k neg s f] w fun e w' => e = .returned (.tuple #[exV k neg s f 0 false, .nilIface]) ∧ Below w.heap.size w w' := by
  have k2 := rsound_any k neg s f 0 false 1073741824 hf (by decide)
  rw [soundF_N, hs] at k2
  unfold numV exV at *
  rw [show ((0 : Nat) : Int) = 0 from rfl] at *
  clear hs
  refine cps fun Q hQ => ?_
  go_enter Try.func9, Try.ntmps9
  go_wp2_with (go_at_call 15; refine (k2 _).mono ?_; rintro e w2 ⟨rfl, hb2⟩; have RR := (hb2.block (w.heap.size + 1) (by simp)).trans ((Below.heap_alloc ((w.alloc _).alloc _) _ _ (by simp)).trans (rownew' _ _ _ _ (by simp))); have r0 := rowcell RR 0; have r1 := rowcell RR 1; have r2 := rowcell RR 2; have r3 := rowcell RR 3; have r4 := rowcell RR 4; have r5 := rowcell RR 5; have rf := rowfree RR; simp only [List.getElem?_toArray, List.getElem?_cons_zero, List.getElem?_cons_succ] at r0 r1 r2 r3 r4 r5; have RY := (hb2.block (w.heap.size + 2) (by simp)).trans (rownew' _ _ _ _ (by simp)); have y0 := rowcell RY 0; have y1 := rowcell RY 1; have y2 := rowcell RY 2; have y3 := rowcell RY 3; have y4 := rowcell RY 4; have y5 := rowcell RY 5; simp only [List.getElem?_toArray, List.getElem?_cons_zero, List.getElem?_cons_succ] at y0 y1 y2 y3 y4 y5; have HB2 : Hid (Below _ _ _) := cthen (cmore (cmore (cmore (Below.refl _ _) _) _) _) hb2; clear hb2 RR RY)
  refine bodyPost_ret (v := .tuple #[.agg #[.int .i64 k, .bool neg, .int .i64 s, .int .u64 f, .int .u64 0, .bool false], .nilIface]) (by simp [results, Try.results9, go_sem, r0, r1, r2, r3, r4, r5]) rfl (hQ.out _ _ ⟨rfl, ?_⟩)
  have hle : w.heap.size ≤ w.heap.size + 1 := by omega
  exact cset (cset (cset (cset (cset (cset HB2.out hle _ _) hle _ _) hle _ _) hle _ _) hle _ _) hle _ _
/-! ### Round -/
theorem rround_err (n : Int) (k : Int) (neg : Bool) (s : Int) (hi lo : Nat) (rest : Bool) (c : Int) (w : World)
    (k1 : ∀ w, Calls Try.prog 11 #[.int .i64 n, exV k neg s hi lo rest] w fun e w' => e = .returned (.tuple #[.int .u64 0, .int .i64 0, codeV c]) ∧ Below w.heap.size w w') :
    Calls Try.prog 6 #[.int .i64 n, exV k neg s hi lo rest] w fun e w' => e = .returned (.tuple #[.int .u64 0, codeV c]) ∧ Below w.heap.size w w' := by
  unfold exV at *
  refine cps fun Q hQ => ?_
  go_enter Try.func6, Try.ntmps6
  go_wp2_with (go_at_call 11; refine (k1 _).mono ?_; rintro e w2 ⟨rfl, hb2⟩)
  exact hQ.out _ _ ⟨rfl, cthen (cmore (Below.refl _ _) _) hb2⟩
theorem rround_no (n : Int) (k : Int) (neg : Bool) (s : Int) (hi lo : Nat) (rest : Bool) (hh : hi < 2 ^ 64) (hl : lo < 2 ^ 64) (hn : isW n = false) (w : World) :
    Calls Try.prog 6 #[.int .i64 n, exV k neg s hi lo rest] w fun e w' => e = .returned (.tuple #[.int .u64 0, codeV 2]) ∧ Below w.heap.size w w' :=
  rround_err n k neg s hi lo rest 2 w (rcut_no n k neg s hi lo rest hh hl hn)
theorem rround_bad (n : Nat) (k : Int) (neg : Bool) (s : Int) (hi lo : Nat) (rest : Bool) (hn : Wd n) (hh : hi < 2 ^ 64) (hl : lo < 2 ^ 64) (hs : soundX k neg s hi lo rest = false) (w : World) :
    Calls Try.prog 6 #[.int .i64 n, exV k neg s hi lo rest] w fun e w' => e = .returned (.tuple #[.int .u64 0, codeV 1]) ∧ Below w.heap.size w w' :=
  rround_err n k neg s hi lo rest 1 w (rcut_bad n k neg s hi lo rest hn hh hl hs)
theorem rround_plain (n : Int) (k : Int) (P : Nat) (w : World)
    (k1 : ∀ w, Calls Try.prog 11 #[.int .i64 n, exV k false 0 0 0 false] w fun e w' => e = .returned (.tuple #[.int .u64 P, .int .i64 0, .nilIface]) ∧ Below w.heap.size w w') :
    Calls Try.prog 6 #[.int .i64 n, exV k false 0 0 0 false] w fun e w' => e = .returned (.tuple #[.int .u64 P, .nilIface]) ∧ Below w.heap.size w w' := by
  unfold exV at *
  refine cps fun Q hQ => ?_
  go_enter Try.func6, Try.ntmps6
  go_wp2_with (go_at_call 11; refine (k1 _).mono ?_; rintro e w2 ⟨rfl, hb2⟩; have hc := fun b o h => hb2.cell (p := ⟨b, o, none⟩) h; have z1 : w.heap.size < w2.heap.size := (by have := hb2.size; simp at this; omega))
  exact hQ.out _ _ ⟨rfl, cthen (cmore (Below.refl _ _) _) hb2⟩
theorem rround_zero (n : Nat) (hn : Wd n) (w : World) :
    Calls Try.prog 6 #[.int .i64 n, exV 0 false 0 0 0 false] w fun e w' => e = .returned (.tuple #[.int .u64 0, .nilIface]) ∧ Below w.heap.size w w' :=
  rround_plain n 0 0 w (rcut_zero n hn)
theorem rround_nar (n : Nat) (hn : Wd n) (w : World) :
    Calls Try.prog 6 #[.int .i64 n, exV 2 false 0 0 0 false] w fun e w' => e = .returned (.tuple #[.int .u64 (2 ^ (n - 1) : Nat), .nilIface]) ∧ Below w.heap.size w w' :=
  rround_plain n 2 (2 ^ (n - 1)) w (rcut_nar n hn)
set_option maxHeartbeats 2000000 in
theorem rround_real (n : Nat) (neg : Bool) (s : Int) (hi lo : Nat) (rest : Bool) (hn : Wd n) (hs : soundX 1 neg s hi lo rest = true) (h : WordsX hi lo) (w : World) :
    Calls Try.prog 6 #[.int .i64 n, exV 1 neg s hi lo rest] w fun e w' => e = .returned (.tuple #[.int .u64 (patR n neg (rndX n s hi lo rest)), .nilIface]) ∧ Below w.heap.size w w' := by
  have k1 := rcut_real n neg s hi lo rest hn hs h
  obtain ⟨r1, r2⟩ := rnd_range n s hi lo rest hn h
  obtain ⟨H, e1, e2, e3, _⟩ := wd_pows hn
  have hw := wd_le hn
  have hH : H ≤ 2 ^ 63 := by rw [← e2]; exact Nat.pow_le_pow_right (by decide) (by omega)
  have k2 := fold_ok n (minusU (rndX n s hi lo rest)) hn (minusU_lt _)
  have hneg : minusU (rndX n s hi lo rest) % 2 ^ n = 2 ^ n - rndX n s hi lo rest := by
    rw [minusU_mod n _ hn (by omega), Nat.mod_eq_of_lt (a := rndX n s hi lo rest) (by omega), Nat.mod_eq_of_lt (by omega)]
  rw [hneg] at k2
  have hmw := minusU_wrap (rndX n s hi lo rest) (by omega)
  have HR : Hid (rndX n s hi lo rest = roundP (cutX n s hi lo rest).1 (cutX n s hi lo rest).2) := rfl
  have hle := (roundP_le (cutX n s hi lo rest).1 (cutX n s hi lo rest).2).1
  have hle2 : (cutX n s hi lo rest).1 ≤ rndX n s hi lo rest := hle
  unfold patR
  generalize 2 ^ n - rndX n s hi lo rest = M at *
  generalize minusU (rndX n s hi lo rest) = U at *
  generalize (cutX n s hi lo rest).1 = P at *
  generalize (cutX n s hi lo rest).2 = l at *
  generalize rndX n s hi lo rest = R at *
  unfold exV at *
  rw [e2] at r2
  have hR63 : R < 2 ^ 63 := by omega
  clear hn hs h hneg e1 e2 e3 hle r2 hH
  have hup : (l = 3 ∨ (l = 2 ∧ P % 2 = 1)) → P + 1 = R := fun c => by rw [HR.out]; unfold roundP; rw [if_pos c]
  have hst : ¬ (l = 3 ∨ (l = 2 ∧ P % 2 = 1)) → P = R := fun c => by rw [HR.out]; unfold roundP; rw [if_neg c]
  have ew : IntKind.u64.wrap ((P : Int) + 1) = (P : Int) + 1 := by rw [IntKind.wrap_u64]; omega
  refine cps fun Q hQ => ?_
  by_cases c : l = 3 ∨ (l = 2 ∧ P % 2 = 1)
  · have hP := hup c
    have hc2 : ((P : Int) + 1) = (R : Int) := by omega
    have ew2 : IntKind.u64.wrap ((P : Int) + 1) = (R : Int) := by rw [ew, hc2]
    clear hup hst hP hc2 ew
    rcases c with rfl | ⟨rfl, c⟩
    · cases neg
      · go_enter Try.func6, Try.ntmps6
        go_wp2_with (first
          | (go_at_call 11; refine (k1 _).mono ?_; rintro e w2 ⟨rfl, hb2⟩; have a1 := ((hb2.cell (p := ⟨w.heap.size, 1, none⟩) (by simp)).trans (rowcell (rownew w _ _) 1)); simp only [List.getElem?_toArray, List.getElem?_cons_zero, List.getElem?_cons_succ] at a1; have z1 : w.heap.size < w2.heap.size := (by have := hb2.size; simp at this; omega)))
        exact hQ.out _ _ ⟨rfl, cthen (cmore (Below.refl _ _) _) hb2⟩
      · go_enter Try.func6, Try.ntmps6
        go_wp2_with (first
          | (go_at_call 11; refine (k1 _).mono ?_; rintro e w2 ⟨rfl, hb2⟩; have a1 := ((hb2.cell (p := ⟨w.heap.size, 1, none⟩) (by simp)).trans (rowcell (rownew w _ _) 1)); simp only [List.getElem?_toArray, List.getElem?_cons_zero, List.getElem?_cons_succ] at a1; have z1 : w.heap.size < w2.heap.size := (by have := hb2.size; simp at this; omega))
          | (go_at_call 12; refine (k2 _).mono ?_; rintro e w4 ⟨rfl, hb4⟩))
        exact hQ.out _ _ ⟨rfl, cthen (cthen (cmore (Below.refl _ _) _) hb2) hb4⟩
    · have m2 : (Int.tmod (P : Int) 2) = (P : Int) % 2 := Int.tmod_eq_emod_of_nonneg (by omega)
      have m3 : (P : Int) % 2 = 1 := by omega
      clear c
      cases neg
      · go_enter Try.func6, Try.ntmps6
        go_wp2_with (first
          | (go_at_call 11; refine (k1 _).mono ?_; rintro e w2 ⟨rfl, hb2⟩; have a1 := ((hb2.cell (p := ⟨w.heap.size, 1, none⟩) (by simp)).trans (rowcell (rownew w _ _) 1)); simp only [List.getElem?_toArray, List.getElem?_cons_zero, List.getElem?_cons_succ] at a1; have z1 : w.heap.size < w2.heap.size := (by have := hb2.size; simp at this; omega)))
        exact hQ.out _ _ ⟨rfl, cthen (cmore (Below.refl _ _) _) hb2⟩
      · go_enter Try.func6, Try.ntmps6
        go_wp2_with (first
          | (go_at_call 11; refine (k1 _).mono ?_; rintro e w2 ⟨rfl, hb2⟩; have a1 := ((hb2.cell (p := ⟨w.heap.size, 1, none⟩) (by simp)).trans (rowcell (rownew w _ _) 1)); simp only [List.getElem?_toArray, List.getElem?_cons_zero, List.getElem?_cons_succ] at a1; have z1 : w.heap.size < w2.heap.size := (by have := hb2.size; simp at this; omega))
          | (go_at_call 12; refine (k2 _).mono ?_; rintro e w4 ⟨rfl, hb4⟩))
        exact hQ.out _ _ ⟨rfl, cthen (cthen (cmore (Below.refl _ _) _) hb2) hb4⟩
  · have hP := hst c
    subst hP
    clear hup hst
    have d3 : ((l : Int) == 3) = false := beq_eq_false_iff_ne.2 (by omega)
    by_cases h2 : l = 2
    · subst h2
      have m3 : (P : Int) % 2 = 0 := by omega
      have m2 : (Int.tmod (P : Int) 2) = (P : Int) % 2 := Int.tmod_eq_emod_of_nonneg (by omega)
      clear c
      cases neg
      · go_enter Try.func6, Try.ntmps6
        go_wp2_with (first
          | (go_at_call 11; refine (k1 _).mono ?_; rintro e w2 ⟨rfl, hb2⟩; have a1 := ((hb2.cell (p := ⟨w.heap.size, 1, none⟩) (by simp)).trans (rowcell (rownew w _ _) 1)); simp only [List.getElem?_toArray, List.getElem?_cons_zero, List.getElem?_cons_succ] at a1; have z1 : w.heap.size < w2.heap.size := (by have := hb2.size; simp at this; omega)))
        exact hQ.out _ _ ⟨rfl, cthen (cmore (Below.refl _ _) _) hb2⟩
      · go_enter Try.func6, Try.ntmps6
        go_wp2_with (first
          | (go_at_call 11; refine (k1 _).mono ?_; rintro e w2 ⟨rfl, hb2⟩; have a1 := ((hb2.cell (p := ⟨w.heap.size, 1, none⟩) (by simp)).trans (rowcell (rownew w _ _) 1)); simp only [List.getElem?_toArray, List.getElem?_cons_zero, List.getElem?_cons_succ] at a1; have z1 : w.heap.size < w2.heap.size := (by have := hb2.size; simp at this; omega))
          | (go_at_call 12; refine (k2 _).mono ?_; rintro e w4 ⟨rfl, hb4⟩))
        exact hQ.out _ _ ⟨rfl, cthen (cthen (cmore (Below.refl _ _) _) hb2) hb4⟩
    · have d2 : ((l : Int) == 2) = false := beq_eq_false_iff_ne.2 (by omega)
      clear c h2
      cases neg
      · go_enter Try.func6, Try.ntmps6
        go_wp2_with (first
          | (go_at_call 11; refine (k1 _).mono ?_; rintro e w2 ⟨rfl, hb2⟩; have a1 := ((hb2.cell (p := ⟨w.heap.size, 1, none⟩) (by simp)).trans (rowcell (rownew w _ _) 1)); simp only [List.getElem?_toArray, List.getElem?_cons_zero, List.getElem?_cons_succ] at a1; have z1 : w.heap.size < w2.heap.size := (by have := hb2.size; simp at this; omega)))
        exact hQ.out _ _ ⟨rfl, cthen (cmore (Below.refl _ _) _) hb2⟩
      · go_enter Try.func6, Try.ntmps6
        go_wp2_with (first
          | (go_at_call 11; refine (k1 _).mono ?_; rintro e w2 ⟨rfl, hb2⟩; have a1 := ((hb2.cell (p := ⟨w.heap.size, 1, none⟩) (by simp)).trans (rowcell (rownew w _ _) 1)); simp only [List.getElem?_toArray, List.getElem?_cons_zero, List.getElem?_cons_succ] at a1; have z1 : w.heap.size < w2.heap.size := (by have := hb2.size; simp at this; omega))
          | (go_at_call 12; refine (k2 _).mono ?_; rintro e w4 ⟨rfl, hb4⟩))
        exact hQ.out _ _ ⟨rfl, cthen (cthen (cmore (Below.refl _ _) _) hb2) hb4⟩
end Go.Proofs.Ytajlgpamcpgalab

namespace Go.Proofs.Ytajlgpamcpgalab
open Go.ChangeShapes Go.WideShapes Go.ChangeAt Go.RowKit
set_option linter.unusedVariables false
set_option linter.unusedSimpArgs false
set_option maxRecDepth 100000

/-! ### Make -/
theorem norm_shift {M k : Nat} (hM : blen M ≤ 128) (hk : k + blen M = 128) : normN M = M * 2 ^ k ∧ lostN M = false := by
  constructor
  · unfold normN
    by_cases h : blen M < 128
    · rw [if_pos h, show 128 - blen M = k by omega]
    · rw [if_neg h, show blen M - 128 = 0 by omega, show k = 0 by omega, Nat.pow_zero, Nat.div_one, Nat.mul_one]
  · unfold lostN
    rw [decide_eq_false (show ¬ 128 < blen M by omega), Bool.false_and]
theorem norm_tw {M : Nat} (h : M < 340282366920938463463374607431768211456) : Tw M (M / 2 ^ 64 % 2 ^ 64) (M % 2 ^ 64) := ⟨by omega, by omega, by omega⟩
end Go.Proofs.Ytajlgpamcpgalab

namespace Go.Proofs.Ytajlgpamcpgalab
/-! ### the contracts of package round stand in RkD (Cut), RkE (Of, Round), RkF (Make) -/
end Go.Proofs.Ytajlgpamcpgalab

namespace Go.Proofs.Ytajlgpamcpgalab
open Go.ChangeShapes Go.WideShapes Go.ChangeAt Go.RowKit
set_option linter.unusedVariables false
set_option linter.unusedSimpArgs false
set_option maxRecDepth 100000

/-- the head of all laws of this layer -/
theorem rup_any (w : World) : Calls Try.prog 4 #[] w fun e w' => e = .returned (.bool true) ∧ Below w.heap.size w w' := by
  have k1 := fun w => rround_real 8 false 22 9223372036854775808 0 false (.inl rfl) (by decide) ⟨by decide, by decide, by decide⟩ w
  have k2 := fun w => rround_real 8 false 23 9223372036854775808 0 false (.inl rfl) (by decide) ⟨by decide, by decide, by decide⟩ w
  rw [show patR 8 false (rndX 8 22 9223372036854775808 0 false) = 126 by decide +kernel] at k1
  rw [show patR 8 false (rndX 8 23 9223372036854775808 0 false) = 127 by decide +kernel] at k2
  unfold exV at k1 k2
  rw [show ((9223372036854775808 : Nat) : Int) = 9223372036854775808 from rfl, show ((0 : Nat) : Int) = 0 from rfl] at k1 k2
  rw [show ((126 : Nat) : Int) = 126 from rfl] at k1
  rw [show ((127 : Nat) : Int) = 127 from rfl] at k2
  refine cps fun Q hQ => ?_
  go_enter Try.func4, Try.ntmps4
  go_wp2_with (first
    | (go_at_call_of 6 (22 : Int); refine (k1 _).mono ?_; rintro e w1 ⟨rfl, hb1⟩)
    | (go_at_call 6; refine (k2 _).mono ?_; rintro e w2 ⟨rfl, hb2⟩))
  exact hQ.out _ _ ⟨rfl, hb1.trans (hb2.mono hb1.size)⟩
theorem soundX_cases {k : Int} {neg : Bool} {s : Int} {hi lo : Nat} {rest : Bool} (h : soundX k neg s hi lo rest = true) : (k = 0 ∧ neg = false ∧ s = 0 ∧ hi = 0 ∧ lo = 0 ∧ rest = false) ∨ (k = 2 ∧ neg = false ∧ s = 0 ∧ hi = 0 ∧ lo = 0 ∧ rest = false) ∨ k = 1 := by
  unfold soundX at h
  split at h
  · rename_i hk
    have := of_decide_eq_true h
    rcases hk with rfl | rfl
    · exact .inl ⟨rfl, this⟩
    · exact .inr (.inl ⟨rfl, this⟩)
  · exact .inr (.inr (of_decide_eq_true h).1)
theorem soundX_top {neg : Bool} {s : Int} {hi lo : Nat} {rest : Bool} (h : soundX 1 neg s hi lo rest = true) : 9223372036854775808 ≤ hi := by
  unfold soundX at h
  rw [if_neg (by decide)] at h
  exact (of_decide_eq_true h).2.1
end Go.Proofs.Ytajlgpamcpgalab

namespace Go.Proofs.Ytajlgpamcpgalab
set_option linter.unusedVariables false
set_option linter.unusedSimpArgs false

/-! ### what a string means, as the number of its string (plain mathematics: P7.5's ties) -/
theorem scaleL_range (t : List Bool) (hl : t.length ≤ 63) : -256 ≤ scaleL t ∧ scaleL t ≤ 255 := by
  have hex : expL t < 4 := by
    have := numOf_lt ((restL t ++ noughts 2).take 2)
    rw [show ((restL t ++ noughts 2).take 2).length = 2 by simp] at this
    exact this
  have h1 := runL_le t
  unfold scaleL regL
  split <;> omega
theorem words_of (t : List Bool) : WordsX (wordL t) 0 := ⟨(wordL_bounds t).1, (wordL_bounds t).2, by decide⟩
theorem strX_canon (s : Int) (f : Nat) : strX s f 0 = canon s f ++ noughts 64 := by
  have : bitsOf 0 64 = noughts 64 := by decide
  unfold strX canon digX
  rw [this]; simp
theorem zed_parse (t : List Bool) (ht : true ∈ t) (hl : t.length ≤ 63) : zed (scaleL t) (manX (wordL t) 0) = numOf t * 2 ^ (209 - t.length) := by
  obtain ⟨z, hz, _⟩ := canon_parse t ht (by omega)
  have hr := scaleL_range t hl
  obtain ⟨h1, h2⟩ := zed_str (scaleL t) (manX (wordL t) 0) (digX (wordL t) 0) (digX_length _ _) (digX_num (words_of t)) (by omega) (by omega)
  have e : headK (scaleL t / 4) ++ bitsOf (scaleL t % 4).toNat 2 ++ digX (wordL t) 0 = t ++ noughts (z + 64) := by
    have := strX_canon (scaleL t) (wordL t)
    rw [hz, List.append_assoc, noughts_add] at this
    exact this
  rw [e, List.length_append, List.length_replicate] at h1 h2
  rw [← h2, numOf_append, numOf_noughts, Nat.add_zero, List.length_replicate, Nat.mul_assoc, ← Nat.pow_add]
  congr 2; omega
/-- the tie behind p: p, a 1 and noughts, in the width 64 -/
def tieL (n p : Nat) : List Bool := bitsOf p (n - 1) ++ true :: noughts (63 - n)
theorem tie_zed (n p : Nat) (h1 : 1 ≤ n) (h2 : n ≤ 63) (hp : p < 2 ^ (n - 1)) :
    2 * zed (scaleL (tieL n p)) (manX (wordL (tieL n p)) 0) = p * (2 * 2 ^ (210 - n)) + 2 ^ (210 - n) := by
  have hl : (tieL n p).length = 63 := by unfold tieL; rw [List.length_append, bitsOf_length, List.length_cons, List.length_replicate]; omega
  have ht : true ∈ tieL n p := List.mem_append_right _ (List.mem_cons_self ..)
  rw [zed_parse _ ht (by omega), hl]
  have hn : numOf (tieL n p) = (2 * p + 1) * 2 ^ (63 - n) := by
    unfold tieL
    rw [numOf_append, numOf_bits, Nat.mod_eq_of_lt hp, numOf_cons, numOf_noughts, List.length_cons, List.length_replicate, Nat.pow_succ]
    simp only [Bool.toNat_true, Nat.one_mul, Nat.add_zero]
    rw [Nat.add_mul, Nat.one_mul, ← Nat.mul_assoc, Nat.mul_comm (p * 2 ^ (63 - n)) 2, ← Nat.mul_assoc]
  have e1 : 2 ^ (210 - n) = 2 * (2 ^ (63 - n) * 2 ^ (209 - 63)) := by
    rw [← Nat.pow_add, ← Nat.pow_succ']; congr 1; omega
  rw [hn, e1]
  generalize 2 ^ (209 - 63) = B
  generalize 2 ^ (63 - n) = A
  rw [Nat.mul_assoc (2 * p + 1) A B]
  generalize A * B = C
  rw [Nat.add_mul, Nat.one_mul, Nat.mul_add]
  congr 1
  simp only [Nat.mul_assoc, Nat.mul_left_comm]
end Go.Proofs.Ytajlgpamcpgalab

namespace Go.Proofs.Ytajlgpamcpgalab
open Go.ChangeShapes Go.WideShapes Go.ChangeAt Go.RowKit
set_option linter.unusedVariables false
set_option linter.unusedSimpArgs false
set_option maxRecDepth 100000

/-! ### what a pattern means is rounded to it (plain mathematics) -/
theorem rhe_mul (H p : Nat) (hH : 0 < H) : rhe H (p * (2 * H)) = p := by
  unfold rhe
  rw [Nat.mul_div_cancel _ (by omega), Nat.mul_mod_left, if_pos rfl]
  unfold roundP
  rw [if_neg (by omega)]
theorem str_ends (m : Nat) (t : List Bool) (hm : Wd m) (hl : t.length = m - 1) (ht : true ∈ t) :
    (scaleL t = 4 * (m : Int) - 8 → numOf t = 2 ^ (m - 1) - 1) ∧ (scaleL t = 8 - 4 * (m : Int) → numOf t = 1) := by
  have hw := wd_le hm
  have hne : t ≠ [] := by rintro rfl; cases ht
  have hex : expL t < 4 := by
    have := numOf_lt ((restL t ++ noughts 2).take 2)
    rw [show ((restL t ++ noughts 2).take 2).length = 2 by simp] at this
    exact this
  obtain ⟨b, r, tl, rfl, htl⟩ := split_run t hne
  rw [List.length_append, List.length_replicate] at hl
  unfold scaleL regL
  rw [runL_rep b r tl htl, onesL_rep]
  generalize expL (List.replicate (r + 1) b ++ tl) = ex at *
  constructor
  · intro h
    cases b
    · simp at h; omega
    · simp at h
      have hr : r + 1 = m - 1 := by omega
      have htl0 : tl = [] := List.length_eq_zero_iff.1 (by omega)
      rw [htl0, List.append_nil, numOf_ones, hr]
  · intro h
    cases b
    · simp at h
      have hr : r + 1 = m - 2 ∨ r + 1 = m - 1 := by omega
      rcases htl with rfl | ⟨u, rfl⟩
      · rw [List.append_nil, List.mem_replicate] at ht
        exact absurd ht.2 (by decide)
      · rw [List.length_cons] at hl
        have hu : u = [] := List.length_eq_zero_iff.1 (by omega)
        subst hu
        rw [show List.replicate (r + 1) false = noughts (r + 1) from rfl, numOf_noughts_append]
        rfl
    · simp at h; omega
theorem rnd_home (m : Nat) (t : List Bool) (hm : Wd m) (hl : t.length = m - 1) (ht : true ∈ t) : rndX m (scaleL t) (wordL t) 0 false = numOf t := by
  have hw := wd_le hm
  have hr := of_decide_eq_true (inR_of m t hm hl ht)
  obtain ⟨e1, e2⟩ := str_ends m t hm hl ht
  rcases mid_or m (scaleL t) (justX (wordL t) 0 false) with h | h | ⟨h0, h⟩
  · rw [(rnd_mid m _ _ _ _ hm (words_of t) h).1]
    unfold zX
    rw [zed_parse t ht (by omega), hl, show 209 - (m - 1) = 210 - m by omega]
    have := rhe_mul (2 ^ (210 - m)) (numOf t) (Nat.pow_pos (by decide))
    rw [show numOf t * (2 * 2 ^ (210 - m)) = 2 * (numOf t * 2 ^ (210 - m)) by rw [Nat.mul_left_comm]] at this
    simpa using this
  · rw [rnd_top m _ _ _ _ h, e1 (by omega)]
  · rw [rnd_low m _ _ _ _ h0 h, e2 (by rcases h with h | h <;> omega)]
/-! ### ranks of patterns that are rounded -/
theorem extOf_patR (n : Nat) (hn : Wd n) (neg : Bool) (R : Nat) (h1 : 1 ≤ R) (h2 : R ≤ 2 ^ (n - 1) - 1) : extOf (patR n neg R) n = if neg then -(R : Int) else R := by
  obtain ⟨H, e1, e2, e3, _⟩ := wd_pows hn
  unfold patR
  rw [e2] at h2
  cases neg
  · simp only [Bool.false_eq_true, if_false]
    have hlt : R < 2 ^ n := by rw [e1]; omega
    have ht := top_of n R hn hlt
    rw [e2, decide_eq_false (by omega)] at ht
    unfold extOf
    rw [ht, Nat.mod_eq_of_lt hlt]; simp
  · simp only [if_true]
    have hlt : 2 ^ n - R < 2 ^ n := by rw [e1]; omega
    have ht := top_of n _ hn hlt
    rw [e2, decide_eq_true (by rw [e1]; omega)] at ht
    unfold extOf
    rw [ht, Nat.mod_eq_of_lt hlt, e1]; simp; omega
theorem extOf_nought (n : Nat) : extOf 0 n = 0 := by unfold extOf; simp
def valX (n : Nat) (k : Int) (neg : Bool) (s : Int) (hi lo : Nat) : Int := if k = 1 then (if neg then -(rndX n s hi lo false : Int) else rndX n s hi lo false) else 0
/-- a number that is a Zero or a Real without Rest, rounded -/
theorem rround_val (n : Nat) (hn : Wd n) (k : Int) (neg : Bool) (s : Int) (hi lo : Nat) (hh : hi < 2 ^ 64) (hl : lo < 2 ^ 64) (hs : soundX k neg s hi lo false = true) (hk : k ≠ 2) :
    ∃ P : Nat, (∀ w, Calls Try.prog 6 #[.int .i64 n, exV k neg s hi lo false] w fun e w' => e = .returned (.tuple #[.int .u64 P, .nilIface]) ∧ Below w.heap.size w w') ∧ extOf P n = valX n k neg s hi lo := by
  rcases soundX_cases hs with ⟨rfl, rfl, rfl, rfl, rfl, _⟩ | ⟨rfl, _⟩ | rfl
  · exact ⟨0, fun w => rround_zero n hn w, by rw [extOf_nought]; rfl⟩
  · exact absurd rfl hk
  · have hx : WordsX hi lo := ⟨soundX_top hs, hh, hl⟩
    obtain ⟨r1, r2⟩ := rnd_range n s hi lo false hn hx
    exact ⟨_, fun w => rround_real n neg s hi lo false hn hs hx w, by rw [extOf_patR n hn neg _ r1 r2]; unfold valX; rw [if_pos rfl]⟩
theorem lexN {hi lo hi' lo' : Nat} (hl : lo < 2 ^ 64) (hl' : lo' < 2 ^ 64) : (hi < hi' ∨ (hi = hi' ∧ lo < lo')) ↔ manX hi lo < manX hi' lo' := by
  unfold manX; omega
/-- the document's Cmp is on the side of what is rounded -/
theorem cmp7_val (n : Nat) (hn : Wd n) (k k' : Int) (neg neg' : Bool) (s s' : Int) (hi lo hi' lo' : Nat) (hh : hi < 2 ^ 64) (hl : lo < 2 ^ 64) (hh' : hi' < 2 ^ 64) (hl' : lo' < 2 ^ 64)
    (hs : soundX k neg s hi lo false = true) (hs' : soundX k' neg' s' hi' lo' false = true) (hk : k ≠ 2) (hk' : k' ≠ 2) :
    ∃ c : Int, (∀ w, Calls Try.prog 10 #[exV k neg s hi lo false, exV k' neg' s' hi' lo' false] w fun e w' => e = .returned (.int .i64 c) ∧ Below w.heap.size w w') ∧
      (c ≤ 0 → valX n k neg s hi lo ≤ valX n k' neg' s' hi' lo') ∧ (0 ≤ c → valX n k' neg' s' hi' lo' ≤ valX n k neg s hi lo) := by
  have sg : ∀ (k : Int) (neg : Bool) (s : Int) (hi lo : Nat), hi < 2 ^ 64 → lo < 2 ^ 64 → soundX k neg s hi lo false = true → k ≠ 2 →
      (sgnX k neg = 0 ∧ k = 0 ∧ valX n k neg s hi lo = 0) ∨ (sgnX k neg = 1 ∧ k = 1 ∧ neg = false ∧ 1 ≤ valX n k neg s hi lo) ∨ (sgnX k neg = -1 ∧ k = 1 ∧ neg = true ∧ valX n k neg s hi lo ≤ -1) := by
    intro k neg s hi lo hh hl hs hk
    rcases soundX_cases hs with ⟨rfl, rfl, rfl, rfl, rfl, _⟩ | ⟨rfl, _⟩ | rfl
    · exact .inl ⟨rfl, rfl, rfl⟩
    · exact absurd rfl hk
    · obtain ⟨r1, r2⟩ := rnd_range n s hi lo false hn ⟨soundX_top hs, hh, hl⟩
      unfold sgnX valX
      cases neg
      · refine .inr (.inl ⟨by simp, rfl, rfl, ?_⟩)
        simp; omega
      · refine .inr (.inr ⟨by simp, rfl, rfl, ?_⟩)
        simp; omega
  have h1 := sg k neg s hi lo hh hl hs hk
  have h2 := sg k' neg' s' hi' lo' hh' hl' hs' hk'
  by_cases hsg : sgnX k neg = sgnX k' neg'
  · rcases h1 with ⟨a1, a2, a3⟩ | ⟨a1, a2, a3, a4⟩ | ⟨a1, a2, a3, a4⟩
    · have b : sgnX k' neg' = 0 := by rw [← hsg, a1]
      refine ⟨0, fun w => cmp7_zero k k' neg neg' s s' hi lo hi' lo' false false a1 b w, ?_⟩
      rcases h2 with ⟨_, _, b3⟩ | ⟨b1, _⟩ | ⟨b1, _⟩
      · rw [a3, b3]; exact ⟨fun _ => Int.le_refl _, fun _ => Int.le_refl _⟩
      · rw [b] at b1; exact absurd b1 (by decide)
      · rw [b] at b1; exact absurd b1 (by decide)
    · have hk'1 : k' = 1 ∧ neg' = false := by
        rcases h2 with ⟨b1, _⟩ | ⟨b1, b2, b3, _⟩ | ⟨b1, _⟩
        · rw [← hsg, a1] at b1; exact absurd b1 (by decide)
        · exact ⟨b2, b3⟩
        · rw [← hsg, a1] at b1; exact absurd b1 (by decide)
      obtain ⟨rfl, rfl⟩ := hk'1
      subst a2 a3
      have hx : WordsX hi lo := ⟨soundX_top hs, hh, hl⟩
      have hx' : WordsX hi' lo' := ⟨soundX_top hs', hh', hl'⟩
      have m1 := rnd_rise n s s' hi lo hi' lo' hn hx hx'
      have m2 := rnd_rise n s' s hi' lo' hi lo hn hx' hx
      have lx := @lexN hi lo hi' lo' hl hl'
      refine ⟨_, fun w => cmp7_real false s s' hi lo hi' lo' w, ?_, ?_⟩
      · intro hc
        unfold valX
        simp only [if_true, Bool.false_eq_true, if_false] at hc ⊢
        have := m1 (by
          by_cases e1 : s = s' ∧ hi = hi' ∧ lo = lo'
          · obtain ⟨rfl, rfl, rfl⟩ := e1; exact .inr ⟨rfl, Nat.le_refl _⟩
          · rw [if_neg e1] at hc
            by_cases e2 : s < s' ∨ (s = s' ∧ (hi < hi' ∨ (hi = hi' ∧ lo < lo')))
            · rcases e2 with e2 | ⟨e2, e3⟩
              · exact .inl e2
              · exact .inr ⟨e2, Nat.le_of_lt (lx.1 e3)⟩
            · rw [if_neg e2] at hc; omega)
        omega
      · intro hc
        unfold valX
        simp only [if_true, Bool.false_eq_true, if_false] at hc ⊢
        have := m2 (by
          by_cases e1 : s = s' ∧ hi = hi' ∧ lo = lo'
          · obtain ⟨rfl, rfl, rfl⟩ := e1; exact .inr ⟨rfl, Nat.le_refl _⟩
          · rw [if_neg e1] at hc
            by_cases e2 : s < s' ∨ (s = s' ∧ (hi < hi' ∨ (hi = hi' ∧ lo < lo')))
            · rw [if_pos e2] at hc; omega
            · rcases Int.lt_trichotomy s s' with c1 | c1 | c1
              · exact absurd (.inl c1) e2
              · refine .inr ⟨c1.symm, Nat.le_of_not_lt fun hlt => e2 (.inr ⟨c1, lx.2 hlt⟩)⟩
              · exact .inl c1)
        omega
    · have hk'1 : k' = 1 ∧ neg' = true := by
        rcases h2 with ⟨b1, _⟩ | ⟨b1, _⟩ | ⟨b1, b2, b3, _⟩
        · rw [← hsg, a1] at b1; exact absurd b1 (by decide)
        · rw [← hsg, a1] at b1; exact absurd b1 (by decide)
        · exact ⟨b2, b3⟩
      obtain ⟨rfl, rfl⟩ := hk'1
      subst a2 a3
      have hx : WordsX hi lo := ⟨soundX_top hs, hh, hl⟩
      have hx' : WordsX hi' lo' := ⟨soundX_top hs', hh', hl'⟩
      have m1 := rnd_rise n s s' hi lo hi' lo' hn hx hx'
      have m2 := rnd_rise n s' s hi' lo' hi lo hn hx' hx
      have lx := @lexN hi lo hi' lo' hl hl'
      refine ⟨_, fun w => cmp7_real true s s' hi lo hi' lo' w, ?_, ?_⟩
      · intro hc
        unfold valX
        simp only [if_true] at hc ⊢
        have := m2 (by
          by_cases e1 : s = s' ∧ hi = hi' ∧ lo = lo'
          · obtain ⟨rfl, rfl, rfl⟩ := e1; exact .inr ⟨rfl, Nat.le_refl _⟩
          · rw [if_neg e1] at hc
            by_cases e2 : s < s' ∨ (s = s' ∧ (hi < hi' ∨ (hi = hi' ∧ lo < lo')))
            · rw [if_pos e2] at hc; omega
            · rcases Int.lt_trichotomy s s' with c1 | c1 | c1
              · exact absurd (.inl c1) e2
              · refine .inr ⟨c1.symm, Nat.le_of_not_lt fun hlt => e2 (.inr ⟨c1, lx.2 hlt⟩)⟩
              · exact .inl c1)
        omega
      · intro hc
        unfold valX
        simp only [if_true] at hc ⊢
        have := m1 (by
          by_cases e1 : s = s' ∧ hi = hi' ∧ lo = lo'
          · obtain ⟨rfl, rfl, rfl⟩ := e1; exact .inr ⟨rfl, Nat.le_refl _⟩
          · rw [if_neg e1] at hc
            by_cases e2 : s < s' ∨ (s = s' ∧ (hi < hi' ∨ (hi = hi' ∧ lo < lo')))
            · rcases e2 with e2 | ⟨e2, e3⟩
              · exact .inl e2
              · exact .inr ⟨e2, Nat.le_of_lt (lx.1 e3)⟩
            · rw [if_neg e2] at hc; omega)
        omega
  · refine ⟨_, fun w => cmp7_sgn k k' neg neg' s s' hi lo hi' lo' false false hsg w, ?_, ?_⟩
    · intro hc
      by_cases h : sgnX k neg < sgnX k' neg'
      · rcases h1 with ⟨a1, _, a3⟩ | ⟨a1, _, _, a4⟩ | ⟨a1, _, _, a4⟩ <;> rcases h2 with ⟨b1, _, b3⟩ | ⟨b1, _, _, b4⟩ | ⟨b1, _, _, b4⟩ <;> omega
      · rw [if_neg h] at hc; omega
    · intro hc
      by_cases h : sgnX k neg < sgnX k' neg'
      · rw [if_pos h] at hc; omega
      · rcases h1 with ⟨a1, _, a3⟩ | ⟨a1, _, _, a4⟩ | ⟨a1, _, _, a4⟩ <;> rcases h2 with ⟨b1, _, b3⟩ | ⟨b1, _, _, b4⟩ | ⟨b1, _, _, b4⟩ <;> omega
end Go.Proofs.Ytajlgpamcpgalab

namespace Go.Proofs.Ytajlgpamcpgalab
open Go.ChangeShapes Go.WideShapes Go.ChangeAt Go.RowKit
set_option linter.unusedVariables false
set_option linter.unusedSimpArgs false
set_option maxRecDepth 100000

/-! ### ties (plain mathematics) -/
theorem tieL_length (n q : Nat) (h1 : 1 ≤ n) (h2 : n ≤ 63) : (tieL n q).length = 63 := by
  unfold tieL; rw [List.length_append, bitsOf_length, List.length_cons, List.length_replicate]; omega
theorem tieL_true (n q : Nat) : true ∈ tieL n q := by unfold tieL; simp
theorem tieL_num (n q : Nat) (h1 : 1 ≤ n) (h2 : n ≤ 63) (hq : q < 2 ^ (n - 1)) : numOf (tieL n q) = q * 2 ^ (64 - n) + 2 ^ (63 - n) := by
  unfold tieL
  rw [numOf_append, numOf_bits, Nat.mod_eq_of_lt hq, numOf_cons, numOf_noughts, List.length_cons, List.length_replicate, show 63 - n + 1 = 64 - n by omega]
  simp
/-- the document's Cmp of two positive Reals -/
def cmpV (s : Int) (hi lo : Nat) (s' : Int) (hi' lo' : Nat) : Int := if s = s' ∧ hi = hi' ∧ lo = lo' then 0 else if s < s' ∨ (s = s' ∧ (hi < hi' ∨ (hi = hi' ∧ lo < lo'))) then -1 else 1
theorem cmp7_pos (s s' : Int) (hi lo hi' lo' : Nat) (w : World) :
    Calls Try.prog 10 #[exV 1 false s hi lo false, exV 1 false s' hi' lo' false] w fun e w' => e = .returned (.int .i64 (cmpV s hi lo s' hi' lo')) ∧ Below w.heap.size w w' := by
  have := cmp7_real false s s' hi lo hi' lo' w
  simp only [Bool.false_eq_true, if_false] at this
  exact this
/-- two numbers on the line -/
theorem cmpV_zed {s s' : Int} {hi lo hi' lo' : Nat} (h : WordsX hi lo) (h' : WordsX hi' lo') (h1 : -316 ≤ s) (h2 : s < 312) (h3 : -316 ≤ s') (h4 : s' < 312) :
    (zed s (manX hi lo) < zed s' (manX hi' lo') → cmpV s hi lo s' hi' lo' < 0) ∧ (zed s (manX hi lo) = zed s' (manX hi' lo') → cmpV s hi lo s' hi' lo' = 0) ∧ (zed s' (manX hi' lo') < zed s (manX hi lo) → 0 < cmpV s hi lo s' hi' lo') := by
  have lx := @lexN hi lo hi' lo' h.lo64 h'.lo64
  have up := @zed_lt s s' (manX hi lo) (manX hi' lo') h.mant h'.mant h1 h4
  have dn := @zed_lt s' s (manX hi' lo') (manX hi lo) h'.mant h.mant h3 h2
  have meq : manX hi lo = manX hi' lo' → hi = hi' ∧ lo = lo' := fun e => by
    have a := h.lo64; have b := h'.lo64
    unfold manX at e; omega
  unfold cmpV
  by_cases e : s = s' ∧ hi = hi' ∧ lo = lo'
  · obtain ⟨rfl, rfl, rfl⟩ := e
    rw [if_pos ⟨rfl, rfl, rfl⟩]
    exact ⟨fun h => absurd h (Nat.lt_irrefl _), fun _ => rfl, fun h => absurd h (Nat.lt_irrefl _)⟩
  · rw [if_neg e]
    by_cases l : s < s' ∨ (s = s' ∧ (hi < hi' ∨ (hi = hi' ∧ lo < lo')))
    · rw [if_pos l]
      have := up (by rcases l with l | ⟨l1, l2⟩; exact .inl l; exact .inr ⟨l1, lx.1 l2⟩)
      exact ⟨fun _ => by decide, fun h => by omega, fun h => by omega⟩
    · rw [if_neg l]
      have := dn (by
        rcases Int.lt_trichotomy s s' with c | c | c
        · exact absurd (.inl c) l
        · refine .inr ⟨c.symm, ?_⟩
          rcases Nat.lt_trichotomy (manX hi lo) (manX hi' lo') with d | d | d
          · exact absurd (.inr ⟨c, lx.2 d⟩) l
          · exact absurd ⟨c, meq d⟩ e
          · exact d
        · exact .inl c)
      exact ⟨fun h => by omega, fun h => by omega, fun _ => by decide⟩
theorem ties_mid (n : Nat) (s : Int) (hi lo : Nat) (hn : Wd n) (h64 : n ≤ 63) (h : WordsX hi lo) (hm : midX n s (justX hi lo false)) (p : Nat) (hp : p = rndX n s hi lo false) :
    (p ≤ 2 ^ (n - 1) - 1 → cmpV s hi lo (scaleL (tieL n p)) (wordL (tieL n p)) 0 < 0 ∨ (cmpV s hi lo (scaleL (tieL n p)) (wordL (tieL n p)) 0 = 0 ∧ p % 2 = 0)) ∧
    (1 ≤ p → 0 < cmpV s hi lo (scaleL (tieL n (p - 1))) (wordL (tieL n (p - 1))) 0 ∨ (cmpV s hi lo (scaleL (tieL n (p - 1))) (wordL (tieL n (p - 1))) 0 = 0 ∧ p % 2 = 0)) := by
  have hw := wd_le hn
  have hsr : -316 ≤ s ∧ s < 312 := by
    obtain ⟨a, b, _⟩ := hm
    omega
  have hw1 : 1 ≤ n := by omega
  have tr : ∀ q, -316 ≤ scaleL (tieL n q) ∧ scaleL (tieL n q) < 312 := fun q => by
    have := scaleL_range (tieL n q) (by rw [tieL_length n q hw1 h64]; exact Nat.le_refl _)
    omega
  have pw : 2 ^ (n - 1) - 1 < 2 ^ (n - 1) := Nat.sub_lt (Nat.pow_pos (by decide)) (by decide)
  obtain ⟨e1, r1, r2⟩ := rnd_mid n s hi lo false hn h hm
  rw [← hp] at e1 r1 r2
  have hH : 0 < 2 ^ (210 - n) := Nat.pow_pos (by decide)
  have hz : zX s hi lo false = 2 * zed s (manX hi lo) := by unfold zX; rw [Bool.toNat_false, Nat.add_zero]
  obtain ⟨s1, s2⟩ := rhe_side (2 ^ (210 - n)) (zX s hi lo false) p hH e1.symm
  rw [hz] at s1 s2
  have hpl : p ≤ 2 ^ (n - 1) - 1 := r2
  have tz := fun q hq => tie_zed n q hw1 h64 hq
  clear hz e1 r2 hp hm
  generalize 2 ^ (210 - n) = H at *
  constructor
  · intro hle
    have ht := tz p (Nat.lt_of_le_of_lt hle pw)
    obtain ⟨c1, c2, c3⟩ := cmpV_zed h (words_of (tieL n p)) hsr.1 hsr.2 (tr p).1 (tr p).2
    have key : ∀ (A B H p : Nat), 2 * B = p * (2 * H) + H → (2 * A < p * (2 * H) + H → A < B) ∧ (2 * A = p * (2 * H) + H → A = B) := fun A B H p e => by
      generalize p * (2 * H) + H = x at *
      omega
    obtain ⟨q1, q2⟩ := key _ _ _ _ ht
    rcases s1 with s1 | ⟨s1, s3⟩
    · exact .inl (c1 (q1 s1))
    · exact .inr ⟨c2 (q2 s1), s3⟩
  · intro hge
    have ht := tz (p - 1) (Nat.lt_of_le_of_lt (Nat.le_trans (Nat.sub_le _ _) hpl) pw)
    obtain ⟨c1, c2, c3⟩ := cmpV_zed h (words_of (tieL n (p - 1))) hsr.1 hsr.2 (tr (p - 1)).1 (tr (p - 1)).2
    have key : ∀ (A B H p : Nat), 2 * B = p * (2 * H) + H → (p * (2 * H) + H < 2 * A → B < A) ∧ (p * (2 * H) + H = 2 * A → A = B) := fun A B H p e => by
      generalize p * (2 * H) + H = x at *
      omega
    obtain ⟨q1, q2⟩ := key _ _ _ _ ht
    rcases s2 hge with s2 | ⟨s2, s3⟩
    · exact .inl (c3 (q1 s2))
    · exact .inr ⟨c2 (q2 s2), s3⟩
theorem cmpV_scale (s : Int) (hi lo : Nat) (s' : Int) (hi' lo' : Nat) : (s < s' → cmpV s hi lo s' hi' lo' < 0) ∧ (s' < s → 0 < cmpV s hi lo s' hi' lo') := by
  unfold cmpV
  constructor
  · intro h
    rw [if_neg (by rintro ⟨e, _⟩; omega), if_pos (.inl h)]; decide
  · intro h
    rw [if_neg (by rintro ⟨e, _⟩; omega), if_neg (by rintro (e | ⟨e, _⟩) <;> omega)]; decide
/-- a number goes to the pattern on whose side of both ties it lies -/
theorem ties_all (n : Nat) (s : Int) (hi lo : Nat) (hn : n = 8 ∨ n = 16 ∨ n = 32) (h : WordsX hi lo) (p : Nat) (hp : p = rndX n s hi lo false) :
    (p = 2 ^ (n - 1) - 1 ∨ cmpV s hi lo (scaleL (tieL n p)) (wordL (tieL n p)) 0 < 0 ∨ (cmpV s hi lo (scaleL (tieL n p)) (wordL (tieL n p)) 0 = 0 ∧ p % 2 = 0)) ∧
    (p = 1 ∨ 0 < cmpV s hi lo (scaleL (tieL n (p - 1))) (wordL (tieL n (p - 1))) 0 ∨ (cmpV s hi lo (scaleL (tieL n (p - 1))) (wordL (tieL n (p - 1))) 0 = 0 ∧ p % 2 = 0)) := by
  have hw : Wd n := by rcases hn with h | h | h; exact .inl h; exact .inr (.inl h); exact .inr (.inr (.inl h))
  have h63 : n ≤ 63 := by omega
  obtain ⟨r1, r2⟩ := rnd_range n s hi lo false hw h
  rw [← hp] at r1 r2
  rcases mid_or n s (justX hi lo false) with hm | hm | ⟨hm0, hm⟩
  · obtain ⟨a, b⟩ := ties_mid n s hi lo hw h63 h hm p hp
    exact ⟨.inr (a r2), .inr (b r1)⟩
  · have e := rnd_top n s hi lo false hm
    rw [← hp] at e
    refine ⟨.inl e, .inr (.inl ((cmpV_scale s hi lo _ _ _).2 ?_))⟩
    rw [e]
    rcases hn with rfl | rfl | rfl
    · rw [show scaleL (tieL 8 (2 ^ (8 - 1) - 1 - 1)) = 22 by decide +kernel]; omega
    · rw [show scaleL (tieL 16 (2 ^ (16 - 1) - 1 - 1)) = 54 by decide +kernel]; omega
    · rw [show scaleL (tieL 32 (2 ^ (32 - 1) - 1 - 1)) = 118 by decide +kernel]; omega
  · have e := rnd_low n s hi lo false hm0 hm
    rw [← hp] at e
    refine ⟨.inr (.inl ((cmpV_scale s hi lo _ _ _).1 ?_)), .inl e⟩
    rw [e]
    rcases hn with rfl | rfl | rfl
    · rw [show scaleL (tieL 8 1) = -22 by decide +kernel]; rcases hm with hm | hm <;> omega
    · rw [show scaleL (tieL 16 1) = -54 by decide +kernel]; rcases hm with hm | hm <;> omega
    · rw [show scaleL (tieL 32 1) = -118 by decide +kernel]; rcases hm with hm | hm <;> omega
/-- the tie as a pattern of the width 64 -/
theorem cdecode_tie (n q : Nat) (h1 : 1 ≤ n) (h2 : n ≤ 63) (hq : q < 2 ^ (n - 1)) (T : Nat) (hT : T = q * 2 ^ (64 - n) + 2 ^ (63 - n)) (w : World) :
    Calls Try.prog 8 #[.int .i64 64, .int .u64 T] w fun e w' => e = .returned (.tuple #[numV 1 false (scaleL (tieL n q)) (wordL (tieL n q)), .nilIface]) ∧ Below w.heap.size w w' := by
  have hl := tieL_length n q h1 h2
  have ht := tieL_true n q
  obtain ⟨p1, p2, p3, p4⟩ := patOf_facts 64 (.inr (.inr (.inr rfl))) false (tieL n q) (by rw [hl]) ht
  have e : patOf 64 false (tieL n q) = T := by rw [hT, ← tieL_num n q h1 h2 hq]; rfl
  rw [e] at p1 p2 p3 p4
  have := cdecode_real 64 T (.inr (.inr (.inr rfl))) p1 p2 w
  rw [p3, p4] at this
  exact this
end Go.Proofs.Ytajlgpamcpgalab

namespace Go.Proofs.Ytajlgpamcpgalab
open Go.ChangeShapes Go.WideShapes Go.ChangeAt Go.RowKit
set_option linter.unusedVariables false
set_option linter.unusedSimpArgs false
set_option maxRecDepth 100000

theorem wrap_small (x : Nat) (c : Int) (C : Nat) (hc : c = (C : Int)) (h : x * C < 2 ^ 64) : IntKind.u64.wrap ((x : Int) * c) = ((x * C : Nat) : Int) := by
  subst hc
  rw [← Int.natCast_mul, wrapN, Nat.mod_eq_of_lt h]
theorem or_place (q : Nat) (i : Nat) (B : Nat) (hB : B = 2 ^ i) (h : q * 2 ^ (i + 1) + B < 2 ^ 64) : bits BinOp.or IntKind.u64 ((q * 2 ^ (i + 1) : Nat) : Int) (B : Int) = ((q * 2 ^ (i + 1) + B : Nat) : Int) := by
  subst hB
  have hlt : 2 ^ i < 2 ^ (i + 1) := Nat.pow_lt_pow_right (by decide) (by omega)
  rw [u64_or_nat _ _ (Nat.lt_of_le_of_lt (Nat.le_add_right _ _) h) (Nat.lt_of_le_of_lt (Nat.le_add_left _ _) h)]
  congr 1
  have := Nat.two_pow_add_eq_or_of_lt (i := i + 1) (b := 2 ^ i) hlt q
  rw [Nat.mul_comm] at this
  exact this.symm
theorem tie_by (n q : Nat) (h1 : 1 ≤ n) (h2 : n ≤ 63) (hq : q < 2 ^ (n - 1)) (c B : Int) (hc : c = ((2 ^ (63 - n + 1) : Nat) : Int)) (hB : B = ((2 ^ (63 - n) : Nat) : Int)) (h64 : q * 2 ^ (63 - n + 1) + 2 ^ (63 - n) < 2 ^ 64) :
    ∃ X T : Nat, IntKind.u64.wrap ((q : Int) * c) = (X : Int) ∧ bits BinOp.or IntKind.u64 (X : Int) B = (T : Int) ∧
      ∀ w, Calls Try.prog 8 #[.int .i64 64, .int .u64 T] w fun e w' => e = .returned (.tuple #[numV 1 false (scaleL (tieL n q)) (wordL (tieL n q)), .nilIface]) ∧ Below w.heap.size w w' := by
  refine ⟨q * 2 ^ (63 - n + 1), q * 2 ^ (63 - n + 1) + 2 ^ (63 - n), wrap_small q c _ hc (Nat.lt_of_le_of_lt (Nat.le_add_right _ _) h64), ?_, fun w => ?_⟩
  · rw [hB]; exact or_place q (63 - n) _ rfl h64
  · exact cdecode_tie n q h1 h2 hq _ (by rw [show 64 - n = 63 - n + 1 by omega]) w
end Go.Proofs.Ytajlgpamcpgalab

namespace Go.Proofs.Ytajlgpamcpgalab
open Go.ChangeShapes Go.WideShapes Go.ChangeAt Go.RowKit
set_option linter.unusedVariables false
set_option linter.unusedSimpArgs false
set_option maxRecDepth 100000

set_option maxHeartbeats 4000000 in
theorem roundTies_main8 (neg : Bool) (s : Int) (hi lo : Nat) (hh : hi < 2 ^ 64) (hl : lo < 2 ^ 64) (hs : soundX 1 neg s hi lo false = true) (w : World) :
    Calls Try.prog 3 #[.int .i64 8, .agg #[.int .i64 1, .bool neg, .int .i64 s, .int .u64 hi, .int .u64 lo, .bool false]] w fun e w' => e = .returned (.bool true) ∧ Below w.heap.size w w' := by
  have he := fun w a b => Lib.run_eql_iface_int (P := Try.prog) w (t := 28) (tx := 51) (k := .i64) a b Try.underlying28 (by kernel_rfl) Try.underlying51
  have ks := sound7_any 1 neg s hi lo false
  rw [hs] at ks
  have hs2 : soundX 1 false s hi lo false = true := by
    have := hs
    unfold soundX at this ⊢
    rw [if_neg (by decide)] at this ⊢
    exact this
  have hx : WordsX hi lo := ⟨soundX_top hs, hh, hl⟩
  have hn : Wd 8 := by decide
  have kp := rround_real 8 false s hi lo false hn hs2 hx
  obtain ⟨P, hP⟩ : ∃ P, P = rndX 8 s hi lo false := ⟨_, rfl⟩
  rw [show patR 8 false (rndX 8 s hi lo false) = P from hP.symm] at kp
  obtain ⟨r1, r2⟩ := rnd_range 8 s hi lo false hn hx
  obtain ⟨t1, t2⟩ := ties_all 8 s hi lo (by decide) hx P hP
  rw [← hP] at r1 r2
  rw [show 2 ^ (8 - 1) - 1 = 127 by decide] at r2 t1
  have kpow := power_any 7 (by decide)
  rw [show ((2 ^ 7 : Nat) : Int) = 128 from rfl, show ((7 : Nat) : Int) = 7 from rfl] at kpow
  have hA64 : P * 2 ^ (63 - 8 + 1) + 2 ^ (63 - 8) < 2 ^ 64 := Nat.lt_of_le_of_lt (Nat.add_le_add_right (Nat.mul_le_mul_right _ r2) _) (by decide)
  have hB64 : (P - 1) * 2 ^ (63 - 8 + 1) + 2 ^ (63 - 8) < 2 ^ 64 := Nat.lt_of_le_of_lt (Nat.add_le_add_right (Nat.mul_le_mul_right _ (Nat.le_trans (Nat.sub_le _ _) r2)) _) (by decide)
  obtain ⟨XA, TA, a1, a2, kA⟩ := tie_by 8 P (by decide) (by decide) (by show P < 128; omega) 72057594037927936 36028797018963968 (by decide) (by decide) hA64
  obtain ⟨XB, TB, b1, b2, kB⟩ := tie_by 8 (P - 1) (by decide) (by decide) (by show P - 1 < 128; omega) 72057594037927936 36028797018963968 (by decide) (by decide) hB64
  have b0 : IntKind.u64.wrap ((P : Int) - 1) = ((P - 1 : Nat) : Int) := by rw [show (P : Int) - 1 = ((P - 1 : Nat) : Int) by omega, wrapN, Nat.mod_eq_of_lt (by omega)]
  have kC := fun w => cmp7_pos s (scaleL (tieL 8 P)) hi lo (wordL (tieL 8 P)) 0 w
  have kD := fun w => cmp7_pos s (scaleL (tieL 8 (P - 1))) hi lo (wordL (tieL 8 (P - 1))) 0 w
  have wA := wordL_bounds (tieL 8 P)
  have wB := wordL_bounds (tieL 8 (P - 1))
  have tl : ∀ q, soundN 1 false (scaleL (tieL 8 q)) (wordL (tieL 8 q)) = true := fun q => by
    have h1 := scaleL_range (tieL 8 q) (by rw [tieL_length 8 q (by decide) (by decide)]; exact Nat.le_refl _)
    have h2 := wordL_bounds (tieL 8 q)
    unfold soundN
    rw [if_neg (by decide)]
    exact decide_eq_true ⟨rfl, h2.1, by omega, by omega⟩
  have kE := rndof_ok 1 false (scaleL (tieL 8 P)) (wordL (tieL 8 P)) wA.2 (tl P)
  have kF := rndof_ok 1 false (scaleL (tieL 8 (P - 1))) (wordL (tieL 8 (P - 1))) wB.2 (tl (P - 1))
  generalize scaleL (tieL 8 P) = sa at *
  generalize wordL (tieL 8 P) = fa at *
  generalize scaleL (tieL 8 (P - 1)) = sb at *
  generalize wordL (tieL 8 (P - 1)) = fb at *
  generalize cmpV s hi lo sa fa 0 = ca at *
  generalize cmpV s hi lo sb fb 0 = cb at *
  have ww1 : IntKind.i64.wrap 56 = 56 := by decide
  have ww2 : IntKind.i64.wrap 55 = 55 := by decide
  have ww3 : IntKind.u64.wrap 36028797018963968 = 36028797018963968 := by decide
  have q0 : ((P : Int) == 0) = false := beq_eq_false_iff_ne.2 (by omega)
  have q1 : decide ((128 : Int) ≤ (P : Int)) = false := decide_eq_false (by omega)
  generalize P - 1 = P1 at *
  have T1 : Hid _ := t1
  have T2 : Hid _ := t2
  have HP1 : Hid (1 ≤ P ∧ P ≤ 127) := ⟨r1, r2⟩
  unfold exV numV at *
  rw [show ((0 : Nat) : Int) = 0 from rfl] at *
  clear hs hs2 hx hn hP r1 r2 t1 t2 wA wB tl hA64 hB64 hh hl
  refine cps fun Q hQ => ?_
  go_enter Try.func3, Try.ntmps3
  go_upto_region 9 with (first
    | (go_at_call 4; go_must (refine (rup_any _).mono ?_); rintro e w1 ⟨rfl, hb1⟩; have R1_0 := (hb1.block (w.heap.size) (by first | (simp; done) | (simp; omega) | omega)).trans (rownew' _ _ _ _ (by simp)); have z1_0 : w.heap.size < w1.heap.size := Nat.lt_of_lt_of_le (by first | (simp; done) | (simp; omega) | omega) hb1.size; have ne1_0 : ¬ w.heap.size = w1.heap.size := (by omega); have en1_0 : ¬ w1.heap.size = w.heap.size := (by omega); have c1_0_0 := rowcell R1_0 0; have c1_0_1 := rowcell R1_0 1; have c1_0_2 := rowcell R1_0 2; have c1_0_3 := rowcell R1_0 3; have c1_0_4 := rowcell R1_0 4; have c1_0_5 := rowcell R1_0 5; have cf1_0 := rowfree R1_0; simp only [List.getElem?_toArray, List.getElem?_cons_zero, List.getElem?_cons_succ] at c1_0_0 c1_0_1 c1_0_2 c1_0_3 c1_0_4 c1_0_5; have HR1_0 : Hid _ := R1_0; clear R1_0; have HB1 : Hid (Below _ _ _) := hb1; clear hb1)
    | (go_at_call 5; go_must (refine (ks _).mono ?_); rintro e w2 ⟨rfl, hb2⟩; have R2_0 := (hb2.block (w.heap.size) (by first | (simp; done) | (simp; omega) | omega)).trans HR1_0.out; have z2_0 : w.heap.size < w2.heap.size := Nat.lt_of_lt_of_le (by first | (simp; done) | (simp; omega) | omega) hb2.size; have ne2_0 : ¬ w.heap.size = w2.heap.size := (by omega); have en2_0 : ¬ w2.heap.size = w.heap.size := (by omega); have c2_0_0 := rowcell R2_0 0; have c2_0_1 := rowcell R2_0 1; have c2_0_2 := rowcell R2_0 2; have c2_0_3 := rowcell R2_0 3; have c2_0_4 := rowcell R2_0 4; have c2_0_5 := rowcell R2_0 5; have cf2_0 := rowfree R2_0; simp only [List.getElem?_toArray, List.getElem?_cons_zero, List.getElem?_cons_succ] at c2_0_0 c2_0_1 c2_0_2 c2_0_3 c2_0_4 c2_0_5; have HR2_0 : Hid _ := R2_0; clear R2_0; have HB2 : Hid (Below _ _ _) := hb2; clear hb2)
    | (go_at_call 6; go_must (refine (kp _).mono ?_); rintro e w3 ⟨rfl, hb3⟩; have R3_0 : w3.heap[w.heap.size]? = some (.cells #[.int .i64 1, .bool false, .int .i64 s, .int .u64 hi, .int .u64 lo, .bool false] 24 (0, 0)) := (hb3.block w.heap.size (by simpa using z2_0)).trans ((rowset HR2_0.out 1 _).trans (by simp only [List.setIfInBounds_toArray, List.set_cons_zero, List.set_cons_succ])); have z3_0 : w.heap.size < w3.heap.size := Nat.lt_of_lt_of_le (by simpa using z2_0) hb3.size; have HB3 : Hid (Below w.heap.size w w3) := cthen (cset (cthen (cthen (cmore (Below.refl _ _) _) HB1.out) HB2.out) (Nat.le_refl _) _ _) hb3; have HR3_0 : Hid _ := R3_0; clear R3_0 hb3)
    | (go_at_call 7; go_must (refine (kpow _).mono ?_); rintro e wx ⟨rfl, hwx⟩; rw [hwx]; clear hwx wx))
  go_cut [9, 10] from 68 (fun sx sy wx => ∃ m : Nat, sx = .pointer (some ⟨m, 0, none⟩) ∧ sy = .nilIface ∧ Below w3.heap.size w3 wx ∧ w3.heap.size ≤ m ∧ wx.heap[m]? = some (.cells #[.int .i64 1, .bool false, .int .i64 sa, .int .u64 fa] 33 (0, 0)))
  case first =>
    refine wpC_region (fun W => True) (by kernel_rfl) ?_
    refine wpC_take 0 (v := ?_) rfl (by kernel_rfl) (fun _ _ _ h => h) (by kernel_rfl) ?_ ?_; rotate_left; · (intro wC hC; obtain _ := hC; go_simp <;> with_reducible rfl)
    refine wpC_take 1 (v := ?_) rfl (by kernel_rfl) (fun _ _ _ h => h) (by kernel_rfl) ?_ ?_; rotate_left; · (intro wC hC; obtain _ := hC; go_simp <;> with_reducible rfl)
    refine wpC_take 2 (v := ?_) rfl (by kernel_rfl) (fun _ _ _ h => h) (by kernel_rfl) ?_ ?_; rotate_left; · (intro wC hC; obtain _ := hC; go_simp <;> with_reducible rfl)
    refine wpC_take 3 (v := ?_) rfl (by kernel_rfl) (fun _ _ _ h => h) (by kernel_rfl) ?_ ?_; rotate_left; · (intro wC hC; obtain _ := hC; go_simp <;> with_reducible rfl)
    refine wpC_take 4 (v := ?_) rfl (by kernel_rfl) (fun _ _ _ h => h) (by kernel_rfl) ?_ ?_; rotate_left; · (intro wC hC; obtain _ := hC; go_simp <;> with_reducible rfl)
    refine wpC_take 5 (v := ?_) rfl (by kernel_rfl) (fun _ _ _ h => h) (by kernel_rfl) ?_ ?_; rotate_left; · (intro wC hC; obtain _ := hC; go_simp <;> with_reducible rfl)
    refine wpC_take 6 (v := ?_) rfl (by kernel_rfl) (fun _ _ _ h => h) (by kernel_rfl) ?_ ?_; rotate_left; · (intro wC hC; obtain _ := hC; go_simp <;> with_reducible rfl)
    refine wpC_take 7 (v := ?_) rfl (by kernel_rfl) (fun _ _ _ h => h) (by kernel_rfl) ?_ ?_; rotate_left; · (intro wC hC; obtain _ := hC; go_simp <;> with_reducible rfl)
    refine wpC_two 8 12 rfl rfl (by kernel_rfl) (by kernel_rfl) (by kernel_rfl) trivial (fun K hK => ?_) (fun K hK => ?_)
    · skip
      go_simp
      go_wp2_with ((go_at_call 8; refine (kA _).mono ?_; rintro e wy ⟨rfl, hby⟩))
      try (refine hK _ _ ?_; clear hK K)
      have BY := cthen (cdrew (Below.refl w3.heap.size w3)) hby
      refine wpC_take 9 (v := ?_) rfl (by kernel_rfl) (fun _ _ _ h => h) (by kernel_rfl) ?_ ?_; rotate_left; · (intro wC hC; obtain _ := hC; go_simp <;> with_reducible rfl)
      refine wpC_take 10 (v := ?_) rfl (by kernel_rfl) (fun _ _ _ h => h) (by kernel_rfl) ?_ ?_; rotate_left; · (intro wC hC; obtain _ := hC; go_simp <;> with_reducible rfl)
      refine wpC_take 11 (v := ?_) rfl (by kernel_rfl) (fun _ _ _ h => h) (by kernel_rfl) ?_ ?_; rotate_left; · (intro wC hC; obtain _ := hC; go_simp <;> with_reducible rfl)
      refine wpC_step 12 rfl (by kernel_rfl) (by kernel_rfl) trivial (fun K hK => ?_)
      go_simp
      try (refine hK _ _ ?_; clear hK K)
      refine wpC_step 13 rfl (by kernel_rfl) (by kernel_rfl) trivial (fun K hK => ?_)
      go_simp
      try (refine hK _ _ ?_; clear hK K)
      refine wpC_take 14 (v := ?_) rfl (by kernel_rfl) (fun _ _ _ h => h) (by kernel_rfl) ?_ ?_; rotate_left; · (intro wC hC; obtain _ := hC; go_simp <;> with_reducible rfl)
      refine wpC_done (C := fun _ => True) (by kernel_rfl) trivial ?_
      go_wp2_with fail
      go_meet
      case rel => exact ⟨_, rfl, rfl, cmore BY _, BY.size, rownew _ _ _⟩
    · skip
      go_simp
      try (refine hK _ _ ?_; clear hK K)
      refine wpC_step 8 rfl (by kernel_rfl) (by kernel_rfl) trivial (fun K hK => ?_)
      go_simp
      go_wp2_with ((go_at_call 8; refine (kA _).mono ?_; rintro e wy ⟨rfl, hby⟩; obtain ⟨hcy, hfy⟩ := ccell hby))
      try (refine hK _ _ ?_; clear hK K)
      have BY := cthen (cmore (cdrew (Below.refl w3.heap.size w3)) _) hby
      have RY := (hby.block w3.heap.size (by simp)).trans (rownew w3.drew _ _)
      have ZY : w3.heap.size < wy.heap.size := by have := hby.size; simp at this; omega
      have y0 := rowcell RY 0
      have y1 := rowcell RY 1
      have y2 := rowcell RY 2
      have y3 := rowcell RY 3
      have yf := rowfree RY
      simp only [List.getElem?_toArray, List.getElem?_cons_zero, List.getElem?_cons_succ] at y0 y1 y2 y3
      refine wpC_take 9 (v := ?_) rfl (by kernel_rfl) (fun _ _ _ h => h) (by kernel_rfl) ?_ ?_; rotate_left; · (intro wC hC; obtain _ := hC; go_simp <;> with_reducible rfl)
      refine wpC_take 10 (v := ?_) rfl (by kernel_rfl) (fun _ _ _ h => h) (by kernel_rfl) ?_ ?_; rotate_left; · (intro wC hC; obtain _ := hC; go_simp <;> with_reducible rfl)
      refine wpC_take 11 (v := ?_) rfl (by kernel_rfl) (fun _ _ _ h => h) (by kernel_rfl) ?_ ?_; rotate_left; · (intro wC hC; obtain _ := hC; go_simp <;> with_reducible rfl)
      refine wpC_step 13 rfl (by kernel_rfl) (by kernel_rfl) trivial (fun K hK => ?_)
      go_simp
      try (refine hK _ _ ?_; clear hK K)
      refine wpC_take 14 (v := ?_) rfl (by kernel_rfl) (fun _ _ _ h => h) (by kernel_rfl) ?_ ?_; rotate_left; · (intro wC hC; obtain _ := hC; go_simp <;> with_reducible rfl)
      refine wpC_done (C := fun _ => True) (by kernel_rfl) trivial ?_
      go_wp2_with fail
      go_meet
      case rel => exact ⟨_, rfl, rfl, cset4 BY (Nat.le_refl _), Nat.le_refl _, row4 RY⟩
  case rest =>
    obtain ⟨m, rfl, rfl, HBa, hma, hrowa⟩ := hcut
    have HRa0 : Hid _ := (HBa.block _ z3_0).trans HR3_0.out
    have HRa1 : Hid _ := hrowa
    have za0 := Nat.lt_of_lt_of_le z3_0 HBa.size
    have za1 := rowlt hrowa
    have hm0 : w.heap.size < m := by omega
    have HBA : Hid (Below _ _ _) := HBa
    clear HBa hrowa
    go_upto_region 10 with fail
    go_cut [11, 12] from 80 (fun sx sy wx => ∃ m : Nat, sx = .pointer (some ⟨m, 0, none⟩) ∧ sy = .nilIface ∧ Below wc.heap.size wc wx ∧ wc.heap.size ≤ m ∧ wx.heap[m]? = some (.cells #[.int .i64 1, .bool false, .int .i64 sb, .int .u64 fb] 33 (0, 0)))
    case first =>
      refine wpC_region (fun W => True) (by kernel_rfl) ?_
      refine wpC_take 0 (v := ?_) rfl (by kernel_rfl) (fun _ _ _ h => h) (by kernel_rfl) ?_ ?_; rotate_left; · (intro wC hC; obtain _ := hC; go_simp <;> with_reducible rfl)
      refine wpC_take 1 (v := ?_) rfl (by kernel_rfl) (fun _ _ _ h => h) (by kernel_rfl) ?_ ?_; rotate_left; · (intro wC hC; obtain _ := hC; go_simp <;> with_reducible rfl)
      refine wpC_take 2 (v := ?_) rfl (by kernel_rfl) (fun _ _ _ h => h) (by kernel_rfl) ?_ ?_; rotate_left; · (intro wC hC; obtain _ := hC; go_simp <;> with_reducible rfl)
      refine wpC_take 3 (v := ?_) rfl (by kernel_rfl) (fun _ _ _ h => h) (by kernel_rfl) ?_ ?_; rotate_left; · (intro wC hC; obtain _ := hC; go_simp <;> with_reducible rfl)
      refine wpC_take 4 (v := ?_) rfl (by kernel_rfl) (fun _ _ _ h => h) (by kernel_rfl) ?_ ?_; rotate_left; · (intro wC hC; obtain _ := hC; go_simp <;> with_reducible rfl)
      refine wpC_take 5 (v := ?_) rfl (by kernel_rfl) (fun _ _ _ h => h) (by kernel_rfl) ?_ ?_; rotate_left; · (intro wC hC; obtain _ := hC; go_simp <;> with_reducible rfl)
      refine wpC_take 6 (v := ?_) rfl (by kernel_rfl) (fun _ _ _ h => h) (by kernel_rfl) ?_ ?_; rotate_left; · (intro wC hC; obtain _ := hC; go_simp <;> with_reducible rfl)
      refine wpC_take 7 (v := ?_) rfl (by kernel_rfl) (fun _ _ _ h => h) (by kernel_rfl) ?_ ?_; rotate_left; · (intro wC hC; obtain _ := hC; go_simp <;> with_reducible rfl)
      refine wpC_take 8 (v := ?_) rfl (by kernel_rfl) (fun _ _ _ h => h) (by kernel_rfl) ?_ ?_; rotate_left; · (intro wC hC; obtain _ := hC; go_simp <;> with_reducible rfl)
      refine wpC_two 9 13 rfl rfl (by kernel_rfl) (by kernel_rfl) (by kernel_rfl) trivial (fun K hK => ?_) (fun K hK => ?_)
      · skip
        go_simp
        go_wp2_with ((go_at_call 8; refine (kB _).mono ?_; rintro e wy ⟨rfl, hby⟩))
        try (refine hK _ _ ?_; clear hK K)
        have BY := cthen (cdrew (Below.refl wc.heap.size wc)) hby
        refine wpC_take 10 (v := ?_) rfl (by kernel_rfl) (fun _ _ _ h => h) (by kernel_rfl) ?_ ?_; rotate_left; · (intro wC hC; obtain _ := hC; go_simp <;> with_reducible rfl)
        refine wpC_take 11 (v := ?_) rfl (by kernel_rfl) (fun _ _ _ h => h) (by kernel_rfl) ?_ ?_; rotate_left; · (intro wC hC; obtain _ := hC; go_simp <;> with_reducible rfl)
        refine wpC_take 12 (v := ?_) rfl (by kernel_rfl) (fun _ _ _ h => h) (by kernel_rfl) ?_ ?_; rotate_left; · (intro wC hC; obtain _ := hC; go_simp <;> with_reducible rfl)
        refine wpC_step 13 rfl (by kernel_rfl) (by kernel_rfl) trivial (fun K hK => ?_)
        go_simp
        try (refine hK _ _ ?_; clear hK K)
        refine wpC_step 14 rfl (by kernel_rfl) (by kernel_rfl) trivial (fun K hK => ?_)
        go_simp
        try (refine hK _ _ ?_; clear hK K)
        refine wpC_take 15 (v := ?_) rfl (by kernel_rfl) (fun _ _ _ h => h) (by kernel_rfl) ?_ ?_; rotate_left; · (intro wC hC; obtain _ := hC; go_simp <;> with_reducible rfl)
        refine wpC_done (C := fun _ => True) (by kernel_rfl) trivial ?_
        go_wp2_with fail
        go_meet
        case rel => exact ⟨_, rfl, rfl, cmore BY _, BY.size, rownew _ _ _⟩
      · skip
        go_simp
        try (refine hK _ _ ?_; clear hK K)
        refine wpC_step 9 rfl (by kernel_rfl) (by kernel_rfl) trivial (fun K hK => ?_)
        go_simp
        go_wp2_with ((go_at_call 8; refine (kB _).mono ?_; rintro e wy ⟨rfl, hby⟩; obtain ⟨hcy, hfy⟩ := ccell hby))
        try (refine hK _ _ ?_; clear hK K)
        have BY := cthen (cmore (cdrew (Below.refl wc.heap.size wc)) _) hby
        have RY := (hby.block wc.heap.size (by simp)).trans (rownew wc.drew _ _)
        have ZY : wc.heap.size < wy.heap.size := by have := hby.size; simp at this; omega
        have y0 := rowcell RY 0
        have y1 := rowcell RY 1
        have y2 := rowcell RY 2
        have y3 := rowcell RY 3
        have yf := rowfree RY
        simp only [List.getElem?_toArray, List.getElem?_cons_zero, List.getElem?_cons_succ] at y0 y1 y2 y3
        refine wpC_take 10 (v := ?_) rfl (by kernel_rfl) (fun _ _ _ h => h) (by kernel_rfl) ?_ ?_; rotate_left; · (intro wC hC; obtain _ := hC; go_simp <;> with_reducible rfl)
        refine wpC_take 11 (v := ?_) rfl (by kernel_rfl) (fun _ _ _ h => h) (by kernel_rfl) ?_ ?_; rotate_left; · (intro wC hC; obtain _ := hC; go_simp <;> with_reducible rfl)
        refine wpC_take 12 (v := ?_) rfl (by kernel_rfl) (fun _ _ _ h => h) (by kernel_rfl) ?_ ?_; rotate_left; · (intro wC hC; obtain _ := hC; go_simp <;> with_reducible rfl)
        refine wpC_step 14 rfl (by kernel_rfl) (by kernel_rfl) trivial (fun K hK => ?_)
        go_simp
        try (refine hK _ _ ?_; clear hK K)
        refine wpC_take 15 (v := ?_) rfl (by kernel_rfl) (fun _ _ _ h => h) (by kernel_rfl) ?_ ?_; rotate_left; · (intro wC hC; obtain _ := hC; go_simp <;> with_reducible rfl)
        refine wpC_done (C := fun _ => True) (by kernel_rfl) trivial ?_
        go_wp2_with fail
        go_meet
        case rel => exact ⟨_, rfl, rfl, cset4 BY (Nat.le_refl _), Nat.le_refl _, row4 RY⟩
    case rest =>
      obtain ⟨m2, rfl, rfl, HBb, hmb, hrowb⟩ := hcut
      have R9_0 := (HBb.block _ za0).trans HRa0.out
      have R9_1 := (HBb.block _ za1).trans HRa1.out
      have R9_2 := hrowb
      have z9_0 : w.heap.size < wc.heap.size := Nat.lt_of_lt_of_le za0 HBb.size
      have z9_1 : m < wc.heap.size := Nat.lt_of_lt_of_le za1 HBb.size
      have z9_2 : m2 < wc.heap.size := rowlt hrowb
      have hm2 : w.heap.size < m2 := by omega
      have hmm : m < m2 := by omega
      have HR9_0 : Hid _ := R9_0
      have HR9_1 : Hid _ := R9_1
      have HR9_2 : Hid _ := R9_2
      have HBC : Hid (Below _ _ _) := HBb
      have c9_0_0 := rowcell R9_0 0
      have c9_0_1 := rowcell R9_0 1
      have c9_0_2 := rowcell R9_0 2
      have c9_0_3 := rowcell R9_0 3
      have c9_0_4 := rowcell R9_0 4
      have c9_0_5 := rowcell R9_0 5
      have cf9_0 := rowfree R9_0
      simp only [List.getElem?_toArray, List.getElem?_cons_zero, List.getElem?_cons_succ] at c9_0_0 c9_0_1 c9_0_2 c9_0_3 c9_0_4 c9_0_5
      have c9_1_0 := rowcell R9_1 0
      have c9_1_1 := rowcell R9_1 1
      have c9_1_2 := rowcell R9_1 2
      have c9_1_3 := rowcell R9_1 3
      have cf9_1 := rowfree R9_1
      simp only [List.getElem?_toArray, List.getElem?_cons_zero, List.getElem?_cons_succ] at c9_1_0 c9_1_1 c9_1_2 c9_1_3
      have c9_2_0 := rowcell R9_2 0
      have c9_2_1 := rowcell R9_2 1
      have c9_2_2 := rowcell R9_2 2
      have c9_2_3 := rowcell R9_2 3
      have cf9_2 := rowfree R9_2
      simp only [List.getElem?_toArray, List.getElem?_cons_zero, List.getElem?_cons_succ] at c9_2_0 c9_2_1 c9_2_2 c9_2_3
      clear R9_0 R9_1 R9_2 HBb hrowb
      go_upto_region 17 with (first
        | (go_at_call_of 9 sa; go_must (refine (kE _).mono ?_); rintro e w10 ⟨rfl, hb10⟩; have R10_0 := (hb10.block (w.heap.size) (by first | (simp; done) | (simp; omega) | omega)).trans HR9_0.out; have z10_0 : w.heap.size < w10.heap.size := Nat.lt_of_lt_of_le (by first | (simp; done) | (simp; omega) | omega) hb10.size; have ne10_0 : ¬ w.heap.size = w10.heap.size := (by omega); have en10_0 : ¬ w10.heap.size = w.heap.size := (by omega); have c10_0_0 := rowcell R10_0 0; have c10_0_1 := rowcell R10_0 1; have c10_0_2 := rowcell R10_0 2; have c10_0_3 := rowcell R10_0 3; have c10_0_4 := rowcell R10_0 4; have c10_0_5 := rowcell R10_0 5; have cf10_0 := rowfree R10_0; simp only [List.getElem?_toArray, List.getElem?_cons_zero, List.getElem?_cons_succ] at c10_0_0 c10_0_1 c10_0_2 c10_0_3 c10_0_4 c10_0_5; have HR10_0 : Hid _ := R10_0; clear R10_0; have R10_1 := (hb10.block (m) (by first | (simp; done) | (simp; omega) | omega)).trans HR9_1.out; have z10_1 : m < w10.heap.size := Nat.lt_of_lt_of_le (by first | (simp; done) | (simp; omega) | omega) hb10.size; have ne10_1 : ¬ m = w10.heap.size := (by omega); have en10_1 : ¬ w10.heap.size = m := (by omega); have c10_1_0 := rowcell R10_1 0; have c10_1_1 := rowcell R10_1 1; have c10_1_2 := rowcell R10_1 2; have c10_1_3 := rowcell R10_1 3; have cf10_1 := rowfree R10_1; simp only [List.getElem?_toArray, List.getElem?_cons_zero, List.getElem?_cons_succ] at c10_1_0 c10_1_1 c10_1_2 c10_1_3; have HR10_1 : Hid _ := R10_1; clear R10_1; have R10_2 := (hb10.block (m2) (by first | (simp; done) | (simp; omega) | omega)).trans HR9_2.out; have z10_2 : m2 < w10.heap.size := Nat.lt_of_lt_of_le (by first | (simp; done) | (simp; omega) | omega) hb10.size; have ne10_2 : ¬ m2 = w10.heap.size := (by omega); have en10_2 : ¬ w10.heap.size = m2 := (by omega); have c10_2_0 := rowcell R10_2 0; have c10_2_1 := rowcell R10_2 1; have c10_2_2 := rowcell R10_2 2; have c10_2_3 := rowcell R10_2 3; have cf10_2 := rowfree R10_2; simp only [List.getElem?_toArray, List.getElem?_cons_zero, List.getElem?_cons_succ] at c10_2_0 c10_2_1 c10_2_2 c10_2_3; have HR10_2 : Hid _ := R10_2; clear R10_2; have HB10 : Hid (Below _ _ _) := hb10; clear hb10)
        | (go_at_call_of 9 sb; go_must (refine (kF _).mono ?_); rintro e w11 ⟨rfl, hb11⟩; have R11_0 := (hb11.block (w.heap.size) (by first | (simp; done) | (simp; omega) | omega)).trans ((Below.heap_alloc _ _ _ (by first | (simp; done) | (simp; omega) | omega)).trans HR10_0.out); have z11_0 : w.heap.size < w11.heap.size := Nat.lt_of_lt_of_le (by first | (simp; done) | (simp; omega) | omega) hb11.size; have ne11_0 : ¬ w.heap.size = w11.heap.size := (by omega); have en11_0 : ¬ w11.heap.size = w.heap.size := (by omega); have c11_0_0 := rowcell R11_0 0; have c11_0_1 := rowcell R11_0 1; have c11_0_2 := rowcell R11_0 2; have c11_0_3 := rowcell R11_0 3; have c11_0_4 := rowcell R11_0 4; have c11_0_5 := rowcell R11_0 5; have cf11_0 := rowfree R11_0; simp only [List.getElem?_toArray, List.getElem?_cons_zero, List.getElem?_cons_succ] at c11_0_0 c11_0_1 c11_0_2 c11_0_3 c11_0_4 c11_0_5; have HR11_0 : Hid _ := R11_0; clear R11_0; have R11_1 := (hb11.block (m) (by first | (simp; done) | (simp; omega) | omega)).trans ((Below.heap_alloc _ _ _ (by first | (simp; done) | (simp; omega) | omega)).trans HR10_1.out); have z11_1 : m < w11.heap.size := Nat.lt_of_lt_of_le (by first | (simp; done) | (simp; omega) | omega) hb11.size; have ne11_1 : ¬ m = w11.heap.size := (by omega); have en11_1 : ¬ w11.heap.size = m := (by omega); have c11_1_0 := rowcell R11_1 0; have c11_1_1 := rowcell R11_1 1; have c11_1_2 := rowcell R11_1 2; have c11_1_3 := rowcell R11_1 3; have cf11_1 := rowfree R11_1; simp only [List.getElem?_toArray, List.getElem?_cons_zero, List.getElem?_cons_succ] at c11_1_0 c11_1_1 c11_1_2 c11_1_3; have HR11_1 : Hid _ := R11_1; clear R11_1; have R11_2 := (hb11.block (m2) (by first | (simp; done) | (simp; omega) | omega)).trans ((Below.heap_alloc _ _ _ (by first | (simp; done) | (simp; omega) | omega)).trans HR10_2.out); have z11_2 : m2 < w11.heap.size := Nat.lt_of_lt_of_le (by first | (simp; done) | (simp; omega) | omega) hb11.size; have ne11_2 : ¬ m2 = w11.heap.size := (by omega); have en11_2 : ¬ w11.heap.size = m2 := (by omega); have c11_2_0 := rowcell R11_2 0; have c11_2_1 := rowcell R11_2 1; have c11_2_2 := rowcell R11_2 2; have c11_2_3 := rowcell R11_2 3; have cf11_2 := rowfree R11_2; simp only [List.getElem?_toArray, List.getElem?_cons_zero, List.getElem?_cons_succ] at c11_2_0 c11_2_1 c11_2_2 c11_2_3; have HR11_2 : Hid _ := R11_2; clear R11_2; have R11_3 := (hb11.block (w10.heap.size) (by first | (simp; done) | (simp; omega) | omega)).trans (rownew' _ _ _ _ (by simp)); have z11_3 : w10.heap.size < w11.heap.size := Nat.lt_of_lt_of_le (by first | (simp; done) | (simp; omega) | omega) hb11.size; have ne11_3 : ¬ w10.heap.size = w11.heap.size := (by omega); have en11_3 : ¬ w11.heap.size = w10.heap.size := (by omega); have c11_3_0 := rowcell R11_3 0; have c11_3_1 := rowcell R11_3 1; have c11_3_2 := rowcell R11_3 2; have c11_3_3 := rowcell R11_3 3; have c11_3_4 := rowcell R11_3 4; have c11_3_5 := rowcell R11_3 5; have cf11_3 := rowfree R11_3; simp only [List.getElem?_toArray, List.getElem?_cons_zero, List.getElem?_cons_succ] at c11_3_0 c11_3_1 c11_3_2 c11_3_3 c11_3_4 c11_3_5; have HR11_3 : Hid _ := R11_3; clear R11_3; have HB11 : Hid (Below _ _ _) := hb11; clear hb11)
        | (go_at_call_of 10 sa; go_must (refine (kC _).mono ?_); rintro e w12 ⟨rfl, hb12⟩; have R12_0 := (hb12.block (w.heap.size) (by first | (simp; done) | (simp; omega) | omega)).trans ((Below.heap_alloc _ _ _ (by first | (simp; done) | (simp; omega) | omega)).trans HR11_0.out); have z12_0 : w.heap.size < w12.heap.size := Nat.lt_of_lt_of_le (by first | (simp; done) | (simp; omega) | omega) hb12.size; have ne12_0 : ¬ w.heap.size = w12.heap.size := (by omega); have en12_0 : ¬ w12.heap.size = w.heap.size := (by omega); have c12_0_0 := rowcell R12_0 0; have c12_0_1 := rowcell R12_0 1; have c12_0_2 := rowcell R12_0 2; have c12_0_3 := rowcell R12_0 3; have c12_0_4 := rowcell R12_0 4; have c12_0_5 := rowcell R12_0 5; have cf12_0 := rowfree R12_0; simp only [List.getElem?_toArray, List.getElem?_cons_zero, List.getElem?_cons_succ] at c12_0_0 c12_0_1 c12_0_2 c12_0_3 c12_0_4 c12_0_5; have HR12_0 : Hid _ := R12_0; clear R12_0; have R12_1 := (hb12.block (m) (by first | (simp; done) | (simp; omega) | omega)).trans ((Below.heap_alloc _ _ _ (by first | (simp; done) | (simp; omega) | omega)).trans HR11_1.out); have z12_1 : m < w12.heap.size := Nat.lt_of_lt_of_le (by first | (simp; done) | (simp; omega) | omega) hb12.size; have ne12_1 : ¬ m = w12.heap.size := (by omega); have en12_1 : ¬ w12.heap.size = m := (by omega); have c12_1_0 := rowcell R12_1 0; have c12_1_1 := rowcell R12_1 1; have c12_1_2 := rowcell R12_1 2; have c12_1_3 := rowcell R12_1 3; have cf12_1 := rowfree R12_1; simp only [List.getElem?_toArray, List.getElem?_cons_zero, List.getElem?_cons_succ] at c12_1_0 c12_1_1 c12_1_2 c12_1_3; have HR12_1 : Hid _ := R12_1; clear R12_1; have R12_2 := (hb12.block (m2) (by first | (simp; done) | (simp; omega) | omega)).trans ((Below.heap_alloc _ _ _ (by first | (simp; done) | (simp; omega) | omega)).trans HR11_2.out); have z12_2 : m2 < w12.heap.size := Nat.lt_of_lt_of_le (by first | (simp; done) | (simp; omega) | omega) hb12.size; have ne12_2 : ¬ m2 = w12.heap.size := (by omega); have en12_2 : ¬ w12.heap.size = m2 := (by omega); have c12_2_0 := rowcell R12_2 0; have c12_2_1 := rowcell R12_2 1; have c12_2_2 := rowcell R12_2 2; have c12_2_3 := rowcell R12_2 3; have cf12_2 := rowfree R12_2; simp only [List.getElem?_toArray, List.getElem?_cons_zero, List.getElem?_cons_succ] at c12_2_0 c12_2_1 c12_2_2 c12_2_3; have HR12_2 : Hid _ := R12_2; clear R12_2; have R12_3 := (hb12.block (w10.heap.size) (by first | (simp; done) | (simp; omega) | omega)).trans ((Below.heap_alloc _ _ _ (by first | (simp; done) | (simp; omega) | omega)).trans HR11_3.out); have z12_3 : w10.heap.size < w12.heap.size := Nat.lt_of_lt_of_le (by first | (simp; done) | (simp; omega) | omega) hb12.size; have ne12_3 : ¬ w10.heap.size = w12.heap.size := (by omega); have en12_3 : ¬ w12.heap.size = w10.heap.size := (by omega); have c12_3_0 := rowcell R12_3 0; have c12_3_1 := rowcell R12_3 1; have c12_3_2 := rowcell R12_3 2; have c12_3_3 := rowcell R12_3 3; have c12_3_4 := rowcell R12_3 4; have c12_3_5 := rowcell R12_3 5; have cf12_3 := rowfree R12_3; simp only [List.getElem?_toArray, List.getElem?_cons_zero, List.getElem?_cons_succ] at c12_3_0 c12_3_1 c12_3_2 c12_3_3 c12_3_4 c12_3_5; have HR12_3 : Hid _ := R12_3; clear R12_3; have R12_4 := (hb12.block (w11.heap.size) (by first | (simp; done) | (simp; omega) | omega)).trans (rownew' _ _ _ _ (by simp)); have z12_4 : w11.heap.size < w12.heap.size := Nat.lt_of_lt_of_le (by first | (simp; done) | (simp; omega) | omega) hb12.size; have ne12_4 : ¬ w11.heap.size = w12.heap.size := (by omega); have en12_4 : ¬ w12.heap.size = w11.heap.size := (by omega); have c12_4_0 := rowcell R12_4 0; have c12_4_1 := rowcell R12_4 1; have c12_4_2 := rowcell R12_4 2; have c12_4_3 := rowcell R12_4 3; have c12_4_4 := rowcell R12_4 4; have c12_4_5 := rowcell R12_4 5; have cf12_4 := rowfree R12_4; simp only [List.getElem?_toArray, List.getElem?_cons_zero, List.getElem?_cons_succ] at c12_4_0 c12_4_1 c12_4_2 c12_4_3 c12_4_4 c12_4_5; have HR12_4 : Hid _ := R12_4; clear R12_4; have HB12 : Hid (Below _ _ _) := hb12; clear hb12)
        | (go_at_call_of 10 sb; go_must (refine (kD _).mono ?_); rintro e w13 ⟨rfl, hb13⟩; have R13_0 := (hb13.block (w.heap.size) (by first | (simp; done) | (simp; omega) | omega)).trans HR12_0.out; have z13_0 : w.heap.size < w13.heap.size := Nat.lt_of_lt_of_le (by first | (simp; done) | (simp; omega) | omega) hb13.size; have ne13_0 : ¬ w.heap.size = w13.heap.size := (by omega); have en13_0 : ¬ w13.heap.size = w.heap.size := (by omega); have c13_0_0 := rowcell R13_0 0; have c13_0_1 := rowcell R13_0 1; have c13_0_2 := rowcell R13_0 2; have c13_0_3 := rowcell R13_0 3; have c13_0_4 := rowcell R13_0 4; have c13_0_5 := rowcell R13_0 5; have cf13_0 := rowfree R13_0; simp only [List.getElem?_toArray, List.getElem?_cons_zero, List.getElem?_cons_succ] at c13_0_0 c13_0_1 c13_0_2 c13_0_3 c13_0_4 c13_0_5; have HR13_0 : Hid _ := R13_0; clear R13_0; have R13_1 := (hb13.block (m) (by first | (simp; done) | (simp; omega) | omega)).trans HR12_1.out; have z13_1 : m < w13.heap.size := Nat.lt_of_lt_of_le (by first | (simp; done) | (simp; omega) | omega) hb13.size; have ne13_1 : ¬ m = w13.heap.size := (by omega); have en13_1 : ¬ w13.heap.size = m := (by omega); have c13_1_0 := rowcell R13_1 0; have c13_1_1 := rowcell R13_1 1; have c13_1_2 := rowcell R13_1 2; have c13_1_3 := rowcell R13_1 3; have cf13_1 := rowfree R13_1; simp only [List.getElem?_toArray, List.getElem?_cons_zero, List.getElem?_cons_succ] at c13_1_0 c13_1_1 c13_1_2 c13_1_3; have HR13_1 : Hid _ := R13_1; clear R13_1; have R13_2 := (hb13.block (m2) (by first | (simp; done) | (simp; omega) | omega)).trans HR12_2.out; have z13_2 : m2 < w13.heap.size := Nat.lt_of_lt_of_le (by first | (simp; done) | (simp; omega) | omega) hb13.size; have ne13_2 : ¬ m2 = w13.heap.size := (by omega); have en13_2 : ¬ w13.heap.size = m2 := (by omega); have c13_2_0 := rowcell R13_2 0; have c13_2_1 := rowcell R13_2 1; have c13_2_2 := rowcell R13_2 2; have c13_2_3 := rowcell R13_2 3; have cf13_2 := rowfree R13_2; simp only [List.getElem?_toArray, List.getElem?_cons_zero, List.getElem?_cons_succ] at c13_2_0 c13_2_1 c13_2_2 c13_2_3; have HR13_2 : Hid _ := R13_2; clear R13_2; have R13_3 := (hb13.block (w10.heap.size) (by first | (simp; done) | (simp; omega) | omega)).trans HR12_3.out; have z13_3 : w10.heap.size < w13.heap.size := Nat.lt_of_lt_of_le (by first | (simp; done) | (simp; omega) | omega) hb13.size; have ne13_3 : ¬ w10.heap.size = w13.heap.size := (by omega); have en13_3 : ¬ w13.heap.size = w10.heap.size := (by omega); have c13_3_0 := rowcell R13_3 0; have c13_3_1 := rowcell R13_3 1; have c13_3_2 := rowcell R13_3 2; have c13_3_3 := rowcell R13_3 3; have c13_3_4 := rowcell R13_3 4; have c13_3_5 := rowcell R13_3 5; have cf13_3 := rowfree R13_3; simp only [List.getElem?_toArray, List.getElem?_cons_zero, List.getElem?_cons_succ] at c13_3_0 c13_3_1 c13_3_2 c13_3_3 c13_3_4 c13_3_5; have HR13_3 : Hid _ := R13_3; clear R13_3; have R13_4 := (hb13.block (w11.heap.size) (by first | (simp; done) | (simp; omega) | omega)).trans HR12_4.out; have z13_4 : w11.heap.size < w13.heap.size := Nat.lt_of_lt_of_le (by first | (simp; done) | (simp; omega) | omega) hb13.size; have ne13_4 : ¬ w11.heap.size = w13.heap.size := (by omega); have en13_4 : ¬ w13.heap.size = w11.heap.size := (by omega); have c13_4_0 := rowcell R13_4 0; have c13_4_1 := rowcell R13_4 1; have c13_4_2 := rowcell R13_4 2; have c13_4_3 := rowcell R13_4 3; have c13_4_4 := rowcell R13_4 4; have c13_4_5 := rowcell R13_4 5; have cf13_4 := rowfree R13_4; simp only [List.getElem?_toArray, List.getElem?_cons_zero, List.getElem?_cons_succ] at c13_4_0 c13_4_1 c13_4_2 c13_4_3 c13_4_4 c13_4_5; have HR13_4 : Hid _ := R13_4; clear R13_4; have HB13 : Hid (Below _ _ _) := hb13; clear hb13)
        | (go_at_call 7; go_must (refine (kpow _).mono ?_); rintro e wx ⟨rfl, hwx⟩; rw [hwx]; clear hwx wx))
      have D1 : (((P : Int) == 127) = true) ∨ (((P : Int) == 127) = false ∧ decide (ca < 0) = true) ∨ (((P : Int) == 127) = false ∧ ca = 0 ∧ (((P : Int) % 2) == 0) = true) := by
        rcases Nat.decEq P 127 with hp | hp
        · have e : ((P : Int) == 127) = false := beq_eq_false_iff_ne.2 (by omega)
          rcases T1.out with h | h | ⟨h, h2⟩
          · exact absurd h hp
          · exact .inr (.inl ⟨e, decide_eq_true h⟩)
          · exact .inr (.inr ⟨e, h, beq_iff_eq.2 (by omega)⟩)
        · exact .inl (beq_iff_eq.2 (by omega))
      have D2 : (((P : Int) == 1) = true) ∨ (((P : Int) == 1) = false ∧ decide (0 < cb) = true) ∨ (((P : Int) == 1) = false ∧ cb = 0 ∧ (((P : Int) % 2) == 0) = true) := by
        rcases Nat.decEq P 1 with hp | hp
        · have e : ((P : Int) == 1) = false := beq_eq_false_iff_ne.2 (by omega)
          rcases T2.out with h | h | ⟨h, h2⟩
          · exact absurd h hp
          · exact .inr (.inl ⟨e, decide_eq_true h⟩)
          · exact .inr (.inr ⟨e, h, beq_iff_eq.2 (by omega)⟩)
        · exact .inl (beq_iff_eq.2 (by omega))
      have tm : (P : Int).tmod 2 = (P : Int) % 2 := Int.tmod_eq_emod_of_nonneg (Int.natCast_nonneg _)
      clear T1 T2 HP1
      rcases D1 with d1 | ⟨d1, d2⟩ | ⟨d1, rfl, d2⟩
      · rcases D2 with d3 | ⟨d3, d4⟩ | ⟨d3, rfl, d4⟩
        · go_wp2_with (go_at_call 7; go_must (refine (kpow _).mono ?_); rintro e wx ⟨rfl, hwx⟩; rw [hwx]; clear hwx wx)
          all_goals exact hQ.out _ _ ⟨by simp, cthen (cthen (cmore (cthen (cmore (cthen (cthen (cthen HB3.out HBA.out) HBC.out) HB10.out) _) HB11.out) _) HB12.out) HB13.out⟩
        · go_wp2_with (go_at_call 7; go_must (refine (kpow _).mono ?_); rintro e wx ⟨rfl, hwx⟩; rw [hwx]; clear hwx wx)
          all_goals exact hQ.out _ _ ⟨by simp, cthen (cthen (cmore (cthen (cmore (cthen (cthen (cthen HB3.out HBA.out) HBC.out) HB10.out) _) HB11.out) _) HB12.out) HB13.out⟩
        · go_wp2_with (go_at_call 7; go_must (refine (kpow _).mono ?_); rintro e wx ⟨rfl, hwx⟩; rw [hwx]; clear hwx wx)
          all_goals exact hQ.out _ _ ⟨by simp, cthen (cthen (cmore (cthen (cmore (cthen (cthen (cthen HB3.out HBA.out) HBC.out) HB10.out) _) HB11.out) _) HB12.out) HB13.out⟩
      · rcases D2 with d3 | ⟨d3, d4⟩ | ⟨d3, rfl, d4⟩
        · go_wp2_with (go_at_call 7; go_must (refine (kpow _).mono ?_); rintro e wx ⟨rfl, hwx⟩; rw [hwx]; clear hwx wx)
          all_goals exact hQ.out _ _ ⟨by simp, cthen (cthen (cmore (cthen (cmore (cthen (cthen (cthen HB3.out HBA.out) HBC.out) HB10.out) _) HB11.out) _) HB12.out) HB13.out⟩
        · go_wp2_with (go_at_call 7; go_must (refine (kpow _).mono ?_); rintro e wx ⟨rfl, hwx⟩; rw [hwx]; clear hwx wx)
          all_goals exact hQ.out _ _ ⟨by simp, cthen (cthen (cmore (cthen (cmore (cthen (cthen (cthen HB3.out HBA.out) HBC.out) HB10.out) _) HB11.out) _) HB12.out) HB13.out⟩
        · go_wp2_with (go_at_call 7; go_must (refine (kpow _).mono ?_); rintro e wx ⟨rfl, hwx⟩; rw [hwx]; clear hwx wx)
          all_goals exact hQ.out _ _ ⟨by simp, cthen (cthen (cmore (cthen (cmore (cthen (cthen (cthen HB3.out HBA.out) HBC.out) HB10.out) _) HB11.out) _) HB12.out) HB13.out⟩
      · rcases D2 with d3 | ⟨d3, d4⟩ | ⟨d3, rfl, d4⟩
        · go_wp2_with (go_at_call 7; go_must (refine (kpow _).mono ?_); rintro e wx ⟨rfl, hwx⟩; rw [hwx]; clear hwx wx)
          all_goals exact hQ.out _ _ ⟨by simp, cthen (cthen (cmore (cthen (cmore (cthen (cthen (cthen HB3.out HBA.out) HBC.out) HB10.out) _) HB11.out) _) HB12.out) HB13.out⟩
        · go_wp2_with (go_at_call 7; go_must (refine (kpow _).mono ?_); rintro e wx ⟨rfl, hwx⟩; rw [hwx]; clear hwx wx)
          all_goals exact hQ.out _ _ ⟨by simp, cthen (cthen (cmore (cthen (cmore (cthen (cthen (cthen HB3.out HBA.out) HBC.out) HB10.out) _) HB11.out) _) HB12.out) HB13.out⟩
        · go_wp2_with (go_at_call 7; go_must (refine (kpow _).mono ?_); rintro e wx ⟨rfl, hwx⟩; rw [hwx]; clear hwx wx)
          all_goals exact hQ.out _ _ ⟨by simp, cthen (cthen (cmore (cthen (cmore (cthen (cthen (cthen HB3.out HBA.out) HBC.out) HB10.out) _) HB11.out) _) HB12.out) HB13.out⟩
end Go.Proofs.Ytajlgpamcpgalab

namespace Go.Proofs.Ytajlgpamcpgalab
open Go.ChangeShapes Go.WideShapes Go.ChangeAt Go.RowKit
set_option linter.unusedVariables false
set_option linter.unusedSimpArgs false
set_option maxRecDepth 100000

set_option maxHeartbeats 4000000 in
theorem roundTies_main16 (neg : Bool) (s : Int) (hi lo : Nat) (hh : hi < 2 ^ 64) (hl : lo < 2 ^ 64) (hs : soundX 1 neg s hi lo false = true) (w : World) :
    Calls Try.prog 3 #[.int .i64 16, .agg #[.int .i64 1, .bool neg, .int .i64 s, .int .u64 hi, .int .u64 lo, .bool false]] w fun e w' => e = .returned (.bool true) ∧ Below w.heap.size w w' := by
  have he := fun w a b => Lib.run_eql_iface_int (P := Try.prog) w (t := 28) (tx := 51) (k := .i64) a b Try.underlying28 (by kernel_rfl) Try.underlying51
  have ks := sound7_any 1 neg s hi lo false
  rw [hs] at ks
  have hs2 : soundX 1 false s hi lo false = true := by
    have := hs
    unfold soundX at this ⊢
    rw [if_neg (by decide)] at this ⊢
    exact this
  have hx : WordsX hi lo := ⟨soundX_top hs, hh, hl⟩
  have hn : Wd 16 := by decide
  have kp := rround_real 16 false s hi lo false hn hs2 hx
  obtain ⟨P, hP⟩ : ∃ P, P = rndX 16 s hi lo false := ⟨_, rfl⟩
  rw [show patR 16 false (rndX 16 s hi lo false) = P from hP.symm] at kp
  obtain ⟨r1, r2⟩ := rnd_range 16 s hi lo false hn hx
  obtain ⟨t1, t2⟩ := ties_all 16 s hi lo (by decide) hx P hP
  rw [← hP] at r1 r2
  rw [show 2 ^ (16 - 1) - 1 = 32767 by decide] at r2 t1
  have kpow := power_any 15 (by decide)
  rw [show ((2 ^ 15 : Nat) : Int) = 32768 from rfl, show ((15 : Nat) : Int) = 15 from rfl] at kpow
  have hA64 : P * 2 ^ (63 - 16 + 1) + 2 ^ (63 - 16) < 2 ^ 64 := Nat.lt_of_le_of_lt (Nat.add_le_add_right (Nat.mul_le_mul_right _ r2) _) (by decide)
  have hB64 : (P - 1) * 2 ^ (63 - 16 + 1) + 2 ^ (63 - 16) < 2 ^ 64 := Nat.lt_of_le_of_lt (Nat.add_le_add_right (Nat.mul_le_mul_right _ (Nat.le_trans (Nat.sub_le _ _) r2)) _) (by decide)
  obtain ⟨XA, TA, a1, a2, kA⟩ := tie_by 16 P (by decide) (by decide) (by show P < 32768; omega) 281474976710656 140737488355328 (by decide) (by decide) hA64
  obtain ⟨XB, TB, b1, b2, kB⟩ := tie_by 16 (P - 1) (by decide) (by decide) (by show P - 1 < 32768; omega) 281474976710656 140737488355328 (by decide) (by decide) hB64
  have b0 : IntKind.u64.wrap ((P : Int) - 1) = ((P - 1 : Nat) : Int) := by rw [show (P : Int) - 1 = ((P - 1 : Nat) : Int) by omega, wrapN, Nat.mod_eq_of_lt (by omega)]
  have kC := fun w => cmp7_pos s (scaleL (tieL 16 P)) hi lo (wordL (tieL 16 P)) 0 w
  have kD := fun w => cmp7_pos s (scaleL (tieL 16 (P - 1))) hi lo (wordL (tieL 16 (P - 1))) 0 w
  have wA := wordL_bounds (tieL 16 P)
  have wB := wordL_bounds (tieL 16 (P - 1))
  have tl : ∀ q, soundN 1 false (scaleL (tieL 16 q)) (wordL (tieL 16 q)) = true := fun q => by
    have h1 := scaleL_range (tieL 16 q) (by rw [tieL_length 16 q (by decide) (by decide)]; exact Nat.le_refl _)
    have h2 := wordL_bounds (tieL 16 q)
    unfold soundN
    rw [if_neg (by decide)]
    exact decide_eq_true ⟨rfl, h2.1, by omega, by omega⟩
  have kE := rndof_ok 1 false (scaleL (tieL 16 P)) (wordL (tieL 16 P)) wA.2 (tl P)
  have kF := rndof_ok 1 false (scaleL (tieL 16 (P - 1))) (wordL (tieL 16 (P - 1))) wB.2 (tl (P - 1))
  generalize scaleL (tieL 16 P) = sa at *
  generalize wordL (tieL 16 P) = fa at *
  generalize scaleL (tieL 16 (P - 1)) = sb at *
  generalize wordL (tieL 16 (P - 1)) = fb at *
  generalize cmpV s hi lo sa fa 0 = ca at *
  generalize cmpV s hi lo sb fb 0 = cb at *
  have ww1 : IntKind.i64.wrap 48 = 48 := by decide
  have ww2 : IntKind.i64.wrap 47 = 47 := by decide
  have ww3 : IntKind.u64.wrap 140737488355328 = 140737488355328 := by decide
  have q0 : ((P : Int) == 0) = false := beq_eq_false_iff_ne.2 (by omega)
  have q1 : decide ((32768 : Int) ≤ (P : Int)) = false := decide_eq_false (by omega)
  generalize P - 1 = P1 at *
  have T1 : Hid _ := t1
  have T2 : Hid _ := t2
  have HP1 : Hid (1 ≤ P ∧ P ≤ 32767) := ⟨r1, r2⟩
  unfold exV numV at *
  rw [show ((0 : Nat) : Int) = 0 from rfl] at *
  clear hs hs2 hx hn hP r1 r2 t1 t2 wA wB tl hA64 hB64 hh hl
  refine cps fun Q hQ => ?_
  go_enter Try.func3, Try.ntmps3
  go_upto_region 9 with (first
    | (go_at_call 4; go_must (refine (rup_any _).mono ?_); rintro e w1 ⟨rfl, hb1⟩; have R1_0 := (hb1.block (w.heap.size) (by first | (simp; done) | (simp; omega) | omega)).trans (rownew' _ _ _ _ (by simp)); have z1_0 : w.heap.size < w1.heap.size := Nat.lt_of_lt_of_le (by first | (simp; done) | (simp; omega) | omega) hb1.size; have ne1_0 : ¬ w.heap.size = w1.heap.size := (by omega); have en1_0 : ¬ w1.heap.size = w.heap.size := (by omega); have c1_0_0 := rowcell R1_0 0; have c1_0_1 := rowcell R1_0 1; have c1_0_2 := rowcell R1_0 2; have c1_0_3 := rowcell R1_0 3; have c1_0_4 := rowcell R1_0 4; have c1_0_5 := rowcell R1_0 5; have cf1_0 := rowfree R1_0; simp only [List.getElem?_toArray, List.getElem?_cons_zero, List.getElem?_cons_succ] at c1_0_0 c1_0_1 c1_0_2 c1_0_3 c1_0_4 c1_0_5; have HR1_0 : Hid _ := R1_0; clear R1_0; have HB1 : Hid (Below _ _ _) := hb1; clear hb1)
    | (go_at_call 5; go_must (refine (ks _).mono ?_); rintro e w2 ⟨rfl, hb2⟩; have R2_0 := (hb2.block (w.heap.size) (by first | (simp; done) | (simp; omega) | omega)).trans HR1_0.out; have z2_0 : w.heap.size < w2.heap.size := Nat.lt_of_lt_of_le (by first | (simp; done) | (simp; omega) | omega) hb2.size; have ne2_0 : ¬ w.heap.size = w2.heap.size := (by omega); have en2_0 : ¬ w2.heap.size = w.heap.size := (by omega); have c2_0_0 := rowcell R2_0 0; have c2_0_1 := rowcell R2_0 1; have c2_0_2 := rowcell R2_0 2; have c2_0_3 := rowcell R2_0 3; have c2_0_4 := rowcell R2_0 4; have c2_0_5 := rowcell R2_0 5; have cf2_0 := rowfree R2_0; simp only [List.getElem?_toArray, List.getElem?_cons_zero, List.getElem?_cons_succ] at c2_0_0 c2_0_1 c2_0_2 c2_0_3 c2_0_4 c2_0_5; have HR2_0 : Hid _ := R2_0; clear R2_0; have HB2 : Hid (Below _ _ _) := hb2; clear hb2)
    | (go_at_call 6; go_must (refine (kp _).mono ?_); rintro e w3 ⟨rfl, hb3⟩; have R3_0 : w3.heap[w.heap.size]? = some (.cells #[.int .i64 1, .bool false, .int .i64 s, .int .u64 hi, .int .u64 lo, .bool false] 24 (0, 0)) := (hb3.block w.heap.size (by simpa using z2_0)).trans ((rowset HR2_0.out 1 _).trans (by simp only [List.setIfInBounds_toArray, List.set_cons_zero, List.set_cons_succ])); have z3_0 : w.heap.size < w3.heap.size := Nat.lt_of_lt_of_le (by simpa using z2_0) hb3.size; have HB3 : Hid (Below w.heap.size w w3) := cthen (cset (cthen (cthen (cmore (Below.refl _ _) _) HB1.out) HB2.out) (Nat.le_refl _) _ _) hb3; have HR3_0 : Hid _ := R3_0; clear R3_0 hb3)
    | (go_at_call 7; go_must (refine (kpow _).mono ?_); rintro e wx ⟨rfl, hwx⟩; rw [hwx]; clear hwx wx))
  go_cut [9, 10] from 68 (fun sx sy wx => ∃ m : Nat, sx = .pointer (some ⟨m, 0, none⟩) ∧ sy = .nilIface ∧ Below w3.heap.size w3 wx ∧ w3.heap.size ≤ m ∧ wx.heap[m]? = some (.cells #[.int .i64 1, .bool false, .int .i64 sa, .int .u64 fa] 33 (0, 0)))
  case first =>
    refine wpC_region (fun W => True) (by kernel_rfl) ?_
    refine wpC_take 0 (v := ?_) rfl (by kernel_rfl) (fun _ _ _ h => h) (by kernel_rfl) ?_ ?_; rotate_left; · (intro wC hC; obtain _ := hC; go_simp <;> with_reducible rfl)
    refine wpC_take 1 (v := ?_) rfl (by kernel_rfl) (fun _ _ _ h => h) (by kernel_rfl) ?_ ?_; rotate_left; · (intro wC hC; obtain _ := hC; go_simp <;> with_reducible rfl)
    refine wpC_take 2 (v := ?_) rfl (by kernel_rfl) (fun _ _ _ h => h) (by kernel_rfl) ?_ ?_; rotate_left; · (intro wC hC; obtain _ := hC; go_simp <;> with_reducible rfl)
    refine wpC_take 3 (v := ?_) rfl (by kernel_rfl) (fun _ _ _ h => h) (by kernel_rfl) ?_ ?_; rotate_left; · (intro wC hC; obtain _ := hC; go_simp <;> with_reducible rfl)
    refine wpC_take 4 (v := ?_) rfl (by kernel_rfl) (fun _ _ _ h => h) (by kernel_rfl) ?_ ?_; rotate_left; · (intro wC hC; obtain _ := hC; go_simp <;> with_reducible rfl)
    refine wpC_take 5 (v := ?_) rfl (by kernel_rfl) (fun _ _ _ h => h) (by kernel_rfl) ?_ ?_; rotate_left; · (intro wC hC; obtain _ := hC; go_simp <;> with_reducible rfl)
    refine wpC_take 6 (v := ?_) rfl (by kernel_rfl) (fun _ _ _ h => h) (by kernel_rfl) ?_ ?_; rotate_left; · (intro wC hC; obtain _ := hC; go_simp <;> with_reducible rfl)
    refine wpC_take 7 (v := ?_) rfl (by kernel_rfl) (fun _ _ _ h => h) (by kernel_rfl) ?_ ?_; rotate_left; · (intro wC hC; obtain _ := hC; go_simp <;> with_reducible rfl)
    refine wpC_two 8 12 rfl rfl (by kernel_rfl) (by kernel_rfl) (by kernel_rfl) trivial (fun K hK => ?_) (fun K hK => ?_)
    · skip
      go_simp
      go_wp2_with ((go_at_call 8; refine (kA _).mono ?_; rintro e wy ⟨rfl, hby⟩))
      try (refine hK _ _ ?_; clear hK K)
      have BY := cthen (cdrew (Below.refl w3.heap.size w3)) hby
      refine wpC_take 9 (v := ?_) rfl (by kernel_rfl) (fun _ _ _ h => h) (by kernel_rfl) ?_ ?_; rotate_left; · (intro wC hC; obtain _ := hC; go_simp <;> with_reducible rfl)
      refine wpC_take 10 (v := ?_) rfl (by kernel_rfl) (fun _ _ _ h => h) (by kernel_rfl) ?_ ?_; rotate_left; · (intro wC hC; obtain _ := hC; go_simp <;> with_reducible rfl)
      refine wpC_take 11 (v := ?_) rfl (by kernel_rfl) (fun _ _ _ h => h) (by kernel_rfl) ?_ ?_; rotate_left; · (intro wC hC; obtain _ := hC; go_simp <;> with_reducible rfl)
      refine wpC_step 12 rfl (by kernel_rfl) (by kernel_rfl) trivial (fun K hK => ?_)
      go_simp
      try (refine hK _ _ ?_; clear hK K)
      refine wpC_step 13 rfl (by kernel_rfl) (by kernel_rfl) trivial (fun K hK => ?_)
      go_simp
      try (refine hK _ _ ?_; clear hK K)
      refine wpC_take 14 (v := ?_) rfl (by kernel_rfl) (fun _ _ _ h => h) (by kernel_rfl) ?_ ?_; rotate_left; · (intro wC hC; obtain _ := hC; go_simp <;> with_reducible rfl)
      refine wpC_done (C := fun _ => True) (by kernel_rfl) trivial ?_
      go_wp2_with fail
      go_meet
      case rel => exact ⟨_, rfl, rfl, cmore BY _, BY.size, rownew _ _ _⟩
    · skip
      go_simp
      try (refine hK _ _ ?_; clear hK K)
      refine wpC_step 8 rfl (by kernel_rfl) (by kernel_rfl) trivial (fun K hK => ?_)
      go_simp
      go_wp2_with ((go_at_call 8; refine (kA _).mono ?_; rintro e wy ⟨rfl, hby⟩; obtain ⟨hcy, hfy⟩ := ccell hby))
      try (refine hK _ _ ?_; clear hK K)
      have BY := cthen (cmore (cdrew (Below.refl w3.heap.size w3)) _) hby
      have RY := (hby.block w3.heap.size (by simp)).trans (rownew w3.drew _ _)
      have ZY : w3.heap.size < wy.heap.size := by have := hby.size; simp at this; omega
      have y0 := rowcell RY 0
      have y1 := rowcell RY 1
      have y2 := rowcell RY 2
      have y3 := rowcell RY 3
      have yf := rowfree RY
      simp only [List.getElem?_toArray, List.getElem?_cons_zero, List.getElem?_cons_succ] at y0 y1 y2 y3
      refine wpC_take 9 (v := ?_) rfl (by kernel_rfl) (fun _ _ _ h => h) (by kernel_rfl) ?_ ?_; rotate_left; · (intro wC hC; obtain _ := hC; go_simp <;> with_reducible rfl)
      refine wpC_take 10 (v := ?_) rfl (by kernel_rfl) (fun _ _ _ h => h) (by kernel_rfl) ?_ ?_; rotate_left; · (intro wC hC; obtain _ := hC; go_simp <;> with_reducible rfl)
      refine wpC_take 11 (v := ?_) rfl (by kernel_rfl) (fun _ _ _ h => h) (by kernel_rfl) ?_ ?_; rotate_left; · (intro wC hC; obtain _ := hC; go_simp <;> with_reducible rfl)
      refine wpC_step 13 rfl (by kernel_rfl) (by kernel_rfl) trivial (fun K hK => ?_)
      go_simp
      try (refine hK _ _ ?_; clear hK K)
      refine wpC_take 14 (v := ?_) rfl (by kernel_rfl) (fun _ _ _ h => h) (by kernel_rfl) ?_ ?_; rotate_left; · (intro wC hC; obtain _ := hC; go_simp <;> with_reducible rfl)
      refine wpC_done (C := fun _ => True) (by kernel_rfl) trivial ?_
      go_wp2_with fail
      go_meet
      case rel => exact ⟨_, rfl, rfl, cset4 BY (Nat.le_refl _), Nat.le_refl _, row4 RY⟩
  case rest =>
    obtain ⟨m, rfl, rfl, HBa, hma, hrowa⟩ := hcut
    have HRa0 : Hid _ := (HBa.block _ z3_0).trans HR3_0.out
    have HRa1 : Hid _ := hrowa
    have za0 := Nat.lt_of_lt_of_le z3_0 HBa.size
    have za1 := rowlt hrowa
    have hm0 : w.heap.size < m := by omega
    have HBA : Hid (Below _ _ _) := HBa
    clear HBa hrowa
    go_upto_region 10 with fail
    go_cut [11, 12] from 80 (fun sx sy wx => ∃ m : Nat, sx = .pointer (some ⟨m, 0, none⟩) ∧ sy = .nilIface ∧ Below wc.heap.size wc wx ∧ wc.heap.size ≤ m ∧ wx.heap[m]? = some (.cells #[.int .i64 1, .bool false, .int .i64 sb, .int .u64 fb] 33 (0, 0)))
    case first =>
      refine wpC_region (fun W => True) (by kernel_rfl) ?_
      refine wpC_take 0 (v := ?_) rfl (by kernel_rfl) (fun _ _ _ h => h) (by kernel_rfl) ?_ ?_; rotate_left; · (intro wC hC; obtain _ := hC; go_simp <;> with_reducible rfl)
      refine wpC_take 1 (v := ?_) rfl (by kernel_rfl) (fun _ _ _ h => h) (by kernel_rfl) ?_ ?_; rotate_left; · (intro wC hC; obtain _ := hC; go_simp <;> with_reducible rfl)
      refine wpC_take 2 (v := ?_) rfl (by kernel_rfl) (fun _ _ _ h => h) (by kernel_rfl) ?_ ?_; rotate_left; · (intro wC hC; obtain _ := hC; go_simp <;> with_reducible rfl)
      refine wpC_take 3 (v := ?_) rfl (by kernel_rfl) (fun _ _ _ h => h) (by kernel_rfl) ?_ ?_; rotate_left; · (intro wC hC; obtain _ := hC; go_simp <;> with_reducible rfl)
      refine wpC_take 4 (v := ?_) rfl (by kernel_rfl) (fun _ _ _ h => h) (by kernel_rfl) ?_ ?_; rotate_left; · (intro wC hC; obtain _ := hC; go_simp <;> with_reducible rfl)
      refine wpC_take 5 (v := ?_) rfl (by kernel_rfl) (fun _ _ _ h => h) (by kernel_rfl) ?_ ?_; rotate_left; · (intro wC hC; obtain _ := hC; go_simp <;> with_reducible rfl)
      refine wpC_take 6 (v := ?_) rfl (by kernel_rfl) (fun _ _ _ h => h) (by kernel_rfl) ?_ ?_; rotate_left; · (intro wC hC; obtain _ := hC; go_simp <;> with_reducible rfl)
      refine wpC_take 7 (v := ?_) rfl (by kernel_rfl) (fun _ _ _ h => h) (by kernel_rfl) ?_ ?_; rotate_left; · (intro wC hC; obtain _ := hC; go_simp <;> with_reducible rfl)
      refine wpC_take 8 (v := ?_) rfl (by kernel_rfl) (fun _ _ _ h => h) (by kernel_rfl) ?_ ?_; rotate_left; · (intro wC hC; obtain _ := hC; go_simp <;> with_reducible rfl)
      refine wpC_two 9 13 rfl rfl (by kernel_rfl) (by kernel_rfl) (by kernel_rfl) trivial (fun K hK => ?_) (fun K hK => ?_)
      · skip
        go_simp
        go_wp2_with ((go_at_call 8; refine (kB _).mono ?_; rintro e wy ⟨rfl, hby⟩))
        try (refine hK _ _ ?_; clear hK K)
        have BY := cthen (cdrew (Below.refl wc.heap.size wc)) hby
        refine wpC_take 10 (v := ?_) rfl (by kernel_rfl) (fun _ _ _ h => h) (by kernel_rfl) ?_ ?_; rotate_left; · (intro wC hC; obtain _ := hC; go_simp <;> with_reducible rfl)
        refine wpC_take 11 (v := ?_) rfl (by kernel_rfl) (fun _ _ _ h => h) (by kernel_rfl) ?_ ?_; rotate_left; · (intro wC hC; obtain _ := hC; go_simp <;> with_reducible rfl)
        refine wpC_take 12 (v := ?_) rfl (by kernel_rfl) (fun _ _ _ h => h) (by kernel_rfl) ?_ ?_; rotate_left; · (intro wC hC; obtain _ := hC; go_simp <;> with_reducible rfl)
        refine wpC_step 13 rfl (by kernel_rfl) (by kernel_rfl) trivial (fun K hK => ?_)
        go_simp
        try (refine hK _ _ ?_; clear hK K)
        refine wpC_step 14 rfl (by kernel_rfl) (by kernel_rfl) trivial (fun K hK => ?_)
        go_simp
        try (refine hK _ _ ?_; clear hK K)
        refine wpC_take 15 (v := ?_) rfl (by kernel_rfl) (fun _ _ _ h => h) (by kernel_rfl) ?_ ?_; rotate_left; · (intro wC hC; obtain _ := hC; go_simp <;> with_reducible rfl)
        refine wpC_done (C := fun _ => True) (by kernel_rfl) trivial ?_
        go_wp2_with fail
        go_meet
        case rel => exact ⟨_, rfl, rfl, cmore BY _, BY.size, rownew _ _ _⟩
      · skip
        go_simp
        try (refine hK _ _ ?_; clear hK K)
        refine wpC_step 9 rfl (by kernel_rfl) (by kernel_rfl) trivial (fun K hK => ?_)
        go_simp
        go_wp2_with ((go_at_call 8; refine (kB _).mono ?_; rintro e wy ⟨rfl, hby⟩; obtain ⟨hcy, hfy⟩ := ccell hby))
        try (refine hK _ _ ?_; clear hK K)
        have BY := cthen (cmore (cdrew (Below.refl wc.heap.size wc)) _) hby
        have RY := (hby.block wc.heap.size (by simp)).trans (rownew wc.drew _ _)
        have ZY : wc.heap.size < wy.heap.size := by have := hby.size; simp at this; omega
        have y0 := rowcell RY 0
        have y1 := rowcell RY 1
        have y2 := rowcell RY 2
        have y3 := rowcell RY 3
        have yf := rowfree RY
        simp only [List.getElem?_toArray, List.getElem?_cons_zero, List.getElem?_cons_succ] at y0 y1 y2 y3
        refine wpC_take 10 (v := ?_) rfl (by kernel_rfl) (fun _ _ _ h => h) (by kernel_rfl) ?_ ?_; rotate_left; · (intro wC hC; obtain _ := hC; go_simp <;> with_reducible rfl)
        refine wpC_take 11 (v := ?_) rfl (by kernel_rfl) (fun _ _ _ h => h) (by kernel_rfl) ?_ ?_; rotate_left; · (intro wC hC; obtain _ := hC; go_simp <;> with_reducible rfl)
        refine wpC_take 12 (v := ?_) rfl (by kernel_rfl) (fun _ _ _ h => h) (by kernel_rfl) ?_ ?_; rotate_left; · (intro wC hC; obtain _ := hC; go_simp <;> with_reducible rfl)
        refine wpC_step 14 rfl (by kernel_rfl) (by kernel_rfl) trivial (fun K hK => ?_)
        go_simp
        try (refine hK _ _ ?_; clear hK K)
        refine wpC_take 15 (v := ?_) rfl (by kernel_rfl) (fun _ _ _ h => h) (by kernel_rfl) ?_ ?_; rotate_left; · (intro wC hC; obtain _ := hC; go_simp <;> with_reducible rfl)
        refine wpC_done (C := fun _ => True) (by kernel_rfl) trivial ?_
        go_wp2_with fail
        go_meet
        case rel => exact ⟨_, rfl, rfl, cset4 BY (Nat.le_refl _), Nat.le_refl _, row4 RY⟩
    case rest =>
      obtain ⟨m2, rfl, rfl, HBb, hmb, hrowb⟩ := hcut
      have R9_0 := (HBb.block _ za0).trans HRa0.out
      have R9_1 := (HBb.block _ za1).trans HRa1.out
      have R9_2 := hrowb
      have z9_0 : w.heap.size < wc.heap.size := Nat.lt_of_lt_of_le za0 HBb.size
      have z9_1 : m < wc.heap.size := Nat.lt_of_lt_of_le za1 HBb.size
      have z9_2 : m2 < wc.heap.size := rowlt hrowb
      have hm2 : w.heap.size < m2 := by omega
      have hmm : m < m2 := by omega
      have HR9_0 : Hid _ := R9_0
      have HR9_1 : Hid _ := R9_1
      have HR9_2 : Hid _ := R9_2
      have HBC : Hid (Below _ _ _) := HBb
      have c9_0_0 := rowcell R9_0 0
      have c9_0_1 := rowcell R9_0 1
      have c9_0_2 := rowcell R9_0 2
      have c9_0_3 := rowcell R9_0 3
      have c9_0_4 := rowcell R9_0 4
      have c9_0_5 := rowcell R9_0 5
      have cf9_0 := rowfree R9_0
      simp only [List.getElem?_toArray, List.getElem?_cons_zero, List.getElem?_cons_succ] at c9_0_0 c9_0_1 c9_0_2 c9_0_3 c9_0_4 c9_0_5
      have c9_1_0 := rowcell R9_1 0
      have c9_1_1 := rowcell R9_1 1
      have c9_1_2 := rowcell R9_1 2
      have c9_1_3 := rowcell R9_1 3
      have cf9_1 := rowfree R9_1
      simp only [List.getElem?_toArray, List.getElem?_cons_zero, List.getElem?_cons_succ] at c9_1_0 c9_1_1 c9_1_2 c9_1_3
      have c9_2_0 := rowcell R9_2 0
      have c9_2_1 := rowcell R9_2 1
      have c9_2_2 := rowcell R9_2 2
      have c9_2_3 := rowcell R9_2 3
      have cf9_2 := rowfree R9_2
      simp only [List.getElem?_toArray, List.getElem?_cons_zero, List.getElem?_cons_succ] at c9_2_0 c9_2_1 c9_2_2 c9_2_3
      clear R9_0 R9_1 R9_2 HBb hrowb
      go_upto_region 17 with (first
        | (go_at_call_of 9 sa; go_must (refine (kE _).mono ?_); rintro e w10 ⟨rfl, hb10⟩; have R10_0 := (hb10.block (w.heap.size) (by first | (simp; done) | (simp; omega) | omega)).trans HR9_0.out; have z10_0 : w.heap.size < w10.heap.size := Nat.lt_of_lt_of_le (by first | (simp; done) | (simp; omega) | omega) hb10.size; have ne10_0 : ¬ w.heap.size = w10.heap.size := (by omega); have en10_0 : ¬ w10.heap.size = w.heap.size := (by omega); have c10_0_0 := rowcell R10_0 0; have c10_0_1 := rowcell R10_0 1; have c10_0_2 := rowcell R10_0 2; have c10_0_3 := rowcell R10_0 3; have c10_0_4 := rowcell R10_0 4; have c10_0_5 := rowcell R10_0 5; have cf10_0 := rowfree R10_0; simp only [List.getElem?_toArray, List.getElem?_cons_zero, List.getElem?_cons_succ] at c10_0_0 c10_0_1 c10_0_2 c10_0_3 c10_0_4 c10_0_5; have HR10_0 : Hid _ := R10_0; clear R10_0; have R10_1 := (hb10.block (m) (by first | (simp; done) | (simp; omega) | omega)).trans HR9_1.out; have z10_1 : m < w10.heap.size := Nat.lt_of_lt_of_le (by first | (simp; done) | (simp; omega) | omega) hb10.size; have ne10_1 : ¬ m = w10.heap.size := (by omega); have en10_1 : ¬ w10.heap.size = m := (by omega); have c10_1_0 := rowcell R10_1 0; have c10_1_1 := rowcell R10_1 1; have c10_1_2 := rowcell R10_1 2; have c10_1_3 := rowcell R10_1 3; have cf10_1 := rowfree R10_1; simp only [List.getElem?_toArray, List.getElem?_cons_zero, List.getElem?_cons_succ] at c10_1_0 c10_1_1 c10_1_2 c10_1_3; have HR10_1 : Hid _ := R10_1; clear R10_1; have R10_2 := (hb10.block (m2) (by first | (simp; done) | (simp; omega) | omega)).trans HR9_2.out; have z10_2 : m2 < w10.heap.size := Nat.lt_of_lt_of_le (by first | (simp; done) | (simp; omega) | omega) hb10.size; have ne10_2 : ¬ m2 = w10.heap.size := (by omega); have en10_2 : ¬ w10.heap.size = m2 := (by omega); have c10_2_0 := rowcell R10_2 0; have c10_2_1 := rowcell R10_2 1; have c10_2_2 := rowcell R10_2 2; have c10_2_3 := rowcell R10_2 3; have cf10_2 := rowfree R10_2; simp only [List.getElem?_toArray, List.getElem?_cons_zero, List.getElem?_cons_succ] at c10_2_0 c10_2_1 c10_2_2 c10_2_3; have HR10_2 : Hid _ := R10_2; clear R10_2; have HB10 : Hid (Below _ _ _) := hb10; clear hb10)
        | (go_at_call_of 9 sb; go_must (refine (kF _).mono ?_); rintro e w11 ⟨rfl, hb11⟩; have R11_0 := (hb11.block (w.heap.size) (by first | (simp; done) | (simp; omega) | omega)).trans ((Below.heap_alloc _ _ _ (by first | (simp; done) | (simp; omega) | omega)).trans HR10_0.out); have z11_0 : w.heap.size < w11.heap.size := Nat.lt_of_lt_of_le (by first | (simp; done) | (simp; omega) | omega) hb11.size; have ne11_0 : ¬ w.heap.size = w11.heap.size := (by omega); have en11_0 : ¬ w11.heap.size = w.heap.size := (by omega); have c11_0_0 := rowcell R11_0 0; have c11_0_1 := rowcell R11_0 1; have c11_0_2 := rowcell R11_0 2; have c11_0_3 := rowcell R11_0 3; have c11_0_4 := rowcell R11_0 4; have c11_0_5 := rowcell R11_0 5; have cf11_0 := rowfree R11_0; simp only [List.getElem?_toArray, List.getElem?_cons_zero, List.getElem?_cons_succ] at c11_0_0 c11_0_1 c11_0_2 c11_0_3 c11_0_4 c11_0_5; have HR11_0 : Hid _ := R11_0; clear R11_0; have R11_1 := (hb11.block (m) (by first | (simp; done) | (simp; omega) | omega)).trans ((Below.heap_alloc _ _ _ (by first | (simp; done) | (simp; omega) | omega)).trans HR10_1.out); have z11_1 : m < w11.heap.size := Nat.lt_of_lt_of_le (by first | (simp; done) | (simp; omega) | omega) hb11.size; have ne11_1 : ¬ m = w11.heap.size := (by omega); have en11_1 : ¬ w11.heap.size = m := (by omega); have c11_1_0 := rowcell R11_1 0; have c11_1_1 := rowcell R11_1 1; have c11_1_2 := rowcell R11_1 2; have c11_1_3 := rowcell R11_1 3; have cf11_1 := rowfree R11_1; simp only [List.getElem?_toArray, List.getElem?_cons_zero, List.getElem?_cons_succ] at c11_1_0 c11_1_1 c11_1_2 c11_1_3; have HR11_1 : Hid _ := R11_1; clear R11_1; have R11_2 := (hb11.block (m2) (by first | (simp; done) | (simp; omega) | omega)).trans ((Below.heap_alloc _ _ _ (by first | (simp; done) | (simp; omega) | omega)).trans HR10_2.out); have z11_2 : m2 < w11.heap.size := Nat.lt_of_lt_of_le (by first | (simp; done) | (simp; omega) | omega) hb11.size; have ne11_2 : ¬ m2 = w11.heap.size := (by omega); have en11_2 : ¬ w11.heap.size = m2 := (by omega); have c11_2_0 := rowcell R11_2 0; have c11_2_1 := rowcell R11_2 1; have c11_2_2 := rowcell R11_2 2; have c11_2_3 := rowcell R11_2 3; have cf11_2 := rowfree R11_2; simp only [List.getElem?_toArray, List.getElem?_cons_zero, List.getElem?_cons_succ] at c11_2_0 c11_2_1 c11_2_2 c11_2_3; have HR11_2 : Hid _ := R11_2; clear R11_2; have R11_3 := (hb11.block (w10.heap.size) (by first | (simp; done) | (simp; omega) | omega)).trans (rownew' _ _ _ _ (by simp)); have z11_3 : w10.heap.size < w11.heap.size := Nat.lt_of_lt_of_le (by first | (simp; done) | (simp; omega) | omega) hb11.size; have ne11_3 : ¬ w10.heap.size = w11.heap.size := (by omega); have en11_3 : ¬ w11.heap.size = w10.heap.size := (by omega); have c11_3_0 := rowcell R11_3 0; have c11_3_1 := rowcell R11_3 1; have c11_3_2 := rowcell R11_3 2; have c11_3_3 := rowcell R11_3 3; have c11_3_4 := rowcell R11_3 4; have c11_3_5 := rowcell R11_3 5; have cf11_3 := rowfree R11_3; simp only [List.getElem?_toArray, List.getElem?_cons_zero, List.getElem?_cons_succ] at c11_3_0 c11_3_1 c11_3_2 c11_3_3 c11_3_4 c11_3_5; have HR11_3 : Hid _ := R11_3; clear R11_3; have HB11 : Hid (Below _ _ _) := hb11; clear hb11)
        | (go_at_call_of 10 sa; go_must (refine (kC _).mono ?_); rintro e w12 ⟨rfl, hb12⟩; have R12_0 := (hb12.block (w.heap.size) (by first | (simp; done) | (simp; omega) | omega)).trans ((Below.heap_alloc _ _ _ (by first | (simp; done) | (simp; omega) | omega)).trans HR11_0.out); have z12_0 : w.heap.size < w12.heap.size := Nat.lt_of_lt_of_le (by first | (simp; done) | (simp; omega) | omega) hb12.size; have ne12_0 : ¬ w.heap.size = w12.heap.size := (by omega); have en12_0 : ¬ w12.heap.size = w.heap.size := (by omega); have c12_0_0 := rowcell R12_0 0; have c12_0_1 := rowcell R12_0 1; have c12_0_2 := rowcell R12_0 2; have c12_0_3 := rowcell R12_0 3; have c12_0_4 := rowcell R12_0 4; have c12_0_5 := rowcell R12_0 5; have cf12_0 := rowfree R12_0; simp only [List.getElem?_toArray, List.getElem?_cons_zero, List.getElem?_cons_succ] at c12_0_0 c12_0_1 c12_0_2 c12_0_3 c12_0_4 c12_0_5; have HR12_0 : Hid _ := R12_0; clear R12_0; have R12_1 := (hb12.block (m) (by first | (simp; done) | (simp; omega) | omega)).trans ((Below.heap_alloc _ _ _ (by first | (simp; done) | (simp; omega) | omega)).trans HR11_1.out); have z12_1 : m < w12.heap.size := Nat.lt_of_lt_of_le (by first | (simp; done) | (simp; omega) | omega) hb12.size; have ne12_1 : ¬ m = w12.heap.size := (by omega); have en12_1 : ¬ w12.heap.size = m := (by omega); have c12_1_0 := rowcell R12_1 0; have c12_1_1 := rowcell R12_1 1; have c12_1_2 := rowcell R12_1 2; have c12_1_3 := rowcell R12_1 3; have cf12_1 := rowfree R12_1; simp only [List.getElem?_toArray, List.getElem?_cons_zero, List.getElem?_cons_succ] at c12_1_0 c12_1_1 c12_1_2 c12_1_3; have HR12_1 : Hid _ := R12_1; clear R12_1; have R12_2 := (hb12.block (m2) (by first | (simp; done) | (simp; omega) | omega)).trans ((Below.heap_alloc _ _ _ (by first | (simp; done) | (simp; omega) | omega)).trans HR11_2.out); have z12_2 : m2 < w12.heap.size := Nat.lt_of_lt_of_le (by first | (simp; done) | (simp; omega) | omega) hb12.size; have ne12_2 : ¬ m2 = w12.heap.size := (by omega); have en12_2 : ¬ w12.heap.size = m2 := (by omega); have c12_2_0 := rowcell R12_2 0; have c12_2_1 := rowcell R12_2 1; have c12_2_2 := rowcell R12_2 2; have c12_2_3 := rowcell R12_2 3; have cf12_2 := rowfree R12_2; simp only [List.getElem?_toArray, List.getElem?_cons_zero, List.getElem?_cons_succ] at c12_2_0 c12_2_1 c12_2_2 c12_2_3; have HR12_2 : Hid _ := R12_2; clear R12_2; have R12_3 := (hb12.block (w10.heap.size) (by first | (simp; done) | (simp; omega) | omega)).trans ((Below.heap_alloc _ _ _ (by first | (simp; done) | (simp; omega) | omega)).trans HR11_3.out); have z12_3 : w10.heap.size < w12.heap.size := Nat.lt_of_lt_of_le (by first | (simp; done) | (simp; omega) | omega) hb12.size; have ne12_3 : ¬ w10.heap.size = w12.heap.size := (by omega); have en12_3 : ¬ w12.heap.size = w10.heap.size := (by omega); have c12_3_0 := rowcell R12_3 0; have c12_3_1 := rowcell R12_3 1; have c12_3_2 := rowcell R12_3 2; have c12_3_3 := rowcell R12_3 3; have c12_3_4 := rowcell R12_3 4; have c12_3_5 := rowcell R12_3 5; have cf12_3 := rowfree R12_3; simp only [List.getElem?_toArray, List.getElem?_cons_zero, List.getElem?_cons_succ] at c12_3_0 c12_3_1 c12_3_2 c12_3_3 c12_3_4 c12_3_5; have HR12_3 : Hid _ := R12_3; clear R12_3; have R12_4 := (hb12.block (w11.heap.size) (by first | (simp; done) | (simp; omega) | omega)).trans (rownew' _ _ _ _ (by simp)); have z12_4 : w11.heap.size < w12.heap.size := Nat.lt_of_lt_of_le (by first | (simp; done) | (simp; omega) | omega) hb12.size; have ne12_4 : ¬ w11.heap.size = w12.heap.size := (by omega); have en12_4 : ¬ w12.heap.size = w11.heap.size := (by omega); have c12_4_0 := rowcell R12_4 0; have c12_4_1 := rowcell R12_4 1; have c12_4_2 := rowcell R12_4 2; have c12_4_3 := rowcell R12_4 3; have c12_4_4 := rowcell R12_4 4; have c12_4_5 := rowcell R12_4 5; have cf12_4 := rowfree R12_4; simp only [List.getElem?_toArray, List.getElem?_cons_zero, List.getElem?_cons_succ] at c12_4_0 c12_4_1 c12_4_2 c12_4_3 c12_4_4 c12_4_5; have HR12_4 : Hid _ := R12_4; clear R12_4; have HB12 : Hid (Below _ _ _) := hb12; clear hb12)
        | (go_at_call_of 10 sb; go_must (refine (kD _).mono ?_); rintro e w13 ⟨rfl, hb13⟩; have R13_0 := (hb13.block (w.heap.size) (by first | (simp; done) | (simp; omega) | omega)).trans HR12_0.out; have z13_0 : w.heap.size < w13.heap.size := Nat.lt_of_lt_of_le (by first | (simp; done) | (simp; omega) | omega) hb13.size; have ne13_0 : ¬ w.heap.size = w13.heap.size := (by omega); have en13_0 : ¬ w13.heap.size = w.heap.size := (by omega); have c13_0_0 := rowcell R13_0 0; have c13_0_1 := rowcell R13_0 1; have c13_0_2 := rowcell R13_0 2; have c13_0_3 := rowcell R13_0 3; have c13_0_4 := rowcell R13_0 4; have c13_0_5 := rowcell R13_0 5; have cf13_0 := rowfree R13_0; simp only [List.getElem?_toArray, List.getElem?_cons_zero, List.getElem?_cons_succ] at c13_0_0 c13_0_1 c13_0_2 c13_0_3 c13_0_4 c13_0_5; have HR13_0 : Hid _ := R13_0; clear R13_0; have R13_1 := (hb13.block (m) (by first | (simp; done) | (simp; omega) | omega)).trans HR12_1.out; have z13_1 : m < w13.heap.size := Nat.lt_of_lt_of_le (by first | (simp; done) | (simp; omega) | omega) hb13.size; have ne13_1 : ¬ m = w13.heap.size := (by omega); have en13_1 : ¬ w13.heap.size = m := (by omega); have c13_1_0 := rowcell R13_1 0; have c13_1_1 := rowcell R13_1 1; have c13_1_2 := rowcell R13_1 2; have c13_1_3 := rowcell R13_1 3; have cf13_1 := rowfree R13_1; simp only [List.getElem?_toArray, List.getElem?_cons_zero, List.getElem?_cons_succ] at c13_1_0 c13_1_1 c13_1_2 c13_1_3; have HR13_1 : Hid _ := R13_1; clear R13_1; have R13_2 := (hb13.block (m2) (by first | (simp; done) | (simp; omega) | omega)).trans HR12_2.out; have z13_2 : m2 < w13.heap.size := Nat.lt_of_lt_of_le (by first | (simp; done) | (simp; omega) | omega) hb13.size; have ne13_2 : ¬ m2 = w13.heap.size := (by omega); have en13_2 : ¬ w13.heap.size = m2 := (by omega); have c13_2_0 := rowcell R13_2 0; have c13_2_1 := rowcell R13_2 1; have c13_2_2 := rowcell R13_2 2; have c13_2_3 := rowcell R13_2 3; have cf13_2 := rowfree R13_2; simp only [List.getElem?_toArray, List.getElem?_cons_zero, List.getElem?_cons_succ] at c13_2_0 c13_2_1 c13_2_2 c13_2_3; have HR13_2 : Hid _ := R13_2; clear R13_2; have R13_3 := (hb13.block (w10.heap.size) (by first | (simp; done) | (simp; omega) | omega)).trans HR12_3.out; have z13_3 : w10.heap.size < w13.heap.size := Nat.lt_of_lt_of_le (by first | (simp; done) | (simp; omega) | omega) hb13.size; have ne13_3 : ¬ w10.heap.size = w13.heap.size := (by omega); have en13_3 : ¬ w13.heap.size = w10.heap.size := (by omega); have c13_3_0 := rowcell R13_3 0; have c13_3_1 := rowcell R13_3 1; have c13_3_2 := rowcell R13_3 2; have c13_3_3 := rowcell R13_3 3; have c13_3_4 := rowcell R13_3 4; have c13_3_5 := rowcell R13_3 5; have cf13_3 := rowfree R13_3; simp only [List.getElem?_toArray, List.getElem?_cons_zero, List.getElem?_cons_succ] at c13_3_0 c13_3_1 c13_3_2 c13_3_3 c13_3_4 c13_3_5; have HR13_3 : Hid _ := R13_3; clear R13_3; have R13_4 := (hb13.block (w11.heap.size) (by first | (simp; done) | (simp; omega) | omega)).trans HR12_4.out; have z13_4 : w11.heap.size < w13.heap.size := Nat.lt_of_lt_of_le (by first | (simp; done) | (simp; omega) | omega) hb13.size; have ne13_4 : ¬ w11.heap.size = w13.heap.size := (by omega); have en13_4 : ¬ w13.heap.size = w11.heap.size := (by omega); have c13_4_0 := rowcell R13_4 0; have c13_4_1 := rowcell R13_4 1; have c13_4_2 := rowcell R13_4 2; have c13_4_3 := rowcell R13_4 3; have c13_4_4 := rowcell R13_4 4; have c13_4_5 := rowcell R13_4 5; have cf13_4 := rowfree R13_4; simp only [List.getElem?_toArray, List.getElem?_cons_zero, List.getElem?_cons_succ] at c13_4_0 c13_4_1 c13_4_2 c13_4_3 c13_4_4 c13_4_5; have HR13_4 : Hid _ := R13_4; clear R13_4; have HB13 : Hid (Below _ _ _) := hb13; clear hb13)
        | (go_at_call 7; go_must (refine (kpow _).mono ?_); rintro e wx ⟨rfl, hwx⟩; rw [hwx]; clear hwx wx))
      have D1 : (((P : Int) == 32767) = true) ∨ (((P : Int) == 32767) = false ∧ decide (ca < 0) = true) ∨ (((P : Int) == 32767) = false ∧ ca = 0 ∧ (((P : Int) % 2) == 0) = true) := by
        rcases Nat.decEq P 32767 with hp | hp
        · have e : ((P : Int) == 32767) = false := beq_eq_false_iff_ne.2 (by omega)
          rcases T1.out with h | h | ⟨h, h2⟩
          · exact absurd h hp
          · exact .inr (.inl ⟨e, decide_eq_true h⟩)
          · exact .inr (.inr ⟨e, h, beq_iff_eq.2 (by omega)⟩)
        · exact .inl (beq_iff_eq.2 (by omega))
      have D2 : (((P : Int) == 1) = true) ∨ (((P : Int) == 1) = false ∧ decide (0 < cb) = true) ∨ (((P : Int) == 1) = false ∧ cb = 0 ∧ (((P : Int) % 2) == 0) = true) := by
        rcases Nat.decEq P 1 with hp | hp
        · have e : ((P : Int) == 1) = false := beq_eq_false_iff_ne.2 (by omega)
          rcases T2.out with h | h | ⟨h, h2⟩
          · exact absurd h hp
          · exact .inr (.inl ⟨e, decide_eq_true h⟩)
          · exact .inr (.inr ⟨e, h, beq_iff_eq.2 (by omega)⟩)
        · exact .inl (beq_iff_eq.2 (by omega))
      have tm : (P : Int).tmod 2 = (P : Int) % 2 := Int.tmod_eq_emod_of_nonneg (Int.natCast_nonneg _)
      clear T1 T2 HP1
      rcases D1 with d1 | ⟨d1, d2⟩ | ⟨d1, rfl, d2⟩
      · rcases D2 with d3 | ⟨d3, d4⟩ | ⟨d3, rfl, d4⟩
        · go_wp2_with (go_at_call 7; go_must (refine (kpow _).mono ?_); rintro e wx ⟨rfl, hwx⟩; rw [hwx]; clear hwx wx)
          all_goals exact hQ.out _ _ ⟨by simp, cthen (cthen (cmore (cthen (cmore (cthen (cthen (cthen HB3.out HBA.out) HBC.out) HB10.out) _) HB11.out) _) HB12.out) HB13.out⟩
        · go_wp2_with (go_at_call 7; go_must (refine (kpow _).mono ?_); rintro e wx ⟨rfl, hwx⟩; rw [hwx]; clear hwx wx)
          all_goals exact hQ.out _ _ ⟨by simp, cthen (cthen (cmore (cthen (cmore (cthen (cthen (cthen HB3.out HBA.out) HBC.out) HB10.out) _) HB11.out) _) HB12.out) HB13.out⟩
        · go_wp2_with (go_at_call 7; go_must (refine (kpow _).mono ?_); rintro e wx ⟨rfl, hwx⟩; rw [hwx]; clear hwx wx)
          all_goals exact hQ.out _ _ ⟨by simp, cthen (cthen (cmore (cthen (cmore (cthen (cthen (cthen HB3.out HBA.out) HBC.out) HB10.out) _) HB11.out) _) HB12.out) HB13.out⟩
      · rcases D2 with d3 | ⟨d3, d4⟩ | ⟨d3, rfl, d4⟩
        · go_wp2_with (go_at_call 7; go_must (refine (kpow _).mono ?_); rintro e wx ⟨rfl, hwx⟩; rw [hwx]; clear hwx wx)
          all_goals exact hQ.out _ _ ⟨by simp, cthen (cthen (cmore (cthen (cmore (cthen (cthen (cthen HB3.out HBA.out) HBC.out) HB10.out) _) HB11.out) _) HB12.out) HB13.out⟩
        · go_wp2_with (go_at_call 7; go_must (refine (kpow _).mono ?_); rintro e wx ⟨rfl, hwx⟩; rw [hwx]; clear hwx wx)
          all_goals exact hQ.out _ _ ⟨by simp, cthen (cthen (cmore (cthen (cmore (cthen (cthen (cthen HB3.out HBA.out) HBC.out) HB10.out) _) HB11.out) _) HB12.out) HB13.out⟩
        · go_wp2_with (go_at_call 7; go_must (refine (kpow _).mono ?_); rintro e wx ⟨rfl, hwx⟩; rw [hwx]; clear hwx wx)
          all_goals exact hQ.out _ _ ⟨by simp, cthen (cthen (cmore (cthen (cmore (cthen (cthen (cthen HB3.out HBA.out) HBC.out) HB10.out) _) HB11.out) _) HB12.out) HB13.out⟩
      · rcases D2 with d3 | ⟨d3, d4⟩ | ⟨d3, rfl, d4⟩
        · go_wp2_with (go_at_call 7; go_must (refine (kpow _).mono ?_); rintro e wx ⟨rfl, hwx⟩; rw [hwx]; clear hwx wx)
          all_goals exact hQ.out _ _ ⟨by simp, cthen (cthen (cmore (cthen (cmore (cthen (cthen (cthen HB3.out HBA.out) HBC.out) HB10.out) _) HB11.out) _) HB12.out) HB13.out⟩
        · go_wp2_with (go_at_call 7; go_must (refine (kpow _).mono ?_); rintro e wx ⟨rfl, hwx⟩; rw [hwx]; clear hwx wx)
          all_goals exact hQ.out _ _ ⟨by simp, cthen (cthen (cmore (cthen (cmore (cthen (cthen (cthen HB3.out HBA.out) HBC.out) HB10.out) _) HB11.out) _) HB12.out) HB13.out⟩
        · go_wp2_with (go_at_call 7; go_must (refine (kpow _).mono ?_); rintro e wx ⟨rfl, hwx⟩; rw [hwx]; clear hwx wx)
          all_goals exact hQ.out _ _ ⟨by simp, cthen (cthen (cmore (cthen (cmore (cthen (cthen (cthen HB3.out HBA.out) HBC.out) HB10.out) _) HB11.out) _) HB12.out) HB13.out⟩
end Go.Proofs.Ytajlgpamcpgalab
