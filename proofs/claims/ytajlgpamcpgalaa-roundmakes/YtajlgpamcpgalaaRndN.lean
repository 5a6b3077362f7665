import Derived.Test.YtajlgpamcpgalaaRndM
namespace Go.Proofs.Ytajlgpamcpgalaa
open Go.ChangeShapes Go.WideShapes Go.ChangeAt Go.RowKit
set_option linter.unusedVariables false
set_option linter.unusedSimpArgs false
set_option maxRecDepth 100000

theorem exactly7_zero (neg : Bool) (v : Value) (exp : Int) (rest : Bool) (w : World) (hr : Row w v (dig 0)) :
    Calls Try.prog 29 #[.bool neg, v, .int .i64 exp, .bool rest] w fun e w' => e = .returned (exV 0 false 0 0 0 false) ∧ Below w.heap.size w w' := by
  have k1 := fun w hw => nbits_any v 0 (by rw [dlen_zero]; decide) w hw
  rw [blen_zero, show ((0 : Nat) : Int) = 0 from rfl] at k1
  have HR : Hid (Row w v (dig 0)) := hr
  clear hr
  refine cps fun Q hQ => ?_
  unfold exV at *
  go_enter Try.func29, Try.ntmps29
  go_wp2_with (first
    | (go_at_call 53; go_must (refine (k1 _ (HR.out.below (cmore (Below.refl _ _) _))).mono ?_); rintro e wx ⟨rfl, hwx⟩; rw [hwx]; clear hwx wx))
  refine bodyPost_ret (v := .agg #[.int .i64 0, .bool false, .int .i64 0, .int .u64 0, .int .u64 0, .bool false]) (by simp [results, Try.results29, go_sem]) rfl (hQ.out _ _ ⟨rfl, ?_⟩)
  exact cmore (Below.refl _ _) _
theorem exactly7_any (neg : Bool) (v : Value) (M : Nat) (exp : Int) (rest : Bool) (hb : blen M ≤ 1099511627776) (he : -1152921504606846976 ≤ exp ∧ exp ≤ 1152921504606846976) (w : World) (hr : Row w v (dig M)) :
    Calls Try.prog 29 #[.bool neg, v, .int .i64 exp, .bool rest] w fun e w' => e = .returned (exactV neg M exp rest) ∧ Below w.heap.size w w' := by
  by_cases h0 : M = 0
  · subst h0
    have := exactly7_zero neg v exp rest w hr
    unfold exactV
    rwa [if_pos rfl]
  · rcases Nat.lt_trichotomy (blen M) 128 with h | h | h
    · exact exactly7_lo neg v M exp rest h0 hb he h w hr
    · exact exactly7_mid neg v M exp rest h0 hb he h w hr
    · exact exactly7_hi neg v M exp rest h0 hb he h w hr
theorem exactV_form (neg : Bool) (M : Nat) (exp : Int) (rest : Bool) : ∃ k b s h l r, exactV neg M exp rest = exV k b s h l r := by
  unfold exactV
  split
  · exact ⟨_, _, _, _, _, _, rfl⟩
  · exact ⟨_, _, _, _, _, _, rfl⟩
/-! ### Makes -/
def farE (exp : Int) : Int := if exp < -1125899906842624 then -1125899906842624 else if exp > 1125899906842624 then 1125899906842624 else exp
theorem exactV_far (neg : Bool) (M : Nat) (exp : Int) (rest : Bool) (hM : M < 2 ^ 128) : exactV neg M (farE exp) rest = exactV neg M exp rest := by
  by_cases h0 : M = 0
  · unfold exactV; rw [if_pos h0, if_pos h0]
  · have h1 : blen M ≤ 128 := blen_le.2 hM
    unfold exactV
    rw [if_neg h0, if_neg h0]
    congr 1
    unfold heldX farE
    have hb2 : 0 ≤ ((blen M : Nat) : Int) ∧ ((blen M : Nat) : Int) ≤ 128 := by omega
    generalize ((blen M : Nat) : Int) = b at *
    repeat' split
    all_goals omega
theorem manX_lt {hi lo : Nat} (hh : hi < 2 ^ 64) (hl : lo < 2 ^ 64) : manX hi lo < 2 ^ 128 := by unfold manX; omega
theorem makes7_bad (neg : Bool) (hi lo : Nat) (exp : Int) (h : hi < 9223372036854775808) (w : World) :
    Calls Try.prog 11 #[.bool neg, .int .u64 hi, .int .u64 lo, .int .i64 exp, .bool true] w fun e w' => e = .returned (.tuple #[exV 0 false 0 0 0 false, .int .i64 1]) ∧ Below w.heap.size w w' := by
  have hd : decide (((hi : Nat) : Int) < 9223372036854775808) = true := decide_eq_true (by omega)
  refine cps fun Q hQ => ?_
  unfold exV at *
  go_enter Try.func11, Try.ntmps11
  go_wp2
  refine bodyPost_ret (v := .tuple #[.agg #[.int .i64 0, .bool false, .int .i64 0, .int .u64 0, .int .u64 0, .bool false], .int .i64 1]) (by simp [results, Try.results11, go_sem]) rfl (hQ.out _ _ ⟨rfl, ?_⟩)
  exact cmore (Below.refl _ _) _
theorem makes7_ok (neg : Bool) (hi lo : Nat) (exp : Int) (rest : Bool) (hh : hi < 2 ^ 64) (hl : lo < 2 ^ 64) (h : rest = false ∨ 9223372036854775808 ≤ hi) (w : World) :
    Calls Try.prog 11 #[.bool neg, .int .u64 hi, .int .u64 lo, .int .i64 exp, .bool rest] w fun e w' => e = .returned (.tuple #[exactV neg (manX hi lo) exp rest, .int .i64 0]) ∧ Below w.heap.size w w' := by
  have hM := manX_lt hh hl
  rw [← exactV_far neg _ exp rest hM]
  have hfb : -1125899906842624 ≤ farE exp ∧ farE exp ≤ 1125899906842624 := by unfold farE; split <;> (try split) <;> omega
  have k1 := of_any hi hh
  have k2 := fun v w hw => nshl_any v hi 64 (by decide) (dlen_mant (Nat.lt_of_lt_of_le hh (by decide))) w hw
  have k3 := of_any lo hl
  have k4 := fun va vb w ha hb => nadd_any va vb (hi * 2 ^ 64) lo (dlen_mant (by rw [show hi * 2 ^ 64 + lo = manX hi lo from rfl]; exact hM)) w ha hb
  have k5 := fun v w hw => exactly7_any neg v (manX hi lo) (farE exp) rest (Nat.le_trans (blen_le.2 hM) (by decide)) (by omega) w hw
  obtain ⟨kk, bb, ss, xh, xl, xr, hx⟩ := exactV_form neg (manX hi lo) (farE exp) rest
  rw [hx] at k5
  rw [hx]
  have HMAN : Hid (manX hi lo = hi * 2 ^ 64 + lo) := rfl
  have hd : rest = false ∨ decide (((hi : Nat) : Int) < 9223372036854775808) = false := by
    rcases h with h | h
    · exact .inl h
    · exact .inr (decide_eq_false (by omega))
  have HD : Hid _ := hd
  have hfar : farE exp = if exp < -1125899906842624 then -1125899906842624 else if exp > 1125899906842624 then 1125899906842624 else exp := rfl
  clear h hd hx hM hh hl hfb
  generalize manX hi lo = M at *
  unfold exV at *
  have all : Hid (rest = false ∨ decide (((hi : Nat) : Int) < 9223372036854775808) = false) := HD
  clear HD
  refine cps fun Q hQ => ?_
  cases rest
  · skip
    rcases Int.lt_or_le exp (-1125899906842624) with c1 | c1
    · rw [if_pos c1] at hfar
      rw [hfar] at k5
      have e1 : decide (exp < -1125899906842624) = true := decide_eq_true c1
      clear c1 hfar
      go_enter Try.func11, Try.ntmps11
      go_wp2_with (first
        | (go_at_call_of 28 lo; go_must (refine (k3 _).mono ?_); rintro e w3 ⟨v3, rfl, hr3, hb3⟩; have R3 := (hb3.block w.heap.size z2).trans HR2.out; have z3 : w.heap.size < w3.heap.size := (Nat.lt_of_lt_of_le z2 hb3.size); have HRa : Hid (Row w3 v2 _) := hra.below hb3; have HRb : Hid (Row w3 v3 _) := hr3; have HB3 : Hid (Below _ _ _) := hb3; have HR3 : Hid _ := R3; clear R3 hb3 hr3)
        | (go_at_call 28; go_must (refine (k1 _).mono ?_); rintro e w1 ⟨v1, rfl, hr1, hb1⟩; have R1 := (hb1.block w.heap.size (by simp)).trans (rownew' _ _ _ _ (by simp)); have z1 : w.heap.size < w1.heap.size := (by have := hb1.size; simp at this; omega); have HB1 : Hid (Below _ _ _) := hb1; have HR1 : Hid _ := R1; clear R1 hb1)
        | (go_at_call 27; go_must (refine (k2 v1 _ hr1).mono ?_); rintro e w2 ⟨v2, rfl, hra, hb2⟩; have R2 := (hb2.block w.heap.size z1).trans HR1.out; have z2 : w.heap.size < w2.heap.size := (Nat.lt_of_lt_of_le z1 hb2.size); have HB2 : Hid (Below _ _ _) := hb2; have HR2 : Hid _ := R2; clear R2 hb2)
        | (go_at_call 26; go_must (refine (k4 v2 v3 _ HRa.out HRb.out).mono ?_); rintro e w4 ⟨v4, rfl, hr4, hb4⟩; rw [← HMAN.out] at hr4; have R4 := (hb4.block w.heap.size z3).trans HR3.out; have z4 : w.heap.size < w4.heap.size := (Nat.lt_of_lt_of_le z3 hb4.size); have HB4 : Hid (Below _ _ _) := hb4; have HR4 : Hid _ := R4; clear R4 hb4)
        | (go_at_call 29; go_must (refine (k5 v4 _ hr4).mono ?_); rintro e w5 ⟨rfl, hb5⟩; have R5 := (hb5.block w.heap.size z4).trans HR4.out; have c0 := rowcell R5 0; have c1 := rowcell R5 1; have c2 := rowcell R5 2; have c3 := rowcell R5 3; have c4 := rowcell R5 4; have c5 := rowcell R5 5; have cf := rowfree R5; simp only [List.getElem?_toArray, List.getElem?_cons_zero, List.getElem?_cons_succ] at c0 c1 c2 c3 c4 c5; have HB5 : Hid (Below _ _ _) := hb5; clear R5 hb5))
      refine bodyPost_ret (v := .tuple #[.agg #[.int .i64 kk, .bool bb, .int .i64 ss, .int .u64 xh, .int .u64 xl, .bool xr], .int .i64 0]) (by simp [results, Try.results11, go_sem, c0, c1, c2, c3, c4, c5, cf]) rfl (hQ.out _ _ ⟨rfl, ?_⟩)
      exact cset6 (cthen (cthen (cthen (cthen (cthen (cmore (Below.refl _ _) _) HB1.out) HB2.out) HB3.out) HB4.out) HB5.out) (Nat.le_refl _)
    · rw [if_neg (by omega)] at hfar
      have e1 : decide (exp < -1125899906842624) = false := decide_eq_false (by omega)
      rcases Int.lt_or_le 1125899906842624 exp with c2 | c2
      · rw [if_pos c2] at hfar
        rw [hfar] at k5
        have e2 : decide ((1125899906842624 : Int) < exp) = true := decide_eq_true c2
        clear c1 c2 hfar
        go_enter Try.func11, Try.ntmps11
        go_wp2_with (first
          | (go_at_call_of 28 lo; go_must (refine (k3 _).mono ?_); rintro e w3 ⟨v3, rfl, hr3, hb3⟩; have R3 := (hb3.block w.heap.size z2).trans HR2.out; have z3 : w.heap.size < w3.heap.size := (Nat.lt_of_lt_of_le z2 hb3.size); have HRa : Hid (Row w3 v2 _) := hra.below hb3; have HRb : Hid (Row w3 v3 _) := hr3; have HB3 : Hid (Below _ _ _) := hb3; have HR3 : Hid _ := R3; clear R3 hb3 hr3)
          | (go_at_call 28; go_must (refine (k1 _).mono ?_); rintro e w1 ⟨v1, rfl, hr1, hb1⟩; have R1 := (hb1.block w.heap.size (by simp)).trans (rownew' _ _ _ _ (by simp)); have z1 : w.heap.size < w1.heap.size := (by have := hb1.size; simp at this; omega); have HB1 : Hid (Below _ _ _) := hb1; have HR1 : Hid _ := R1; clear R1 hb1)
          | (go_at_call 27; go_must (refine (k2 v1 _ hr1).mono ?_); rintro e w2 ⟨v2, rfl, hra, hb2⟩; have R2 := (hb2.block w.heap.size z1).trans HR1.out; have z2 : w.heap.size < w2.heap.size := (Nat.lt_of_lt_of_le z1 hb2.size); have HB2 : Hid (Below _ _ _) := hb2; have HR2 : Hid _ := R2; clear R2 hb2)
          | (go_at_call 26; go_must (refine (k4 v2 v3 _ HRa.out HRb.out).mono ?_); rintro e w4 ⟨v4, rfl, hr4, hb4⟩; rw [← HMAN.out] at hr4; have R4 := (hb4.block w.heap.size z3).trans HR3.out; have z4 : w.heap.size < w4.heap.size := (Nat.lt_of_lt_of_le z3 hb4.size); have HB4 : Hid (Below _ _ _) := hb4; have HR4 : Hid _ := R4; clear R4 hb4)
          | (go_at_call 29; go_must (refine (k5 v4 _ hr4).mono ?_); rintro e w5 ⟨rfl, hb5⟩; have R5 := (hb5.block w.heap.size z4).trans HR4.out; have c0 := rowcell R5 0; have c1 := rowcell R5 1; have c2 := rowcell R5 2; have c3 := rowcell R5 3; have c4 := rowcell R5 4; have c5 := rowcell R5 5; have cf := rowfree R5; simp only [List.getElem?_toArray, List.getElem?_cons_zero, List.getElem?_cons_succ] at c0 c1 c2 c3 c4 c5; have HB5 : Hid (Below _ _ _) := hb5; clear R5 hb5))
        refine bodyPost_ret (v := .tuple #[.agg #[.int .i64 kk, .bool bb, .int .i64 ss, .int .u64 xh, .int .u64 xl, .bool xr], .int .i64 0]) (by simp [results, Try.results11, go_sem, c0, c1, c2, c3, c4, c5, cf]) rfl (hQ.out _ _ ⟨rfl, ?_⟩)
        exact cset6 (cthen (cthen (cthen (cthen (cthen (cmore (Below.refl _ _) _) HB1.out) HB2.out) HB3.out) HB4.out) HB5.out) (Nat.le_refl _)
      · rw [if_neg (by omega)] at hfar
        rw [hfar] at k5
        have e2 : decide ((1125899906842624 : Int) < exp) = false := decide_eq_false (by omega)
        clear c1 c2 hfar
        go_enter Try.func11, Try.ntmps11
        go_wp2_with (first
          | (go_at_call_of 28 lo; go_must (refine (k3 _).mono ?_); rintro e w3 ⟨v3, rfl, hr3, hb3⟩; have R3 := (hb3.block w.heap.size z2).trans HR2.out; have z3 : w.heap.size < w3.heap.size := (Nat.lt_of_lt_of_le z2 hb3.size); have HRa : Hid (Row w3 v2 _) := hra.below hb3; have HRb : Hid (Row w3 v3 _) := hr3; have HB3 : Hid (Below _ _ _) := hb3; have HR3 : Hid _ := R3; clear R3 hb3 hr3)
          | (go_at_call 28; go_must (refine (k1 _).mono ?_); rintro e w1 ⟨v1, rfl, hr1, hb1⟩; have R1 := (hb1.block w.heap.size (by simp)).trans (rownew' _ _ _ _ (by simp)); have z1 : w.heap.size < w1.heap.size := (by have := hb1.size; simp at this; omega); have HB1 : Hid (Below _ _ _) := hb1; have HR1 : Hid _ := R1; clear R1 hb1)
          | (go_at_call 27; go_must (refine (k2 v1 _ hr1).mono ?_); rintro e w2 ⟨v2, rfl, hra, hb2⟩; have R2 := (hb2.block w.heap.size z1).trans HR1.out; have z2 : w.heap.size < w2.heap.size := (Nat.lt_of_lt_of_le z1 hb2.size); have HB2 : Hid (Below _ _ _) := hb2; have HR2 : Hid _ := R2; clear R2 hb2)
          | (go_at_call 26; go_must (refine (k4 v2 v3 _ HRa.out HRb.out).mono ?_); rintro e w4 ⟨v4, rfl, hr4, hb4⟩; rw [← HMAN.out] at hr4; have R4 := (hb4.block w.heap.size z3).trans HR3.out; have z4 : w.heap.size < w4.heap.size := (Nat.lt_of_lt_of_le z3 hb4.size); have HB4 : Hid (Below _ _ _) := hb4; have HR4 : Hid _ := R4; clear R4 hb4)
          | (go_at_call 29; go_must (refine (k5 v4 _ hr4).mono ?_); rintro e w5 ⟨rfl, hb5⟩; have R5 := (hb5.block w.heap.size z4).trans HR4.out; have c0 := rowcell R5 0; have c1 := rowcell R5 1; have c2 := rowcell R5 2; have c3 := rowcell R5 3; have c4 := rowcell R5 4; have c5 := rowcell R5 5; have cf := rowfree R5; simp only [List.getElem?_toArray, List.getElem?_cons_zero, List.getElem?_cons_succ] at c0 c1 c2 c3 c4 c5; have HB5 : Hid (Below _ _ _) := hb5; clear R5 hb5))
        refine bodyPost_ret (v := .tuple #[.agg #[.int .i64 kk, .bool bb, .int .i64 ss, .int .u64 xh, .int .u64 xl, .bool xr], .int .i64 0]) (by simp [results, Try.results11, go_sem, c0, c1, c2, c3, c4, c5, cf]) rfl (hQ.out _ _ ⟨rfl, ?_⟩)
        exact cset6 (cthen (cthen (cthen (cthen (cthen (cmore (Below.refl _ _) _) HB1.out) HB2.out) HB3.out) HB4.out) HB5.out) (Nat.le_refl _)
  · have hd2 : decide (((hi : Nat) : Int) < 9223372036854775808) = false := by
      rcases all.out with h | h
      · cases h
      · exact h
    rcases Int.lt_or_le exp (-1125899906842624) with c1 | c1
    · rw [if_pos c1] at hfar
      rw [hfar] at k5
      have e1 : decide (exp < -1125899906842624) = true := decide_eq_true c1
      clear c1 hfar
      go_enter Try.func11, Try.ntmps11
      go_wp2_with (first
        | (go_at_call_of 28 lo; go_must (refine (k3 _).mono ?_); rintro e w3 ⟨v3, rfl, hr3, hb3⟩; have R3 := (hb3.block w.heap.size z2).trans HR2.out; have z3 : w.heap.size < w3.heap.size := (Nat.lt_of_lt_of_le z2 hb3.size); have HRa : Hid (Row w3 v2 _) := hra.below hb3; have HRb : Hid (Row w3 v3 _) := hr3; have HB3 : Hid (Below _ _ _) := hb3; have HR3 : Hid _ := R3; clear R3 hb3 hr3)
        | (go_at_call 28; go_must (refine (k1 _).mono ?_); rintro e w1 ⟨v1, rfl, hr1, hb1⟩; have R1 := (hb1.block w.heap.size (by simp)).trans (rownew' _ _ _ _ (by simp)); have z1 : w.heap.size < w1.heap.size := (by have := hb1.size; simp at this; omega); have HB1 : Hid (Below _ _ _) := hb1; have HR1 : Hid _ := R1; clear R1 hb1)
        | (go_at_call 27; go_must (refine (k2 v1 _ hr1).mono ?_); rintro e w2 ⟨v2, rfl, hra, hb2⟩; have R2 := (hb2.block w.heap.size z1).trans HR1.out; have z2 : w.heap.size < w2.heap.size := (Nat.lt_of_lt_of_le z1 hb2.size); have HB2 : Hid (Below _ _ _) := hb2; have HR2 : Hid _ := R2; clear R2 hb2)
        | (go_at_call 26; go_must (refine (k4 v2 v3 _ HRa.out HRb.out).mono ?_); rintro e w4 ⟨v4, rfl, hr4, hb4⟩; rw [← HMAN.out] at hr4; have R4 := (hb4.block w.heap.size z3).trans HR3.out; have z4 : w.heap.size < w4.heap.size := (Nat.lt_of_lt_of_le z3 hb4.size); have HB4 : Hid (Below _ _ _) := hb4; have HR4 : Hid _ := R4; clear R4 hb4)
        | (go_at_call 29; go_must (refine (k5 v4 _ hr4).mono ?_); rintro e w5 ⟨rfl, hb5⟩; have R5 := (hb5.block w.heap.size z4).trans HR4.out; have c0 := rowcell R5 0; have c1 := rowcell R5 1; have c2 := rowcell R5 2; have c3 := rowcell R5 3; have c4 := rowcell R5 4; have c5 := rowcell R5 5; have cf := rowfree R5; simp only [List.getElem?_toArray, List.getElem?_cons_zero, List.getElem?_cons_succ] at c0 c1 c2 c3 c4 c5; have HB5 : Hid (Below _ _ _) := hb5; clear R5 hb5))
      refine bodyPost_ret (v := .tuple #[.agg #[.int .i64 kk, .bool bb, .int .i64 ss, .int .u64 xh, .int .u64 xl, .bool xr], .int .i64 0]) (by simp [results, Try.results11, go_sem, c0, c1, c2, c3, c4, c5, cf]) rfl (hQ.out _ _ ⟨rfl, ?_⟩)
      exact cset6 (cthen (cthen (cthen (cthen (cthen (cmore (Below.refl _ _) _) HB1.out) HB2.out) HB3.out) HB4.out) HB5.out) (Nat.le_refl _)
    · rw [if_neg (by omega)] at hfar
      have e1 : decide (exp < -1125899906842624) = false := decide_eq_false (by omega)
      rcases Int.lt_or_le 1125899906842624 exp with c2 | c2
      · rw [if_pos c2] at hfar
        rw [hfar] at k5
        have e2 : decide ((1125899906842624 : Int) < exp) = true := decide_eq_true c2
        clear c1 c2 hfar
        go_enter Try.func11, Try.ntmps11
        go_wp2_with (first
          | (go_at_call_of 28 lo; go_must (refine (k3 _).mono ?_); rintro e w3 ⟨v3, rfl, hr3, hb3⟩; have R3 := (hb3.block w.heap.size z2).trans HR2.out; have z3 : w.heap.size < w3.heap.size := (Nat.lt_of_lt_of_le z2 hb3.size); have HRa : Hid (Row w3 v2 _) := hra.below hb3; have HRb : Hid (Row w3 v3 _) := hr3; have HB3 : Hid (Below _ _ _) := hb3; have HR3 : Hid _ := R3; clear R3 hb3 hr3)
          | (go_at_call 28; go_must (refine (k1 _).mono ?_); rintro e w1 ⟨v1, rfl, hr1, hb1⟩; have R1 := (hb1.block w.heap.size (by simp)).trans (rownew' _ _ _ _ (by simp)); have z1 : w.heap.size < w1.heap.size := (by have := hb1.size; simp at this; omega); have HB1 : Hid (Below _ _ _) := hb1; have HR1 : Hid _ := R1; clear R1 hb1)
          | (go_at_call 27; go_must (refine (k2 v1 _ hr1).mono ?_); rintro e w2 ⟨v2, rfl, hra, hb2⟩; have R2 := (hb2.block w.heap.size z1).trans HR1.out; have z2 : w.heap.size < w2.heap.size := (Nat.lt_of_lt_of_le z1 hb2.size); have HB2 : Hid (Below _ _ _) := hb2; have HR2 : Hid _ := R2; clear R2 hb2)
          | (go_at_call 26; go_must (refine (k4 v2 v3 _ HRa.out HRb.out).mono ?_); rintro e w4 ⟨v4, rfl, hr4, hb4⟩; rw [← HMAN.out] at hr4; have R4 := (hb4.block w.heap.size z3).trans HR3.out; have z4 : w.heap.size < w4.heap.size := (Nat.lt_of_lt_of_le z3 hb4.size); have HB4 : Hid (Below _ _ _) := hb4; have HR4 : Hid _ := R4; clear R4 hb4)
          | (go_at_call 29; go_must (refine (k5 v4 _ hr4).mono ?_); rintro e w5 ⟨rfl, hb5⟩; have R5 := (hb5.block w.heap.size z4).trans HR4.out; have c0 := rowcell R5 0; have c1 := rowcell R5 1; have c2 := rowcell R5 2; have c3 := rowcell R5 3; have c4 := rowcell R5 4; have c5 := rowcell R5 5; have cf := rowfree R5; simp only [List.getElem?_toArray, List.getElem?_cons_zero, List.getElem?_cons_succ] at c0 c1 c2 c3 c4 c5; have HB5 : Hid (Below _ _ _) := hb5; clear R5 hb5))
        refine bodyPost_ret (v := .tuple #[.agg #[.int .i64 kk, .bool bb, .int .i64 ss, .int .u64 xh, .int .u64 xl, .bool xr], .int .i64 0]) (by simp [results, Try.results11, go_sem, c0, c1, c2, c3, c4, c5, cf]) rfl (hQ.out _ _ ⟨rfl, ?_⟩)
        exact cset6 (cthen (cthen (cthen (cthen (cthen (cmore (Below.refl _ _) _) HB1.out) HB2.out) HB3.out) HB4.out) HB5.out) (Nat.le_refl _)
      · rw [if_neg (by omega)] at hfar
        rw [hfar] at k5
        have e2 : decide ((1125899906842624 : Int) < exp) = false := decide_eq_false (by omega)
        clear c1 c2 hfar
        go_enter Try.func11, Try.ntmps11
        go_wp2_with (first
          | (go_at_call_of 28 lo; go_must (refine (k3 _).mono ?_); rintro e w3 ⟨v3, rfl, hr3, hb3⟩; have R3 := (hb3.block w.heap.size z2).trans HR2.out; have z3 : w.heap.size < w3.heap.size := (Nat.lt_of_lt_of_le z2 hb3.size); have HRa : Hid (Row w3 v2 _) := hra.below hb3; have HRb : Hid (Row w3 v3 _) := hr3; have HB3 : Hid (Below _ _ _) := hb3; have HR3 : Hid _ := R3; clear R3 hb3 hr3)
          | (go_at_call 28; go_must (refine (k1 _).mono ?_); rintro e w1 ⟨v1, rfl, hr1, hb1⟩; have R1 := (hb1.block w.heap.size (by simp)).trans (rownew' _ _ _ _ (by simp)); have z1 : w.heap.size < w1.heap.size := (by have := hb1.size; simp at this; omega); have HB1 : Hid (Below _ _ _) := hb1; have HR1 : Hid _ := R1; clear R1 hb1)
          | (go_at_call 27; go_must (refine (k2 v1 _ hr1).mono ?_); rintro e w2 ⟨v2, rfl, hra, hb2⟩; have R2 := (hb2.block w.heap.size z1).trans HR1.out; have z2 : w.heap.size < w2.heap.size := (Nat.lt_of_lt_of_le z1 hb2.size); have HB2 : Hid (Below _ _ _) := hb2; have HR2 : Hid _ := R2; clear R2 hb2)
          | (go_at_call 26; go_must (refine (k4 v2 v3 _ HRa.out HRb.out).mono ?_); rintro e w4 ⟨v4, rfl, hr4, hb4⟩; rw [← HMAN.out] at hr4; have R4 := (hb4.block w.heap.size z3).trans HR3.out; have z4 : w.heap.size < w4.heap.size := (Nat.lt_of_lt_of_le z3 hb4.size); have HB4 : Hid (Below _ _ _) := hb4; have HR4 : Hid _ := R4; clear R4 hb4)
          | (go_at_call 29; go_must (refine (k5 v4 _ hr4).mono ?_); rintro e w5 ⟨rfl, hb5⟩; have R5 := (hb5.block w.heap.size z4).trans HR4.out; have c0 := rowcell R5 0; have c1 := rowcell R5 1; have c2 := rowcell R5 2; have c3 := rowcell R5 3; have c4 := rowcell R5 4; have c5 := rowcell R5 5; have cf := rowfree R5; simp only [List.getElem?_toArray, List.getElem?_cons_zero, List.getElem?_cons_succ] at c0 c1 c2 c3 c4 c5; have HB5 : Hid (Below _ _ _) := hb5; clear R5 hb5))
        refine bodyPost_ret (v := .tuple #[.agg #[.int .i64 kk, .bool bb, .int .i64 ss, .int .u64 xh, .int .u64 xl, .bool xr], .int .i64 0]) (by simp [results, Try.results11, go_sem, c0, c1, c2, c3, c4, c5, cf]) rfl (hQ.out _ _ ⟨rfl, ?_⟩)
        exact cset6 (cthen (cthen (cthen (cthen (cthen (cmore (Below.refl _ _) _) HB1.out) HB2.out) HB3.out) HB4.out) HB5.out) (Nat.le_refl _)
end Go.Proofs.Ytajlgpamcpgalaa
