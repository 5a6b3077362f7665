import Derived.Test.YthbhcdokjlpjbaaCodJ
namespace Go.Proofs.Ythbhcdokjlpjbaa
open Go.ChangeShapes Go.WideShapes Go.ChangeAt Go.RowKit
set_option linter.unusedVariables false
set_option linter.unusedSimpArgs false
set_option maxRecDepth 100000

/-! ### Join -/
theorem join6_no (n : Int) (neg ones : Bool) (run reg eb ex fb : Int) (fr : Nat) (hn : isW n = false) (w : World) :
    Calls Try.prog 14 #[.int .i64 n, fdI neg ones run reg eb ex fb fr] w fun e w' => e = .returned (.tuple #[.int .u64 0, .int .i64 2]) ∧ Below w.heap.size w w' := by
  have k1 := is_width n
  rw [hn] at k1
  unfold fdI
  clear hn
  refine cps fun Q hQ => ?_
  go_enter Try.func14, Try.ntmps14
  go_wp2_with (go_at_call 19; refine (k1 _).mono ?_; rintro e w1 ⟨rfl, hw⟩; rw [hw]; clear hw w1)
  exact hQ.out _ _ ⟨rfl, cmore (Below.refl _ _) _⟩
/-- the seven parts beside the sign -/
def isParts (t : List Bool) (ones : Bool) (run reg eb ex fb : Int) (fr : Nat) : Prop :=
  ones = onesL t ∧ run = runL t ∧ reg = regL t ∧ eb = (min (restL t).length 2 : Nat) ∧ ex = expL t ∧ fb = ((restL t).length - 2 : Nat) ∧ fr = fracL t
set_option maxHeartbeats 2000000 in
theorem join6_yes (n : Nat) (neg : Bool) (t : List Bool) (hn : Wd n) (hl : t.length = n - 1) (ht : true ∈ t) (w : World) :
    Calls Try.prog 14 #[.int .i64 n, fdV neg t] w fun e w' => e = .returned (.tuple #[.int .u64 (patOf n neg t : Nat), .int .i64 0]) ∧ Below w.heap.size w w' := by
  have k1 := is_width n
  rw [isW_of hn] at k1
  have hw := wd_le hn
  have hne : t ≠ [] := by rintro rfl; cases ht
  obtain ⟨z, hz⟩ := written_parts t hne (by omega)
  have k2 := written6_any neg (onesL t) (runL t) (regL t) (min (restL t).length 2 : Nat) (expL t) ((restL t).length - 2 : Nat) (fracL t)
  rw [hz] at k2
  obtain ⟨p1, p2, p3, p4⟩ := patOf_facts n hn neg t hl ht
  have p1' : patOf n neg t < 2 ^ 64 := Nat.lt_of_lt_of_le p1 (Nat.pow_le_pow_right (by decide) hw.2)
  have k3 := split6_real n _ hn p1' p2
  rw [p3, p4] at k3
  have hnum : numOf t < 2 ^ 64 := Nat.lt_of_lt_of_le (numOf_lt _) (Nat.pow_le_pow_right (by decide) (by omega))
  have k4 := neg6_any n (numOf t) hn hnum
  have hpn := pat_neg n hn neg t hl ht hnum
  have hrun : ((runL t : Nat) : Int) ≠ 0 := by
    cases t with
    | nil => exact absurd rfl hne
    | cons b t => rw [runL]; omega
  have hzl := writtenL_length (onesL t) (runL t) (min (restL t).length 2 : Nat) (expL t) ((restL t).length - 2 : Nat) (fracL t)
  rw [hz, List.length_append, hl] at hzl
  unfold fdV at *
  unfold fdI at k2
  have HL : Hid (t.length = n - 1) := hl
  clear hn p1 p2 p3 p4 p1' hz ht hne hl
  obtain ⟨P, hP⟩ : ∃ P, P = numOf t := ⟨_, rfl⟩
  rw [← hP] at k4 hpn hnum
  have HP : Hid (P = numOf t) := hP
  clear hP
  generalize patOf n neg t = pp at *
  generalize onesL t = o at *
  generalize ((runL t : Nat) : Int) = r at *
  generalize regL t = reg at *
  generalize ((min (restL t).length 2 : Nat) : Int) = eb at *
  generalize ((expL t : Nat) : Int) = ex at *
  generalize (((restL t).length - 2 : Nat) : Int) = fb at *
  generalize fracL t = fr at *
  refine cps fun Q hQ => ?_
  have hd : (r == 0) = false := beq_eq_false_iff_ne.2 hrun
  have HQ0 : Hid (r ≠ 0) := hrun
  clear hrun
  cases neg
  · have hpn2 : P = pp := hpn
    subst hpn2
    clear hpn
    go_enter Try.func14, Try.ntmps14
    go_wp2_with (first
      | (go_at_call 19; refine (k1 _).mono ?_; rintro e w1 ⟨rfl, hw⟩; rw [hw]; clear hw w1)
      | (go_at_call 35; refine (k2 _).mono ?_; rintro e w2 ⟨s, rfl, hs, hb2⟩; have hsz := isBits_size hs; rw [List.length_append, HL.out] at hsz; have R0 := (hb2.block w.heap.size (by simp)).trans (rownew w _ _); have B2 := cthen (cmore (Below.refl _ _) _) hb2; have z1 : w.heap.size < w2.heap.size := (by have := hb2.size; simp at this; omega); have HS : Hid _ := hs; have n2 := rowcell R0 2; have n0 := rowcell R0 0; simp only [List.getElem?_toArray, List.getElem?_cons_zero, List.getElem?_cons_succ] at n0 n2; clear hs hb2))
    have hi4 : IsBits (s.extract 0 (n - 1)) t := by
      have := isBits_extract HS.out 0 (n - 1)
      rw [List.drop_zero, List.take_append_of_le_length (by rw [HL.out]; omega), List.take_of_length_le (by rw [HL.out]; omega)] at this
      exact this
    have k7 := number_any _ t hi4 (by rw [HL.out]; omega)
    rw [← HP.out] at k7
    have k8 : ∀ w, Calls Try.prog 31 #[.string (s.extract 0 (n - 1))] w fun e w' => e = .returned (.int .u64 P) ∧ w' = w := k7
    clear k7 hi4 k1 k2
    refine (k8 _).mono ?_
    rintro e w3 ⟨rfl, hw3⟩
    rw [hw3]
    clear hw3 w3 k8
    go_wp2_with (first
      | (go_at_call 11; refine (k3 _).mono ?_; rintro e w5 ⟨rfl, hb5⟩; have R5 := (hb5.block w.heap.size z1).trans R0; have b0 := rowcell R5 0; have b1 := rowcell R5 1; have b2 := rowcell R5 2; have b3 := rowcell R5 3; have b4 := rowcell R5 4; have b5 := rowcell R5 5; have b6 := rowcell R5 6; have b7 := rowcell R5 7; have bf := rowfree R5; simp only [List.getElem?_toArray, List.getElem?_cons_zero, List.getElem?_cons_succ] at b0 b1 b2 b3 b4 b5 b6 b7; have z5 : w.heap.size < w5.heap.size := (Nat.lt_of_lt_of_le z1 hb5.size); have hne1 : ¬ w.heap.size = w5.heap.size := (by omega); have hne2 : ¬ w5.heap.size = w.heap.size := (by omega); have HB5 : Hid (Below _ _ _) := cthen (B2) hb5; clear hb5 R5))
    exact hQ.out _ _ ⟨rfl, cmore HB5.out _⟩
  · have hpn2 : minusU P % 2 ^ n = pp := hpn
    rw [hpn2] at k4
    clear hpn hpn2
    go_enter Try.func14, Try.ntmps14
    go_wp2_with (first
      | (go_at_call 19; refine (k1 _).mono ?_; rintro e w1 ⟨rfl, hw⟩; rw [hw]; clear hw w1)
      | (go_at_call 35; refine (k2 _).mono ?_; rintro e w2 ⟨s, rfl, hs, hb2⟩; have hsz := isBits_size hs; rw [List.length_append, HL.out] at hsz; have R0 := (hb2.block w.heap.size (by simp)).trans (rownew w _ _); have B2 := cthen (cmore (Below.refl _ _) _) hb2; have z1 : w.heap.size < w2.heap.size := (by have := hb2.size; simp at this; omega); have HS : Hid _ := hs; have n2 := rowcell R0 2; have n0 := rowcell R0 0; simp only [List.getElem?_toArray, List.getElem?_cons_zero, List.getElem?_cons_succ] at n0 n2; clear hs hb2))
    have hi4 : IsBits (s.extract 0 (n - 1)) t := by
      have := isBits_extract HS.out 0 (n - 1)
      rw [List.drop_zero, List.take_append_of_le_length (by rw [HL.out]; omega), List.take_of_length_le (by rw [HL.out]; omega)] at this
      exact this
    have k7 := number_any _ t hi4 (by rw [HL.out]; omega)
    rw [← HP.out] at k7
    have k8 : ∀ w, Calls Try.prog 31 #[.string (s.extract 0 (n - 1))] w fun e w' => e = .returned (.int .u64 P) ∧ w' = w := k7
    clear k7 hi4 k1 k2
    refine (k8 _).mono ?_
    rintro e w3 ⟨rfl, hw3⟩
    rw [hw3]
    clear hw3 w3 k8
    go_wp2_with (first
      | (go_at_call 36; refine (k4 _).mono ?_; rintro e w4 ⟨rfl, hb4⟩; have HB4 : Hid (Below _ _ _) := hb4; clear hb4)
      | (go_at_call 11; refine (k3 _).mono ?_; rintro e w5 ⟨rfl, hb5⟩; have R5 := (hb5.block w.heap.size (Nat.lt_of_lt_of_le z1 HB4.out.size)).trans ((HB4.out.block _ z1).trans R0); have b0 := rowcell R5 0; have b1 := rowcell R5 1; have b2 := rowcell R5 2; have b3 := rowcell R5 3; have b4 := rowcell R5 4; have b5 := rowcell R5 5; have b6 := rowcell R5 6; have b7 := rowcell R5 7; have bf := rowfree R5; simp only [List.getElem?_toArray, List.getElem?_cons_zero, List.getElem?_cons_succ] at b0 b1 b2 b3 b4 b5 b6 b7; have z5 : w.heap.size < w5.heap.size := (Nat.lt_of_lt_of_le (Nat.lt_of_lt_of_le z1 HB4.out.size) hb5.size); have hne1 : ¬ w.heap.size = w5.heap.size := (by omega); have hne2 : ¬ w5.heap.size = w.heap.size := (by omega); have HB5 : Hid (Below _ _ _) := cthen (cthen B2 HB4.out) hb5; clear hb5 R5))
    exact hQ.out _ _ ⟨rfl, cmore HB5.out _⟩
set_option maxHeartbeats 4000000 in
theorem join6_bad (n : Nat) (neg ones : Bool) (run reg eb ex fb : Int) (fr : Nat) (hn : Wd n) (hbad : ∀ t, t.length = n - 1 → true ∈ t → ¬ isParts t ones run reg eb ex fb fr) (w : World) :
    Calls Try.prog 14 #[.int .i64 n, fdI neg ones run reg eb ex fb fr] w fun e w' => e = .returned (.tuple #[.int .u64 0, .int .i64 23]) ∧ Below w.heap.size w w' := by
  have k1 := is_width n
  rw [isW_of hn] at k1
  have hw := wd_le hn
  have k2 := written6_any neg ones run reg eb ex fb fr
  have hLb := writtenL_length ones run eb ex fb fr
  unfold fdI at *
  obtain ⟨L, hL⟩ : ∃ L, L = writtenL ones run eb ex fb fr := ⟨_, rfl⟩
  rw [← hL] at k2 hLb
  clear hL
  obtain ⟨N, hN⟩ : ∃ N, N = L.length := ⟨_, rfl⟩
  have HLN : Hid (N = L.length) := hN
  rw [← hN] at hLb
  by_cases hlen : N < n - 1
  · clear hN
    have hd : decide ((N : Int) < (n : Int) - 1) = true := decide_eq_true (by omega)
    refine cps fun Q hQ => ?_
    go_enter Try.func14, Try.ntmps14
    go_wp2_with (first
      | (go_at_call 19; refine (k1 _).mono ?_; rintro e w1 ⟨rfl, hw⟩; rw [hw]; clear hw w1)
      | (go_at_call 35; refine (k2 _).mono ?_; rintro e w2 ⟨s, rfl, hs, hb2⟩; have hsz := isBits_size hs; rw [← HLN.out] at hsz; have B2 := cthen (cmore (Below.refl _ _) _) hb2; clear hs hb2))
    exact hQ.out _ _ ⟨rfl, B2⟩
  · obtain ⟨t, hte⟩ : ∃ t, t = L.take (n - 1) := ⟨_, rfl⟩
    have hl : t.length = n - 1 := by rw [hte, List.length_take]; omega
    have hnum : numOf t < 2 ^ 64 := Nat.lt_of_lt_of_le (numOf_lt _) (Nat.pow_le_pow_right (by decide) (by omega))
    have k4 := neg6_any n (numOf t) hn hnum
    have HT : Hid (t = L.take (n - 1)) := hte
    have HL : Hid (t.length = n - 1) := hl
    by_cases ht : true ∈ t
    · have hb := hbad t hl ht
      obtain ⟨p1, p2, p3, p4⟩ := patOf_facts n hn neg t hl ht
      have p1' : patOf n neg t < 2 ^ 64 := Nat.lt_of_lt_of_le p1 (Nat.pow_le_pow_right (by decide) hw.2)
      have k3 := split6_real n _ hn p1' p2
      rw [p3, p4] at k3
      have hpn := pat_neg n hn neg t hl ht hnum
      unfold isParts at hb
      unfold fdV at k3
      clear hbad hn p1 p2 p3 p4 p1' ht hl hte hN
      obtain ⟨P, hP⟩ : ∃ P, P = numOf t := ⟨_, rfl⟩
      rw [← hP] at k4 hpn hnum
      have HP : Hid (P = numOf t) := hP
      clear hP
      generalize patOf n neg t = pp at *
      generalize onesL t = o' at *
      generalize ((runL t : Nat) : Int) = r' at *
      generalize regL t = reg' at *
      generalize ((min (restL t).length 2 : Nat) : Int) = eb' at *
      generalize ((expL t : Nat) : Int) = ex' at *
      generalize (((restL t).length - 2 : Nat) : Int) = fb' at *
      generalize fracL t = fr' at *
      have HNE : Hid _ := hb
      clear hb
      refine cps fun Q hQ => ?_
      cases neg
      · have hpn2 : P = pp := hpn
        subst hpn2
        clear hpn
        go_enter Try.func14, Try.ntmps14
        go_wp2_with (first
          | (go_at_call 19; refine (k1 _).mono ?_; rintro e w1 ⟨rfl, hw⟩; rw [hw]; clear hw w1)
          | (go_at_call 35; refine (k2 _).mono ?_; rintro e w2 ⟨s, rfl, hs, hb2⟩; have hsz := isBits_size hs; rw [← HLN.out] at hsz; have R0 := (hb2.block w.heap.size (by simp)).trans (rownew w _ _); have B2 := cthen (cmore (Below.refl _ _) _) hb2; have z1 : w.heap.size < w2.heap.size := (by have := hb2.size; simp at this; omega); have HS : Hid _ := hs; have n2 := rowcell R0 2; have n0 := rowcell R0 0; simp only [List.getElem?_toArray, List.getElem?_cons_zero, List.getElem?_cons_succ] at n0 n2; clear hs hb2))
        have hi4 : IsBits (s.extract 0 (n - 1)) t := by
          have := isBits_extract HS.out 0 (n - 1)
          rw [HT.out]; exact this
        have k7 := number_any _ t hi4 (by rw [HL.out]; omega)
        rw [← HP.out] at k7
        have k8 : ∀ w, Calls Try.prog 31 #[.string (s.extract 0 (n - 1))] w fun e w' => e = .returned (.int .u64 P) ∧ w' = w := k7
        clear k7 hi4 k1 k2
        refine (k8 _).mono ?_
        rintro e w3 ⟨rfl, hw3⟩
        rw [hw3]
        clear hw3 w3 k8
        go_wp2_with (first
          | (go_at_call 11; refine (k3 _).mono ?_; rintro e w5 ⟨rfl, hb5⟩; have R5 := (hb5.block w.heap.size z1).trans R0; have b0 := rowcell R5 0; have b1 := rowcell R5 1; have b2 := rowcell R5 2; have b3 := rowcell R5 3; have b4 := rowcell R5 4; have b5 := rowcell R5 5; have b6 := rowcell R5 6; have b7 := rowcell R5 7; have bf := rowfree R5; simp only [List.getElem?_toArray, List.getElem?_cons_zero, List.getElem?_cons_succ] at b0 b1 b2 b3 b4 b5 b6 b7; have z5 : w.heap.size < w5.heap.size := (Nat.lt_of_lt_of_le z1 hb5.size); have hne1 : ¬ w.heap.size = w5.heap.size := (by omega); have hne2 : ¬ w5.heap.size = w.heap.size := (by omega); have HB5 : Hid (Below _ _ _) := cthen (B2) hb5; clear hb5 R5))
        all_goals first
          | exact hQ.out _ _ ⟨rfl, cmore HB5.out _⟩
          | exact (HNE.out ⟨by first | rfl | assumption | (symm; assumption) | omega, by first | rfl | assumption | (symm; assumption) | omega, by first | rfl | assumption | (symm; assumption) | omega, by first | rfl | assumption | (symm; assumption) | omega, by first | rfl | assumption | (symm; assumption) | omega, by first | rfl | assumption | (symm; assumption) | omega, by first | rfl | assumption | (symm; assumption) | omega⟩).elim
      · have hpn2 : minusU P % 2 ^ n = pp := hpn
        rw [hpn2] at k4
        clear hpn hpn2
        go_enter Try.func14, Try.ntmps14
        go_wp2_with (first
          | (go_at_call 19; refine (k1 _).mono ?_; rintro e w1 ⟨rfl, hw⟩; rw [hw]; clear hw w1)
          | (go_at_call 35; refine (k2 _).mono ?_; rintro e w2 ⟨s, rfl, hs, hb2⟩; have hsz := isBits_size hs; rw [← HLN.out] at hsz; have R0 := (hb2.block w.heap.size (by simp)).trans (rownew w _ _); have B2 := cthen (cmore (Below.refl _ _) _) hb2; have z1 : w.heap.size < w2.heap.size := (by have := hb2.size; simp at this; omega); have HS : Hid _ := hs; have n2 := rowcell R0 2; have n0 := rowcell R0 0; simp only [List.getElem?_toArray, List.getElem?_cons_zero, List.getElem?_cons_succ] at n0 n2; clear hs hb2))
        have hi4 : IsBits (s.extract 0 (n - 1)) t := by
          have := isBits_extract HS.out 0 (n - 1)
          rw [HT.out]; exact this
        have k7 := number_any _ t hi4 (by rw [HL.out]; omega)
        rw [← HP.out] at k7
        have k8 : ∀ w, Calls Try.prog 31 #[.string (s.extract 0 (n - 1))] w fun e w' => e = .returned (.int .u64 P) ∧ w' = w := k7
        clear k7 hi4 k1 k2
        refine (k8 _).mono ?_
        rintro e w3 ⟨rfl, hw3⟩
        rw [hw3]
        clear hw3 w3 k8
        go_wp2_with (first
        | (go_at_call 36; refine (k4 _).mono ?_; rintro e w4 ⟨rfl, hb4⟩; have HB4 : Hid (Below _ _ _) := hb4; clear hb4)
          | (go_at_call 11; refine (k3 _).mono ?_; rintro e w5 ⟨rfl, hb5⟩; have R5 := (hb5.block w.heap.size (Nat.lt_of_lt_of_le z1 HB4.out.size)).trans ((HB4.out.block _ z1).trans R0); have b0 := rowcell R5 0; have b1 := rowcell R5 1; have b2 := rowcell R5 2; have b3 := rowcell R5 3; have b4 := rowcell R5 4; have b5 := rowcell R5 5; have b6 := rowcell R5 6; have b7 := rowcell R5 7; have bf := rowfree R5; simp only [List.getElem?_toArray, List.getElem?_cons_zero, List.getElem?_cons_succ] at b0 b1 b2 b3 b4 b5 b6 b7; have z5 : w.heap.size < w5.heap.size := (Nat.lt_of_lt_of_le (Nat.lt_of_lt_of_le z1 HB4.out.size) hb5.size); have hne1 : ¬ w.heap.size = w5.heap.size := (by omega); have hne2 : ¬ w5.heap.size = w.heap.size := (by omega); have HB5 : Hid (Below _ _ _) := cthen (cthen B2 HB4.out) hb5; clear hb5 R5))
        all_goals first
          | exact hQ.out _ _ ⟨rfl, cmore HB5.out _⟩
          | exact (HNE.out ⟨by first | rfl | assumption | (symm; assumption) | omega, by first | rfl | assumption | (symm; assumption) | omega, by first | rfl | assumption | (symm; assumption) | omega, by first | rfl | assumption | (symm; assumption) | omega, by first | rfl | assumption | (symm; assumption) | omega, by first | rfl | assumption | (symm; assumption) | omega, by first | rfl | assumption | (symm; assumption) | omega⟩).elim
    · have h0 : numOf t = 0 := by
        rcases Nat.eq_zero_or_pos (numOf t) with h | h
        · exact h
        · exact absurd (mem_of_pos t (by omega)) ht
      have k3 := split6_other n 0 hn (by rw [Nat.zero_mod]; unfold kindOf; rw [if_pos rfl]; decide)
      rw [h0] at k4
      have hm0 : minusU 0 % 2 ^ n = 0 := by unfold minusU; simp
      rw [hm0] at k4
      have HP : Hid (0 = numOf t) := h0.symm
      unfold fd0 at k3
      clear hbad hn ht hl hte hN h0 hnum hm0
      refine cps fun Q hQ => ?_
      cases neg
      · skip
        go_enter Try.func14, Try.ntmps14
        go_wp2_with (first
          | (go_at_call 19; refine (k1 _).mono ?_; rintro e w1 ⟨rfl, hw⟩; rw [hw]; clear hw w1)
          | (go_at_call 35; refine (k2 _).mono ?_; rintro e w2 ⟨s, rfl, hs, hb2⟩; have hsz := isBits_size hs; rw [← HLN.out] at hsz; have R0 := (hb2.block w.heap.size (by simp)).trans (rownew w _ _); have B2 := cthen (cmore (Below.refl _ _) _) hb2; have z1 : w.heap.size < w2.heap.size := (by have := hb2.size; simp at this; omega); have HS : Hid _ := hs; have n2 := rowcell R0 2; have n0 := rowcell R0 0; simp only [List.getElem?_toArray, List.getElem?_cons_zero, List.getElem?_cons_succ] at n0 n2; clear hs hb2))
        have hi4 : IsBits (s.extract 0 (n - 1)) t := by
          have := isBits_extract HS.out 0 (n - 1)
          rw [HT.out]; exact this
        have k7 := number_any _ t hi4 (by rw [HL.out]; omega)
        rw [← HP.out] at k7
        have k8 : ∀ w, Calls Try.prog 31 #[.string (s.extract 0 (n - 1))] w fun e w' => e = .returned (.int .u64 0) ∧ w' = w := k7
        clear k7 hi4 k1 k2
        refine (k8 _).mono ?_
        rintro e w3 ⟨rfl, hw3⟩
        rw [hw3]
        clear hw3 w3 k8
        go_wp2_with (first
          | (go_at_call 11; refine (k3 _).mono ?_; rintro e w5 ⟨rfl, hb5⟩; have R5 := (hb5.block w.heap.size z1).trans R0; have b0 := rowcell R5 0; have b1 := rowcell R5 1; have b2 := rowcell R5 2; have b3 := rowcell R5 3; have b4 := rowcell R5 4; have b5 := rowcell R5 5; have b6 := rowcell R5 6; have b7 := rowcell R5 7; have bf := rowfree R5; simp only [List.getElem?_toArray, List.getElem?_cons_zero, List.getElem?_cons_succ] at b0 b1 b2 b3 b4 b5 b6 b7; have z5 : w.heap.size < w5.heap.size := (Nat.lt_of_lt_of_le z1 hb5.size); have hne1 : ¬ w.heap.size = w5.heap.size := (by omega); have hne2 : ¬ w5.heap.size = w.heap.size := (by omega); have HB5 : Hid (Below _ _ _) := cthen (B2) hb5; clear hb5 R5))
        all_goals exact hQ.out _ _ ⟨rfl, cmore HB5.out _⟩
      · skip
        go_enter Try.func14, Try.ntmps14
        go_wp2_with (first
          | (go_at_call 19; refine (k1 _).mono ?_; rintro e w1 ⟨rfl, hw⟩; rw [hw]; clear hw w1)
          | (go_at_call 35; refine (k2 _).mono ?_; rintro e w2 ⟨s, rfl, hs, hb2⟩; have hsz := isBits_size hs; rw [← HLN.out] at hsz; have R0 := (hb2.block w.heap.size (by simp)).trans (rownew w _ _); have B2 := cthen (cmore (Below.refl _ _) _) hb2; have z1 : w.heap.size < w2.heap.size := (by have := hb2.size; simp at this; omega); have HS : Hid _ := hs; have n2 := rowcell R0 2; have n0 := rowcell R0 0; simp only [List.getElem?_toArray, List.getElem?_cons_zero, List.getElem?_cons_succ] at n0 n2; clear hs hb2))
        have hi4 : IsBits (s.extract 0 (n - 1)) t := by
          have := isBits_extract HS.out 0 (n - 1)
          rw [HT.out]; exact this
        have k7 := number_any _ t hi4 (by rw [HL.out]; omega)
        rw [← HP.out] at k7
        have k8 : ∀ w, Calls Try.prog 31 #[.string (s.extract 0 (n - 1))] w fun e w' => e = .returned (.int .u64 0) ∧ w' = w := k7
        clear k7 hi4 k1 k2
        refine (k8 _).mono ?_
        rintro e w3 ⟨rfl, hw3⟩
        rw [hw3]
        clear hw3 w3 k8
        go_wp2_with (first
        | (go_at_call 36; refine (k4 _).mono ?_; rintro e w4 ⟨rfl, hb4⟩; have HB4 : Hid (Below _ _ _) := hb4; clear hb4)
          | (go_at_call 11; refine (k3 _).mono ?_; rintro e w5 ⟨rfl, hb5⟩; have R5 := (hb5.block w.heap.size (Nat.lt_of_lt_of_le z1 HB4.out.size)).trans ((HB4.out.block _ z1).trans R0); have b0 := rowcell R5 0; have b1 := rowcell R5 1; have b2 := rowcell R5 2; have b3 := rowcell R5 3; have b4 := rowcell R5 4; have b5 := rowcell R5 5; have b6 := rowcell R5 6; have b7 := rowcell R5 7; have bf := rowfree R5; simp only [List.getElem?_toArray, List.getElem?_cons_zero, List.getElem?_cons_succ] at b0 b1 b2 b3 b4 b5 b6 b7; have z5 : w.heap.size < w5.heap.size := (Nat.lt_of_lt_of_le (Nat.lt_of_lt_of_le z1 HB4.out.size) hb5.size); have hne1 : ¬ w.heap.size = w5.heap.size := (by omega); have hne2 : ¬ w5.heap.size = w.heap.size := (by omega); have HB5 : Hid (Below _ _ _) := cthen (cthen B2 HB4.out) hb5; clear hb5 R5))
        all_goals exact hQ.out _ _ ⟨rfl, cmore HB5.out _⟩
end Go.Proofs.Ythbhcdokjlpjbaa
