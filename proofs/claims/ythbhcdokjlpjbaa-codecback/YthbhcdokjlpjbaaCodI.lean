import Derived.Test.YthbhcdokjlpjbaaCodH
namespace Go.Proofs.Ythbhcdokjlpjbaa
open Go.ChangeShapes Go.WideShapes Go.ChangeAt Go.RowKit
set_option linter.unusedVariables false
set_option linter.unusedSimpArgs false
set_option maxRecDepth 100000

/-- the pattern that the string, cut, writes; and what it means -/
abbrev cutL (n : Nat) (s : Int) (f : Nat) : List Bool := (canon s f).take (n - 1)
def fitsN (n : Nat) (s : Int) (f : Nat) : Bool := decide (scaleL (cutL n s f) = s ∧ wordL (cutL n s f) = f)
theorem pat_neg (n : Nat) (hn : Wd n) (neg : Bool) (t : List Bool) (hl : t.length = n - 1) (ht : true ∈ t) (h64 : numOf t < 2 ^ 64) : (if neg then minusU (numOf t) % 2 ^ n else numOf t) = patOf n neg t := by
  unfold patOf
  cases neg
  · rfl
  · have h5 := numOf_lt t
    have h6 := numOf_pos _ ht
    rw [hl] at h5
    obtain ⟨H, h1, h2, h3, _⟩ := wd_pows hn
    rw [h2] at h5
    simp only [if_true]
    rw [minusU_mod n _ hn h64, h1, Nat.mod_eq_of_lt (a := numOf t) (by omega), Nat.mod_eq_of_lt (by omega)]
set_option maxHeartbeats 1000000 in
theorem encode6_real (n : Nat) (neg : Bool) (s : Int) (f : Nat) (hn : Wd n) (hs : soundN 1 neg s f = true) (hf : f < 2 ^ 64) (hr : inR n s = true) (w : World) :
    Calls Try.prog 18 #[.int .i64 n, numV 1 neg s f] w fun e w' => e = .returned (if fitsN n s f then .tuple #[.int .u64 (patOf n neg (cutL n s f) : Nat), .int .i64 0] else .tuple #[.int .u64 0, .int .i64 8]) ∧ Below w.heap.size w w' := by
  have k1 := is_width n
  rw [isW_of hn] at k1
  have k2 := sound6_any 1 neg s f
  rw [hs] at k2
  have hw := wd_le hn
  have hr' := of_decide_eq_true hr
  obtain ⟨ht, hl⟩ := cut_true n s f hn hr
  obtain ⟨p1, p2, p3, p4⟩ := patOf_facts n hn neg (cutL n s f) hl ht
  have p1' : patOf n neg (cutL n s f) < 2 ^ 64 := Nat.lt_of_lt_of_le p1 (Nat.pow_le_pow_right (by decide) hw.2)
  have k3 := decode6_real n _ hn p1' p2
  rw [p3, p4] at k3
  have hnum : numOf (cutL n s f) < 2 ^ 64 := Nat.lt_of_lt_of_le (numOf_lt _) (Nat.pow_le_pow_right (by decide) (by rw [hl]; omega))
  have k4 := neg6_any n (numOf (cutL n s f)) hn hnum
  have hpn := pat_neg n hn neg (cutL n s f) hl ht hnum
  have k5 := head6_any s (by omega) (by omega)
  have k6 := text_any f 64 (by decide)
  have HCAN : Hid (canon s f = headK (s / 4) ++ bitsOf (s % 4).toNat 2 ++ (bitsOf f 64).drop 1) := rfl
  have HLEN : Hid ((cutL n s f).length = n - 1) := hl
  have HCUT : Hid (cutL n s f = (canon s f).take (n - 1)) := rfl
  have hclen : 65 < (canon s f).length ∧ (canon s f).length ≤ 200 := by
    unfold canon headK
    split <;> (simp [bitsOf_length]; omega)
  have HCL : Hid _ := hclen
  clear hn hs hr p1 p2 p3 p4 ht hl hclen
  unfold fitsN
  refine cps fun Q hQ => ?_
  obtain ⟨P, hP⟩ : ∃ P, P = numOf (cutL n s f) := ⟨_, rfl⟩
  rw [← hP] at k4 hpn hnum
  have HP : Hid (P = numOf (cutL n s f)) := hP
  clear hP
  generalize hcut : cutL n s f = t at *
  generalize hcan : canon s f = c at *
  generalize patOf n neg t = pp at *
  generalize scaleL t = st at *
  generalize wordL t = wt at *
  unfold numV at *
  have HS : Hid (-256 ≤ s ∧ s ≤ 255) := by show _ ∧ _; omega
  clear hcut hcan
  go_enter Try.func18, Try.ntmps18
  go_wp2_with (first
    | (go_at_call 19; refine (k1 _).mono ?_; rintro e w1 ⟨rfl, hw⟩; rw [hw]; clear hw w1)
    | (go_at_call 39; refine (k2 _).mono ?_; rintro e w2 ⟨rfl, hb2⟩; have HB2 : Hid (Below _ _ _) := hb2; have R0 := (hb2.block w.heap.size (by simp)).trans (rownew w _ _); have b0 := rowcell R0 0; have b1 := rowcell R0 1; have b2 := rowcell R0 2; have b3 := rowcell R0 3; have bf := rowfree R0; simp only [List.getElem?_toArray, List.getElem?_cons_zero, List.getElem?_cons_succ] at b0 b1 b2 b3; have z1 : w.heap.size < w2.heap.size := (by have := hb2.size; simp at this; omega); have HR0 : Hid _ := R0; clear hb2 R0))
  have cls : ∀ W, Below w2.heap.size w2 W → W.cell? ⟨w.heap.size, 2, none⟩ = some (.int .i64 s) ∧ W.cell? ⟨w.heap.size, 3, none⟩ = some (.int .u64 f) := fun W hW =>
    ⟨(hW.cell (p := ⟨w.heap.size, 2, none⟩) z1).trans b2, (hW.cell (p := ⟨w.heap.size, 3, none⟩) z1).trans b3⟩
  refine wpC_region (fun W => W.cell? ⟨w.heap.size, 2, none⟩ = some (.int .i64 s) ∧ W.cell? ⟨w.heap.size, 3, none⟩ = some (.int .u64 f)) (by kernel_rfl) ?_
  refine wpC_take 0 (v := ?_) rfl (by kernel_rfl) (fun _ _ _ h => h) (by kernel_rfl) ?_ ?_; rotate_left; · (intro wC hC; obtain ⟨c1, c2⟩ := hC; go_simp <;> with_reducible rfl)
  refine wpC_take 1 (v := ?_) rfl (by kernel_rfl) (fun _ _ _ h => h) (by kernel_rfl) ?_ ?_; rotate_left; · (intro wC hC; obtain ⟨c1, c2⟩ := hC; go_simp <;> with_reducible rfl)
  refine wpC_take 3 (v := ?_) rfl (by kernel_rfl) (fun _ _ _ h => h) (by kernel_rfl) ?_ ?_; rotate_left; · (intro wC hC; obtain ⟨c1, c2⟩ := hC; go_simp <;> with_reducible rfl)
  refine wpC_take 4 (v := ?_) rfl (by kernel_rfl) (fun _ _ _ h => h) (by kernel_rfl) ?_ ?_; rotate_left; · (intro wC hC; obtain ⟨c1, c2⟩ := hC; go_simp <;> with_reducible rfl)
  refine wpC_step 2 rfl (by kernel_rfl) (by kernel_rfl) (cls _ (cdrew (Below.refl _ _))) (fun K hK => ?_)
  go_simp
  go_wp2_with ((go_at_call 41; refine (k5 _).mono ?_; rintro e w3 ⟨u1, rfl, hu1, hb3⟩))
  try (refine hK _ _ ?_; clear hK K)
  have B3 := cthen (cdrew (Below.refl w2.heap.size w2)) hb3
  refine wpC_step 5 rfl (by kernel_rfl) (by kernel_rfl) (cls _ B3) (fun K hK => ?_)
  go_simp
  go_wp2_with ((go_at_call 29; refine (k6 _).mono ?_; rintro e w4 ⟨u2, rfl, hu2, hb4⟩))
  try (refine hK _ _ ?_; clear hK K)
  have B4 := cthen B3 hb4
  have hz2 := isBits_size hu2
  rw [bitsOf_length] at hz2
  have hz1 := isBits_size hu1
  have g1 := slice_l (P := Try.prog) (s := u2) Try.underlying9 1 1 rfl (by omega)
  rw [hz2] at g1
  have hi2 : IsBits (u2.extract 1 64) ((bitsOf f 64).drop 1) := by
    have := isBits_extract hu2 1 64
    rw [List.take_of_length_le (by rw [List.length_drop, bitsOf_length]; exact Nat.le_refl _)] at this
    exact this
  have hi3 := isBits_append hu1 hi2
  rw [← HCAN.out] at hi3
  have hz3 := isBits_size hi3
  have hzz : u1.size + (u2.extract 1 64).size ≤ 9223372036854775807 := by
    have := HCL.out.2
    rw [ByteArray.size_append] at hz3; omega
  have g2 := fun wx => run_string_add_sum (P := Try.prog) wx u1 (u2.extract 1 64) hzz
  have HI3 : Hid _ := hi3
  have HB4 : Hid (Below w2.heap.size w2 w4) := B4
  generalize u2.extract 1 64 = u3 at *
  refine wpC_take 6 (v := ?_) rfl (by kernel_rfl) (fun _ _ _ h => h) (by kernel_rfl) ?_ ?_; rotate_left; · (intro wC hC; obtain ⟨c1, c2⟩ := hC; go_simp <;> with_reducible rfl)
  refine wpC_take 7 (v := ?_) rfl (by kernel_rfl) (fun _ _ _ h => h) (by kernel_rfl) ?_ ?_; rotate_left; · (intro wC hC; obtain ⟨c1, c2⟩ := hC; go_simp <;> with_reducible rfl)
  generalize u1 ++ u3 = u4 at *
  have HL65 : Hid (65 < u4.size) := by show _ < _; rw [hz3]; exact HCL.out.1
  clear hi2 hi3 hz1 hz2 hzz g1 g2 hu1 hu2 hb3 hb4
  refine wpC_step 8 rfl (by kernel_rfl) (by kernel_rfl) (cls _ B4) (fun K hK => ?_)
  go_simp
  try (refine hK _ _ ?_; clear hK K)
  refine wpC_done (by kernel_rfl) (cls _ B4) ?_
  have hu65 := HL65.out
  have g3 := slice_h (P := Try.prog) (s := u4) Try.underlying9 ((n : Int) - 1) (n - 1) (by omega) (by omega)
  have hi4 : IsBits (u4.extract 0 (n - 1)) t := by
    have := isBits_extract HI3.out 0 (n - 1)
    rw [HCUT.out]; exact this
  have k7 := number_any _ t hi4 (by rw [HLEN.out]; omega)
  rw [← HP.out] at k7
  generalize u4.extract 0 (n - 1) = u5 at *
  have n0 := (HB4.out.block w.heap.size z1).trans HR0.out
  have a0 := rowcell n0 0
  have a1 := rowcell n0 1
  have a2 := rowcell n0 2
  have a3 := rowcell n0 3
  have af := rowfree n0
  simp only [List.getElem?_toArray, List.getElem?_cons_zero, List.getElem?_cons_succ] at a0 a1 a2 a3
  clear n0 B3 B4 hi4 hz3 cls b0 b1 b2 b3 bf k1 k2 k5 k6
  have HBW : Hid (Below w.heap.size w w2) := cthen (cmore (Below.refl _ _) _) HB2.out
  have z4 : w.heap.size < w4.heap.size := Nat.lt_of_lt_of_le z1 HB4.out.size
  clear HR0 HL65 HI3 HLEN HCUT HCAN HCL HP
  by_cases hst : st = s
  · by_cases hwt : wt = f
    · subst hst
      subst hwt
      cases neg
      · have hpn2 : P = pp := hpn
        subst hpn2
        clear hpn
        go_wp2_with (first
          | (go_at_call 31; refine (k7 _).mono ?_; rintro e w5 ⟨rfl, hw5⟩; rw [hw5]; clear hw5 w5)
          | (go_at_call 42; refine (k3 _).mono ?_; rintro e w7 ⟨rfl, hb7⟩; have HB7 : Hid (Below _ _ _) := hb7; have a0 := (hb7.cell (p := ⟨w.heap.size, 0, none⟩) z4).trans a0; have a1 := (hb7.cell (p := ⟨w.heap.size, 1, none⟩) z4).trans a1; have a2 := (hb7.cell (p := ⟨w.heap.size, 2, none⟩) z4).trans a2; have a3 := (hb7.cell (p := ⟨w.heap.size, 3, none⟩) z4).trans a3; have z7 : w.heap.size < w7.heap.size := (Nat.lt_of_lt_of_le z4 hb7.size); have hne1 : ¬ w.heap.size = w7.heap.size := (by omega); have hne2 : ¬ w7.heap.size = w.heap.size := (by omega); clear hb7))
        all_goals refine hQ.out _ _ ⟨?_, cmore (cthen (cthen HBW.out HB4.out) HB7.out) _⟩
        all_goals simp_all
      · have hpn2 : minusU P % 2 ^ n = pp := hpn
        rw [hpn2] at k4
        clear hpn hpn2
        go_wp2_with (first
          | (go_at_call 31; refine (k7 _).mono ?_; rintro e w5 ⟨rfl, hw5⟩; rw [hw5]; clear hw5 w5)
          | (go_at_call 36; refine (k4 _).mono ?_; rintro e w6 ⟨rfl, hb6⟩; have HB6 : Hid (Below _ _ _) := hb6; have a0 := (hb6.cell (p := ⟨w.heap.size, 0, none⟩) z4).trans a0; have a1 := (hb6.cell (p := ⟨w.heap.size, 1, none⟩) z4).trans a1; have a2 := (hb6.cell (p := ⟨w.heap.size, 2, none⟩) z4).trans a2; have a3 := (hb6.cell (p := ⟨w.heap.size, 3, none⟩) z4).trans a3; have z6 : w.heap.size < w6.heap.size := (Nat.lt_of_lt_of_le z4 hb6.size); clear hb6)
          | (go_at_call 42; refine (k3 _).mono ?_; rintro e w7 ⟨rfl, hb7⟩; have HB7 : Hid (Below _ _ _) := hb7; have a0 := (hb7.cell (p := ⟨w.heap.size, 0, none⟩) z6).trans a0; have a1 := (hb7.cell (p := ⟨w.heap.size, 1, none⟩) z6).trans a1; have a2 := (hb7.cell (p := ⟨w.heap.size, 2, none⟩) z6).trans a2; have a3 := (hb7.cell (p := ⟨w.heap.size, 3, none⟩) z6).trans a3; have z7 : w.heap.size < w7.heap.size := (Nat.lt_of_lt_of_le z6 hb7.size); have hne1 : ¬ w.heap.size = w7.heap.size := (by omega); have hne2 : ¬ w7.heap.size = w.heap.size := (by omega); clear hb7))
        all_goals refine hQ.out _ _ ⟨?_, cmore (cthen (cthen (cthen HBW.out HB4.out) HB6.out) HB7.out) _⟩
        all_goals simp_all
    · have dwt : ((wt : Int) == (f : Int)) = false := beq_eq_false_iff_ne.2 (by omega)
      have HST : Hid (¬ (st = s ∧ wt = f)) := fun h => hwt h.2
      subst hst
      clear hwt
      cases neg
      · have hpn2 : P = pp := hpn
        subst hpn2
        clear hpn
        go_wp2_with (first
          | (go_at_call 31; refine (k7 _).mono ?_; rintro e w5 ⟨rfl, hw5⟩; rw [hw5]; clear hw5 w5)
          | (go_at_call 42; refine (k3 _).mono ?_; rintro e w7 ⟨rfl, hb7⟩; have HB7 : Hid (Below _ _ _) := hb7; have a0 := (hb7.cell (p := ⟨w.heap.size, 0, none⟩) z4).trans a0; have a1 := (hb7.cell (p := ⟨w.heap.size, 1, none⟩) z4).trans a1; have a2 := (hb7.cell (p := ⟨w.heap.size, 2, none⟩) z4).trans a2; have a3 := (hb7.cell (p := ⟨w.heap.size, 3, none⟩) z4).trans a3; have z7 : w.heap.size < w7.heap.size := (Nat.lt_of_lt_of_le z4 hb7.size); have hne1 : ¬ w.heap.size = w7.heap.size := (by omega); have hne2 : ¬ w7.heap.size = w.heap.size := (by omega); clear hb7))
        all_goals refine hQ.out _ _ ⟨?_, cmore (cthen (cthen HBW.out HB4.out) HB7.out) _⟩
        all_goals simp [HST.out]
      · have hpn2 : minusU P % 2 ^ n = pp := hpn
        rw [hpn2] at k4
        clear hpn hpn2
        go_wp2_with (first
          | (go_at_call 31; refine (k7 _).mono ?_; rintro e w5 ⟨rfl, hw5⟩; rw [hw5]; clear hw5 w5)
          | (go_at_call 36; refine (k4 _).mono ?_; rintro e w6 ⟨rfl, hb6⟩; have HB6 : Hid (Below _ _ _) := hb6; have a0 := (hb6.cell (p := ⟨w.heap.size, 0, none⟩) z4).trans a0; have a1 := (hb6.cell (p := ⟨w.heap.size, 1, none⟩) z4).trans a1; have a2 := (hb6.cell (p := ⟨w.heap.size, 2, none⟩) z4).trans a2; have a3 := (hb6.cell (p := ⟨w.heap.size, 3, none⟩) z4).trans a3; have z6 : w.heap.size < w6.heap.size := (Nat.lt_of_lt_of_le z4 hb6.size); clear hb6)
          | (go_at_call 42; refine (k3 _).mono ?_; rintro e w7 ⟨rfl, hb7⟩; have HB7 : Hid (Below _ _ _) := hb7; have a0 := (hb7.cell (p := ⟨w.heap.size, 0, none⟩) z6).trans a0; have a1 := (hb7.cell (p := ⟨w.heap.size, 1, none⟩) z6).trans a1; have a2 := (hb7.cell (p := ⟨w.heap.size, 2, none⟩) z6).trans a2; have a3 := (hb7.cell (p := ⟨w.heap.size, 3, none⟩) z6).trans a3; have z7 : w.heap.size < w7.heap.size := (Nat.lt_of_lt_of_le z6 hb7.size); have hne1 : ¬ w.heap.size = w7.heap.size := (by omega); have hne2 : ¬ w7.heap.size = w.heap.size := (by omega); clear hb7))
        all_goals refine hQ.out _ _ ⟨?_, cmore (cthen (cthen (cthen HBW.out HB4.out) HB6.out) HB7.out) _⟩
        all_goals simp [HST.out]
  · have dst : (st == s) = false := beq_eq_false_iff_ne.2 hst
    have HST : Hid (¬ (st = s ∧ wt = f)) := fun h => hst h.1
    clear hst
    cases neg
    · have hpn2 : P = pp := hpn
      subst hpn2
      clear hpn
      go_wp2_with (first
        | (go_at_call 31; refine (k7 _).mono ?_; rintro e w5 ⟨rfl, hw5⟩; rw [hw5]; clear hw5 w5)
        | (go_at_call 42; refine (k3 _).mono ?_; rintro e w7 ⟨rfl, hb7⟩; have HB7 : Hid (Below _ _ _) := hb7; have a0 := (hb7.cell (p := ⟨w.heap.size, 0, none⟩) z4).trans a0; have a1 := (hb7.cell (p := ⟨w.heap.size, 1, none⟩) z4).trans a1; have a2 := (hb7.cell (p := ⟨w.heap.size, 2, none⟩) z4).trans a2; have a3 := (hb7.cell (p := ⟨w.heap.size, 3, none⟩) z4).trans a3; have z7 : w.heap.size < w7.heap.size := (Nat.lt_of_lt_of_le z4 hb7.size); have hne1 : ¬ w.heap.size = w7.heap.size := (by omega); have hne2 : ¬ w7.heap.size = w.heap.size := (by omega); clear hb7))
      all_goals refine hQ.out _ _ ⟨?_, cmore (cthen (cthen HBW.out HB4.out) HB7.out) _⟩
      all_goals simp [HST.out]
    · have hpn2 : minusU P % 2 ^ n = pp := hpn
      rw [hpn2] at k4
      clear hpn hpn2
      go_wp2_with (first
        | (go_at_call 31; refine (k7 _).mono ?_; rintro e w5 ⟨rfl, hw5⟩; rw [hw5]; clear hw5 w5)
        | (go_at_call 36; refine (k4 _).mono ?_; rintro e w6 ⟨rfl, hb6⟩; have HB6 : Hid (Below _ _ _) := hb6; have a0 := (hb6.cell (p := ⟨w.heap.size, 0, none⟩) z4).trans a0; have a1 := (hb6.cell (p := ⟨w.heap.size, 1, none⟩) z4).trans a1; have a2 := (hb6.cell (p := ⟨w.heap.size, 2, none⟩) z4).trans a2; have a3 := (hb6.cell (p := ⟨w.heap.size, 3, none⟩) z4).trans a3; have z6 : w.heap.size < w6.heap.size := (Nat.lt_of_lt_of_le z4 hb6.size); clear hb6)
        | (go_at_call 42; refine (k3 _).mono ?_; rintro e w7 ⟨rfl, hb7⟩; have HB7 : Hid (Below _ _ _) := hb7; have a0 := (hb7.cell (p := ⟨w.heap.size, 0, none⟩) z6).trans a0; have a1 := (hb7.cell (p := ⟨w.heap.size, 1, none⟩) z6).trans a1; have a2 := (hb7.cell (p := ⟨w.heap.size, 2, none⟩) z6).trans a2; have a3 := (hb7.cell (p := ⟨w.heap.size, 3, none⟩) z6).trans a3; have z7 : w.heap.size < w7.heap.size := (Nat.lt_of_lt_of_le z6 hb7.size); have hne1 : ¬ w.heap.size = w7.heap.size := (by omega); have hne2 : ¬ w7.heap.size = w.heap.size := (by omega); clear hb7))
      all_goals refine hQ.out _ _ ⟨?_, cmore (cthen (cthen (cthen HBW.out HB4.out) HB6.out) HB7.out) _⟩
      all_goals simp [HST.out]
end Go.Proofs.Ythbhcdokjlpjbaa
