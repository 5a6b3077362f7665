import Derived.Test.YtajlgpamcpgalaaRndD
namespace Go.Proofs.Ytajlgpamcpgalaa
open Go.ChangeShapes Go.WideShapes Go.ChangeAt Go.RowKit
set_option linter.unusedVariables false
set_option linter.unusedSimpArgs false
set_option maxRecDepth 100000

/-! ### the document's Cut -/
theorem cut7_no (n : Int) (k : Int) (neg : Bool) (s : Int) (hi lo : Nat) (rest : Bool) (hn : isW n = false) (w : World) :
    Calls Try.prog 16 #[.int .i64 n, exV k neg s hi lo rest] w fun e w' => e = .returned (.tuple #[.int .u64 0, .int .i64 0, .int .i64 2]) ∧ Below w.heap.size w w' := by
  have k1 := is_width n
  rw [hn] at k1
  have k2 := sound7_any k neg s hi lo rest
  generalize soundX k neg s hi lo rest = so at *
  unfold exV at *
  clear hn
  refine cps fun Q hQ => ?_
  go_enter Try.func16, Try.ntmps16
  go_wp2_with (first
    | (go_at_call 20; refine (k1 _).mono ?_; rintro e w1 ⟨rfl, hw⟩; rw [hw]; clear hw w1)
    | (go_at_call 22; refine (k2 _).mono ?_; rintro e w2 ⟨rfl, hb2⟩))
  go_ret3
  exact hQ.out _ _ ⟨rfl, cthen (cmore (Below.refl _ _) _) hb2⟩
theorem cut7_bad (n : Nat) (k : Int) (neg : Bool) (s : Int) (hi lo : Nat) (rest : Bool) (hn : Wd n) (hs : soundX k neg s hi lo rest = false) (w : World) :
    Calls Try.prog 16 #[.int .i64 n, exV k neg s hi lo rest] w fun e w' => e = .returned (.tuple #[.int .u64 0, .int .i64 0, .int .i64 1]) ∧ Below w.heap.size w w' := by
  have k1 := is_width n
  rw [isW_of hn] at k1
  have k2 := sound7_any k neg s hi lo rest
  rw [hs] at k2
  unfold exV at *
  clear hn hs
  refine cps fun Q hQ => ?_
  go_enter Try.func16, Try.ntmps16
  go_wp2_with (first
    | (go_at_call 20; refine (k1 _).mono ?_; rintro e w1 ⟨rfl, hw⟩; rw [hw]; clear hw w1)
    | (go_at_call 22; refine (k2 _).mono ?_; rintro e w2 ⟨rfl, hb2⟩))
  go_ret3
  exact hQ.out _ _ ⟨rfl, cthen (cmore (Below.refl _ _) _) hb2⟩
theorem cut7_zero (n : Nat) (hn : Wd n) (w : World) :
    Calls Try.prog 16 #[.int .i64 n, exV 0 false 0 0 0 false] w fun e w' => e = .returned (.tuple #[.int .u64 0, .int .i64 0, .int .i64 0]) ∧ Below w.heap.size w w' := by
  have k1 := is_width n
  rw [isW_of hn] at k1
  have k2 := sound7_any 0 false 0 0 0 false
  rw [show soundX 0 false 0 0 0 false = true from rfl] at k2
  unfold exV at *
  clear hn
  refine cps fun Q hQ => ?_
  go_enter Try.func16, Try.ntmps16
  go_wp2_with (first
    | (go_at_call 20; refine (k1 _).mono ?_; rintro e w1 ⟨rfl, hw⟩; rw [hw]; clear hw w1)
    | (go_at_call 22; refine (k2 _).mono ?_; rintro e w2 ⟨rfl, hb2⟩; have hc := fun b o h => hb2.cell (p := ⟨b, o, none⟩) h; have z1 : w.heap.size < w2.heap.size := (by have := hb2.size; simp at this; omega)))
  go_ret3
  exact hQ.out _ _ ⟨rfl, cthen (cmore (Below.refl _ _) _) hb2⟩
theorem cut7_nar (n : Nat) (hn : Wd n) (w : World) :
    Calls Try.prog 16 #[.int .i64 n, exV 2 false 0 0 0 false] w fun e w' => e = .returned (.tuple #[.int .u64 (2 ^ (n - 1) : Nat), .int .i64 0, .int .i64 0]) ∧ Below w.heap.size w w' := by
  have k1 := is_width n
  rw [isW_of hn] at k1
  have k2 := sound7_any 2 false 0 0 0 false
  rw [show soundX 2 false 0 0 0 false = true from rfl] at k2
  have hw := wd_le hn
  have k3 := power_sub n (by omega) hw.2
  generalize 2 ^ (n - 1) = pw at *
  unfold exV at *
  clear hn
  refine cps fun Q hQ => ?_
  go_enter Try.func16, Try.ntmps16
  go_wp2_with (first
    | (go_at_call 20; refine (k1 _).mono ?_; rintro e w1 ⟨rfl, hw⟩; rw [hw]; clear hw w1)
    | (go_at_call 35; refine (k3 _).mono ?_; rintro e w1 ⟨rfl, hw⟩; rw [hw]; clear hw w1)
    | (go_at_call 22; refine (k2 _).mono ?_; rintro e w2 ⟨rfl, hb2⟩; have hc := fun b o h => hb2.cell (p := ⟨b, o, none⟩) h; have z1 : w.heap.size < w2.heap.size := (by have := hb2.size; simp at this; omega)))
  go_ret3
  exact hQ.out _ _ ⟨rfl, cthen (cmore (Below.refl _ _) _) hb2⟩
set_option maxHeartbeats 8000000 in
theorem cut7_real (n : Nat) (neg : Bool) (s : Int) (hi lo : Nat) (rest : Bool) (hn : Wd n) (hs : soundX 1 neg s hi lo rest = true) (h : WordsX hi lo) (w : World) :
    Calls Try.prog 16 #[.int .i64 n, exV 1 neg s hi lo rest] w fun e w' => e = .returned (.tuple #[.int .u64 (cutX n s hi lo rest).1, .int .i64 (cutX n s hi lo rest).2, .int .i64 0]) ∧ Below w.heap.size w w' := by
  have k1 := is_width n
  rw [isW_of hn] at k1
  have k2 := sound7_any 1 neg s hi lo rest
  rw [hs] at k2
  have hw := wd_le hn
  have k3 := power_sub n (by omega) hw.2
  have k6 := text_any hi 64 (by decide)
  have k7 := text_any lo 64 (by decide)
  unfold exV at *
  refine cps fun Q hQ => ?_
  go_enter Try.func16, Try.ntmps16
  go_wp2_with (first
    | (go_at_call 20; refine (k1 _).mono ?_; rintro e w1 ⟨rfl, hw⟩; rw [hw]; clear hw w1)
    | (go_at_call 22; refine (k2 _).mono ?_; rintro e w2 ⟨rfl, hb2⟩; have R0 := (hb2.block w.heap.size (by simp)).trans (rownew w _ _); have z1 : w.heap.size < w2.heap.size := (by have := hb2.size; simp at this; omega); have b0 := rowcell R0 0; have b1 := rowcell R0 1; have b2 := rowcell R0 2; have b3 := rowcell R0 3; have b4 := rowcell R0 4; have b5 := rowcell R0 5; simp only [List.getElem?_toArray, List.getElem?_cons_zero, List.getElem?_cons_succ] at b0 b1 b2 b3 b4 b5; have HR0 : Hid _ := R0; have HB2 : Hid (Below _ _ _) := hb2; clear R0 hb2))
  have cls : ∀ W, Below w2.heap.size w2 W → W.cell? ⟨w.heap.size, 3, none⟩ = some (.int .u64 hi) ∧ W.cell? ⟨w.heap.size, 4, none⟩ = some (.int .u64 lo) := fun W hW =>
    ⟨(hW.cell (p := ⟨w.heap.size, 3, none⟩) z1).trans b3, (hW.cell (p := ⟨w.heap.size, 4, none⟩) z1).trans b4⟩
  refine wpC_region (fun W => W.cell? ⟨w.heap.size, 3, none⟩ = some (.int .u64 hi) ∧ W.cell? ⟨w.heap.size, 4, none⟩ = some (.int .u64 lo)) (by kernel_rfl) ?_
  refine wpC_take 0 (v := ?_) rfl (by kernel_rfl) (fun _ _ _ h => h) (by kernel_rfl) ?_ ?_; rotate_left; · (intro wC hC; obtain ⟨c1, c2⟩ := hC; go_simp <;> with_reducible rfl)
  refine wpC_take 1 (v := ?_) rfl (by kernel_rfl) (fun _ _ _ h => h) (by kernel_rfl) ?_ ?_; rotate_left; · (intro wC hC; obtain ⟨c1, c2⟩ := hC; go_simp <;> with_reducible rfl)
  refine wpC_take 4 (v := ?_) rfl (by kernel_rfl) (fun _ _ _ h => h) (by kernel_rfl) ?_ ?_; rotate_left; · (intro wC hC; obtain ⟨c1, c2⟩ := hC; go_simp <;> with_reducible rfl)
  refine wpC_take 5 (v := ?_) rfl (by kernel_rfl) (fun _ _ _ h => h) (by kernel_rfl) ?_ ?_; rotate_left; · (intro wC hC; obtain ⟨c1, c2⟩ := hC; go_simp <;> with_reducible rfl)
  refine wpC_step 2 rfl (by kernel_rfl) (by kernel_rfl) (cls _ (cdrew (Below.refl _ _))) (fun K hK => ?_)
  go_simp
  go_wp2_with ((go_at_call 36; refine (k6 _).mono ?_; rintro e w3 ⟨u1, rfl, hu1, hb3⟩))
  try (refine hK _ _ ?_; clear hK K)
  have B3 := cthen (cdrew (Below.refl w2.heap.size w2)) hb3
  have hz1 := isBits_size hu1
  rw [bitsOf_length] at hz1
  have g1 := slice_l (P := Try.prog) (s := u1) Try.underlying9 1 1 rfl (by omega)
  rw [hz1] at g1
  have hi1 : IsBits (u1.extract 1 64) ((bitsOf hi 64).drop 1) := by
    have := isBits_extract hu1 1 64
    rw [List.take_of_length_le (by rw [List.length_drop, bitsOf_length]; exact Nat.le_refl _)] at this
    exact this
  generalize u1.extract 1 64 = u2 at *
  refine wpC_take 3 (v := ?_) rfl (by kernel_rfl) (fun _ _ _ h => h) (by kernel_rfl) ?_ ?_; rotate_left; · (intro wC hC; obtain ⟨c1, c2⟩ := hC; go_simp <;> with_reducible rfl)
  refine wpC_step 6 rfl (by kernel_rfl) (by kernel_rfl) (cls _ B3) (fun K hK => ?_)
  go_simp
  go_wp2_with ((go_at_call 36; refine (k7 _).mono ?_; rintro e w4 ⟨u3, rfl, hu3, hb4⟩))
  try (refine hK _ _ ?_; clear hK K)
  have B4 := cthen B3 hb4
  have hi3 : IsBits (u2 ++ u3) (digX hi lo) := isBits_append hi1 hu3
  have hz3 := isBits_size hi3
  rw [digX_length] at hz3
  have hzz : u2.size + u3.size ≤ 9223372036854775807 := by rw [ByteArray.size_append] at hz3; omega
  have g2 := fun wx => run_string_add_sum (P := Try.prog) wx u2 u3 hzz
  have HI3 : Hid _ := hi3
  have HB4 : Hid (Below w2.heap.size w2 w4) := B4
  refine wpC_take 7 (v := ?_) rfl (by kernel_rfl) (fun _ _ _ h => h) (by kernel_rfl) ?_ ?_; rotate_left; · (intro wC hC; obtain ⟨c1, c2⟩ := hC; go_simp <;> with_reducible rfl)
  generalize u2 ++ u3 = dg at *
  refine wpC_step 8 rfl (by kernel_rfl) (by kernel_rfl) (cls _ B4) (fun K hK => ?_)
  go_simp
  try (refine hK _ _ ?_; clear hK K)
  refine wpC_done (by kernel_rfl) (cls _ B4) ?_
  have k8 := fun w => some7_any dg (digX hi lo) HI3.out (by rw [digX_length]; decide) w
  have n0 := (HB4.out.block w.heap.size z1).trans HR0.out
  have a2 := rowcell n0 2
  have a5 := rowcell n0 5
  simp only [List.getElem?_toArray, List.getElem?_cons_zero, List.getElem?_cons_succ] at a2 a5
  have HN0 : Hid _ := n0
  have z4 : w.heap.size < w4.heap.size := Nat.lt_of_lt_of_le z1 HB4.out.size
  have HBW : Hid (Below w.heap.size w w4) := cthen (cthen (cmore (Below.refl _ _) _) HB2.out) HB4.out
  clear n0 b0 b1 b2 b3 b4 b5 B3 B4 cls g1 g2 hi1 hi3 hzz hu1 hu3 hb3 hb4 k1 k2 k6 k7 HR0 hs hz1
  obtain ⟨an, han⟩ : ∃ an, an = (digX hi lo).any id := ⟨_, rfl⟩
  rw [← han] at k8
  have HJ : Hid (justX hi lo rest = (!rest && !an)) := by show _ = _; rw [han]; rfl
  clear han
  by_cases ct : 4 * (n : Int) - 8 ≤ s
  · have hc : cutX n s hi lo rest = (2 ^ (n - 1) - 1, 0) := by unfold cutX; rw [if_pos ct]
    rw [hc] at hQ
    have hp1 : 1 ≤ 2 ^ (n - 1) := Nat.one_le_two_pow
    have hp2 : ((2 ^ (n - 1) : Nat) : Int) - 1 = ((2 ^ (n - 1) - 1 : Nat) : Int) := by omega
    have hp3 : IntKind.u64.wrap ((2 ^ (n - 1) - 1 : Nat) : Int) = ((2 ^ (n - 1) - 1 : Nat) : Int) := by
      have : 2 ^ (n - 1) ≤ 2 ^ 63 := Nat.pow_le_pow_right (by decide) (by omega)
      rw [IntKind.wrap_u64]; omega
    generalize 2 ^ (n - 1) = pw at *
    clear hc hn h
    cases rest
    · go_wp2_with (first
        | (go_at_call 37; refine (k8 _).mono ?_; rintro e w5 ⟨rfl, q5, rfl⟩)
        | (go_at_call 35; refine (k3 _).mono ?_; rintro e w1 ⟨rfl, hw⟩; rw [hw]; clear hw w1))
      all_goals
        go_ret3
        exact hQ.out _ _ ⟨rfl, below_drewN HBW.out _⟩
    · go_wp2_with (go_at_call 35; refine (k3 _).mono ?_; rintro e w1 ⟨rfl, hw⟩; rw [hw]; clear hw w1)
      all_goals
        go_ret3
        exact hQ.out _ _ ⟨rfl, HBW.out⟩
  · have et : decide (4 * (n : Int) - 8 ≤ s) = false := decide_eq_false ct
    by_cases cl : s < 8 - 4 * (n : Int) ∨ (s = 8 - 4 * n ∧ justX hi lo rest = true)
    · have hc : cutX n s hi lo rest = (1, 0) := by unfold cutX; rw [if_neg ct, if_pos cl]
      rw [hc] at hQ
      rw [HJ.out] at cl
      clear hc hn h k3
      by_cases c1 : s < 8 - 4 * (n : Int)
      · have e1 : decide (s < -(4 * (n : Int) - 8)) = true := decide_eq_true (by omega)
        cases rest
        · go_wp2_with (go_at_call 37; refine (k8 _).mono ?_; rintro e w5 ⟨rfl, q5, rfl⟩)
          all_goals
            go_ret3
            exact hQ.out _ _ ⟨rfl, below_drewN HBW.out _⟩
        · go_wp2
          all_goals
            go_ret3
            exact hQ.out _ _ ⟨rfl, HBW.out⟩
      · have c2 : s = 8 - 4 * (n : Int) ∧ rest = false ∧ an = false := by
          rcases cl with h | ⟨h1, h2⟩
          · exact absurd h c1
          · cases rest <;> cases an <;> simp_all
        obtain ⟨c3, rfl, rfl⟩ := c2
        have e1 : decide (s < -(4 * (n : Int) - 8)) = false := decide_eq_false (by omega)
        have e2 : (s == -(4 * (n : Int) - 8)) = true := beq_iff_eq.2 (by omega)
        clear cl
        go_wp2_with (go_at_call 37; refine (k8 _).mono ?_; rintro e w5 ⟨rfl, q5, rfl⟩)
        all_goals
          go_ret3
          exact hQ.out _ _ ⟨rfl, below_drewN HBW.out _⟩
    · have hc : cutX n s hi lo rest = (numOf ((strX s hi lo).take (n - 1)), leftL ((strX s hi lo).drop (n - 1)) rest) := by unfold cutX; rw [if_neg ct, if_neg cl]
      rw [hc] at hQ
      rw [HJ.out] at cl
      have hr1 : ¬ s < 8 - 4 * (n : Int) := fun c => cl (.inl c)
      have e1 : decide (s < -(4 * (n : Int) - 8)) = false := decide_eq_false (by omega)
      have k5 := head6_any s (by omega) (by omega)
      obtain ⟨t1, t2, t3, t4⟩ := strX_mid n s hi lo hn (by omega) (by omega)
      obtain ⟨L, hL⟩ : ∃ L, L = strX s hi lo := ⟨_, rfl⟩
      have HL : Hid (L = headK (s / 4) ++ bitsOf (s % 4).toNat 2 ++ digX hi lo) := hL
      have hlen : (strX s hi lo).length ≤ 209 := (zed_str s (manX hi lo) (digX hi lo) (digX_length hi lo) (digX_num h) (by omega) (by omega)).1
      rw [← hL] at t3 t4 hlen hQ
      have HT : Hid ((L.take (n - 1)).length = n - 1 ∧ n - 1 < L.length ∧ L.length ≤ 209) := ⟨t3, t4, hlen⟩
      clear hc hn h k3 t1 t2 t3 t4 hL hlen hr1
      by_cases c2 : s = 8 - 4 * (n : Int)
      · have e2 : (s == -(4 * (n : Int) - 8)) = true := beq_iff_eq.2 (by omega)
        have hj : rest = true ∨ an = true := by
          cases rest <;> cases an <;> simp_all
        clear cl c2
        cases rest
        · have han2 : an = true := by simpa using hj
          subst han2
          clear hj
          go_wp2_with (first
            | (go_at_call 37; refine (k8 _).mono ?_; rintro e w5 ⟨rfl, q5, rfl⟩)
            | (go_at_call 38; refine (k5 _).mono ?_; rintro e w6 ⟨u4, rfl, hu4, hb6⟩; have HU4 : Hid _ := isBits_append hu4 HI3.out; have hz4 := isBits_size HU4.out; rw [← HL.out] at hz4; have n6 := (hb6.block w.heap.size z4).trans HN0.out; have f5 := rowcell n6 5; simp only [List.getElem?_toArray, List.getElem?_cons_zero, List.getElem?_cons_succ] at f5; have z6 : w.heap.size < w6.heap.size := (Nat.lt_of_lt_of_le z4 hb6.size); have HB6 : Hid (Below _ _ _) := hb6; have hsz6 : u4.size + dg.size ≤ 9223372036854775807 := (by have := HT.out.2.2; rw [ByteArray.size_append] at hz4; omega); have g6 := (fun wx => run_string_add_sum (P := Try.prog) wx u4 dg hsz6); clear n6 hu4 hb6))
          have hsz4 := isBits_size HU4.out
          rw [← HL.out] at hsz4
          have HU5 : Hid (IsBits (u4 ++ dg) L) := by show IsBits _ _; rw [HL.out]; exact HU4.out
          generalize u4 ++ dg = st at *
          have hst : n ≤ st.size := by rw [hsz4]; have := HT.out.2.1; omega
          have g3 := slice_h (P := Try.prog) (s := st) Try.underlying9 ((n : Int) - 1) (n - 1) (by omega) (by omega)
          have g4 := slice_l (P := Try.prog) (s := st) Try.underlying9 ((n : Int) - 1) (n - 1) (by omega) (by omega)
          have k9 := number_any _ (L.take (n - 1)) (by have := isBits_extract HU5.out 0 (n - 1); exact this) (by rw [HT.out.1]; omega)
          have k10 := left7_any (st.extract (n - 1) st.size) (L.drop (n - 1)) false (by
            have := isBits_extract HU5.out (n - 1) st.size
            rw [List.take_of_length_le (by rw [List.length_drop, hsz4]; exact Nat.le_refl _)] at this
            exact this) (by rw [List.length_drop]; have := HT.out.2.1; omega) (by rw [List.length_drop]; have := HT.out.2.2; omega)
          have q1 : IntKind.i64.wrap ((n : Int) - 1) = (n : Int) - 1 := wrapI (by omega)
          clear hsz4 hz4
          have k9' : ∀ w, Calls Try.prog 39 #[.string (st.extract 0 (n - 1))] w fun e w' => e = .returned (.int .u64 (numOf (L.take (n - 1)) : Nat)) ∧ w' = w := k9
          clear k9
          generalize numOf (L.take (n - 1)) = P at *
          generalize leftL (L.drop (n - 1)) false = lf at *
          have cl6 : ∀ W, Below w6.heap.size w6 W → W.cell? ⟨w.heap.size, 5, none⟩ = some (.bool false) := fun W hW => (hW.cell (p := ⟨w.heap.size, 5, none⟩) z6).trans f5
          refine wpC_region (fun W => W.cell? ⟨w.heap.size, 5, none⟩ = some (.bool false)) (by kernel_rfl) ?_
          refine wpC_take 0 (v := ?_) rfl (by kernel_rfl) (fun _ _ _ h => h) (by kernel_rfl) ?_ ?_; rotate_left; · (intro wC hC; obtain c1 := hC; go_simp <;> with_reducible rfl)
          refine wpC_take 1 (v := ?_) rfl (by kernel_rfl) (fun _ _ _ h => h) (by kernel_rfl) ?_ ?_; rotate_left; · (intro wC hC; obtain c1 := hC; go_simp <;> with_reducible rfl)
          refine wpC_take 2 (v := ?_) rfl (by kernel_rfl) (fun _ _ _ h => h) (by kernel_rfl) ?_ ?_; rotate_left; · (intro wC hC; obtain c1 := hC; go_simp <;> with_reducible rfl)
          refine wpC_take 3 (v := ?_) rfl (by kernel_rfl) (fun _ _ _ h => h) (by kernel_rfl) ?_ ?_; rotate_left; · (intro wC hC; obtain c1 := hC; go_simp <;> with_reducible rfl)
          refine wpC_take 5 (v := ?_) rfl (by kernel_rfl) (fun _ _ _ h => h) (by kernel_rfl) ?_ ?_; rotate_left; · (intro wC hC; obtain c1 := hC; go_simp <;> with_reducible rfl)
          refine wpC_take 6 (v := ?_) rfl (by kernel_rfl) (fun _ _ _ h => h) (by kernel_rfl) ?_ ?_; rotate_left; · (intro wC hC; obtain c1 := hC; go_simp <;> with_reducible rfl)
          refine wpC_take 7 (v := ?_) rfl (by kernel_rfl) (fun _ _ _ h => h) (by kernel_rfl) ?_ ?_; rotate_left; · (intro wC hC; obtain c1 := hC; go_simp <;> with_reducible rfl)
          refine wpC_take 8 (v := ?_) rfl (by kernel_rfl) (fun _ _ _ h => h) (by kernel_rfl) ?_ ?_; rotate_left; · (intro wC hC; obtain c1 := hC; go_simp <;> with_reducible rfl)
          refine wpC_take 9 (v := ?_) rfl (by kernel_rfl) (fun _ _ _ h => h) (by kernel_rfl) ?_ ?_; rotate_left; · (intro wC hC; obtain c1 := hC; go_simp <;> with_reducible rfl)
          refine wpC_take 10 (v := ?_) rfl (by kernel_rfl) (fun _ _ _ h => h) (by kernel_rfl) ?_ ?_; rotate_left; · (intro wC hC; obtain c1 := hC; go_simp <;> with_reducible rfl)
          refine wpC_step 4 rfl (by kernel_rfl) (by kernel_rfl) (cl6 _ (cdrew (Below.refl _ _))) (fun K hK => ?_)
          go_simp
          go_wp2_with ((go_at_call 39; refine (k9' _).mono ?_; rintro e w8 ⟨rfl, hw8⟩; rw [hw8]; clear hw8 w8))
          try (refine hK _ _ ?_; clear hK K)
          refine wpC_step 11 rfl (by kernel_rfl) (by kernel_rfl) (cl6 _ (cdrew (Below.refl _ _))) (fun K hK => ?_)
          go_simp
          go_wp2_with ((go_at_call 40; refine (k10 _).mono ?_; rintro e w9 ⟨rfl, hb9⟩))
          try (refine hK _ _ ?_; clear hK K)
          have B9 := cthen (cdrew (Below.refl w6.heap.size w6)) hb9
          refine wpC_step 12 rfl (by kernel_rfl) (by kernel_rfl) (cl6 _ B9) (fun K hK => ?_)
          go_simp
          try (refine hK _ _ ?_; clear hK K)
          refine wpC_step 13 rfl (by kernel_rfl) (by kernel_rfl) (cl6 _ B9) (fun K hK => ?_)
          go_simp
          try (refine hK _ _ ?_; clear hK K)
          refine wpC_step 14 rfl (by kernel_rfl) (by kernel_rfl) (cl6 _ B9) (fun K hK => ?_)
          go_simp
          try (refine hK _ _ ?_; clear hK K)
          refine wpC_done (by kernel_rfl) (cl6 _ B9) ?_
          go_wp2_with fail
          go_ret3
          exact hQ.out _ _ ⟨rfl, cthen (cthen (below_drewN HBW.out q5) HB6.out) B9⟩
        · clear hj
          go_wp2_with (go_at_call 38; refine (k5 _).mono ?_; rintro e w6 ⟨u4, rfl, hu4, hb6⟩; have HU4 : Hid _ := isBits_append hu4 HI3.out; have hz4 := isBits_size HU4.out; rw [← HL.out] at hz4; have n6 := (hb6.block w.heap.size z4).trans HN0.out; have f5 := rowcell n6 5; simp only [List.getElem?_toArray, List.getElem?_cons_zero, List.getElem?_cons_succ] at f5; have z6 : w.heap.size < w6.heap.size := (Nat.lt_of_lt_of_le z4 hb6.size); have HB6 : Hid (Below _ _ _) := hb6; have hsz6 : u4.size + dg.size ≤ 9223372036854775807 := (by have := HT.out.2.2; rw [ByteArray.size_append] at hz4; omega); have g6 := (fun wx => run_string_add_sum (P := Try.prog) wx u4 dg hsz6); clear n6 hu4 hb6)
          have hsz4 := isBits_size HU4.out
          rw [← HL.out] at hsz4
          have HU5 : Hid (IsBits (u4 ++ dg) L) := by show IsBits _ _; rw [HL.out]; exact HU4.out
          generalize u4 ++ dg = st at *
          have hst : n ≤ st.size := by rw [hsz4]; have := HT.out.2.1; omega
          have g3 := slice_h (P := Try.prog) (s := st) Try.underlying9 ((n : Int) - 1) (n - 1) (by omega) (by omega)
          have g4 := slice_l (P := Try.prog) (s := st) Try.underlying9 ((n : Int) - 1) (n - 1) (by omega) (by omega)
          have k9 := number_any _ (L.take (n - 1)) (by have := isBits_extract HU5.out 0 (n - 1); exact this) (by rw [HT.out.1]; omega)
          have k10 := left7_any (st.extract (n - 1) st.size) (L.drop (n - 1)) true (by
            have := isBits_extract HU5.out (n - 1) st.size
            rw [List.take_of_length_le (by rw [List.length_drop, hsz4]; exact Nat.le_refl _)] at this
            exact this) (by rw [List.length_drop]; have := HT.out.2.1; omega) (by rw [List.length_drop]; have := HT.out.2.2; omega)
          have q1 : IntKind.i64.wrap ((n : Int) - 1) = (n : Int) - 1 := wrapI (by omega)
          clear hsz4 hz4
          have k9' : ∀ w, Calls Try.prog 39 #[.string (st.extract 0 (n - 1))] w fun e w' => e = .returned (.int .u64 (numOf (L.take (n - 1)) : Nat)) ∧ w' = w := k9
          clear k9
          generalize numOf (L.take (n - 1)) = P at *
          generalize leftL (L.drop (n - 1)) true = lf at *
          have cl6 : ∀ W, Below w6.heap.size w6 W → W.cell? ⟨w.heap.size, 5, none⟩ = some (.bool true) := fun W hW => (hW.cell (p := ⟨w.heap.size, 5, none⟩) z6).trans f5
          refine wpC_region (fun W => W.cell? ⟨w.heap.size, 5, none⟩ = some (.bool true)) (by kernel_rfl) ?_
          refine wpC_take 0 (v := ?_) rfl (by kernel_rfl) (fun _ _ _ h => h) (by kernel_rfl) ?_ ?_; rotate_left; · (intro wC hC; obtain c1 := hC; go_simp <;> with_reducible rfl)
          refine wpC_take 1 (v := ?_) rfl (by kernel_rfl) (fun _ _ _ h => h) (by kernel_rfl) ?_ ?_; rotate_left; · (intro wC hC; obtain c1 := hC; go_simp <;> with_reducible rfl)
          refine wpC_take 2 (v := ?_) rfl (by kernel_rfl) (fun _ _ _ h => h) (by kernel_rfl) ?_ ?_; rotate_left; · (intro wC hC; obtain c1 := hC; go_simp <;> with_reducible rfl)
          refine wpC_take 3 (v := ?_) rfl (by kernel_rfl) (fun _ _ _ h => h) (by kernel_rfl) ?_ ?_; rotate_left; · (intro wC hC; obtain c1 := hC; go_simp <;> with_reducible rfl)
          refine wpC_take 5 (v := ?_) rfl (by kernel_rfl) (fun _ _ _ h => h) (by kernel_rfl) ?_ ?_; rotate_left; · (intro wC hC; obtain c1 := hC; go_simp <;> with_reducible rfl)
          refine wpC_take 6 (v := ?_) rfl (by kernel_rfl) (fun _ _ _ h => h) (by kernel_rfl) ?_ ?_; rotate_left; · (intro wC hC; obtain c1 := hC; go_simp <;> with_reducible rfl)
          refine wpC_take 7 (v := ?_) rfl (by kernel_rfl) (fun _ _ _ h => h) (by kernel_rfl) ?_ ?_; rotate_left; · (intro wC hC; obtain c1 := hC; go_simp <;> with_reducible rfl)
          refine wpC_take 8 (v := ?_) rfl (by kernel_rfl) (fun _ _ _ h => h) (by kernel_rfl) ?_ ?_; rotate_left; · (intro wC hC; obtain c1 := hC; go_simp <;> with_reducible rfl)
          refine wpC_take 9 (v := ?_) rfl (by kernel_rfl) (fun _ _ _ h => h) (by kernel_rfl) ?_ ?_; rotate_left; · (intro wC hC; obtain c1 := hC; go_simp <;> with_reducible rfl)
          refine wpC_take 10 (v := ?_) rfl (by kernel_rfl) (fun _ _ _ h => h) (by kernel_rfl) ?_ ?_; rotate_left; · (intro wC hC; obtain c1 := hC; go_simp <;> with_reducible rfl)
          refine wpC_step 4 rfl (by kernel_rfl) (by kernel_rfl) (cl6 _ (cdrew (Below.refl _ _))) (fun K hK => ?_)
          go_simp
          go_wp2_with ((go_at_call 39; refine (k9' _).mono ?_; rintro e w8 ⟨rfl, hw8⟩; rw [hw8]; clear hw8 w8))
          try (refine hK _ _ ?_; clear hK K)
          refine wpC_step 11 rfl (by kernel_rfl) (by kernel_rfl) (cl6 _ (cdrew (Below.refl _ _))) (fun K hK => ?_)
          go_simp
          go_wp2_with ((go_at_call 40; refine (k10 _).mono ?_; rintro e w9 ⟨rfl, hb9⟩))
          try (refine hK _ _ ?_; clear hK K)
          have B9 := cthen (cdrew (Below.refl w6.heap.size w6)) hb9
          refine wpC_step 12 rfl (by kernel_rfl) (by kernel_rfl) (cl6 _ B9) (fun K hK => ?_)
          go_simp
          try (refine hK _ _ ?_; clear hK K)
          refine wpC_step 13 rfl (by kernel_rfl) (by kernel_rfl) (cl6 _ B9) (fun K hK => ?_)
          go_simp
          try (refine hK _ _ ?_; clear hK K)
          refine wpC_step 14 rfl (by kernel_rfl) (by kernel_rfl) (cl6 _ B9) (fun K hK => ?_)
          go_simp
          try (refine hK _ _ ?_; clear hK K)
          refine wpC_done (by kernel_rfl) (cl6 _ B9) ?_
          go_wp2_with fail
          go_ret3
          exact hQ.out _ _ ⟨rfl, cthen (cthen HBW.out HB6.out) B9⟩
      · have e2 : (s == -(4 * (n : Int) - 8)) = false := beq_eq_false_iff_ne.2 (by omega)
        clear cl c2
        cases rest
        · go_wp2_with (first
            | (go_at_call 37; refine (k8 _).mono ?_; rintro e w5 ⟨rfl, q5, rfl⟩)
            | (go_at_call 38; refine (k5 _).mono ?_; rintro e w6 ⟨u4, rfl, hu4, hb6⟩; have HU4 : Hid _ := isBits_append hu4 HI3.out; have hz4 := isBits_size HU4.out; rw [← HL.out] at hz4; have n6 := (hb6.block w.heap.size z4).trans HN0.out; have f5 := rowcell n6 5; simp only [List.getElem?_toArray, List.getElem?_cons_zero, List.getElem?_cons_succ] at f5; have z6 : w.heap.size < w6.heap.size := (Nat.lt_of_lt_of_le z4 hb6.size); have HB6 : Hid (Below _ _ _) := hb6; have hsz6 : u4.size + dg.size ≤ 9223372036854775807 := (by have := HT.out.2.2; rw [ByteArray.size_append] at hz4; omega); have g6 := (fun wx => run_string_add_sum (P := Try.prog) wx u4 dg hsz6); clear n6 hu4 hb6))
          have hsz4 := isBits_size HU4.out
          rw [← HL.out] at hsz4
          have HU5 : Hid (IsBits (u4 ++ dg) L) := by show IsBits _ _; rw [HL.out]; exact HU4.out
          generalize u4 ++ dg = st at *
          have hst : n ≤ st.size := by rw [hsz4]; have := HT.out.2.1; omega
          have g3 := slice_h (P := Try.prog) (s := st) Try.underlying9 ((n : Int) - 1) (n - 1) (by omega) (by omega)
          have g4 := slice_l (P := Try.prog) (s := st) Try.underlying9 ((n : Int) - 1) (n - 1) (by omega) (by omega)
          have k9 := number_any _ (L.take (n - 1)) (by have := isBits_extract HU5.out 0 (n - 1); exact this) (by rw [HT.out.1]; omega)
          have k10 := left7_any (st.extract (n - 1) st.size) (L.drop (n - 1)) false (by
            have := isBits_extract HU5.out (n - 1) st.size
            rw [List.take_of_length_le (by rw [List.length_drop, hsz4]; exact Nat.le_refl _)] at this
            exact this) (by rw [List.length_drop]; have := HT.out.2.1; omega) (by rw [List.length_drop]; have := HT.out.2.2; omega)
          have q1 : IntKind.i64.wrap ((n : Int) - 1) = (n : Int) - 1 := wrapI (by omega)
          clear hsz4 hz4
          have k9' : ∀ w, Calls Try.prog 39 #[.string (st.extract 0 (n - 1))] w fun e w' => e = .returned (.int .u64 (numOf (L.take (n - 1)) : Nat)) ∧ w' = w := k9
          clear k9
          generalize numOf (L.take (n - 1)) = P at *
          generalize leftL (L.drop (n - 1)) false = lf at *
          have cl6 : ∀ W, Below w6.heap.size w6 W → W.cell? ⟨w.heap.size, 5, none⟩ = some (.bool false) := fun W hW => (hW.cell (p := ⟨w.heap.size, 5, none⟩) z6).trans f5
          refine wpC_region (fun W => W.cell? ⟨w.heap.size, 5, none⟩ = some (.bool false)) (by kernel_rfl) ?_
          refine wpC_take 0 (v := ?_) rfl (by kernel_rfl) (fun _ _ _ h => h) (by kernel_rfl) ?_ ?_; rotate_left; · (intro wC hC; obtain c1 := hC; go_simp <;> with_reducible rfl)
          refine wpC_take 1 (v := ?_) rfl (by kernel_rfl) (fun _ _ _ h => h) (by kernel_rfl) ?_ ?_; rotate_left; · (intro wC hC; obtain c1 := hC; go_simp <;> with_reducible rfl)
          refine wpC_take 2 (v := ?_) rfl (by kernel_rfl) (fun _ _ _ h => h) (by kernel_rfl) ?_ ?_; rotate_left; · (intro wC hC; obtain c1 := hC; go_simp <;> with_reducible rfl)
          refine wpC_take 3 (v := ?_) rfl (by kernel_rfl) (fun _ _ _ h => h) (by kernel_rfl) ?_ ?_; rotate_left; · (intro wC hC; obtain c1 := hC; go_simp <;> with_reducible rfl)
          refine wpC_take 5 (v := ?_) rfl (by kernel_rfl) (fun _ _ _ h => h) (by kernel_rfl) ?_ ?_; rotate_left; · (intro wC hC; obtain c1 := hC; go_simp <;> with_reducible rfl)
          refine wpC_take 6 (v := ?_) rfl (by kernel_rfl) (fun _ _ _ h => h) (by kernel_rfl) ?_ ?_; rotate_left; · (intro wC hC; obtain c1 := hC; go_simp <;> with_reducible rfl)
          refine wpC_take 7 (v := ?_) rfl (by kernel_rfl) (fun _ _ _ h => h) (by kernel_rfl) ?_ ?_; rotate_left; · (intro wC hC; obtain c1 := hC; go_simp <;> with_reducible rfl)
          refine wpC_take 8 (v := ?_) rfl (by kernel_rfl) (fun _ _ _ h => h) (by kernel_rfl) ?_ ?_; rotate_left; · (intro wC hC; obtain c1 := hC; go_simp <;> with_reducible rfl)
          refine wpC_take 9 (v := ?_) rfl (by kernel_rfl) (fun _ _ _ h => h) (by kernel_rfl) ?_ ?_; rotate_left; · (intro wC hC; obtain c1 := hC; go_simp <;> with_reducible rfl)
          refine wpC_take 10 (v := ?_) rfl (by kernel_rfl) (fun _ _ _ h => h) (by kernel_rfl) ?_ ?_; rotate_left; · (intro wC hC; obtain c1 := hC; go_simp <;> with_reducible rfl)
          refine wpC_step 4 rfl (by kernel_rfl) (by kernel_rfl) (cl6 _ (cdrew (Below.refl _ _))) (fun K hK => ?_)
          go_simp
          go_wp2_with ((go_at_call 39; refine (k9' _).mono ?_; rintro e w8 ⟨rfl, hw8⟩; rw [hw8]; clear hw8 w8))
          try (refine hK _ _ ?_; clear hK K)
          refine wpC_step 11 rfl (by kernel_rfl) (by kernel_rfl) (cl6 _ (cdrew (Below.refl _ _))) (fun K hK => ?_)
          go_simp
          go_wp2_with ((go_at_call 40; refine (k10 _).mono ?_; rintro e w9 ⟨rfl, hb9⟩))
          try (refine hK _ _ ?_; clear hK K)
          have B9 := cthen (cdrew (Below.refl w6.heap.size w6)) hb9
          refine wpC_step 12 rfl (by kernel_rfl) (by kernel_rfl) (cl6 _ B9) (fun K hK => ?_)
          go_simp
          try (refine hK _ _ ?_; clear hK K)
          refine wpC_step 13 rfl (by kernel_rfl) (by kernel_rfl) (cl6 _ B9) (fun K hK => ?_)
          go_simp
          try (refine hK _ _ ?_; clear hK K)
          refine wpC_step 14 rfl (by kernel_rfl) (by kernel_rfl) (cl6 _ B9) (fun K hK => ?_)
          go_simp
          try (refine hK _ _ ?_; clear hK K)
          refine wpC_done (by kernel_rfl) (cl6 _ B9) ?_
          go_wp2_with fail
          go_ret3
          exact hQ.out _ _ ⟨rfl, cthen (cthen (below_drewN HBW.out q5) HB6.out) B9⟩
        · go_wp2_with (go_at_call 38; refine (k5 _).mono ?_; rintro e w6 ⟨u4, rfl, hu4, hb6⟩; have HU4 : Hid _ := isBits_append hu4 HI3.out; have hz4 := isBits_size HU4.out; rw [← HL.out] at hz4; have n6 := (hb6.block w.heap.size z4).trans HN0.out; have f5 := rowcell n6 5; simp only [List.getElem?_toArray, List.getElem?_cons_zero, List.getElem?_cons_succ] at f5; have z6 : w.heap.size < w6.heap.size := (Nat.lt_of_lt_of_le z4 hb6.size); have HB6 : Hid (Below _ _ _) := hb6; have hsz6 : u4.size + dg.size ≤ 9223372036854775807 := (by have := HT.out.2.2; rw [ByteArray.size_append] at hz4; omega); have g6 := (fun wx => run_string_add_sum (P := Try.prog) wx u4 dg hsz6); clear n6 hu4 hb6)
          have hsz4 := isBits_size HU4.out
          rw [← HL.out] at hsz4
          have HU5 : Hid (IsBits (u4 ++ dg) L) := by show IsBits _ _; rw [HL.out]; exact HU4.out
          generalize u4 ++ dg = st at *
          have hst : n ≤ st.size := by rw [hsz4]; have := HT.out.2.1; omega
          have g3 := slice_h (P := Try.prog) (s := st) Try.underlying9 ((n : Int) - 1) (n - 1) (by omega) (by omega)
          have g4 := slice_l (P := Try.prog) (s := st) Try.underlying9 ((n : Int) - 1) (n - 1) (by omega) (by omega)
          have k9 := number_any _ (L.take (n - 1)) (by have := isBits_extract HU5.out 0 (n - 1); exact this) (by rw [HT.out.1]; omega)
          have k10 := left7_any (st.extract (n - 1) st.size) (L.drop (n - 1)) true (by
            have := isBits_extract HU5.out (n - 1) st.size
            rw [List.take_of_length_le (by rw [List.length_drop, hsz4]; exact Nat.le_refl _)] at this
            exact this) (by rw [List.length_drop]; have := HT.out.2.1; omega) (by rw [List.length_drop]; have := HT.out.2.2; omega)
          have q1 : IntKind.i64.wrap ((n : Int) - 1) = (n : Int) - 1 := wrapI (by omega)
          clear hsz4 hz4
          have k9' : ∀ w, Calls Try.prog 39 #[.string (st.extract 0 (n - 1))] w fun e w' => e = .returned (.int .u64 (numOf (L.take (n - 1)) : Nat)) ∧ w' = w := k9
          clear k9
          generalize numOf (L.take (n - 1)) = P at *
          generalize leftL (L.drop (n - 1)) true = lf at *
          have cl6 : ∀ W, Below w6.heap.size w6 W → W.cell? ⟨w.heap.size, 5, none⟩ = some (.bool true) := fun W hW => (hW.cell (p := ⟨w.heap.size, 5, none⟩) z6).trans f5
          refine wpC_region (fun W => W.cell? ⟨w.heap.size, 5, none⟩ = some (.bool true)) (by kernel_rfl) ?_
          refine wpC_take 0 (v := ?_) rfl (by kernel_rfl) (fun _ _ _ h => h) (by kernel_rfl) ?_ ?_; rotate_left; · (intro wC hC; obtain c1 := hC; go_simp <;> with_reducible rfl)
          refine wpC_take 1 (v := ?_) rfl (by kernel_rfl) (fun _ _ _ h => h) (by kernel_rfl) ?_ ?_; rotate_left; · (intro wC hC; obtain c1 := hC; go_simp <;> with_reducible rfl)
          refine wpC_take 2 (v := ?_) rfl (by kernel_rfl) (fun _ _ _ h => h) (by kernel_rfl) ?_ ?_; rotate_left; · (intro wC hC; obtain c1 := hC; go_simp <;> with_reducible rfl)
          refine wpC_take 3 (v := ?_) rfl (by kernel_rfl) (fun _ _ _ h => h) (by kernel_rfl) ?_ ?_; rotate_left; · (intro wC hC; obtain c1 := hC; go_simp <;> with_reducible rfl)
          refine wpC_take 5 (v := ?_) rfl (by kernel_rfl) (fun _ _ _ h => h) (by kernel_rfl) ?_ ?_; rotate_left; · (intro wC hC; obtain c1 := hC; go_simp <;> with_reducible rfl)
          refine wpC_take 6 (v := ?_) rfl (by kernel_rfl) (fun _ _ _ h => h) (by kernel_rfl) ?_ ?_; rotate_left; · (intro wC hC; obtain c1 := hC; go_simp <;> with_reducible rfl)
          refine wpC_take 7 (v := ?_) rfl (by kernel_rfl) (fun _ _ _ h => h) (by kernel_rfl) ?_ ?_; rotate_left; · (intro wC hC; obtain c1 := hC; go_simp <;> with_reducible rfl)
          refine wpC_take 8 (v := ?_) rfl (by kernel_rfl) (fun _ _ _ h => h) (by kernel_rfl) ?_ ?_; rotate_left; · (intro wC hC; obtain c1 := hC; go_simp <;> with_reducible rfl)
          refine wpC_take 9 (v := ?_) rfl (by kernel_rfl) (fun _ _ _ h => h) (by kernel_rfl) ?_ ?_; rotate_left; · (intro wC hC; obtain c1 := hC; go_simp <;> with_reducible rfl)
          refine wpC_take 10 (v := ?_) rfl (by kernel_rfl) (fun _ _ _ h => h) (by kernel_rfl) ?_ ?_; rotate_left; · (intro wC hC; obtain c1 := hC; go_simp <;> with_reducible rfl)
          refine wpC_step 4 rfl (by kernel_rfl) (by kernel_rfl) (cl6 _ (cdrew (Below.refl _ _))) (fun K hK => ?_)
          go_simp
          go_wp2_with ((go_at_call 39; refine (k9' _).mono ?_; rintro e w8 ⟨rfl, hw8⟩; rw [hw8]; clear hw8 w8))
          try (refine hK _ _ ?_; clear hK K)
          refine wpC_step 11 rfl (by kernel_rfl) (by kernel_rfl) (cl6 _ (cdrew (Below.refl _ _))) (fun K hK => ?_)
          go_simp
          go_wp2_with ((go_at_call 40; refine (k10 _).mono ?_; rintro e w9 ⟨rfl, hb9⟩))
          try (refine hK _ _ ?_; clear hK K)
          have B9 := cthen (cdrew (Below.refl w6.heap.size w6)) hb9
          refine wpC_step 12 rfl (by kernel_rfl) (by kernel_rfl) (cl6 _ B9) (fun K hK => ?_)
          go_simp
          try (refine hK _ _ ?_; clear hK K)
          refine wpC_step 13 rfl (by kernel_rfl) (by kernel_rfl) (cl6 _ B9) (fun K hK => ?_)
          go_simp
          try (refine hK _ _ ?_; clear hK K)
          refine wpC_step 14 rfl (by kernel_rfl) (by kernel_rfl) (cl6 _ B9) (fun K hK => ?_)
          go_simp
          try (refine hK _ _ ?_; clear hK K)
          refine wpC_done (by kernel_rfl) (cl6 _ B9) ?_
          go_wp2_with fail
          go_ret3
          exact hQ.out _ _ ⟨rfl, cthen (cthen HBW.out HB6.out) B9⟩
end Go.Proofs.Ytajlgpamcpgalaa
