import Derived.Test.YtheliihkkoohnaaGreatJoin2
import Derived.Test.YtheliihkkoohnaaGreatJoin1
import Derived.Test.YtheliihkkoohnaaGreatProg
import Derived.OwnWalk
import Derived.Lib.SmallJoins
namespace Go.Proofs.YtheliihkkoohnaaGreat
open Go.ChangeShapes Go.WideShapes Go.ChangeAt Go.RowKit
set_option linter.unusedVariables false
set_option linter.unusedSimpArgs false
set_option maxRecDepth 100000

/-! ### the document's Cut -/
theorem cut7_zero (n : Nat) (hn : Wd n) (w : World) :
    Calls Tryz.prog 73 #[.int .i64 n, exV 0 false 0 0 0 false] w fun e w' => e = .returned (.tuple #[.int .u64 0, .int .i64 0, .int .i64 0]) ∧ Below w.heap.size w w' := by
  have k1 := is_width n
  rw [isW_of hn] at k1
  have k2 := sound7_any 0 false 0 0 0 false
  rw [show soundX 0 false 0 0 0 false = true from rfl] at k2
  unfold exV at *
  clear hn
  refine cps fun Q hQ => ?_
  go_enter Tryz.func73, Tryz.ntmps73
  go_wp2_with (first
    | (go_at_call 21; refine (k1 _).mono ?_; rintro e w1 ⟨rfl, hw⟩; rw [hw]; clear hw w1)
    | (go_at_call 51; refine (k2 _).mono ?_; rintro e w2 ⟨rfl, hb2⟩; have hc := fun b o h => hb2.cell (p := ⟨b, o, none⟩) h; have z1 : w.heap.size < w2.heap.size := (by have := hb2.size; simp at this; omega)))
  go_ret3
  exact hQ.out _ _ ⟨rfl, cthen (cmore (Below.refl _ _) _) hb2⟩
theorem cut7_nar (n : Nat) (hn : Wd n) (w : World) :
    Calls Tryz.prog 73 #[.int .i64 n, exV 2 false 0 0 0 false] w fun e w' => e = .returned (.tuple #[.int .u64 (2 ^ (n - 1) : Nat), .int .i64 0, .int .i64 0]) ∧ Below w.heap.size w w' := by
  have k1 := is_width n
  rw [isW_of hn] at k1
  have k2 := sound7_any 2 false 0 0 0 false
  rw [show soundX 2 false 0 0 0 false = true from rfl] at k2
  have hw := wd_le hn
  have k3 := power_sub n (by omega) hw.2
  generalize 2 ^ (n - 1) = pw at *
  unfold exV at *
  clear hn
  refine cps fun Q hQ => ?_
  go_enter Tryz.func73, Tryz.ntmps73
  go_wp2_with (first
    | (go_at_call 21; refine (k1 _).mono ?_; rintro e w1 ⟨rfl, hw⟩; rw [hw]; clear hw w1)
    | (go_at_call 111; refine (k3 _).mono ?_; rintro e w1 ⟨rfl, hw⟩; rw [hw]; clear hw w1)
    | (go_at_call 51; refine (k2 _).mono ?_; rintro e w2 ⟨rfl, hb2⟩; have hc := fun b o h => hb2.cell (p := ⟨b, o, none⟩) h; have z1 : w.heap.size < w2.heap.size := (by have := hb2.size; simp at this; omega)))
  go_ret3
  exact hQ.out _ _ ⟨rfl, cthen (cmore (Below.refl _ _) _) hb2⟩
set_option maxHeartbeats 8000000 in
theorem cut7_real (n : Nat) (neg : Bool) (s : Int) (hi lo : Nat) (rest : Bool) (hn : Wd n) (hs : soundX 1 neg s hi lo rest = true) (h : WordsX hi lo) (w : World) :
    Calls Tryz.prog 73 #[.int .i64 n, exV 1 neg s hi lo rest] w fun e w' => e = .returned (.tuple #[.int .u64 (cutX n s hi lo rest).1, .int .i64 (cutX n s hi lo rest).2, .int .i64 0]) ∧ Below w.heap.size w w' := by
  have k1 := is_width n
  rw [isW_of hn] at k1
  have k2 := sound7_any 1 neg s hi lo rest
  rw [hs] at k2
  have hw := wd_le hn
  have k3 := power_sub n (by omega) hw.2
  have k6 := text_any hi 64 (by decide)
  have k7 := text_any lo 64 (by decide)
  unfold exV at *
  refine cps fun Q hQ => ?_
  go_enter Tryz.func73, Tryz.ntmps73
  go_wp2_with (first
    | (go_at_call 21; refine (k1 _).mono ?_; rintro e w1 ⟨rfl, hw⟩; rw [hw]; clear hw w1)
    | (go_at_call 51; refine (k2 _).mono ?_; rintro e w2 ⟨rfl, hb2⟩; have R0 := (hb2.block w.heap.size (by simp)).trans (rownew w _ _); have z1 : w.heap.size < w2.heap.size := (by have := hb2.size; simp at this; omega); have b0 := rowcell R0 0; have b1 := rowcell R0 1; have b2 := rowcell R0 2; have b3 := rowcell R0 3; have b4 := rowcell R0 4; have b5 := rowcell R0 5; simp only [List.getElem?_toArray, List.getElem?_cons_zero, List.getElem?_cons_succ] at b0 b1 b2 b3 b4 b5; have HR0 : Hid _ := R0; have HB2 : Hid (Below _ _ _) := hb2; clear R0 hb2))
  have cls : ∀ W, Below w2.heap.size w2 W → W.cell? ⟨w.heap.size, 3, none⟩ = some (.int .u64 hi) ∧ W.cell? ⟨w.heap.size, 4, none⟩ = some (.int .u64 lo) := fun W hW =>
    ⟨(hW.cell (p := ⟨w.heap.size, 3, none⟩) z1).trans b3, (hW.cell (p := ⟨w.heap.size, 4, none⟩) z1).trans b4⟩
  refine wpC_region (fun W => W.cell? ⟨w.heap.size, 3, none⟩ = some (.int .u64 hi) ∧ W.cell? ⟨w.heap.size, 4, none⟩ = some (.int .u64 lo)) (by kernel_rfl) ?_
  refine wpC_take 0 (v := ?_) rfl (by kernel_rfl) (fun _ _ _ h => h) (by kernel_rfl) ?_ ?_; rotate_left; · (intro wC hC; obtain ⟨c1, c2⟩ := hC; go_simp <;> with_reducible rfl)
  refine wpC_take 1 (v := ?_) rfl (by kernel_rfl) (fun _ _ _ h => h) (by kernel_rfl) ?_ ?_; rotate_left; · (intro wC hC; obtain ⟨c1, c2⟩ := hC; go_simp <;> with_reducible rfl)
  refine wpC_take 4 (v := ?_) rfl (by kernel_rfl) (fun _ _ _ h => h) (by kernel_rfl) ?_ ?_; rotate_left; · (intro wC hC; obtain ⟨c1, c2⟩ := hC; go_simp <;> with_reducible rfl)
  refine wpC_take 5 (v := ?_) rfl (by kernel_rfl) (fun _ _ _ h => h) (by kernel_rfl) ?_ ?_; rotate_left; · (intro wC hC; obtain ⟨c1, c2⟩ := hC; go_simp <;> with_reducible rfl)
  refine wpC_step 2 rfl (by kernel_rfl) (by kernel_rfl) (cls _ (cdrew (Below.refl _ _))) (fun K hK => ?_)
  go_simp
  go_wp2_with ((go_at_call 109; refine (k6 _).mono ?_; rintro e w3 ⟨u1, rfl, hu1, hb3⟩))
  try (refine hK _ _ ?_; clear hK K)
  have B3 := cthen (cdrew (Below.refl w2.heap.size w2)) hb3
  have hz1 := isBits_size hu1
  rw [bitsOf_length] at hz1
  have g1 := slice_l (P := Tryz.prog) (s := u1) Tryz.underlying9 1 1 rfl (by omega)
  rw [hz1] at g1
  have hi1 : IsBits (u1.extract 1 64) ((bitsOf hi 64).drop 1) := by
    have := isBits_extract hu1 1 64
    rw [List.take_of_length_le (by rw [List.length_drop, bitsOf_length]; exact Nat.le_refl _)] at this
    exact this
  generalize u1.extract 1 64 = u2 at *
  refine wpC_take 3 (v := ?_) rfl (by kernel_rfl) (fun _ _ _ h => h) (by kernel_rfl) ?_ ?_; rotate_left; · (intro wC hC; obtain ⟨c1, c2⟩ := hC; go_simp <;> with_reducible rfl)
  refine wpC_step 6 rfl (by kernel_rfl) (by kernel_rfl) (cls _ B3) (fun K hK => ?_)
  go_simp
  go_wp2_with ((go_at_call 109; refine (k7 _).mono ?_; rintro e w4 ⟨u3, rfl, hu3, hb4⟩))
  try (refine hK _ _ ?_; clear hK K)
  have B4 := cthen B3 hb4
  have hi3 : IsBits (u2 ++ u3) (digX hi lo) := isBits_append hi1 hu3
  have hz3 := isBits_size hi3
  rw [digX_length] at hz3
  have hzz : u2.size + u3.size ≤ 9223372036854775807 := by rw [ByteArray.size_append] at hz3; omega
  have g2 := fun wx => run_string_add_sum (P := Tryz.prog) wx u2 u3 hzz
  have HI3 : Hid _ := hi3
  have HB4 : Hid (Below w2.heap.size w2 w4) := B4
  refine wpC_take 7 (v := ?_) rfl (by kernel_rfl) (fun _ _ _ h => h) (by kernel_rfl) ?_ ?_; rotate_left; · (intro wC hC; obtain ⟨c1, c2⟩ := hC; go_simp <;> with_reducible rfl)
  generalize u2 ++ u3 = dg at *
  refine wpC_step 8 rfl (by kernel_rfl) (by kernel_rfl) (cls _ B4) (fun K hK => ?_)
  go_simp
  try (refine hK _ _ ?_; clear hK K)
  refine wpC_done (by kernel_rfl) (cls _ B4) ?_
  have k8 := fun w => some7_any dg (digX hi lo) HI3.out (by rw [digX_length]; decide) w
  have n0 := (HB4.out.block w.heap.size z1).trans HR0.out
  have a2 := rowcell n0 2
  have a5 := rowcell n0 5
  simp only [List.getElem?_toArray, List.getElem?_cons_zero, List.getElem?_cons_succ] at a2 a5
  have HN0 : Hid _ := n0
  have z4 : w.heap.size < w4.heap.size := Nat.lt_of_lt_of_le z1 HB4.out.size
  have HBW : Hid (Below w.heap.size w w4) := cthen (cthen (cmore (Below.refl _ _) _) HB2.out) HB4.out
  clear n0 b0 b1 b2 b3 b4 b5 B3 B4 cls g1 g2 hi1 hi3 hzz hu1 hu3 hb3 hb4 k1 k2 k6 k7 HR0 hs hz1
  obtain ⟨an, han⟩ : ∃ an, an = (digX hi lo).any id := ⟨_, rfl⟩
  rw [← han] at k8
  have HJ : Hid (justX hi lo rest = (!rest && !an)) := by show _ = _; rw [han]; rfl
  clear han
  by_cases ct : 4 * (n : Int) - 8 ≤ s
  · have hc : cutX n s hi lo rest = (2 ^ (n - 1) - 1, 0) := by unfold cutX; rw [if_pos ct]
    rw [hc] at hQ
    have hp1 : 1 ≤ 2 ^ (n - 1) := Nat.one_le_two_pow
    have hp2 : ((2 ^ (n - 1) : Nat) : Int) - 1 = ((2 ^ (n - 1) - 1 : Nat) : Int) := by omega
    have hp3 : IntKind.u64.wrap ((2 ^ (n - 1) - 1 : Nat) : Int) = ((2 ^ (n - 1) - 1 : Nat) : Int) := by
      have : 2 ^ (n - 1) ≤ 2 ^ 63 := Nat.pow_le_pow_right (by decide) (by omega)
      rw [IntKind.wrap_u64]; omega
    generalize 2 ^ (n - 1) = pw at *
    clear hc hn h
    cases rest
    · go_wp2_with (first
        | (go_at_call 112; refine (k8 _).mono ?_; rintro e w5 ⟨rfl, q5, rfl⟩)
        | (go_at_call 111; refine (k3 _).mono ?_; rintro e w1 ⟨rfl, hw⟩; rw [hw]; clear hw w1))
      all_goals
        go_ret3
        exact hQ.out _ _ ⟨rfl, below_drewN HBW.out _⟩
    · go_wp2_with (go_at_call 111; refine (k3 _).mono ?_; rintro e w1 ⟨rfl, hw⟩; rw [hw]; clear hw w1)
      all_goals
        go_ret3
        exact hQ.out _ _ ⟨rfl, HBW.out⟩
  · have et : decide (4 * (n : Int) - 8 ≤ s) = false := decide_eq_false ct
    by_cases cl : s < 8 - 4 * (n : Int) ∨ (s = 8 - 4 * n ∧ justX hi lo rest = true)
    · have hc : cutX n s hi lo rest = (1, 0) := by unfold cutX; rw [if_neg ct, if_pos cl]
      rw [hc] at hQ
      rw [HJ.out] at cl
      clear hc hn h k3
      by_cases c1 : s < 8 - 4 * (n : Int)
      · have e1 : decide (s < -(4 * (n : Int) - 8)) = true := decide_eq_true (by omega)
        cases rest
        · go_wp2_with (go_at_call 112; refine (k8 _).mono ?_; rintro e w5 ⟨rfl, q5, rfl⟩)
          all_goals
            go_ret3
            exact hQ.out _ _ ⟨rfl, below_drewN HBW.out _⟩
        · go_wp2
          all_goals
            go_ret3
            exact hQ.out _ _ ⟨rfl, HBW.out⟩
      · have c2 : s = 8 - 4 * (n : Int) ∧ rest = false ∧ an = false := by
          rcases cl with h | ⟨h1, h2⟩
          · exact absurd h c1
          · cases rest <;> cases an <;> simp_all
        obtain ⟨c3, rfl, rfl⟩ := c2
        have e1 : decide (s < -(4 * (n : Int) - 8)) = false := decide_eq_false (by omega)
        have e2 : (s == -(4 * (n : Int) - 8)) = true := beq_iff_eq.2 (by omega)
        clear cl
        go_wp2_with (go_at_call 112; refine (k8 _).mono ?_; rintro e w5 ⟨rfl, q5, rfl⟩)
        all_goals
          go_ret3
          exact hQ.out _ _ ⟨rfl, below_drewN HBW.out _⟩
    · have hc : cutX n s hi lo rest = (numOf ((strX s hi lo).take (n - 1)), leftL ((strX s hi lo).drop (n - 1)) rest) := by unfold cutX; rw [if_neg ct, if_neg cl]
      rw [hc] at hQ
      rw [HJ.out] at cl
      have hr1 : ¬ s < 8 - 4 * (n : Int) := fun c => cl (.inl c)
      have e1 : decide (s < -(4 * (n : Int) - 8)) = false := decide_eq_false (by omega)
      have k5 := head6_any s (by omega) (by omega)
      obtain ⟨t1, t2, t3, t4⟩ := strX_mid n s hi lo hn (by omega) (by omega)
      obtain ⟨L, hL⟩ : ∃ L, L = strX s hi lo := ⟨_, rfl⟩
      have HL : Hid (L = headK (s / 4) ++ bitsOf (s % 4).toNat 2 ++ digX hi lo) := hL
      have hlen : (strX s hi lo).length ≤ 209 := (zed_str s (manX hi lo) (digX hi lo) (digX_length hi lo) (digX_num h) (by omega) (by omega)).1
      rw [← hL] at t3 t4 hlen hQ
      have HT : Hid ((L.take (n - 1)).length = n - 1 ∧ n - 1 < L.length ∧ L.length ≤ 209) := ⟨t3, t4, hlen⟩
      clear hc hn h k3 t1 t2 t3 t4 hL hlen hr1
      by_cases c2 : s = 8 - 4 * (n : Int)
      · have e2 : (s == -(4 * (n : Int) - 8)) = true := beq_iff_eq.2 (by omega)
        have hj : rest = true ∨ an = true := by
          cases rest <;> cases an <;> simp_all
        clear cl c2
        cases rest
        · have han2 : an = true := by simpa using hj
          subst han2
          clear hj
          go_wp2_with (first
            | (go_at_call 112; refine (k8 _).mono ?_; rintro e w5 ⟨rfl, q5, rfl⟩)
            | (go_at_call 113; refine (k5 _).mono ?_; rintro e w6 ⟨u4, rfl, hu4, hb6⟩; have HU4 : Hid _ := isBits_append hu4 HI3.out; have hz4 := isBits_size HU4.out; rw [← HL.out] at hz4; have n6 := (hb6.block w.heap.size z4).trans HN0.out; have f5 := rowcell n6 5; simp only [List.getElem?_toArray, List.getElem?_cons_zero, List.getElem?_cons_succ] at f5; have z6 : w.heap.size < w6.heap.size := (Nat.lt_of_lt_of_le z4 hb6.size); have HB6 : Hid (Below _ _ _) := hb6; have hsz6 : u4.size + dg.size ≤ 9223372036854775807 := (by have := HT.out.2.2; rw [ByteArray.size_append] at hz4; omega); have g6 := (fun wx => run_string_add_sum (P := Tryz.prog) wx u4 dg hsz6); clear n6 hu4 hb6))
          have hsz4 := isBits_size HU4.out
          rw [← HL.out] at hsz4
          have HU5 : Hid (IsBits (u4 ++ dg) L) := by show IsBits _ _; rw [HL.out]; exact HU4.out
          generalize u4 ++ dg = st at *
          have hst : n ≤ st.size := by rw [hsz4]; have := HT.out.2.1; omega
          have g3 := slice_h (P := Tryz.prog) (s := st) Tryz.underlying9 ((n : Int) - 1) (n - 1) (by omega) (by omega)
          have g4 := slice_l (P := Tryz.prog) (s := st) Tryz.underlying9 ((n : Int) - 1) (n - 1) (by omega) (by omega)
          have k9 := number_any _ (L.take (n - 1)) (by have := isBits_extract HU5.out 0 (n - 1); exact this) (by rw [HT.out.1]; omega)
          have k10 := left7_any (st.extract (n - 1) st.size) (L.drop (n - 1)) false (by
            have := isBits_extract HU5.out (n - 1) st.size
            rw [List.take_of_length_le (by rw [List.length_drop, hsz4]; exact Nat.le_refl _)] at this
            exact this) (by rw [List.length_drop]; have := HT.out.2.1; omega) (by rw [List.length_drop]; have := HT.out.2.2; omega)
          have q1 : IntKind.i64.wrap ((n : Int) - 1) = (n : Int) - 1 := wrapI (by omega)
          clear hsz4 hz4
          have k9' : ∀ w, Calls Tryz.prog 110 #[.string (st.extract 0 (n - 1))] w fun e w' => e = .returned (.int .u64 (numOf (L.take (n - 1)) : Nat)) ∧ w' = w := k9
          clear k9
          generalize numOf (L.take (n - 1)) = P at *
          generalize leftL (L.drop (n - 1)) false = lf at *
          have cl6 : ∀ W, Below w6.heap.size w6 W → W.cell? ⟨w.heap.size, 5, none⟩ = some (.bool false) := fun W hW => (hW.cell (p := ⟨w.heap.size, 5, none⟩) z6).trans f5
          refine wpC_region (fun W => W.cell? ⟨w.heap.size, 5, none⟩ = some (.bool false)) (by kernel_rfl) ?_
          refine wpC_take 0 (v := ?_) rfl (by kernel_rfl) (fun _ _ _ h => h) (by kernel_rfl) ?_ ?_; rotate_left; · (intro wC hC; obtain c1 := hC; go_simp <;> with_reducible rfl)
          refine wpC_take 1 (v := ?_) rfl (by kernel_rfl) (fun _ _ _ h => h) (by kernel_rfl) ?_ ?_; rotate_left; · (intro wC hC; obtain c1 := hC; go_simp <;> with_reducible rfl)
          refine wpC_take 2 (v := ?_) rfl (by kernel_rfl) (fun _ _ _ h => h) (by kernel_rfl) ?_ ?_; rotate_left; · (intro wC hC; obtain c1 := hC; go_simp <;> with_reducible rfl)
          refine wpC_take 3 (v := ?_) rfl (by kernel_rfl) (fun _ _ _ h => h) (by kernel_rfl) ?_ ?_; rotate_left; · (intro wC hC; obtain c1 := hC; go_simp <;> with_reducible rfl)
          refine wpC_take 5 (v := ?_) rfl (by kernel_rfl) (fun _ _ _ h => h) (by kernel_rfl) ?_ ?_; rotate_left; · (intro wC hC; obtain c1 := hC; go_simp <;> with_reducible rfl)
          refine wpC_take 6 (v := ?_) rfl (by kernel_rfl) (fun _ _ _ h => h) (by kernel_rfl) ?_ ?_; rotate_left; · (intro wC hC; obtain c1 := hC; go_simp <;> with_reducible rfl)
          refine wpC_take 7 (v := ?_) rfl (by kernel_rfl) (fun _ _ _ h => h) (by kernel_rfl) ?_ ?_; rotate_left; · (intro wC hC; obtain c1 := hC; go_simp <;> with_reducible rfl)
          refine wpC_take 8 (v := ?_) rfl (by kernel_rfl) (fun _ _ _ h => h) (by kernel_rfl) ?_ ?_; rotate_left; · (intro wC hC; obtain c1 := hC; go_simp <;> with_reducible rfl)
          refine wpC_take 9 (v := ?_) rfl (by kernel_rfl) (fun _ _ _ h => h) (by kernel_rfl) ?_ ?_; rotate_left; · (intro wC hC; obtain c1 := hC; go_simp <;> with_reducible rfl)
          refine wpC_take 10 (v := ?_) rfl (by kernel_rfl) (fun _ _ _ h => h) (by kernel_rfl) ?_ ?_; rotate_left; · (intro wC hC; obtain c1 := hC; go_simp <;> with_reducible rfl)
          refine wpC_step 4 rfl (by kernel_rfl) (by kernel_rfl) (cl6 _ (cdrew (Below.refl _ _))) (fun K hK => ?_)
          go_simp
          go_wp2_with ((go_at_call 110; refine (k9' _).mono ?_; rintro e w8 ⟨rfl, hw8⟩; rw [hw8]; clear hw8 w8))
          try (refine hK _ _ ?_; clear hK K)
          refine wpC_step 11 rfl (by kernel_rfl) (by kernel_rfl) (cl6 _ (cdrew (Below.refl _ _))) (fun K hK => ?_)
          go_simp
          go_wp2_with ((go_at_call 114; refine (k10 _).mono ?_; rintro e w9 ⟨rfl, hb9⟩))
          try (refine hK _ _ ?_; clear hK K)
          have B9 := cthen (cdrew (Below.refl w6.heap.size w6)) hb9
          refine wpC_step 12 rfl (by kernel_rfl) (by kernel_rfl) (cl6 _ B9) (fun K hK => ?_)
          go_simp
          try (refine hK _ _ ?_; clear hK K)
          refine wpC_step 13 rfl (by kernel_rfl) (by kernel_rfl) (cl6 _ B9) (fun K hK => ?_)
          go_simp
          try (refine hK _ _ ?_; clear hK K)
          refine wpC_step 14 rfl (by kernel_rfl) (by kernel_rfl) (cl6 _ B9) (fun K hK => ?_)
          go_simp
          try (refine hK _ _ ?_; clear hK K)
          refine wpC_done (by kernel_rfl) (cl6 _ B9) ?_
          go_wp2_with fail
          go_ret3
          exact hQ.out _ _ ⟨rfl, cthen (cthen (below_drewN HBW.out q5) HB6.out) B9⟩
        · clear hj
          go_wp2_with (go_at_call 113; refine (k5 _).mono ?_; rintro e w6 ⟨u4, rfl, hu4, hb6⟩; have HU4 : Hid _ := isBits_append hu4 HI3.out; have hz4 := isBits_size HU4.out; rw [← HL.out] at hz4; have n6 := (hb6.block w.heap.size z4).trans HN0.out; have f5 := rowcell n6 5; simp only [List.getElem?_toArray, List.getElem?_cons_zero, List.getElem?_cons_succ] at f5; have z6 : w.heap.size < w6.heap.size := (Nat.lt_of_lt_of_le z4 hb6.size); have HB6 : Hid (Below _ _ _) := hb6; have hsz6 : u4.size + dg.size ≤ 9223372036854775807 := (by have := HT.out.2.2; rw [ByteArray.size_append] at hz4; omega); have g6 := (fun wx => run_string_add_sum (P := Tryz.prog) wx u4 dg hsz6); clear n6 hu4 hb6)
          have hsz4 := isBits_size HU4.out
          rw [← HL.out] at hsz4
          have HU5 : Hid (IsBits (u4 ++ dg) L) := by show IsBits _ _; rw [HL.out]; exact HU4.out
          generalize u4 ++ dg = st at *
          have hst : n ≤ st.size := by rw [hsz4]; have := HT.out.2.1; omega
          have g3 := slice_h (P := Tryz.prog) (s := st) Tryz.underlying9 ((n : Int) - 1) (n - 1) (by omega) (by omega)
          have g4 := slice_l (P := Tryz.prog) (s := st) Tryz.underlying9 ((n : Int) - 1) (n - 1) (by omega) (by omega)
          have k9 := number_any _ (L.take (n - 1)) (by have := isBits_extract HU5.out 0 (n - 1); exact this) (by rw [HT.out.1]; omega)
          have k10 := left7_any (st.extract (n - 1) st.size) (L.drop (n - 1)) true (by
            have := isBits_extract HU5.out (n - 1) st.size
            rw [List.take_of_length_le (by rw [List.length_drop, hsz4]; exact Nat.le_refl _)] at this
            exact this) (by rw [List.length_drop]; have := HT.out.2.1; omega) (by rw [List.length_drop]; have := HT.out.2.2; omega)
          have q1 : IntKind.i64.wrap ((n : Int) - 1) = (n : Int) - 1 := wrapI (by omega)
          clear hsz4 hz4
          have k9' : ∀ w, Calls Tryz.prog 110 #[.string (st.extract 0 (n - 1))] w fun e w' => e = .returned (.int .u64 (numOf (L.take (n - 1)) : Nat)) ∧ w' = w := k9
          clear k9
          generalize numOf (L.take (n - 1)) = P at *
          generalize leftL (L.drop (n - 1)) true = lf at *
          have cl6 : ∀ W, Below w6.heap.size w6 W → W.cell? ⟨w.heap.size, 5, none⟩ = some (.bool true) := fun W hW => (hW.cell (p := ⟨w.heap.size, 5, none⟩) z6).trans f5
          refine wpC_region (fun W => W.cell? ⟨w.heap.size, 5, none⟩ = some (.bool true)) (by kernel_rfl) ?_
          refine wpC_take 0 (v := ?_) rfl (by kernel_rfl) (fun _ _ _ h => h) (by kernel_rfl) ?_ ?_; rotate_left; · (intro wC hC; obtain c1 := hC; go_simp <;> with_reducible rfl)
          refine wpC_take 1 (v := ?_) rfl (by kernel_rfl) (fun _ _ _ h => h) (by kernel_rfl) ?_ ?_; rotate_left; · (intro wC hC; obtain c1 := hC; go_simp <;> with_reducible rfl)
          refine wpC_take 2 (v := ?_) rfl (by kernel_rfl) (fun _ _ _ h => h) (by kernel_rfl) ?_ ?_; rotate_left; · (intro wC hC; obtain c1 := hC; go_simp <;> with_reducible rfl)
          refine wpC_take 3 (v := ?_) rfl (by kernel_rfl) (fun _ _ _ h => h) (by kernel_rfl) ?_ ?_; rotate_left; · (intro wC hC; obtain c1 := hC; go_simp <;> with_reducible rfl)
          refine wpC_take 5 (v := ?_) rfl (by kernel_rfl) (fun _ _ _ h => h) (by kernel_rfl) ?_ ?_; rotate_left; · (intro wC hC; obtain c1 := hC; go_simp <;> with_reducible rfl)
          refine wpC_take 6 (v := ?_) rfl (by kernel_rfl) (fun _ _ _ h => h) (by kernel_rfl) ?_ ?_; rotate_left; · (intro wC hC; obtain c1 := hC; go_simp <;> with_reducible rfl)
          refine wpC_take 7 (v := ?_) rfl (by kernel_rfl) (fun _ _ _ h => h) (by kernel_rfl) ?_ ?_; rotate_left; · (intro wC hC; obtain c1 := hC; go_simp <;> with_reducible rfl)
          refine wpC_take 8 (v := ?_) rfl (by kernel_rfl) (fun _ _ _ h => h) (by kernel_rfl) ?_ ?_; rotate_left; · (intro wC hC; obtain c1 := hC; go_simp <;> with_reducible rfl)
          refine wpC_take 9 (v := ?_) rfl (by kernel_rfl) (fun _ _ _ h => h) (by kernel_rfl) ?_ ?_; rotate_left; · (intro wC hC; obtain c1 := hC; go_simp <;> with_reducible rfl)
          refine wpC_take 10 (v := ?_) rfl (by kernel_rfl) (fun _ _ _ h => h) (by kernel_rfl) ?_ ?_; rotate_left; · (intro wC hC; obtain c1 := hC; go_simp <;> with_reducible rfl)
          refine wpC_step 4 rfl (by kernel_rfl) (by kernel_rfl) (cl6 _ (cdrew (Below.refl _ _))) (fun K hK => ?_)
          go_simp
          go_wp2_with ((go_at_call 110; refine (k9' _).mono ?_; rintro e w8 ⟨rfl, hw8⟩; rw [hw8]; clear hw8 w8))
          try (refine hK _ _ ?_; clear hK K)
          refine wpC_step 11 rfl (by kernel_rfl) (by kernel_rfl) (cl6 _ (cdrew (Below.refl _ _))) (fun K hK => ?_)
          go_simp
          go_wp2_with ((go_at_call 114; refine (k10 _).mono ?_; rintro e w9 ⟨rfl, hb9⟩))
          try (refine hK _ _ ?_; clear hK K)
          have B9 := cthen (cdrew (Below.refl w6.heap.size w6)) hb9
          refine wpC_step 12 rfl (by kernel_rfl) (by kernel_rfl) (cl6 _ B9) (fun K hK => ?_)
          go_simp
          try (refine hK _ _ ?_; clear hK K)
          refine wpC_step 13 rfl (by kernel_rfl) (by kernel_rfl) (cl6 _ B9) (fun K hK => ?_)
          go_simp
          try (refine hK _ _ ?_; clear hK K)
          refine wpC_step 14 rfl (by kernel_rfl) (by kernel_rfl) (cl6 _ B9) (fun K hK => ?_)
          go_simp
          try (refine hK _ _ ?_; clear hK K)
          refine wpC_done (by kernel_rfl) (cl6 _ B9) ?_
          go_wp2_with fail
          go_ret3
          exact hQ.out _ _ ⟨rfl, cthen (cthen HBW.out HB6.out) B9⟩
      · have e2 : (s == -(4 * (n : Int) - 8)) = false := beq_eq_false_iff_ne.2 (by omega)
        clear cl c2
        cases rest
        · go_wp2_with (first
            | (go_at_call 112; refine (k8 _).mono ?_; rintro e w5 ⟨rfl, q5, rfl⟩)
            | (go_at_call 113; refine (k5 _).mono ?_; rintro e w6 ⟨u4, rfl, hu4, hb6⟩; have HU4 : Hid _ := isBits_append hu4 HI3.out; have hz4 := isBits_size HU4.out; rw [← HL.out] at hz4; have n6 := (hb6.block w.heap.size z4).trans HN0.out; have f5 := rowcell n6 5; simp only [List.getElem?_toArray, List.getElem?_cons_zero, List.getElem?_cons_succ] at f5; have z6 : w.heap.size < w6.heap.size := (Nat.lt_of_lt_of_le z4 hb6.size); have HB6 : Hid (Below _ _ _) := hb6; have hsz6 : u4.size + dg.size ≤ 9223372036854775807 := (by have := HT.out.2.2; rw [ByteArray.size_append] at hz4; omega); have g6 := (fun wx => run_string_add_sum (P := Tryz.prog) wx u4 dg hsz6); clear n6 hu4 hb6))
          have hsz4 := isBits_size HU4.out
          rw [← HL.out] at hsz4
          have HU5 : Hid (IsBits (u4 ++ dg) L) := by show IsBits _ _; rw [HL.out]; exact HU4.out
          generalize u4 ++ dg = st at *
          have hst : n ≤ st.size := by rw [hsz4]; have := HT.out.2.1; omega
          have g3 := slice_h (P := Tryz.prog) (s := st) Tryz.underlying9 ((n : Int) - 1) (n - 1) (by omega) (by omega)
          have g4 := slice_l (P := Tryz.prog) (s := st) Tryz.underlying9 ((n : Int) - 1) (n - 1) (by omega) (by omega)
          have k9 := number_any _ (L.take (n - 1)) (by have := isBits_extract HU5.out 0 (n - 1); exact this) (by rw [HT.out.1]; omega)
          have k10 := left7_any (st.extract (n - 1) st.size) (L.drop (n - 1)) false (by
            have := isBits_extract HU5.out (n - 1) st.size
            rw [List.take_of_length_le (by rw [List.length_drop, hsz4]; exact Nat.le_refl _)] at this
            exact this) (by rw [List.length_drop]; have := HT.out.2.1; omega) (by rw [List.length_drop]; have := HT.out.2.2; omega)
          have q1 : IntKind.i64.wrap ((n : Int) - 1) = (n : Int) - 1 := wrapI (by omega)
          clear hsz4 hz4
          have k9' : ∀ w, Calls Tryz.prog 110 #[.string (st.extract 0 (n - 1))] w fun e w' => e = .returned (.int .u64 (numOf (L.take (n - 1)) : Nat)) ∧ w' = w := k9
          clear k9
          generalize numOf (L.take (n - 1)) = P at *
          generalize leftL (L.drop (n - 1)) false = lf at *
          have cl6 : ∀ W, Below w6.heap.size w6 W → W.cell? ⟨w.heap.size, 5, none⟩ = some (.bool false) := fun W hW => (hW.cell (p := ⟨w.heap.size, 5, none⟩) z6).trans f5
          refine wpC_region (fun W => W.cell? ⟨w.heap.size, 5, none⟩ = some (.bool false)) (by kernel_rfl) ?_
          refine wpC_take 0 (v := ?_) rfl (by kernel_rfl) (fun _ _ _ h => h) (by kernel_rfl) ?_ ?_; rotate_left; · (intro wC hC; obtain c1 := hC; go_simp <;> with_reducible rfl)
          refine wpC_take 1 (v := ?_) rfl (by kernel_rfl) (fun _ _ _ h => h) (by kernel_rfl) ?_ ?_; rotate_left; · (intro wC hC; obtain c1 := hC; go_simp <;> with_reducible rfl)
          refine wpC_take 2 (v := ?_) rfl (by kernel_rfl) (fun _ _ _ h => h) (by kernel_rfl) ?_ ?_; rotate_left; · (intro wC hC; obtain c1 := hC; go_simp <;> with_reducible rfl)
          refine wpC_take 3 (v := ?_) rfl (by kernel_rfl) (fun _ _ _ h => h) (by kernel_rfl) ?_ ?_; rotate_left; · (intro wC hC; obtain c1 := hC; go_simp <;> with_reducible rfl)
          refine wpC_take 5 (v := ?_) rfl (by kernel_rfl) (fun _ _ _ h => h) (by kernel_rfl) ?_ ?_; rotate_left; · (intro wC hC; obtain c1 := hC; go_simp <;> with_reducible rfl)
          refine wpC_take 6 (v := ?_) rfl (by kernel_rfl) (fun _ _ _ h => h) (by kernel_rfl) ?_ ?_; rotate_left; · (intro wC hC; obtain c1 := hC; go_simp <;> with_reducible rfl)
          refine wpC_take 7 (v := ?_) rfl (by kernel_rfl) (fun _ _ _ h => h) (by kernel_rfl) ?_ ?_; rotate_left; · (intro wC hC; obtain c1 := hC; go_simp <;> with_reducible rfl)
          refine wpC_take 8 (v := ?_) rfl (by kernel_rfl) (fun _ _ _ h => h) (by kernel_rfl) ?_ ?_; rotate_left; · (intro wC hC; obtain c1 := hC; go_simp <;> with_reducible rfl)
          refine wpC_take 9 (v := ?_) rfl (by kernel_rfl) (fun _ _ _ h => h) (by kernel_rfl) ?_ ?_; rotate_left; · (intro wC hC; obtain c1 := hC; go_simp <;> with_reducible rfl)
          refine wpC_take 10 (v := ?_) rfl (by kernel_rfl) (fun _ _ _ h => h) (by kernel_rfl) ?_ ?_; rotate_left; · (intro wC hC; obtain c1 := hC; go_simp <;> with_reducible rfl)
          refine wpC_step 4 rfl (by kernel_rfl) (by kernel_rfl) (cl6 _ (cdrew (Below.refl _ _))) (fun K hK => ?_)
          go_simp
          go_wp2_with ((go_at_call 110; refine (k9' _).mono ?_; rintro e w8 ⟨rfl, hw8⟩; rw [hw8]; clear hw8 w8))
          try (refine hK _ _ ?_; clear hK K)
          refine wpC_step 11 rfl (by kernel_rfl) (by kernel_rfl) (cl6 _ (cdrew (Below.refl _ _))) (fun K hK => ?_)
          go_simp
          go_wp2_with ((go_at_call 114; refine (k10 _).mono ?_; rintro e w9 ⟨rfl, hb9⟩))
          try (refine hK _ _ ?_; clear hK K)
          have B9 := cthen (cdrew (Below.refl w6.heap.size w6)) hb9
          refine wpC_step 12 rfl (by kernel_rfl) (by kernel_rfl) (cl6 _ B9) (fun K hK => ?_)
          go_simp
          try (refine hK _ _ ?_; clear hK K)
          refine wpC_step 13 rfl (by kernel_rfl) (by kernel_rfl) (cl6 _ B9) (fun K hK => ?_)
          go_simp
          try (refine hK _ _ ?_; clear hK K)
          refine wpC_step 14 rfl (by kernel_rfl) (by kernel_rfl) (cl6 _ B9) (fun K hK => ?_)
          go_simp
          try (refine hK _ _ ?_; clear hK K)
          refine wpC_done (by kernel_rfl) (cl6 _ B9) ?_
          go_wp2_with fail
          go_ret3
          exact hQ.out _ _ ⟨rfl, cthen (cthen (below_drewN HBW.out q5) HB6.out) B9⟩
        · go_wp2_with (go_at_call 113; refine (k5 _).mono ?_; rintro e w6 ⟨u4, rfl, hu4, hb6⟩; have HU4 : Hid _ := isBits_append hu4 HI3.out; have hz4 := isBits_size HU4.out; rw [← HL.out] at hz4; have n6 := (hb6.block w.heap.size z4).trans HN0.out; have f5 := rowcell n6 5; simp only [List.getElem?_toArray, List.getElem?_cons_zero, List.getElem?_cons_succ] at f5; have z6 : w.heap.size < w6.heap.size := (Nat.lt_of_lt_of_le z4 hb6.size); have HB6 : Hid (Below _ _ _) := hb6; have hsz6 : u4.size + dg.size ≤ 9223372036854775807 := (by have := HT.out.2.2; rw [ByteArray.size_append] at hz4; omega); have g6 := (fun wx => run_string_add_sum (P := Tryz.prog) wx u4 dg hsz6); clear n6 hu4 hb6)
          have hsz4 := isBits_size HU4.out
          rw [← HL.out] at hsz4
          have HU5 : Hid (IsBits (u4 ++ dg) L) := by show IsBits _ _; rw [HL.out]; exact HU4.out
          generalize u4 ++ dg = st at *
          have hst : n ≤ st.size := by rw [hsz4]; have := HT.out.2.1; omega
          have g3 := slice_h (P := Tryz.prog) (s := st) Tryz.underlying9 ((n : Int) - 1) (n - 1) (by omega) (by omega)
          have g4 := slice_l (P := Tryz.prog) (s := st) Tryz.underlying9 ((n : Int) - 1) (n - 1) (by omega) (by omega)
          have k9 := number_any _ (L.take (n - 1)) (by have := isBits_extract HU5.out 0 (n - 1); exact this) (by rw [HT.out.1]; omega)
          have k10 := left7_any (st.extract (n - 1) st.size) (L.drop (n - 1)) true (by
            have := isBits_extract HU5.out (n - 1) st.size
            rw [List.take_of_length_le (by rw [List.length_drop, hsz4]; exact Nat.le_refl _)] at this
            exact this) (by rw [List.length_drop]; have := HT.out.2.1; omega) (by rw [List.length_drop]; have := HT.out.2.2; omega)
          have q1 : IntKind.i64.wrap ((n : Int) - 1) = (n : Int) - 1 := wrapI (by omega)
          clear hsz4 hz4
          have k9' : ∀ w, Calls Tryz.prog 110 #[.string (st.extract 0 (n - 1))] w fun e w' => e = .returned (.int .u64 (numOf (L.take (n - 1)) : Nat)) ∧ w' = w := k9
          clear k9
          generalize numOf (L.take (n - 1)) = P at *
          generalize leftL (L.drop (n - 1)) true = lf at *
          have cl6 : ∀ W, Below w6.heap.size w6 W → W.cell? ⟨w.heap.size, 5, none⟩ = some (.bool true) := fun W hW => (hW.cell (p := ⟨w.heap.size, 5, none⟩) z6).trans f5
          refine wpC_region (fun W => W.cell? ⟨w.heap.size, 5, none⟩ = some (.bool true)) (by kernel_rfl) ?_
          refine wpC_take 0 (v := ?_) rfl (by kernel_rfl) (fun _ _ _ h => h) (by kernel_rfl) ?_ ?_; rotate_left; · (intro wC hC; obtain c1 := hC; go_simp <;> with_reducible rfl)
          refine wpC_take 1 (v := ?_) rfl (by kernel_rfl) (fun _ _ _ h => h) (by kernel_rfl) ?_ ?_; rotate_left; · (intro wC hC; obtain c1 := hC; go_simp <;> with_reducible rfl)
          refine wpC_take 2 (v := ?_) rfl (by kernel_rfl) (fun _ _ _ h => h) (by kernel_rfl) ?_ ?_; rotate_left; · (intro wC hC; obtain c1 := hC; go_simp <;> with_reducible rfl)
          refine wpC_take 3 (v := ?_) rfl (by kernel_rfl) (fun _ _ _ h => h) (by kernel_rfl) ?_ ?_; rotate_left; · (intro wC hC; obtain c1 := hC; go_simp <;> with_reducible rfl)
          refine wpC_take 5 (v := ?_) rfl (by kernel_rfl) (fun _ _ _ h => h) (by kernel_rfl) ?_ ?_; rotate_left; · (intro wC hC; obtain c1 := hC; go_simp <;> with_reducible rfl)
          refine wpC_take 6 (v := ?_) rfl (by kernel_rfl) (fun _ _ _ h => h) (by kernel_rfl) ?_ ?_; rotate_left; · (intro wC hC; obtain c1 := hC; go_simp <;> with_reducible rfl)
          refine wpC_take 7 (v := ?_) rfl (by kernel_rfl) (fun _ _ _ h => h) (by kernel_rfl) ?_ ?_; rotate_left; · (intro wC hC; obtain c1 := hC; go_simp <;> with_reducible rfl)
          refine wpC_take 8 (v := ?_) rfl (by kernel_rfl) (fun _ _ _ h => h) (by kernel_rfl) ?_ ?_; rotate_left; · (intro wC hC; obtain c1 := hC; go_simp <;> with_reducible rfl)
          refine wpC_take 9 (v := ?_) rfl (by kernel_rfl) (fun _ _ _ h => h) (by kernel_rfl) ?_ ?_; rotate_left; · (intro wC hC; obtain c1 := hC; go_simp <;> with_reducible rfl)
          refine wpC_take 10 (v := ?_) rfl (by kernel_rfl) (fun _ _ _ h => h) (by kernel_rfl) ?_ ?_; rotate_left; · (intro wC hC; obtain c1 := hC; go_simp <;> with_reducible rfl)
          refine wpC_step 4 rfl (by kernel_rfl) (by kernel_rfl) (cl6 _ (cdrew (Below.refl _ _))) (fun K hK => ?_)
          go_simp
          go_wp2_with ((go_at_call 110; refine (k9' _).mono ?_; rintro e w8 ⟨rfl, hw8⟩; rw [hw8]; clear hw8 w8))
          try (refine hK _ _ ?_; clear hK K)
          refine wpC_step 11 rfl (by kernel_rfl) (by kernel_rfl) (cl6 _ (cdrew (Below.refl _ _))) (fun K hK => ?_)
          go_simp
          go_wp2_with ((go_at_call 114; refine (k10 _).mono ?_; rintro e w9 ⟨rfl, hb9⟩))
          try (refine hK _ _ ?_; clear hK K)
          have B9 := cthen (cdrew (Below.refl w6.heap.size w6)) hb9
          refine wpC_step 12 rfl (by kernel_rfl) (by kernel_rfl) (cl6 _ B9) (fun K hK => ?_)
          go_simp
          try (refine hK _ _ ?_; clear hK K)
          refine wpC_step 13 rfl (by kernel_rfl) (by kernel_rfl) (cl6 _ B9) (fun K hK => ?_)
          go_simp
          try (refine hK _ _ ?_; clear hK K)
          refine wpC_step 14 rfl (by kernel_rfl) (by kernel_rfl) (cl6 _ B9) (fun K hK => ?_)
          go_simp
          try (refine hK _ _ ?_; clear hK K)
          refine wpC_done (by kernel_rfl) (cl6 _ B9) ?_
          go_wp2_with fail
          go_ret3
          exact hQ.out _ _ ⟨rfl, cthen (cthen HBW.out HB6.out) B9⟩
end Go.Proofs.YtheliihkkoohnaaGreat

namespace Go.Proofs.YtheliihkkoohnaaGreat
open Go.ChangeShapes Go.WideShapes Go.ChangeAt Go.RowKit
set_option linter.unusedVariables false
set_option linter.unusedSimpArgs false
set_option maxRecDepth 100000

/-! ### the document's Round -/
theorem rounds7_plain (n : Int) (k : Int) (P : Nat) (w : World)
    (k1 : ∀ w, Calls Tryz.prog 73 #[.int .i64 n, exV k false 0 0 0 false] w fun e w' => e = .returned (.tuple #[.int .u64 P, .int .i64 0, .int .i64 0]) ∧ Below w.heap.size w w') :
    Calls Tryz.prog 40 #[.int .i64 n, exV k false 0 0 0 false] w fun e w' => e = .returned (.tuple #[.int .u64 P, .int .i64 0]) ∧ Below w.heap.size w w' := by
  unfold exV at *
  refine cps fun Q hQ => ?_
  go_enter Tryz.func40, Tryz.ntmps40
  go_wp2_with (go_at_call 73; refine (k1 _).mono ?_; rintro e w2 ⟨rfl, hb2⟩; have hc := fun b o h => hb2.cell (p := ⟨b, o, none⟩) h; have z1 : w.heap.size < w2.heap.size := (by have := hb2.size; simp at this; omega))
  exact hQ.out _ _ ⟨rfl, cthen (cmore (Below.refl _ _) _) hb2⟩
def patR (n : Nat) (neg : Bool) (R : Nat) : Nat := if neg then 2 ^ n - R else R
set_option maxHeartbeats 2000000 in
theorem rounds7_real (n : Nat) (neg : Bool) (s : Int) (hi lo : Nat) (rest : Bool) (hn : Wd n) (hs : soundX 1 neg s hi lo rest = true) (h : WordsX hi lo) (w : World) :
    Calls Tryz.prog 40 #[.int .i64 n, exV 1 neg s hi lo rest] w fun e w' => e = .returned (.tuple #[.int .u64 (patR n neg (rndX n s hi lo rest)), .int .i64 0]) ∧ Below w.heap.size w w' := by
  have k1 := cut7_real n neg s hi lo rest hn hs h
  obtain ⟨r1, r2⟩ := rnd_range n s hi lo rest hn h
  obtain ⟨H, e1, e2, e3, _⟩ := wd_pows hn
  have hw := wd_le hn
  have hH : H ≤ 2 ^ 63 := by rw [← e2]; exact Nat.pow_le_pow_right (by decide) (by omega)
  have k2 := neg6_any n (rndX n s hi lo rest) hn (by omega)
  have hneg : minusU (rndX n s hi lo rest) % 2 ^ n = 2 ^ n - rndX n s hi lo rest := by
    rw [minusU_mod n _ hn (by omega), Nat.mod_eq_of_lt (a := rndX n s hi lo rest) (by omega), Nat.mod_eq_of_lt (by omega)]
  rw [hneg] at k2
  have HR : Hid (rndX n s hi lo rest = roundP (cutX n s hi lo rest).1 (cutX n s hi lo rest).2) := rfl
  have hle := (roundP_le (cutX n s hi lo rest).1 (cutX n s hi lo rest).2).1
  have hle2 : (cutX n s hi lo rest).1 ≤ rndX n s hi lo rest := hle
  unfold patR
  generalize 2 ^ n - rndX n s hi lo rest = M at *
  generalize (cutX n s hi lo rest).1 = P at *
  generalize (cutX n s hi lo rest).2 = l at *
  generalize rndX n s hi lo rest = R at *
  unfold exV at *
  rw [e2] at r2
  have hR63 : R < 2 ^ 63 := by omega
  clear hn hs h hneg e1 e2 e3 hle r2 hH
  have hup : (l = 3 ∨ (l = 2 ∧ P % 2 = 1)) → P + 1 = R := fun c => by rw [HR.out]; unfold roundP; rw [if_pos c]
  have hst : ¬ (l = 3 ∨ (l = 2 ∧ P % 2 = 1)) → P = R := fun c => by rw [HR.out]; unfold roundP; rw [if_neg c]
  have ew : IntKind.u64.wrap ((P : Int) + 1) = (P : Int) + 1 := by rw [IntKind.wrap_u64]; omega
  refine cps fun Q hQ => ?_
  by_cases c : l = 3 ∨ (l = 2 ∧ P % 2 = 1)
  · have hP := hup c
    have hc2 : ((P : Int) + 1) = (R : Int) := by omega
    have ew2 : IntKind.u64.wrap ((P : Int) + 1) = (R : Int) := by rw [ew, hc2]
    clear hup hst hP hc2 ew
    rcases c with rfl | ⟨rfl, c⟩
    · cases neg
      · go_enter Tryz.func40, Tryz.ntmps40
        go_wp2_with (first
          | (go_at_call 73; refine (k1 _).mono ?_; rintro e w2 ⟨rfl, hb2⟩; have a1 := ((hb2.cell (p := ⟨w.heap.size, 1, none⟩) (by simp)).trans (rowcell (rownew w _ _) 1)); simp only [List.getElem?_toArray, List.getElem?_cons_zero, List.getElem?_cons_succ] at a1; have z1 : w.heap.size < w2.heap.size := (by have := hb2.size; simp at this; omega)))
        exact hQ.out _ _ ⟨rfl, cthen (cmore (Below.refl _ _) _) hb2⟩
      · go_enter Tryz.func40, Tryz.ntmps40
        go_wp2_with (first
          | (go_at_call 73; refine (k1 _).mono ?_; rintro e w2 ⟨rfl, hb2⟩; have a1 := ((hb2.cell (p := ⟨w.heap.size, 1, none⟩) (by simp)).trans (rowcell (rownew w _ _) 1)); simp only [List.getElem?_toArray, List.getElem?_cons_zero, List.getElem?_cons_succ] at a1; have z1 : w.heap.size < w2.heap.size := (by have := hb2.size; simp at this; omega))
          | (go_at_call 28; refine (k2 _).mono ?_; rintro e w4 ⟨rfl, hb4⟩))
        exact hQ.out _ _ ⟨rfl, cthen (cthen (cmore (Below.refl _ _) _) hb2) hb4⟩
    · have m1 : ((P : Int) % 2 == 1) = true := beq_iff_eq.2 (by omega)
      have m2 : (Int.tmod (P : Int) 2) = (P : Int) % 2 := Int.tmod_eq_emod_of_nonneg (by omega)
      have m3 : (P : Int) % 2 = 1 := by omega
      clear c
      cases neg
      · go_enter Tryz.func40, Tryz.ntmps40
        go_wp2_with (first
          | (go_at_call 73; refine (k1 _).mono ?_; rintro e w2 ⟨rfl, hb2⟩; have a1 := ((hb2.cell (p := ⟨w.heap.size, 1, none⟩) (by simp)).trans (rowcell (rownew w _ _) 1)); simp only [List.getElem?_toArray, List.getElem?_cons_zero, List.getElem?_cons_succ] at a1; have z1 : w.heap.size < w2.heap.size := (by have := hb2.size; simp at this; omega)))
        exact hQ.out _ _ ⟨rfl, cthen (cmore (Below.refl _ _) _) hb2⟩
      · go_enter Tryz.func40, Tryz.ntmps40
        go_wp2_with (first
          | (go_at_call 73; refine (k1 _).mono ?_; rintro e w2 ⟨rfl, hb2⟩; have a1 := ((hb2.cell (p := ⟨w.heap.size, 1, none⟩) (by simp)).trans (rowcell (rownew w _ _) 1)); simp only [List.getElem?_toArray, List.getElem?_cons_zero, List.getElem?_cons_succ] at a1; have z1 : w.heap.size < w2.heap.size := (by have := hb2.size; simp at this; omega))
          | (go_at_call 28; refine (k2 _).mono ?_; rintro e w4 ⟨rfl, hb4⟩))
        exact hQ.out _ _ ⟨rfl, cthen (cthen (cmore (Below.refl _ _) _) hb2) hb4⟩
  · have hP := hst c
    subst hP
    clear hup hst
    have d3 : ((l : Int) == 3) = false := beq_eq_false_iff_ne.2 (by omega)
    by_cases h2 : l = 2
    · subst h2
      have m3 : (P : Int) % 2 = 0 := by omega
      have m2 : (Int.tmod (P : Int) 2) = (P : Int) % 2 := Int.tmod_eq_emod_of_nonneg (by omega)
      clear c
      cases neg
      · go_enter Tryz.func40, Tryz.ntmps40
        go_wp2_with (first
          | (go_at_call 73; refine (k1 _).mono ?_; rintro e w2 ⟨rfl, hb2⟩; have a1 := ((hb2.cell (p := ⟨w.heap.size, 1, none⟩) (by simp)).trans (rowcell (rownew w _ _) 1)); simp only [List.getElem?_toArray, List.getElem?_cons_zero, List.getElem?_cons_succ] at a1; have z1 : w.heap.size < w2.heap.size := (by have := hb2.size; simp at this; omega)))
        exact hQ.out _ _ ⟨rfl, cthen (cmore (Below.refl _ _) _) hb2⟩
      · go_enter Tryz.func40, Tryz.ntmps40
        go_wp2_with (first
          | (go_at_call 73; refine (k1 _).mono ?_; rintro e w2 ⟨rfl, hb2⟩; have a1 := ((hb2.cell (p := ⟨w.heap.size, 1, none⟩) (by simp)).trans (rowcell (rownew w _ _) 1)); simp only [List.getElem?_toArray, List.getElem?_cons_zero, List.getElem?_cons_succ] at a1; have z1 : w.heap.size < w2.heap.size := (by have := hb2.size; simp at this; omega))
          | (go_at_call 28; refine (k2 _).mono ?_; rintro e w4 ⟨rfl, hb4⟩))
        exact hQ.out _ _ ⟨rfl, cthen (cthen (cmore (Below.refl _ _) _) hb2) hb4⟩
    · have d2 : ((l : Int) == 2) = false := beq_eq_false_iff_ne.2 (by omega)
      clear c h2
      cases neg
      · go_enter Tryz.func40, Tryz.ntmps40
        go_wp2_with (first
          | (go_at_call 73; refine (k1 _).mono ?_; rintro e w2 ⟨rfl, hb2⟩; have a1 := ((hb2.cell (p := ⟨w.heap.size, 1, none⟩) (by simp)).trans (rowcell (rownew w _ _) 1)); simp only [List.getElem?_toArray, List.getElem?_cons_zero, List.getElem?_cons_succ] at a1; have z1 : w.heap.size < w2.heap.size := (by have := hb2.size; simp at this; omega)))
        exact hQ.out _ _ ⟨rfl, cthen (cmore (Below.refl _ _) _) hb2⟩
      · go_enter Tryz.func40, Tryz.ntmps40
        go_wp2_with (first
          | (go_at_call 73; refine (k1 _).mono ?_; rintro e w2 ⟨rfl, hb2⟩; have a1 := ((hb2.cell (p := ⟨w.heap.size, 1, none⟩) (by simp)).trans (rowcell (rownew w _ _) 1)); simp only [List.getElem?_toArray, List.getElem?_cons_zero, List.getElem?_cons_succ] at a1; have z1 : w.heap.size < w2.heap.size := (by have := hb2.size; simp at this; omega))
          | (go_at_call 28; refine (k2 _).mono ?_; rintro e w4 ⟨rfl, hb4⟩))
        exact hQ.out _ _ ⟨rfl, cthen (cthen (cmore (Below.refl _ _) _) hb2) hb4⟩
end Go.Proofs.YtheliihkkoohnaaGreat

namespace Go.Proofs.YtheliihkkoohnaaGreat
open Go.ChangeShapes Go.WideShapes Go.ChangeAt Go.RowKit
set_option linter.unusedVariables false
set_option linter.unusedSimpArgs false
set_option maxRecDepth 100000

/-! ### the document's Of -/
theorem of7_ok (k : Int) (neg : Bool) (s : Int) (f : Nat) (hs : soundN k neg s f = true) (w : World) :
    Calls Tryz.prog 38 #[numV k neg s f] w fun e w' => e = .returned (.tuple #[exV k neg s f 0 false, .int .i64 0]) ∧ Below w.heap.size w w' := by
  have k2 := sound6_any k neg s f
  rw [hs] at k2
  unfold numV exV at *
  clear hs
  refine cps fun Q hQ => ?_
  go_enter Tryz.func38, Tryz.ntmps38
  go_wp2_with (go_at_call 71; refine (k2 _).mono ?_; rintro e w2 ⟨rfl, hb2⟩; have RX := (hb2.block w.heap.size (by simp; omega)).trans ((Below.heap_alloc (w.alloc _) _ _ (by simp)).trans (rownew w _ _)); have RR := (hb2.block (w.heap.size + 1) (by simp)).trans (rownew' _ _ _ _ (by simp)); have x0 := rowcell RX 0; have x1 := rowcell RX 1; have x2 := rowcell RX 2; have x3 := rowcell RX 3; have xf := rowfree RX; simp only [List.getElem?_toArray, List.getElem?_cons_zero, List.getElem?_cons_succ] at x0 x1 x2 x3; have r0 := rowcell RR 0; have r1 := rowcell RR 1; have r2 := rowcell RR 2; have r3 := rowcell RR 3; have r4 := rowcell RR 4; have r5 := rowcell RR 5; have rf := rowfree RR; simp only [List.getElem?_toArray, List.getElem?_cons_zero, List.getElem?_cons_succ] at r0 r1 r2 r3 r4 r5; have HB2 : Hid (Below _ _ _) := cthen (cmore (cmore (Below.refl _ _) _) _) hb2; clear hb2 RX RR)
  refine bodyPost_ret (v := .tuple #[.agg #[.int .i64 k, .bool neg, .int .i64 s, .int .u64 f, .int .u64 0, .bool false], .int .i64 0]) (by simp [results, Tryz.results38, go_sem, r0, r1, r2, r3, r4, r5]) rfl (hQ.out _ _ ⟨rfl, ?_⟩)
  have hle : w.heap.size ≤ w.heap.size + 1 := by omega
  exact cset (cset (cset (cset (cset (cset HB2.out hle _ _) hle _ _) hle _ _) hle _ _) hle _ _) hle _ _
end Go.Proofs.YtheliihkkoohnaaGreat

namespace Go.Proofs.YtheliihkkoohnaaGreat
open Go.ChangeShapes Go.WideShapes Go.ChangeAt Go.RowKit
set_option linter.unusedVariables false
set_option linter.unusedSimpArgs false
set_option maxRecDepth 100000

/-! ### the document's order of exact numbers -/
end Go.Proofs.YtheliihkkoohnaaGreat

namespace Go.Proofs.YtheliihkkoohnaaGreat
open Go.ChangeShapes Go.WideShapes Go.ChangeAt Go.RowKit
set_option linter.unusedVariables false
set_option linter.unusedSimpArgs false
set_option maxRecDepth 100000

/-! ### two numbers of one sign, compared -/
end Go.Proofs.YtheliihkkoohnaaGreat

namespace Go.Proofs.YtheliihkkoohnaaGreat
open Go.ChangeShapes Go.WideShapes Go.ChangeAt Go.RowKit
set_option linter.unusedVariables false
set_option linter.unusedSimpArgs false
set_option maxRecDepth 100000

/-! ### a scale within the bound -/
def heldX (s : Int) : Int := if s < -1099511627776 then -1099511627776 else if s > 1099511627776 then 1099511627776 else s
theorem held7_any (s : Int) (w : World) :
    Calls Tryz.prog 80 #[.int .i64 s] w fun e w' => e = .returned (.int .i64 (heldX s)) ∧ w' = w := by
  unfold heldX
  refine cps fun Q hQ => ?_
  by_cases h1 : s < -1099511627776
  · rw [if_pos h1] at hQ
    go_enter Tryz.func80, Tryz.ntmps80
    go_wp2
    exact hQ.out _ _ ⟨rfl, rfl⟩
  · rw [if_neg h1] at hQ
    have d1 : decide (s < -1099511627776) = false := decide_eq_false h1
    by_cases h2 : s > 1099511627776
    · rw [if_pos h2] at hQ
      have d2 : decide ((1099511627776 : Int) < s) = true := decide_eq_true h2
      go_enter Tryz.func80, Tryz.ntmps80
      go_wp2
      exact hQ.out _ _ ⟨rfl, rfl⟩
    · rw [if_neg h2] at hQ
      have d2 : decide ((1099511627776 : Int) < s) = false := decide_eq_false (by omega)
      go_enter Tryz.func80, Tryz.ntmps80
      go_wp2
      exact hQ.out _ _ ⟨rfl, rfl⟩
end Go.Proofs.YtheliihkkoohnaaGreat

namespace Go.Proofs.YtheliihkkoohnaaGreat
open Go.ChangeShapes Go.WideShapes Go.ChangeAt Go.RowKit
set_option linter.unusedVariables false
set_option maxRecDepth 100000

theorem shr_digit (Y r : Nat) (hr : r < 24) : Y % 16777216 / 2 ^ r + Y / 16777216 % 16777216 % 2 ^ r * (16777216 / 2 ^ r) = Y / 2 ^ r % 16777216 := by
  have h : r = 0 ∨ r = 1 ∨ r = 2 ∨ r = 3 ∨ r = 4 ∨ r = 5 ∨ r = 6 ∨ r = 7 ∨ r = 8 ∨ r = 9 ∨ r = 10 ∨ r = 11 ∨ r = 12 ∨ r = 13 ∨ r = 14 ∨ r = 15 ∨ r = 16 ∨ r = 17 ∨ r = 18 ∨ r = 19 ∨ r = 20 ∨ r = 21 ∨ r = 22 ∨ r = 23 := by omega
  rcases h with h | h | h | h | h | h | h | h | h | h | h | h | h | h | h | h | h | h | h | h | h | h | h | h <;> subst h <;> simp only [Nat.reducePow, Nat.reduceDiv] <;> omega

/-- the lowest k digits, and noughts behind -/
def lowz (n k m : Nat) : List Nat := low n k ++ List.replicate (m - k) 0
theorem lowz_zero (n m : Nat) : lowz n 0 m = List.replicate m 0 := by simp [lowz, low_zero]
theorem lowz_all (n m : Nat) : lowz n m m = low n m := by simp [lowz]
theorem lowz_set (n k m : Nat) (h : k < m) : (lowz n k m).set k (top n k % 16777216) = lowz n (k + 1) m := by
  unfold lowz
  obtain ⟨j, rfl⟩ : ∃ j, m = k + 1 + j := ⟨m - k - 1, by omega⟩
  rw [show k + 1 + j - k = j + 1 by omega, show k + 1 + j - (k + 1) = j by omega, List.replicate_succ, low_snoc, List.set_append]
  simp [low_length]

theorem Row.drew {w : World} {v : Value} {l : List Nat} (h : Row w v l) : Row w.drew v l := h.below (Below.refl _ _).drew
theorem Row.cells {w : World} {b off k c n : Nat} (h : Row w (.slice (some ⟨b, off, none⟩) k c) (dig n)) : ∀ j, j < dlen n → w.cell? ⟨b, off + j, none⟩ = some (.int .i64 (top n j % 16777216 : Nat)) := by
  obtain ⟨ao, c', he, _, _, hr⟩ := h.reads
  injection he with e1 _ _
  subst e1
  intro j hj
  rcases hr with hr | ⟨b', off', e, _, hr⟩
  · omega
  · simp at e
    obtain ⟨rfl, rfl⟩ := e
    exact hr j hj

end Go.Proofs.YtheliihkkoohnaaGreat

namespace Go.Proofs.YtheliihkkoohnaaGreat
open Go.ChangeShapes Go.WideShapes Go.ChangeAt Go.RowKit
set_option linter.unusedVariables false
set_option maxRecDepth 100000

theorem digit_anyq (v : Value) (l : List Nat) (i : Nat) (hi : i < 4611686018427387904) (w : World) (hr : Row w v l) :
    Calls Tryz.prog 84 #[v, .int .i64 i] w fun e w' => e = .returned (.int .i64 (l.getD i 0 : Nat)) ∧ w' = w := by
  obtain ⟨ao, c, rfl, hc, hl, h⟩ := hr.out
  clear hr
  refine cps fun Q hQ => ?_
  by_cases hlt : i < l.length
  · rcases h with h | ⟨b, off, rfl, h⟩
    · omega
    have hcell := h i hlt
    generalize l.getD i 0 = d at *
    generalize l.length = n at *
    go_enter Tryz.func84, Tryz.ntmps84
    go_wp2
    exact hQ.out _ _ ⟨rfl, rfl⟩
  · have hz : l.getD i 0 = 0 := by rw [List.getD_eq_getElem?_getD, List.getElem?_eq_none (by omega)]; rfl
    rw [hz] at hQ
    generalize l.length = n at *
    go_enter Tryz.func84, Tryz.ntmps84
    go_wp2
    exact hQ.out _ _ ⟨rfl, rfl⟩

theorem digit_digq (v : Value) (n i d : Nat) (hi : i < 4611686018427387904) (w : World) (hr : Row w v (dig n)) (hd : d = top n i % 16777216) :
    Calls Tryz.prog 84 #[v, .int .i64 i] w fun e w' => e = .returned (.int .i64 d) ∧ w' = w := by
  rw [hd, ← dig_get]; exact digit_anyq v _ i hi w hr
set_option maxHeartbeats 1000000 in
theorem of_anyq (x : Nat) (hx : x < 2 ^ 64) (w : World) :
    Calls Tryz.prog 86 #[.int .u64 x] w fun e w' => ∃ v, e = .returned v ∧ Row w' v (dig x) ∧ Below w.heap.size w w' := by
  refine cps fun Q hQ => ?_
  have hx : x ≤ 18446744073709551615 := by omega
  obtain ⟨i0, hi, hz0, hz1, hz2⟩ := info_parts infoInt
  have hd3 : dlen x ≤ 3 := dlen_le_of_lt (by omega)
  go_enter Tryz.func86, Tryz.ntmps86
  go_wp2
  go_loopw [0, 3] (fun a v wr => ∃ k V : Nat, k ≤ dlen x ∧ V = top x k ∧ V ≤ 18446744073709551615 ∧ a = .int .u64 V ∧ wr.ownsRow w.heap.size 3 1 v k ((low x k).map enc) ∧ Below w.heap.size w wr) (fun a _ _ => (intOf a).toNat)
  case atStart => exact ⟨0, x, Nat.zero_le _, rfl, hx, rfl, World.ownsRow_nil _ _ _ _, Below.refl _ _⟩
  case round =>
    obtain ⟨k, V, hk, hV, hb, rfl, hown, hbel⟩ := hrel
    have hp := top_pos_iff x k
    have HV : Hid (V = top x k) := hV
    rw [← hV] at hp
    clear hV
    by_cases h0 : 0 < V
    · have hk1 := hp.1 h0
      have HK : Hid (dlen x ≤ 3) := hd3
      have hsz := hbel.size
      clear hp hd3
      go_wp2_with (at_builtin; go_must (refine append1 rfl _ _ _ rfl w.heap.size 3 i0 (.int .i64 0) 8 Tryz.underlying76 hi hz0 hz1 hz2 rfl _ _ _ hown rfl rfl rfl (by have := HK.out; omega) (by decide) hsz ?_); intro v' w1 hown' hbel' _ _)
      go_roundw
      case rel => 
        refine ⟨k + 1, V / 16777216, by omega, ?_, by omega, by go_num, ?_, hbel.trans hbel'⟩
        · rw [HV.out]; rfl
        · rw [low_snoc, ← HV.out, List.map_append]; exact hown'
      case measure => simp [intOf]; omega
    · have hk1 : k = dlen x := by have := hp.2; omega
      subst hk1
      rw [low_dlen] at hown
      go_wp2
      exact hQ.out _ _ ⟨_, rfl, row_own hown, hbel⟩

set_option maxHeartbeats 1000000 in
theorem cut_ownq (v : Value) (l : List Nat) (D z : Nat) (hD : l = dig D ++ List.replicate z 0) (w : World) (hr : Row w v l) :
    Calls Tryz.prog 85 #[v] w fun e w' => ∃ v', e = .returned v' ∧ Row w v' (dig D) ∧ w' = w ∧ v'.ownBlock = v.ownBlock := by
  have HT : Hid (l.take (dlen D) = dig D) := by rw [hD]; exact List.take_left' rfl
  have hlen : l.length = dlen D + z := by rw [hD]; simp [dlen]
  have hget : ∀ j, j < l.length → l.getD j 0 = (dig D).getD j 0 := by
    intro j hj
    rw [hD, List.getD_eq_getElem?_getD, List.getElem?_append]
    split
    · rw [List.getD_eq_getElem?_getD]
    · rename_i h
      rw [List.getElem?_replicate, List.getD_eq_getElem?_getD, List.getElem?_eq_none (by omega)]
      split <;> rfl
  have HR : Hid (Row w v l) := hr
  obtain ⟨ao, c, rfl, hc, hl, h⟩ := hr.out
  clear hr
  refine cps fun Q hQ => ?_
  have HG : Hid (∀ j, j < l.length → l.getD j 0 = (dig D).getD j 0) := hget
  clear hget hD
  have hle : dlen D ≤ l.length := by omega
  have HL : Hid (l.length = dlen D + z) := hlen
  clear hlen
  generalize hdD : dlen D = m at *
  have HM : Hid (dlen D = m) := hdD
  clear hdD
  go_enter Tryz.func85, Tryz.ntmps85
  go_wp2
  go_loop [3] (fun a => ∃ n : Nat, m ≤ n ∧ n ≤ l.length ∧ a = .int .i64 n) (fun a => (intOf a).toNat)
  case atStart => exact ⟨l.length, by omega, by omega, rfl⟩
  case round =>
    obtain ⟨n, hn1, hn2, rfl⟩ := hrel
    by_cases h0 : 0 < n
    · rcases h with h | ⟨b, off, rfl, h⟩
      · omega
      have hcell := h (n - 1) (by omega)
      have hg := HG.out (n - 1) (by omega)
      rw [hg] at hcell
      clear hg
      by_cases hlt : m < n
      · have hz : (dig D).getD (n - 1) 0 = 0 := by
          rw [dig_get, top_eq_zero (by have := HM.out; omega)]
        rw [hz] at hcell
        clear hz h
        go_wp2
        go_round
        case rel => exact ⟨n - 1, by omega, by omega, by go_num⟩
        case measure => simp [intOf]; omega
      · have hnm : n = m := by omega
        subst hnm
        have hne : (dig D).getD (n - 1) 0 ≠ 0 := by
          rw [dig_get]
          have := HM.out
          have hD0 : D ≠ 0 := by intro h; rw [h, dlen_zero] at this; omega
          have := (dig_last hD0).1
          rw [HM.out] at this
          exact this
        generalize (dig D).getD (n - 1) 0 = d at *
        clear h
        have hne' : 0 < d := by omega
        go_wp2
        have HT' := HR.out.take n (by omega)
        rw [HT.out] at HT'
        exact hQ.out _ _ ⟨_, rfl, HT', rfl, rfl⟩
    · have hn0 : n = 0 := by omega
      subst hn0
      go_wp2
      have HT' := HR.out.take 0 (by omega)
      have e0 : 0 = m := by omega
      rw [e0, HT.out] at HT'
      rw [e0]
      exact hQ.out _ _ ⟨_, rfl, HT', rfl, by cases ao <;> rfl⟩

theorem cut_anyq (v : Value) (l : List Nat) (D z : Nat) (hD : l = dig D ++ List.replicate z 0) (w : World) (hr : Row w v l) :
    Calls Tryz.prog 85 #[v] w fun e w' => ∃ v', e = .returned v' ∧ Row w v' (dig D) ∧ w' = w :=
  (cut_ownq v l D z hD w hr).mono fun _ _ ⟨v', h1, h2, h3, _⟩ => ⟨v', h1, h2, h3⟩

set_option maxHeartbeats 2000000 in
theorem nadd_anyq (va vb : Value) (a b : Nat) (hS : dlen (a + b) ≤ 1099511627776) (w : World) (ha : Row w va (dig a)) (hb : Row w vb (dig b)) :
    Calls Tryz.prog 44 #[va, vb] w fun e w' => ∃ v, e = .returned v ∧ Row w' v (dig (a + b)) ∧ Below w.heap.size w w' := by
  refine cps fun Q hQ => ?_
  have hla : dlen a ≤ dlen (a + b) := dlen_mono (by omega)
  have hlb : dlen b ≤ dlen (a + b) := dlen_mono (by omega)
  have HA : Hid (Row w va (dig a)) := ha
  have HB : Hid (Row w vb (dig b)) := hb
  obtain ⟨aa, ca, rfl, h1, h2⟩ := ha.num
  obtain ⟨ab, cb, rfl, h3, h4⟩ := hb.num
  clear ha hb
  obtain ⟨i0, hi, hz0, hz1, hz2⟩ := info_parts infoInt
  have HP : Hid (∀ n k, 0 < top n k ↔ k < dlen n) := top_pos_iff
  generalize hs : a + b = s at *
  have HS : Hid (a + b = s) := hs
  clear hs
  go_enter Tryz.func44, Tryz.ntmps44
  go_wp2
  go_loopw [5, 6, 7] (fun o cv iv wr => ∃ k A B C : Nat, k ≤ dlen s ∧ C ≤ 1 ∧ Hid (A = top a k) ∧ Hid (B = top b k) ∧ Hid (A + B + C = top s k) ∧ iv = .int .i64 k ∧ cv = .int .i64 C ∧ wr.ownsRow w.heap.size 3 1 o k ((low s k).map enc) ∧ Below w.heap.size w wr) (fun _ _ i _ => dlen s - (intOf i).toNat)
  case atStart => exact ⟨0, a, b, 0, Nat.zero_le _, by decide, rfl, rfl, HS.out, rfl, rfl, World.ownsRow_nil _ _ _ _, Below.refl _ _⟩
  case round =>
    obtain ⟨k, A, B, C, hk, hC, hA, hB, hT, rfl, rfl, hown, hbel⟩ := hrel
    have pa := HP.out a k
    have pb := HP.out b k
    have ps := HP.out s k
    rw [← hA.out] at pa
    rw [← hB.out] at pb
    rw [← hT.out] at ps
    have hsz := hbel.size
    by_cases hc : k < dlen a ∨ k < dlen b ∨ 0 < C
    · have hks : k < dlen s := ps.1 (by omega)
      have hra := HA.out.below hbel
      have hrb := HB.out.below hbel
      obtain ⟨da, hda⟩ : ∃ d, d = A % 16777216 := ⟨_, rfl⟩
      obtain ⟨db, hdb⟩ : ∃ d, d = B % 16777216 := ⟨_, rfl⟩
      have bda : da ≤ 16777215 := by omega
      have bdb : db ≤ 16777215 := by omega
      have Hda : Hid (da = A % 16777216) := hda
      have Hdb : Hid (db = B % 16777216) := hdb
      have h3 : k < dlen a ∨ (¬ k < dlen a ∧ k < dlen b) ∨ (¬ k < dlen a ∧ ¬ k < dlen b ∧ 0 < C) := by omega
      have HRA : Hid (Row wr _ _) := hra
      have HRB : Hid (Row wr _ _) := hrb
      clear hc pa pb ps hda hdb hra hrb
      rcases h3 with h3 | ⟨h3, h4⟩ | ⟨h3, h4, h5⟩
      all_goals
        go_wp2_with (first
          | (go_at_call_of 84 aa; refine (digit_digq _ a k da (by omega) _ HRA.out (by rw [Hda.out, hA.out])).mono ?_; rintro e w' ⟨rfl, rfl⟩)
          | (go_at_call_of 84 ab; refine (digit_digq _ b k db (by omega) _ HRB.out (by rw [Hdb.out, hB.out])).mono ?_; rintro e w' ⟨rfl, rfl⟩)
          | (at_builtin; refine append1 rfl _ _ _ rfl w.heap.size 3 i0 (.int .i64 0) 8 Tryz.underlying76 hi hz0 hz1 hz2 rfl _ _ _ hown rfl rfl rfl (by omega) (by decide) hsz ?_; intro v' w1 hown' hbel' _ _))
        go_roundw
        case rel =>
          refine ⟨k + 1, A / 16777216, B / 16777216, (da + db + C) / 16777216, by omega, by omega, ?_, ?_, ?_, by go_num, by go_num, ?_, hbel.trans hbel'⟩
          · show _ = _; rw [hA.out]; rfl
          · show _ = _; rw [hB.out]; rfl
          · show _ = _; rw [top_succ, ← hT.out]; have := Hda.out; have := Hdb.out; omega
          · rw [low_snoc, ← hT.out, List.map_append]
            have e : (((da : Int) + db + C) % 16777216) = (((A + B + C) % 16777216 : Nat) : Int) := by have := Hda.out; have := Hdb.out; omega
            rw [e] at hown'
            exact hown'
        case measure => simp [intOf]; omega
    · have hks : ¬ k < dlen s := fun h => by have := ps.2 h; omega
      have hk1 : k = dlen s := by omega
      have e : low s k = dig s := by rw [hk1, low_dlen]
      rw [e] at hown
      have h3 : ¬ k < dlen a := by omega
      have h4 : ¬ k < dlen b := by omega
      have h5 : ¬ 0 < C := by omega
      clear hk1 e pa pb ps hc
      go_wp2
      exact hQ.out _ _ ⟨_, rfl, row_own hown, hbel⟩
end Go.Proofs.YtheliihkkoohnaaGreat

namespace Go.Proofs.YtheliihkkoohnaaGreat
open Go.ChangeShapes Go.WideShapes Go.ChangeAt Go.RowKit
set_option linter.unusedVariables false
set_option maxRecDepth 100000

set_option maxHeartbeats 2000000 in
theorem nsub_anyq (va vb : Value) (a b : Nat) (hba : b ≤ a) (hS : dlen a ≤ 1099511627776) (w : World) (ha : Row w va (dig a)) (hb : Row w vb (dig b)) :
    Calls Tryz.prog 46 #[va, vb] w fun e w' => ∃ v, e = .returned v ∧ Row w' v (dig (a - b)) ∧ Below w.heap.size w w' := by
  refine cps fun Q hQ => ?_
  have hla : dlen (a - b) ≤ dlen a := dlen_mono (by omega)
  have HA : Hid (Row w va (dig a)) := ha
  have HB : Hid (Row w vb (dig b)) := hb
  obtain ⟨aa, ca, rfl, h1, h2, hr⟩ := ha.reads
  obtain ⟨ab, cb, rfl, h3, h4⟩ := hb.num
  clear ha hb
  obtain ⟨i0, hi, hz0, hz1, hz2⟩ := info_parts infoInt
  have HP : Hid (∀ n k, 0 < top n k ↔ k < dlen n) := top_pos_iff
  have HC : Hid (Row w (.slice aa (dlen a) ca) (dig a)) := HA
  generalize hs : a - b = s at *
  have HS : Hid (a = b + 0 + s) := show _ = _ by omega
  clear hs
  go_enter Tryz.func46, Tryz.ntmps46
  go_wp2
  go_loopw [5, 6, 7] (fun o cv iv wr => ∃ k A B C : Nat, k ≤ dlen a ∧ C ≤ 1 ∧ Hid (A = top a k) ∧ Hid (B = top b k) ∧ Hid (A = B + C + top s k) ∧ iv = .int .i64 k ∧ cv = .int .i64 C ∧ wr.ownsRow w.heap.size 3 1 o k ((low s k).map enc) ∧ Below w.heap.size w wr) (fun _ _ i _ => dlen a - (intOf i).toNat)
  case atStart => exact ⟨0, a, b, 0, Nat.zero_le _, by decide, rfl, rfl, HS.out, rfl, rfl, World.ownsRow_nil _ _ _ _, Below.refl _ _⟩
  case round =>
    obtain ⟨k, A, B, C, hk, hC, hA, hB, hT, rfl, rfl, hown, hbel⟩ := hrel
    have hsz := hbel.size
    by_cases hc : k < dlen a
    · have hrb := HB.out.below hbel
      obtain ⟨da, hda⟩ : ∃ d, d = A % 16777216 := ⟨_, rfl⟩
      obtain ⟨db, hdb⟩ : ∃ d, d = B % 16777216 := ⟨_, rfl⟩
      rcases hr with hr | ⟨b', off, rfl, hb', hr⟩
      · omega
      have hcell := (hbel.cell (p := ⟨b', off + k, none⟩) hb').trans (hr k hc)
      rw [← hA.out, ← hda] at hcell
      have bda : da ≤ 16777215 := by omega
      have bdb : db ≤ 16777215 := by omega
      have Hda : Hid (da = A % 16777216) := hda
      have Hdb : Hid (db = B % 16777216) := hdb
      have HRB : Hid (Row wr _ _) := hrb
      have Hown : Hid (wr.ownsRow _ _ _ _ _ _) := hown
      clear hda hdb hrb hr hown
      by_cases hneg : (da : Int) - db - C < 0
      all_goals
        go_wp2
        go_quiet ((go_at_call 84; exact Calls.quiet_of_same (digit_digq _ b k db (by omega) _ HRB.out (by rw [Hdb.out, hB.out]))))
        go_wp2_with (at_builtin; refine append1 rfl _ _ _ rfl w.heap.size 3 i0 (.int .i64 0) 8 Tryz.underlying76 hi hz0 hz1 hz2 rfl _ _ _ (owns_drewN Hown.out _) rfl rfl rfl (by omega) (by decide) hsz ?_; intro v' w1 hown' hbel' _ _)
        go_roundw
        case measure => simp [intOf]; omega
        case rel =>
          have e1 := Hda.out
          have e2 := Hdb.out
          have e3 := hT.out
          have e4 : top s (k + 1) = top s k / 16777216 := rfl
          have E : Hid ((low s (k + 1)).map enc = (low s k).map enc ++ [enc (top s k % 16777216)]) := by rw [low_snoc, List.map_append]; rfl
          first
            | (have e : (da : Int) - db - C + 16777216 = ((top s k % 16777216 : Nat) : Int) := by omega
               rw [e] at hown'
               refine ⟨k + 1, A / 16777216, B / 16777216, 1, by omega, by omega, ?_, ?_, ?_, by go_num, rfl, by rw [E.out]; exact hown', (below_drewN hbel _).trans hbel'⟩)
            | (have e : (da : Int) - db - C = ((top s k % 16777216 : Nat) : Int) := by omega
               rw [e] at hown'
               refine ⟨k + 1, A / 16777216, B / 16777216, 0, by omega, by omega, ?_, ?_, ?_, by go_num, rfl, by rw [E.out]; exact hown', (below_drewN hbel _).trans hbel'⟩)
          · show _ = _; rw [hA.out]; rfl
          · show _ = _; rw [hB.out]; rfl
          · show _ = _; omega
    · have hk1 : k = dlen a := by omega
      subst hk1
      rw [low_ge hla] at hown
      have hrw := row_own hown
      have HRW : Hid (Row wr _ _) := hrw
      clear hrw hown
      go_wp2_with (go_at_call 85; refine (cut_anyq _ _ s _ rfl _ HRW.out).mono ?_; rintro e w' ⟨v', rfl, hv, rfl⟩)
      exact hQ.out _ _ ⟨_, rfl, hv, hbel⟩

set_option maxHeartbeats 1000000 in
theorem two_anyq (k : Nat) (hk : k ≤ 24) (w : World) :
    Calls Tryz.prog 78 #[.int .i64 k] w fun e w' => e = .returned (.int .i64 (2 ^ k : Nat)) ∧ w' = w := by
  refine cps fun Q hQ => ?_
  go_enter Tryz.func78, Tryz.ntmps78
  go_wp2
  go_loop [3, 4] (fun n i => ∃ j V : Nat, j ≤ k ∧ Hid (V = 2 ^ j) ∧ V ≤ 16777216 ∧ i = .int .i64 j ∧ n = .int .i64 V) (fun _ i => k - (intOf i).toNat)
  case atStart => exact ⟨0, 1, Nat.zero_le _, rfl, by decide, rfl, rfl⟩
  case round =>
    obtain ⟨j, V, hj, hV, hb, rfl, rfl⟩ := hrel
    by_cases hlt : j < k
    · go_wp2
      go_round
      case rel =>
        have h1 : 2 ^ (j + 1) = 2 * V := by rw [hV.out, Nat.pow_succ, Nat.mul_comm]
        have h2 : 2 ^ (j + 1) ≤ 2 ^ 24 := Nat.pow_le_pow_right (by decide) (by omega)
        exact ⟨j + 1, 2 * V, by omega, h1.symm, by omega, by go_num, by go_num⟩
      case measure => simp [intOf]; omega
    · have e : j = k := by omega
      subst e
      go_wp2
      refine hQ.out _ _ ⟨?_, rfl⟩
      rw [hV.out]

set_option maxHeartbeats 2000000 in
theorem times_anyq (va : Value) (a q : Nat) (hq : q ≤ 16777216) (hS : dlen a ≤ 1099511627776) (w : World) (ha : Row w va (dig a)) :
    Calls Tryz.prog 77 #[va, .int .i64 q] w fun e w' => ∃ v, e = .returned v ∧ Row w' v (dig (a * q)) ∧ Below w.heap.size w w' := by
  refine cps fun Q hQ => ?_
  have hls : dlen (a * q) ≤ dlen a + 2 := by
    refine dlen_le_of_lt ?_
    have h1 := lt_of_dlen_le (n := a) (Nat.le_refl _)
    rw [Nat.pow_add]
    refine Nat.lt_of_le_of_lt (Nat.mul_le_mul (Nat.le_of_lt h1) hq) ?_
    exact Nat.mul_lt_mul_of_pos_left (by decide) (Nat.pow_pos (by decide))
  have HA : Hid (Row w va (dig a)) := ha
  obtain ⟨aa, ca, rfl, h1, h2⟩ := ha.num
  clear ha
  obtain ⟨i0, hi, hz0, hz1, hz2⟩ := info_parts infoInt
  have HP : Hid (∀ n k, 0 < top n k ↔ k < dlen n) := top_pos_iff
  generalize hs : a * q = s at *
  have HS : Hid (a * q + 0 = s) := hs
  clear hs
  go_enter Tryz.func77, Tryz.ntmps77
  go_wp2
  go_loopw [5, 6, 7] (fun o cv iv wr => ∃ k A C : Nat, k ≤ dlen s ∧ C ≤ q ∧ Hid (A = top a k) ∧ Hid (A * q + C = top s k) ∧ iv = .int .i64 k ∧ cv = .int .i64 C ∧ wr.ownsRow w.heap.size 3 1 o k ((low s k).map enc) ∧ Below w.heap.size w wr) (fun _ _ i _ => dlen s - (intOf i).toNat)
  case atStart => exact ⟨0, a, 0, Nat.zero_le _, Nat.zero_le _, rfl, HS.out, rfl, rfl, World.ownsRow_nil _ _ _ _, Below.refl _ _⟩
  case round =>
    obtain ⟨k, A, C, hk, hC, hA, hT, rfl, rfl, hown, hbel⟩ := hrel
    have pa := HP.out a k
    have ps := HP.out s k
    rw [← hA.out] at pa
    have hpos : 0 < A * q ↔ 0 < A ∧ 0 < q := ⟨fun h => ⟨Nat.pos_of_mul_pos_right h, Nat.pos_of_mul_pos_left h⟩, fun h => Nat.mul_pos h.1 h.2⟩
    rw [← hT.out] at ps
    have hsz := hbel.size
    by_cases hc : (k < dlen a ∧ 0 < q) ∨ 0 < C
    · have hks : k < dlen s := ps.1 (by have := hpos.2; omega)
      have hra := HA.out.below hbel
      obtain ⟨da, hda⟩ : ∃ d, d = A % 16777216 := ⟨_, rfl⟩
      have bda : da ≤ 16777215 := by omega
      have Hda : Hid (da = A % 16777216) := hda
      have HRA : Hid (Row wr _ _) := hra
      obtain ⟨m, hm⟩ : ∃ m : Nat, m = da * q := ⟨_, rfl⟩
      have bm : m ≤ 16777215 * q := by rw [hm]; exact Nat.mul_le_mul bda (Nat.le_refl _)
      have HM : Hid (m = da * q) := hm
      have hmi : (da : Int) * (q : Int) = (m : Int) := by rw [hm]; simp
      have h3 : (k < dlen a ∧ 0 < q) ∨ (¬ k < dlen a ∧ 0 < C) := by omega
      clear hc pa ps hda hra hpos hm
      rcases h3 with ⟨h3, h4⟩ | ⟨h3, h4⟩
      all_goals
        go_wp2_with (first
          | (go_at_call_of 84 aa; refine (digit_digq _ a k da (by omega) _ HRA.out (by rw [Hda.out, hA.out])).mono ?_; rintro e w' ⟨rfl, rfl⟩)
          | (at_builtin; refine append1 rfl _ _ _ rfl w.heap.size 3 i0 (.int .i64 0) 8 Tryz.underlying76 hi hz0 hz1 hz2 rfl _ _ _ hown rfl rfl rfl (by omega) (by decide) hsz ?_; intro v' w1 hown' hbel' _ _))
        go_roundw
        case rel =>
          have hp := mul_part A q
          rw [← Hda.out, ← HM.out] at hp
          refine ⟨k + 1, A / 16777216, (m + C) / 16777216, by omega, by omega, ?_, ?_, by go_num, by go_num, ?_, hbel.trans hbel'⟩
          · show _ = _; rw [hA.out]; rfl
          · show _ = _; rw [top_succ, ← hT.out]; omega
          · rw [low_snoc, ← hT.out, List.map_append]
            have e : (((m : Int) + C) % 16777216) = (((A * q + C) % 16777216 : Nat) : Int) := by omega
            rw [e] at hown'
            exact hown'
        case measure => simp [intOf]; omega
    · have hks : ¬ k < dlen s := fun h => by have := ps.2 h; have := hpos.1; omega
      have hk1 : k = dlen s := by omega
      have e : low s k = dig s := by rw [hk1, low_dlen]
      rw [e] at hown
      have h5 : ¬ 0 < C := by omega
      have h3 : ¬ (k < dlen a ∧ 0 < q) := by omega
      by_cases h4 : k < dlen a
      · have h6 : ¬ 0 < q := by omega
        clear hk1 e pa ps hc hpos h3
        go_wp2
        exact hQ.out _ _ ⟨_, rfl, row_own hown, hbel⟩
      · clear hk1 e pa ps hc hpos h3
        go_wp2
        exact hQ.out _ _ ⟨_, rfl, row_own hown, hbel⟩
end Go.Proofs.YtheliihkkoohnaaGreat

namespace Go.Proofs.YtheliihkkoohnaaGreat
open Go.ChangeShapes Go.WideShapes Go.ChangeAt Go.RowKit
set_option linter.unusedVariables false
set_option maxRecDepth 100000

set_option maxHeartbeats 1000000 in
theorem nshl_anyq (va : Value) (a k : Nat) (hk : k ≤ 1099511627776) (hS : dlen a ≤ 1099511627776) (w : World) (ha : Row w va (dig a)) :
    Calls Tryz.prog 42 #[va, .int .i64 k] w fun e w' => ∃ v, e = .returned v ∧ Row w' v (dig (a * 2 ^ k)) ∧ Below w.heap.size w w' := by
  refine cps fun Q hQ => ?_
  have HA : Hid (Row w va (dig a)) := ha
  obtain ⟨aa, ca, rfl, h1, h2⟩ := ha.num
  clear ha
  obtain ⟨i0, hi, hz0, hz1, hz2⟩ := info_parts infoInt
  have hz := @dlen_eq_zero a
  have e0 : 2 ^ k = 2 ^ (k % 24) * 16777216 ^ (k / 24) := by
    have : (16777216 : Nat) = 2 ^ 24 := by decide
    rw [this, ← Nat.pow_mul, ← Nat.pow_add]; congr 1; omega
  by_cases h0 : dlen a = 0
  · have hn := hz.1 h0
    subst hn
    have HQ : Hid _ := hQ.out _ w ⟨.slice none 0 0, rfl, by rw [Nat.zero_mul, dig_zero]; exact row_nil w, Below.refl _ _⟩
    clear hz HA e0
    go_enter Tryz.func42, Tryz.ntmps42
    go_wp2
    exact HQ.out
  · have hn : a ≠ 0 := fun h => h0 (hz.2 h)
    have hq : 0 < 2 ^ (k % 24) := Nat.pow_pos (by decide)
    have hq2 : 2 ^ (k % 24) ≤ 2 ^ 24 := Nat.pow_le_pow_right (by decide) (by omega)
    have hne : a * 2 ^ (k % 24) ≠ 0 := Nat.mul_ne_zero hn (by omega)
    have hD : Hid (dig (a * 2 ^ k) = List.replicate (k / 24) 0 ++ dig (a * 2 ^ (k % 24))) := by
      show _ = _
      rw [e0, ← Nat.mul_assoc, dig_shift hne]
    have hT := two_anyq (k % 24) (by omega)
    have hlen : dlen (a * 2 ^ (k % 24)) ≤ 2199023255552 := by
      have h3 := lt_of_dlen_le (n := a) (Nat.le_refl _)
      refine Nat.le_trans (dlen_le_of_lt (k := dlen a + 2) ?_) (by omega)
      rw [Nat.pow_add]
      refine Nat.lt_of_le_of_lt (Nat.mul_le_mul (Nat.le_of_lt h3) hq2) ?_
      exact Nat.mul_lt_mul_of_pos_left (by decide) (Nat.pow_pos (by decide))
    have hdl : dlen (a * 2 ^ (k % 24)) ≠ 0 := fun h => hne (dlen_eq_zero.1 h)
    generalize hp : 2 ^ (k % 24) = p at *
    have HP : Hid (p ≤ 16777216) := by show _ ≤ _; omega
    clear hp e0 hq hq2 hz hn hne
    have hq : k / 24 ≤ 1099511627776 := by omega
    have hr24 : k % 24 ≤ 23 := by omega
    have hki : ((k : Int) / 24) = ((k / 24 : Nat) : Int) := by omega
    have hki2 : ((k : Int) % 24) = ((k % 24 : Nat) : Int) := by omega
    generalize k / 24 = q at *
    generalize k % 24 = r at *
    go_enter Tryz.func42, Tryz.ntmps42
    go_wp2_with (at_make; go_must (refine wpList_make_full _ rfl _ _ 76 rfl w.heap.size 3 i0 (.int .i64 0) 1 Tryz.underlying76 hi hz0 hz1 .i64 .i64 _ _ q rfl rfl (by omega) (by omega) (by rw [hz2]; omega) (by unfold maxLen; omega) (Nat.le_refl _) ?_); intro w1 hown hg)
    have hb0 := (Below.refl w.heap.size w).grown hg (Nat.le_refl _) (fun k hk => by cases hk)
    rw [made_ints] at hown
    have hs1 := hb0.size
    clear hg
    go_wp2_with (first
      | (go_at_call 78; refine (hT _).mono ?_; rintro e w' ⟨rfl, rfl⟩)
      | (go_at_call 77; refine (times_anyq _ a p HP.out hS _ (HA.out.below hb0)).mono ?_; rintro e w2 ⟨v2, rfl, hr2, hb2⟩
         obtain ⟨ao2, c2, rfl, hc2, hl2, hr2⟩ := hr2.reads
         obtain ⟨b2, o2, rfl, hlt2, hr2⟩ := hr2.resolve_left hdl
         have hown2 := owns_below hown hb2
         have hb3 := hb0.trans (hb2.mono hs1)
         have hs3 := hb3.size)
      | (at_builtin; go_must (refine wpList_append_own _ rfl _ _ 76 rfl w.heap.size 3 i0 (.int .i64 0) 1 8 Tryz.underlying76 hi hz0 hz1 hz2 rfl (by decide) _ _ _ rfl hown2 ⟨b2, o2, none⟩ (dlen (a * p)) c2 ((dig (a * p)).map enc) rfl (by simp [dlen]) ?_ (by simp [enc]; intros; rfl) (by unfold maxLen; omega) (by omega) hs3 ?_)))
    · intro j u hj
      rw [List.getElem?_map, Option.map_eq_some_iff] at hj
      obtain ⟨d, hd, rfl⟩ := hj
      have hlt : j < dlen (a * p) := (List.getElem?_eq_some_iff.1 hd).1
      have := hr2 j hlt
      rw [← dig_get, List.getD_eq_getElem?_getD, hd] at this
      have this : w2.cell? ⟨b2, o2 + j, none⟩ = some (.int .i64 (d : Nat)) := by simpa using this
      unfold Addr.add
      split
      · rename_i h; have hj0 : j = 0 := by simpa using h
        subst hj0; exact this
      · exact this
    · intro v' w3 hown3 hg3 _
      have hb4 := hb3.grown hg3 hs3 (fun k hk => by cases hk; exact Nat.le_refl _)
      have hr3 : Row w3 v' (List.replicate q 0 ++ dig (a * p)) := row_own (by rw [List.map_append, List.map_replicate]; exact hown3)
      rw [← hD.out] at hr3
      go_wp2
      exact hQ.out _ _ ⟨_, rfl, hr3, hb4⟩
end Go.Proofs.YtheliihkkoohnaaGreat

namespace Go.Proofs.YtheliihkkoohnaaGreat
open Go.ChangeShapes Go.WideShapes Go.ChangeAt Go.RowKit
set_option linter.unusedVariables false
set_option maxRecDepth 100000

theorem digit_intq (v : Value) (n : Nat) (ii : Int) (i d : Nat) (hii : ii = (i : Int)) (hi : i < 4611686018427387904) (w : World) (hr : Row w v (dig n)) (hd : d = top n i % 16777216) :
    Calls Tryz.prog 84 #[v, .int .i64 ii] w fun e w' => e = .returned (.int .i64 d) ∧ w' = w := by
  rw [hii]; exact digit_digq v n i d hi w hr hd
set_option maxHeartbeats 1000000 in
theorem nshr_newq (va : Value) (a k : Nat) (hk : k ≤ 9223372036854775807) (hS : dlen a ≤ 1099511627776) (w : World) (ha : Row w va (dig a)) :
    Calls Tryz.prog 82 #[va, .int .i64 k] w fun e w' => ∃ v, e = .returned v ∧ Row w' v (dig (a / 2 ^ k)) ∧ Below w.heap.size w w' ∧ ∀ g, v.ownBlock = some g → w.heap.size ≤ g := by
  refine cps fun Q hQ => ?_
  have HA : Hid (Row w va (dig a)) := ha
  obtain ⟨aa, ca, rfl, h1, h2, hr⟩ := ha.reads
  clear ha
  obtain ⟨i0, hi, hz0, hz1, hz2⟩ := info_parts infoInt
  have e0 : a / 2 ^ k = top a (k / 24) / 2 ^ (k % 24) := by
    have h16 : (16777216 : Nat) = 2 ^ 24 := by decide
    rw [top_eq, Nat.div_div_eq_div_mul, h16, ← Nat.pow_mul, ← Nat.pow_add]; congr 2; omega
  by_cases h0 : dlen a ≤ k / 24
  · have HQ : Hid _ := hQ.out _ w ⟨.slice none 0 0, rfl, by rw [e0, top_eq_zero h0, Nat.zero_div, dig_zero]; exact row_nil w, Below.refl _ _, fun g h => by cases h⟩
    have hki : ((k : Int) / 24) = ((k / 24 : Nat) : Int) := by omega
    generalize k / 24 = q at *
    clear HA e0 hr
    go_enter Tryz.func82, Tryz.ntmps82
    go_wp2
    exact HQ.out
  · rcases hr with hr | ⟨b, off, rfl, hb, hr⟩
    · omega
    have HX := HA.out.drop (k / 24) (by omega)
    have hT := two_anyq (k % 24) (by omega)
    have hdig := fun Y => shr_digit Y (k % 24) (by omega)
    have hq : 0 < 2 ^ (k % 24) := Nat.pow_pos (by decide)
    have hq2 : 2 ^ (k % 24) ≤ 2 ^ 24 := Nat.pow_le_pow_right (by decide) (by omega)
    rw [e0] at hQ
    have hdl : dlen (top a (k / 24)) = dlen a - k / 24 := dlen_top _ _
    generalize hX : top a (k / 24) = X at *
    generalize hF : 2 ^ (k % 24) = F at *
    have hm0 : 0 < dlen X := by omega
    have hki : ((k : Int) / 24) = ((k / 24 : Nat) : Int) := by omega
    have hki2 : ((k : Int) % 24) = ((k % 24 : Nat) : Int) := by omega
    have hr24 : k % 24 ≤ 23 := by omega
    have hq24 : k / 24 < dlen a := by omega
    generalize k / 24 = q at *
    generalize k % 24 = r at *
    have Hdl : Hid (dlen X = dlen a - q) := hdl
    have Hd : Hid (∀ Y, Y % 16777216 / F + Y / 16777216 % 16777216 % F * (16777216 / F) = Y / F % 16777216) := hdig
    have HX' : Hid (Row w _ _) := HX
    have hmi : ((dlen a : Int) - q) = ((dlen X : Nat) : Int) := by omega
    clear e0 hX hF hdl hdig HX h0 hr
    go_enter Tryz.func82, Tryz.ntmps82
    go_wp2_with (first
      | (go_at_call 78; refine (hT _).mono ?_; rintro e w' ⟨rfl, hw⟩; rw [hw]; clear hw w')
      | (at_make; go_must (refine wpList_make_full _ rfl _ _ 76 rfl w.heap.size 3 i0 (.int .i64 0) 1 Tryz.underlying76 hi hz0 hz1 .i64 .i64 _ _ (dlen X) rfl rfl (by omega) (by omega) (by rw [hz2]; omega) (by unfold maxLen; omega) (Nat.le_refl _) ?_); intro w1 hown hg))
    rw [made_ints, ← lowz_zero (X / F)] at hown
    have hb0 := (Below.refl w.heap.size w).grown hg (Nat.le_refl _) (fun k hk => by cases hk)
    have hs0 : w.heap.size < w1.heap.size := by have := hown.lt w.heap.size rfl; omega
    have HC : Hid _ := HX'.out.cells
    have hF0 : 1 ≤ F := by omega
    have HF2 : Hid (F ≤ 16777216) := by show _ ≤ _; omega
    clear hg hT hq hq2 hi hz0 hz1 hz2
    go_loopw [8] (fun i wr => ∃ k : Nat, k ≤ dlen X ∧ i = .int .i64 k ∧ wr.ownsRow w.heap.size 3 1 (.slice (some ⟨w.heap.size, 0, none⟩) (dlen X) (dlen X)) (dlen X) ((lowz (X / F) k (dlen X)).map enc) ∧ Below w.heap.size w wr)
      (fun i _ => dlen X - (intOf i).toNat)
    case atStart => exact ⟨0, Nat.zero_le _, rfl, hown, hb0⟩
    case round =>
      obtain ⟨k, hk, rfl, hownr, hbel⟩ := hrel
      by_cases hlt : k < dlen X
      · have hcell := (hbel.cell (p := ⟨b, off + q + k, none⟩) hb).trans (HC.out k hlt)
        obtain ⟨D, hD⟩ : ∃ D, D = top X k % 16777216 := ⟨_, rfl⟩
        obtain ⟨N, hN⟩ : ∃ N, N = top X (k + 1) % 16777216 := ⟨_, rfl⟩
        obtain ⟨d1, hd1⟩ : ∃ d, d = D / F := ⟨_, rfl⟩
        obtain ⟨n1, hn1⟩ : ∃ d, d = N % F := ⟨_, rfl⟩
        obtain ⟨G, hG⟩ : ∃ d, d = 16777216 / F := ⟨_, rfl⟩
        obtain ⟨m1, hm1⟩ : ∃ d, d = n1 * G := ⟨_, rfl⟩
        have hz := Hd.out (top X k)
        rw [← top_div X F k, ← hD, show top X k / 16777216 = top X (k + 1) from rfl, ← hN, ← hd1, ← hn1, ← hG, ← hm1] at hz
        have hzl : top (X / F) k % 16777216 ≤ 16777215 := by omega
        have i1 : (D : Int) / (F : Int) = (d1 : Int) := by rw [hd1]; simp
        have i2 : (N : Int) % (F : Int) = (n1 : Int) := by rw [hn1]; simp
        have i3 : (16777216 : Int) / (F : Int) = (G : Int) := by rw [hG]; simp
        have i4 : (n1 : Int) * (G : Int) = (m1 : Int) := by rw [hm1]; simp
        have bd : d1 ≤ 16777215 := by omega
        have bm : m1 ≤ 16777215 := by omega
        have bD : D ≤ 16777215 := by omega
        have bN : N ≤ 16777215 := by omega
        have Hz : Hid (d1 + m1 = top (X / F) k % 16777216) := hz
        have HN : Hid (N = top X (k + 1) % 16777216) := hN
        have HR : Hid (Row wr _ _) := HX'.out.below hbel
        rw [← hD] at hcell
        have hfr := hownr.frozenAt k
        obtain ⟨y, hy⟩ : ∃ y, ((lowz (X / F) k (dlen X)).map enc)[k]? = some y := ⟨_, List.getElem?_eq_getElem (by simp [lowz, low_length]; omega)⟩
        have hce := hownr.cellAt k (by omega)
        rw [hy] at hce
        have j2 : (N : Int).tmod (F : Int) = (n1 : Int) := by rw [Int.tmod_eq_emod_of_nonneg (by omega)]; exact i2
        have j3 : Int.tdiv 16777216 (F : Int) = (G : Int) := by rw [Int.tdiv_eq_ediv_of_nonneg (by omega)]; exact i3
        have j1 : (D : Int).tdiv (F : Int) = (d1 : Int) := by rw [Int.tdiv_eq_ediv_of_nonneg (by omega)]; exact i1
        have jk : IntKind.i64.wrap ((k : Int) + 1) = (k : Int) + 1 := wrapI (by omega)
        have bG : G ≤ 16777216 := by rw [hG]; exact Nat.div_le_self _ _
        have jd : IntKind.i64.wrap (d1 : Int) = (d1 : Int) := wrapI (by omega)
        have jG : IntKind.i64.wrap (G : Int) = (G : Int) := wrapI (by omega)
        have jm : IntKind.i64.wrap (m1 : Int) = (m1 : Int) := wrapI (by omega)
        have js : IntKind.i64.wrap ((d1 : Int) + (m1 : Int)) = (d1 : Int) + (m1 : Int) := wrapI (by omega)
        have hst := hownr.stored k (enc (top (X / F) k % 16777216))
        rw [← List.map_set, lowz_set _ _ _ hlt] at hst
        have Hst : Hid _ := hst
        clear hst hownr hy hz hzl hN hD hd1 hn1 hG hm1 hown hb0
        go_wp2
        go_region_with (go_at_call 84; refine (digit_intq _ X ((k : Int) + 1) (k + 1) N (by omega) (by omega) _ HR.out.drew HN.out).mono ?_; rintro e w' ⟨rfl, hw⟩; rw [hw]; clear hw w')
        all_goals
          go_wp2
          go_roundw
          case measure => simp [intOf]; omega
          case rel =>
            have ev : ((d1 : Int) + (m1 : Int)) = ((top (X / F) k % 16777216 : Nat) : Int) := by have := Hz.out; omega
            refine ⟨k + 1, by omega, by go_num, ?_⟩
            rw [ev]
            exact ⟨owns_drewN Hst.out.1 1, (hbel.setCell (Nat.le_refl _) _).drew⟩
      · have hk1 : k = dlen X := by omega
        subst hk1
        rw [lowz_all] at hownr
        have hrw := row_own hownr
        have hle : dlen (X / F) ≤ dlen X := dlen_mono (Nat.div_le_self _ _)
        rw [low_ge hle] at hrw
        have HRW : Hid (Row wr _ _) := hrw
        clear hrw hown hownr
        go_wp2_with (go_at_call 85; refine (cut_ownq _ _ (X / F) _ rfl _ HRW.out).mono ?_; rintro e w' ⟨v', rfl, hv, hw, hob⟩; rw [hw]; clear hw w')
        exact hQ.out _ _ ⟨v', rfl, hv, hbel, fun g h => by rw [hob] at h; cases h; exact Nat.le_refl _⟩
theorem nshr_anyq (va : Value) (a k : Nat) (hk : k ≤ 9223372036854775807) (hS : dlen a ≤ 1099511627776) (w : World) (ha : Row w va (dig a)) :
    Calls Tryz.prog 82 #[va, .int .i64 k] w fun e w' => ∃ v, e = .returned v ∧ Row w' v (dig (a / 2 ^ k)) ∧ Below w.heap.size w w' := by
  refine (nshr_newq va a k hk hS w ha).mono ?_
  rintro e w' ⟨v, h1, h2, h3, _⟩
  exact ⟨v, h1, h2, h3⟩
end Go.Proofs.YtheliihkkoohnaaGreat

namespace Go.Proofs.YtheliihkkoohnaaGreat
open Go.ChangeShapes Go.WideShapes Go.ChangeAt Go.RowKit
set_option linter.unusedVariables false
set_option maxRecDepth 100000

theorem two_intq (kk : Int) (k : Nat) (hkk : kk = (k : Int)) (hk : k ≤ 24) (w : World) :
    Calls Tryz.prog 78 #[.int .i64 kk] w fun e w' => e = .returned (.int .i64 (2 ^ k : Nat)) ∧ w' = w := by
  rw [hkk]; exact two_anyq k hk w

theorem digit_int'q (v : Value) (n : Nat) (ii : Int) (i d : Nat) (hii : ii = (i : Int)) (hi : i < 4611686018427387904) (w : World) (hr : Row w v (dig n)) (hd : d = top n i % 16777216) :
    Calls Tryz.prog 84 #[v, .int .i64 ii] w fun e w' => e = .returned (.int .i64 d) ∧ w' = w := by
  rw [hii]; exact digit_digq v n i d hi w hr hd

set_option maxHeartbeats 1000000 in
theorem nbits_anyq (va : Value) (a : Nat) (hS : dlen a ≤ 1099511627776) (w : World) (ha : Row w va (dig a)) :
    Calls Tryz.prog 79 #[va] w fun e w' => e = .returned (.int .i64 (blen a)) ∧ w' = w := by
  refine cps fun Q hQ => ?_
  obtain ⟨aa, ca, rfl, h1, h2, hr⟩ := ha.reads
  clear ha
  have hz := @dlen_eq_zero a
  by_cases h0 : dlen a = 0
  · have hn := hz.1 h0
    subst hn
    have HQ : Hid _ := hQ.out _ w ⟨rfl, rfl⟩
    rw [blen_zero] at HQ
    clear hz hr
    go_enter Tryz.func79, Tryz.ntmps79
    go_wp2
    exact HQ.out
  · have hn : a ≠ 0 := fun h => h0 (hz.2 h)
    have hb := blen_top hn
    have hd := (dig_last hn).2
    obtain ⟨b, off, rfl, hlt, hr⟩ := hr.resolve_left h0
    have hcell := hr (dlen a - 1) (by omega)
    rw [← hd] at hcell
    have hT : top a (dlen a - 1) ≤ 16777215 := by omega
    obtain ⟨L, hL⟩ : ∃ L, L = blen a := ⟨_, rfl⟩
    rw [← hL] at hQ hb
    generalize top a (dlen a - 1) = T at *
    have hT24 : blen T ≤ 24 := blen_le.2 (by omega)
    have HB : Hid (24 * (dlen a - 1) + blen T = L) := show _ = _ by omega
    have HL : Hid (L ≤ 26388279066648) := show _ ≤ _ by omega
    clear hb hr hz hL hd
    go_enter Tryz.func79, Tryz.ntmps79
    go_wp2
    go_loop [3, 4] (fun n t => ∃ N V : Nat, Hid (N + blen V = L) ∧ n = .int .i64 N ∧ t = .int .i64 V ∧ N ≤ 26388279066648 ∧ V ≤ 16777215) (fun _ t => (intOf t).toNat)
    case atStart => exact ⟨24 * (dlen a - 1), T, HB.out, by go_num, rfl, by omega, hT⟩
    case round =>
      obtain ⟨N, V, hI, rfl, rfl, hN, hV⟩ := hrel
      by_cases hlt : 0 < V
      · have hs := blen_pos (n := V) (by omega)
        have HI2 : Hid (N + 1 + blen (V / 2) = L) := show _ = _ by have := hI.out; omega
        have HI3 : Hid (N + 1 ≤ 26388279066648) := show _ ≤ _ by have := hI.out; have := HL.out; omega
        clear hs
        go_wp2
        go_round
        case rel => exact ⟨N + 1, V / 2, HI2.out, by go_num, by go_num, HI3.out, by omega⟩
        case measure => simp [intOf]; omega
      · have e : V = 0 := by omega
        subst e
        go_wp2
        have := hI.out
        rw [blen_zero, Nat.add_zero] at this
        rw [this]
        exact hQ.out _ _ ⟨rfl, rfl⟩

set_option maxHeartbeats 1000000 in
theorem nword_anyq (va : Value) (a : Nat) (w : World) (ha : Row w va (dig a)) :
    Calls Tryz.prog 83 #[va] w fun e w' => e = .returned (.int .u64 (a % 2 ^ 64 : Nat)) ∧ w' = w := by
  refine cps fun Q hQ => ?_
  have HR : Hid (Row w va (dig a)) := ha
  obtain ⟨d0, hd0⟩ : ∃ d, d = top a 0 % 16777216 := ⟨_, rfl⟩
  obtain ⟨d1, hd1⟩ : ∃ d, d = top a 1 % 16777216 := ⟨_, rfl⟩
  obtain ⟨d2, hd2⟩ : ∃ d, d = top a 2 % 16777216 := ⟨_, rfl⟩
  have b0 : d0 ≤ 16777215 := by omega
  have b1 : d1 ≤ 16777215 := by omega
  have b2 : d2 ≤ 16777215 := by omega
  have H0 : Hid (d0 = top a 0 % 16777216) := hd0
  have H1 : Hid (d1 = top a 1 % 16777216) := hd1
  have H2 : Hid (d2 = top a 2 % 16777216) := hd2
  have HV : Hid (((d2 * 16777216 + d1) * 16777216 + d0) % 18446744073709551616 = a % 2 ^ 64) := by
    show _ = _
    have e0 : top a 0 = a := rfl
    have e1 : top a 1 = a / 16777216 := rfl
    have e2 : top a 2 = a / 16777216 / 16777216 := rfl
    omega
  generalize hVV : a % 2 ^ 64 = VV at *
  clear ha hd0 hd1 hd2 hVV
  go_enter Tryz.func83, Tryz.ntmps83
  go_wp2
  go_loop [3, 4] (fun v i => (i = .int .i64 2 ∧ v = .int .u64 0) ∨ (i = .int .i64 1 ∧ v = .int .u64 (d2 : Nat)) ∨ (i = .int .i64 0 ∧ v = .int .u64 (d2 * 16777216 + d1 : Nat)) ∨ (i = .int .i64 (-1) ∧ v = .int .u64 (VV : Nat))) (fun _ i => (intOf i + 1).toNat)
  case atStart => exact .inl ⟨rfl, rfl⟩
  case round =>
    rcases hrel with ⟨rfl, rfl⟩ | ⟨rfl, rfl⟩ | ⟨rfl, rfl⟩ | ⟨rfl, rfl⟩
    · go_wp2_with (go_at_call 84; refine (digit_int'q _ a 2 2 d2 rfl (by omega) _ HR.out H2.out).mono ?_; rintro e w' ⟨rfl, hw⟩; rw [hw]; clear hw w')
      go_round
      case rel => exact .inr (.inl ⟨rfl, rfl⟩)
      case measure => simp [intOf]
    · go_wp2_with (go_at_call 84; refine (digit_int'q _ a 1 1 d1 rfl (by omega) _ HR.out H1.out).mono ?_; rintro e w' ⟨rfl, hw⟩; rw [hw]; clear hw w')
      go_round
      case rel => exact .inr (.inr (.inl ⟨rfl, by go_num⟩))
      case measure => simp [intOf]
    · go_wp2_with (go_at_call 84; refine (digit_int'q _ a 0 0 d0 rfl (by omega) _ HR.out H0.out).mono ?_; rintro e w' ⟨rfl, hw⟩; rw [hw]; clear hw w')
      go_round
      case rel =>
        refine .inr (.inr (.inr ⟨rfl, ?_⟩))
        refine congrArg (Value.int IntKind.u64) ?_
        rw [IntKind.wrap_u64, IntKind.wrap_u64, ← HV.out]
        omega
      case measure => simp [intOf]
    · go_wp2
      exact hQ.out _ _ ⟨rfl, rfl⟩

set_option maxHeartbeats 2000000 in
theorem ncmp_anyq (va vb : Value) (a b : Nat) (w : World) (ha : Row w va (dig a)) (hb : Row w vb (dig b)) :
    Calls Tryz.prog 45 #[va, vb] w fun e w' => e = .returned (.int .i64 (cmpN a b)) ∧ ∃ q, w' = w.drewN q := by
  refine cps fun Q hQ => ?_
  obtain ⟨aa, ca, rfl, h1, h2, hra⟩ := ha.reads
  obtain ⟨ab, cb, rfl, h3, h4, hrb⟩ := hb.reads
  clear ha hb
  rcases Nat.lt_trichotomy (dlen a) (dlen b) with hl | hl | hl
  · have HQ : Hid _ := hQ.out _ w ⟨by rw [cmpN_lt (cmp_len hl)], 0, rfl⟩
    clear hra hrb
    go_enter Tryz.func45, Tryz.ntmps45
    go_wp2
    exact HQ.out
  · have H0 : Hid (∀ j, top a j < top b j → a < b) := fun j h => cmp_top h
    have H1 : Hid (∀ j, top b j < top a j → b < a) := fun j h => cmp_top h
    have HL : Hid (top a (dlen a) = top b (dlen a)) := by show _ = _; rw [top_eq_zero (Nat.le_refl _), top_eq_zero (by omega)]
    rw [← hl] at hrb h4
    have HS : Hid (dlen a = dlen b) := hl
    have hb' : dlen b = dlen a := hl.symm
    clear hl
    go_enter Tryz.func45, Tryz.ntmps45
    go_wp2
    go_loopw [5] (fun i wr => ∃ j : Nat, j ≤ dlen a ∧ Hid (top a j = top b j) ∧ i = .int .i64 ((j : Int) - 1) ∧ ∃ q, wr = w.drewN q) (fun i _ => (intOf i + 1).toNat)
    case atStart => exact ⟨dlen a, Nat.le_refl _, HL.out, by go_num, 0, rfl⟩
    case round =>
      obtain ⟨j, hj, hT, rfl, q, rfl⟩ := hrel
      by_cases h0 : 0 < j
      · obtain ⟨k, rfl⟩ : ∃ k, j = k + 1 := ⟨j - 1, by omega⟩
        rw [show ((k + 1 : Nat) : Int) - 1 = (k : Int) by omega]
        rcases hra with hra | ⟨ba, oa, rfl, hba, hra⟩
        · omega
        rcases hrb with hrb | ⟨bb, ob, rfl, hbb, hrb⟩
        · omega
        have c1 := hra k (by omega)
        have c2 := hrb k (by omega)
        have hdec : (top a k % 16777216 < top b k % 16777216 → top a k < top b k) ∧ (top b k % 16777216 < top a k % 16777216 → top b k < top a k) ∧ (top a k % 16777216 = top b k % 16777216 → top a k = top b k) := by
          have := hT.out
          rw [top_succ, top_succ] at this
          refine ⟨fun h => by omega, fun h => by omega, fun h => by omega⟩
        have HD : Hid _ := hdec
        have f1 : top a k % 16777216 ≤ 16777215 := by omega
        have f2 : top b k % 16777216 ≤ 16777215 := by omega
        clear hdec hra hrb
        generalize top a k % 16777216 = x at *
        generalize top b k % 16777216 = y at *
        rcases Nat.lt_trichotomy x y with hxy | hxy | hxy
        · go_wp2
          go_quiet (fail)
          go_wp2
          refine hQ.out _ _ ⟨?_, _, by rw [World.drewN_drewN]⟩
          rw [cmpN_lt (H0.out k (HD.out.1 hxy))]; rfl
        · subst hxy
          have HD' := HD.out.2.2 rfl
          have HT' : Hid (top a k = top b k) := HD'
          clear HD' HD
          go_wp2
          go_quiet (fail)
          go_wp2
          go_quiet (fail)
          go_wp2
          go_roundw
          case rel => exact ⟨k, by omega, HT'.out, by go_num, _, rfl⟩
          case measure => simp [intOf]
        · have hnlt : ¬ x < y := by omega
          go_wp2
          go_quiet (fail)
          go_wp2
          go_quiet (fail)
          go_wp2
          refine hQ.out _ _ ⟨?_, _, by rw [World.drewN_drewN, World.drewN_drewN]⟩
          rw [cmpN_gt (H1.out k (HD.out.2.1 hxy))]; rfl
      · have e : j = 0 := by omega
        subst e
        have hab : a = b := hT.out
        have HE : Hid (cmpN a b = 0) := by show _ = _; rw [hab]; exact cmpN_eq b
        clear hab hra hrb
        go_wp2
        refine hQ.out _ _ ⟨?_, _, rfl⟩
        rw [HE.out]; rfl
  · have HQ : Hid _ := hQ.out _ w ⟨by rw [cmpN_gt (cmp_len hl)], 0, rfl⟩
    clear hra hrb
    go_enter Tryz.func45, Tryz.ntmps45
    go_wp2
    exact HQ.out

set_option maxHeartbeats 2000000 in
theorem nlow_anyq (va : Value) (a k : Nat) (hk : k ≤ 9223372036854775807) (hS : dlen a ≤ 1099511627776) (w : World) (ha : Row w va (dig a)) :
    Calls Tryz.prog 81 #[va, .int .i64 k] w fun e w' => e = .returned (.bool (decide (a % 2 ^ k ≠ 0))) ∧ w' = w := by
  refine cps fun Q hQ => ?_
  obtain ⟨aa, ca, rfl, h1, h2, hr⟩ := ha.reads
  clear ha
  go_enter Tryz.func81, Tryz.ntmps81
  go_wp2
  go_loop [5] (fun i => ∃ j : Nat, j ≤ dlen a ∧ Hid (2 ^ (min (24 * j) k) ∣ a) ∧ i = .int .i64 j) (fun i => dlen a - (intOf i).toNat)
  case atStart => exact ⟨0, Nat.zero_le _, by show _ ∣ _; simp, rfl⟩
  case round =>
    obtain ⟨j, hj, hI, rfl⟩ := hrel
    by_cases hlt : j < dlen a
    · by_cases hk2 : 24 * j < k
      · rcases hr with hr | ⟨b, off, rfl, hb, hr⟩
        · omega
        have hcell := hr j hlt
        have hdv := hI.out
        rw [show min (24 * j) k = 24 * j by omega] at hdv
        have hp := low_part a j (min 24 (k - 24 * j)) (by omega) hdv
        have hd0 : top a j % 16777216 ≤ 16777215 := by omega
        have hyes : ¬ 2 ^ (24 * j + min 24 (k - 24 * j)) ∣ a → decide (a % 2 ^ k ≠ 0) = true := by
          intro h
          refine decide_eq_true (fun h0 => h ?_)
          exact Nat.dvd_trans (Nat.pow_dvd_pow 2 (by omega)) (Nat.dvd_of_mod_eq_zero h0)
        have hnx : 24 * j + min 24 (k - 24 * j) = min (24 * (j + 1)) k := by omega
        rw [hnx] at hp hyes
        generalize top a j % 16777216 = D at *
        have hf1 : 0 < 2 ^ (min 24 (k - 24 * j)) := Nat.pow_pos (by decide)
        obtain ⟨x, hx⟩ : ∃ x, x = D % 2 ^ (min 24 (k - 24 * j)) := ⟨_, rfl⟩
        rw [← hx] at hp
        have HY : Hid _ := hyes
        have HP : Hid _ := hp
        have HI : Hid _ := hI
        clear hr hdv hp hyes hnx
        by_cases h24 : k - 24 * j < 24
        · obtain ⟨F, hF⟩ : ∃ F, F = 2 ^ (k - 24 * j) := ⟨_, rfl⟩
          rw [show min 24 (k - 24 * j) = k - 24 * j by omega, ← hF] at hx hf1
          have hxi : (D : Int) % (F : Int) = (x : Int) := by rw [hx]; simp
          have hF2 : F ≤ 16777216 := by rw [hF]; exact Nat.pow_le_pow_right (n := 2) (by decide) (show k - 24 * j ≤ 24 by omega)
          have HF : Hid (F = 2 ^ (k - 24 * j)) := hF
          have hh : (k : Int) - 24 * (j : Int) < 24 := by omega
          clear hF hx
          by_cases hx0 : x = 0
          · have HD := HP.out.1 hx0
            have HDD : Hid _ := HD
            clear HD
            subst hx0
            go_wp2_with (go_at_call 78; refine (two_intq _ (k - 24 * j) (by omega) (by omega) _).mono ?_; rintro e w' ⟨rfl, hw⟩; rw [hw, ← HF.out]; clear hw w')
            go_round
            case rel => exact ⟨j + 1, by omega, HDD.out, by go_num⟩
            case measure => simp [intOf]; omega
          · have HT : Hid _ := hQ.out _ w ⟨rfl, rfl⟩
            rw [HY.out (fun h => hx0 (HP.out.2 h))] at HT
            have hx1 : 0 < x := by omega
            go_wp2_with (go_at_call 78; refine (two_intq _ (k - 24 * j) (by omega) (by omega) _).mono ?_; rintro e w' ⟨rfl, hw⟩; rw [hw, ← HF.out]; clear hw w')
            exact HT.out
        · rw [show min 24 (k - 24 * j) = 24 by omega] at hx
          have hxi : (D : Int) % 16777216 = (x : Int) := by rw [hx]; simp
          have hh : ¬ (k : Int) - 24 * (j : Int) < 24 := by omega
          clear hx hf1
          by_cases hx0 : x = 0
          · have HD := HP.out.1 hx0
            have HDD : Hid _ := HD
            clear HD
            subst hx0
            go_wp2
            go_round
            case rel => exact ⟨j + 1, by omega, HDD.out, by go_num⟩
            case measure => simp [intOf]; omega
          · have HT : Hid _ := hQ.out _ w ⟨rfl, rfl⟩
            rw [HY.out (fun h => hx0 (HP.out.2 h))] at HT
            have hx1 : 0 < x := by omega
            go_wp2
            exact HT.out
      · have hdv := hI.out
        rw [show min (24 * j) k = k by omega] at hdv
        have e : decide (a % 2 ^ k ≠ 0) = false := by
          refine decide_eq_false (fun h => h ?_)
          exact Nat.mod_eq_zero_of_dvd hdv
        have HT : Hid _ := hQ.out _ w ⟨rfl, rfl⟩
        rw [e] at HT
        clear hdv e hr
        go_wp2
        exact HT.out
    · have e : decide (a % 2 ^ k ≠ 0) = false := by
        refine decide_eq_false (fun h => h ?_)
        have hdv := hI.out
        by_cases h5 : 24 * j ≤ k
        · rw [show min (24 * j) k = 24 * j by omega] at hdv
          rw [low_end a j hdv (by omega)]; simp
        · rw [show min (24 * j) k = k by omega] at hdv
          exact Nat.mod_eq_zero_of_dvd hdv
      have HT : Hid _ := hQ.out _ w ⟨rfl, rfl⟩
      rw [e] at HT
      clear e hr
      go_wp2
      exact HT.out
end Go.Proofs.YtheliihkkoohnaaGreat

namespace Go.Proofs.YtheliihkkoohnaaGreat
open Go.ChangeShapes Go.WideShapes Go.ChangeAt Go.RowKit
set_option linter.unusedVariables false
set_option linter.unusedSimpArgs false
set_option maxRecDepth 100000

/-! ### a natural number's first 128 bits, and whether something is lost -/
def normN (M : Nat) : Nat := if blen M < 128 then M * 2 ^ (128 - blen M) else M / 2 ^ (blen M - 128)
def lostN (M : Nat) : Bool := decide (128 < blen M) && decide (M % 2 ^ (blen M - 128) ≠ 0)
def exactV (neg : Bool) (M : Nat) (exp : Int) (rest : Bool) : Value :=
  if M = 0 then exV 0 false 0 0 0 false else exV 1 neg (heldX (exp + blen M - 1)) (normN M / 2 ^ 64 % 2 ^ 64) (normN M % 2 ^ 64) (rest || lostN M)
theorem blen_lo {M : Nat} (h : M ≠ 0) : 2 ^ (blen M - 1) ≤ M := by
  have := @blen_le M (blen M - 1)
  have hp : blen M ≠ 0 := by rw [blen_pos h]; omega
  refine Nat.le_of_not_lt fun hlt => ?_
  have := this.2 hlt
  omega
theorem blen_hi (M : Nat) : M < 2 ^ blen M := blen_le.1 (Nat.le_refl _)
/-- the first of the 128 bits is a 1 -/
theorem normN_mant {M : Nat} (h : M ≠ 0) : 2 ^ 127 ≤ normN M ∧ normN M < 2 ^ 128 := by
  have h1 := blen_lo h
  have h2 := blen_hi M
  have hp : 1 ≤ blen M := by rw [blen_pos h]; omega
  unfold normN
  split
  · rename_i hc
    constructor
    · have := Nat.mul_le_mul_right (2 ^ (128 - blen M)) h1
      rwa [← Nat.pow_add, show blen M - 1 + (128 - blen M) = 127 by omega] at this
    · have := Nat.mul_lt_mul_of_pos_right h2 (show 0 < 2 ^ (128 - blen M) from Nat.pow_pos (by decide))
      rwa [← Nat.pow_add, show blen M + (128 - blen M) = 128 by omega] at this
  · rename_i hc
    constructor
    · rw [Nat.le_div_iff_mul_le (Nat.pow_pos (by decide)), ← Nat.pow_add, show 127 + (blen M - 128) = blen M - 1 by omega]
      exact h1
    · rw [Nat.div_lt_iff_lt_mul (Nat.pow_pos (by decide)), ← Nat.pow_add, show 128 + (blen M - 128) = blen M by omega]
      exact h2
theorem normN_words {M : Nat} (h : M ≠ 0) : WordsX (normN M / 2 ^ 64 % 2 ^ 64) (normN M % 2 ^ 64) := by
  obtain ⟨h1, h2⟩ := normN_mant h
  have e1 : normN M / 2 ^ 64 < 2 ^ 64 := by rw [Nat.div_lt_iff_lt_mul (Nat.pow_pos (by decide)), ← Nat.pow_add]; exact h2
  have e2 : 2 ^ 63 ≤ normN M / 2 ^ 64 := by rw [Nat.le_div_iff_mul_le (Nat.pow_pos (by decide)), ← Nat.pow_add]; exact h1
  rw [Nat.mod_eq_of_lt e1]
  exact ⟨e2, e1, Nat.mod_lt _ (by decide)⟩
end Go.Proofs.YtheliihkkoohnaaGreat

namespace Go.Proofs.YtheliihkkoohnaaGreat
open Go.ChangeShapes Go.WideShapes Go.ChangeAt Go.RowKit
set_option linter.unusedVariables false
set_option linter.unusedSimpArgs false
set_option maxRecDepth 100000

theorem Row.setU {w : World} {v : Value} {l : List Nat} (h : Row w v l) (m k : Nat) (u u' : Value) (hc : w.cell? ⟨m, k, none⟩ = some u) (hu : ∀ x, u ≠ .int .i64 x) : Row (w.setCell ⟨m, k, none⟩ u') v l := by
  obtain ⟨ao, c, rfl, hc1, hl, h⟩ := h
  refine ⟨ao, c, rfl, hc1, hl, ?_⟩
  rcases h with h | ⟨b, off, rfl, hlt, h⟩
  · exact .inl h
  · refine .inr ⟨b, off, rfl, hlt.set, fun j hj => ?_⟩
    have hj2 := h j hj
    have hne : (⟨m, k, none⟩ : Addr) ≠ ⟨b, off + j, none⟩ := fun e => by
      rw [← e, hc] at hj2
      exact hu _ (Option.some.inj hj2)
    rw [World.cell?_setCell_other _ _ _ _ hne]
    exact hj2
theorem dlen_of_blen {M : Nat} (h : blen M ≤ 1099511627776) : dlen M ≤ 1099511627776 := by
  refine Nat.le_trans (dlen_le_of_lt ?_) h
  refine Nat.lt_of_lt_of_le (blen_hi M) ?_
  rw [show (16777216 : Nat) = 2 ^ 24 by decide, ← Nat.pow_mul]
  exact Nat.pow_le_pow_right (by decide) (by omega)
theorem dlen_mant {K : Nat} (h : K < 2 ^ 128) : dlen K ≤ 1099511627776 := by
  refine Nat.le_trans (dlen_le_of_lt (k := 6) (Nat.lt_of_lt_of_le h (by decide))) (by decide)
theorem heldX_bounds (s : Int) : -1099511627776 ≤ heldX s ∧ heldX s ≤ 1099511627776 := by unfold heldX; split <;> (try split) <;> omega
theorem cset6 {a W : World} {m : Nat} {v0 v1 v2 v3 v4 v5 : Value} (h : Below a.heap.size a W) (hb : a.heap.size ≤ m) :
    Below a.heap.size a ((((((W.setCell ⟨m, 0, none⟩ v0).setCell ⟨m, 1, none⟩ v1).setCell ⟨m, 2, none⟩ v2).setCell ⟨m, 3, none⟩ v3).setCell ⟨m, 4, none⟩ v4).setCell ⟨m, 5, none⟩ v5) :=
  cset (cset (cset (cset (cset (cset h hb 0 v0) hb 1 v1) hb 2 v2) hb 3 v3) hb 4 v4) hb 5 v5
theorem exactly7_lo (neg : Bool) (v : Value) (M : Nat) (exp : Int) (rest : Bool) (h0 : M ≠ 0) (hb : blen M ≤ 1099511627776) (he : -1152921504606846976 ≤ exp ∧ exp ≤ 1152921504606846976) (hc : blen M < 128) (w : World) (hr : Row w v (dig M)) :
    Calls Tryz.prog 43 #[.bool neg, v, .int .i64 exp, .bool rest] w fun e w' => e = .returned (exactV neg M exp rest) ∧ Below w.heap.size w w' := by
  have hS := dlen_of_blen hb
  obtain ⟨hK1, hK2⟩ := normN_mant h0
  have hSK := dlen_mant hK2
  have hp : 1 ≤ blen M := by rw [blen_pos h0]; omega
  have hv : exactV neg M exp rest = exV 1 neg (heldX (exp + blen M - 1)) (normN M / 2 ^ 64 % 2 ^ 64) (normN M % 2 ^ 64) (rest || lostN M) := by unfold exactV; rw [if_neg h0]
  rw [hv]
  have k1 := fun w hw => nbits_anyq v M hS w hw
  have k2 := held7_any (exp + blen M - 1)
  have hhb := heldX_bounds (exp + blen M - 1)
  have kw := fun v w hw => nword_anyq v (normN M) w hw
  have ks := fun v w hw => nshr_anyq v (normN M) 64 (by decide) hSK w hw
  have kx := fun v w hw => nword_anyq v (normN M / 2 ^ 64) w hw
  have k3 := fun w hw => nshl_anyq v M (128 - blen M) (by omega) hS w hw
  rw [show M * 2 ^ (128 - blen M) = normN M by unfold normN; rw [if_pos hc]] at k3
  have hl : (rest || lostN M) = rest := by unfold lostN; rw [decide_eq_false (by omega)]; simp
  rw [hl]
  have hd : (128 : Int) - ((blen M : Nat) : Int) = ((128 - blen M : Nat) : Int) := by omega
  obtain ⟨d, hdd⟩ : ∃ d, d = 128 - blen M := ⟨_, rfl⟩
  rw [← hdd] at k3 hd
  have g1 : decide (((blen M : Nat) : Int) < 128) = true := decide_eq_true (by omega)
  have g2 : decide ((128 : Int) < ((blen M : Nat) : Int)) = false := decide_eq_false (by omega)
  have hb1 : 1 ≤ ((blen M : Nat) : Int) ∧ ((blen M : Nat) : Int) ≤ 1099511627776 := by omega
  have g0 : (((blen M : Nat) : Int) == 0) = false := beq_eq_false_iff_ne.2 (by omega)
  clear hv hp hK1 hK2 hSK
  clear hl
  generalize heldX (exp + blen M - 1) = hx at *
  have HR : Hid (Row w v (dig M)) := hr
  generalize normN M % 2 ^ 64 = lo at *
  generalize normN M / 2 ^ 64 % 2 ^ 64 = hi at *
  generalize normN M / 2 ^ 64 = K2 at *
  generalize normN M = K at *
  clear hr hb hc h0
  clear hdd
  generalize ((blen M : Nat) : Int) = n at *
  refine cps fun Q hQ => ?_
  unfold exV at *
  go_enter Tryz.func43, Tryz.ntmps43
  go_wp2_with (first
    | (go_at_call 79; go_must (refine (k1 _ (HR.out.below (cmore (Below.refl _ _) _))).mono ?_); rintro e wx ⟨rfl, hwx⟩; rw [hwx]; clear hwx wx)
    | (go_at_call 80; go_must (refine (k2 _).mono ?_); rintro e wx ⟨rfl, hwx⟩; rw [hwx]; clear hwx wx)
    | (go_at_call_of 83 v3; go_must (refine (kx v3 _ HR3.out).mono ?_); rintro e wx ⟨rfl, hwx⟩; rw [hwx]; clear hwx wx)
    | (go_at_call_of 82 v2; go_must (refine (ks v2 _ (HR2.out.setU _ _ _ _ g4 (by intro x h; cases h))).mono ?_); rintro e w3 ⟨v3, rfl, hr3, hb3⟩; have R10 : w3.heap[w.heap.size + 1]? = some (.cells #[.int .i64 1, .bool neg, .int .i64 hx, .int .u64 0, .int .u64 lo, .bool rest] 39 (0, 0)) := (hb3.block (w.heap.size + 1) (by simpa using z2)).trans ((rowset HR10.out 4 _).trans (by simp only [List.setIfInBounds_toArray, List.set_cons_zero, List.set_cons_succ])); have R8 := (hb3.block w.heap.size (by simp; omega)).trans ((heap_setCell_other _ _ _ _ (by simp)).trans HR8.out); have HB3 : Hid (Below w.heap.size w w3) := cthen (cset HB2.out (by omega) _ _) hb3; have HR3 : Hid (Row w3 v3 (dig K2)) := hr3; have z3 : w.heap.size + 1 < w3.heap.size := (by have := hb3.size; simp at this; omega); have p0 := rowcell R10 0; have p1 := rowcell R10 1; have p2 := rowcell R10 2; have p3 := rowcell R10 3; have p4 := rowcell R10 4; have p5 := rowcell R10 5; have pf := rowfree R10; simp only [List.getElem?_toArray, List.getElem?_cons_zero, List.getElem?_cons_succ] at p0 p1 p2 p3 p4 p5; have q0 := rowcell R8 0; have q1 := rowcell R8 1; have q2 := rowcell R8 2; have q3 := rowcell R8 3; have q4 := rowcell R8 4; have q5 := rowcell R8 5; have qf := rowfree R8; simp only [List.getElem?_toArray, List.getElem?_cons_zero, List.getElem?_cons_succ] at q0 q1 q2 q3 q4 q5; clear hr3 hb3)
    | (go_at_call 42; go_must (refine (k3 _ (HR.out.below (cmore (cmore (Below.refl _ _) _) _))).mono ?_); rintro e w2 ⟨v2, rfl, hr2, hb2⟩; have R10 := (hb2.block (w.heap.size + 1) (by simp)).trans (rownew' _ _ _ _ (by simp)); have R8 := (hb2.block w.heap.size (by simp; omega)).trans ((Below.heap_alloc _ _ _ (by simp)).trans (rownew' _ _ _ _ (by simp))); have HB2 : Hid (Below w.heap.size w w2) := cthen (cmore (cmore (Below.refl _ _) _) _) hb2; have HR2 : Hid (Row w2 v2 (dig K)) := hr2; have z2 : w.heap.size + 1 < w2.heap.size := (by have := hb2.size; simp at this; omega); have g0 := rowcell R10 0; have g1 := rowcell R10 1; have g2 := rowcell R10 2; have g3 := rowcell R10 3; have g4 := rowcell R10 4; have g5 := rowcell R10 5; have gf := rowfree R10; simp only [List.getElem?_toArray, List.getElem?_cons_zero, List.getElem?_cons_succ] at g0 g1 g2 g3 g4 g5; have h0 := rowcell R8 0; have h1 := rowcell R8 1; have h2 := rowcell R8 2; have h3 := rowcell R8 3; have h4 := rowcell R8 4; have h5 := rowcell R8 5; have hf := rowfree R8; simp only [List.getElem?_toArray, List.getElem?_cons_zero, List.getElem?_cons_succ] at h0 h1 h2 h3 h4 h5; have HR10 : Hid _ := R10; have HR8 : Hid _ := R8; clear hr2 hb2 R10 R8)
    | (go_at_call 83; go_must (refine (kw v2 _ HR2.out).mono ?_); rintro e wx ⟨rfl, hwx⟩; rw [hwx]; clear hwx wx))
  refine bodyPost_ret (v := .agg #[.int .i64 1, .bool neg, .int .i64 hx, .int .u64 hi, .int .u64 lo, .bool rest]) (by simp [results, Tryz.results43, go_sem, q0, q1, q2, q3, q4, q5, qf]) rfl (hQ.out _ _ ⟨by simp, ?_⟩)
  exact cset6 (cset HB3.out (by omega) _ _) (Nat.le_refl _)
theorem exactly7_mid (neg : Bool) (v : Value) (M : Nat) (exp : Int) (rest : Bool) (h0 : M ≠ 0) (hb : blen M ≤ 1099511627776) (he : -1152921504606846976 ≤ exp ∧ exp ≤ 1152921504606846976) (hc : blen M = 128) (w : World) (hr : Row w v (dig M)) :
    Calls Tryz.prog 43 #[.bool neg, v, .int .i64 exp, .bool rest] w fun e w' => e = .returned (exactV neg M exp rest) ∧ Below w.heap.size w w' := by
  have hS := dlen_of_blen hb
  obtain ⟨hK1, hK2⟩ := normN_mant h0
  have hSK := dlen_mant hK2
  have hp : 1 ≤ blen M := by rw [blen_pos h0]; omega
  have hv : exactV neg M exp rest = exV 1 neg (heldX (exp + blen M - 1)) (normN M / 2 ^ 64 % 2 ^ 64) (normN M % 2 ^ 64) (rest || lostN M) := by unfold exactV; rw [if_neg h0]
  rw [hv]
  have k1 := fun w hw => nbits_anyq v M hS w hw
  have k2 := held7_any (exp + blen M - 1)
  have hhb := heldX_bounds (exp + blen M - 1)
  have kw := fun v w hw => nword_anyq v (normN M) w hw
  have ks := fun v w hw => nshr_anyq v (normN M) 64 (by decide) hSK w hw
  have kx := fun v w hw => nword_anyq v (normN M / 2 ^ 64) w hw
  have hn : normN M = M := by unfold normN; rw [if_neg (by omega), hc]; simp
  have hl : (rest || lostN M) = rest := by unfold lostN; rw [decide_eq_false (by omega)]; simp
  rw [hl]
  have g1 : decide (((blen M : Nat) : Int) < 128) = false := decide_eq_false (by omega)
  have g2 : decide ((128 : Int) < ((blen M : Nat) : Int)) = false := decide_eq_false (by omega)
  have hb1 : 1 ≤ ((blen M : Nat) : Int) ∧ ((blen M : Nat) : Int) ≤ 1099511627776 := by omega
  have g0 : (((blen M : Nat) : Int) == 0) = false := beq_eq_false_iff_ne.2 (by omega)
  clear hv hp hK1 hK2 hSK
  clear hl
  generalize heldX (exp + blen M - 1) = hx at *
  have HR : Hid (Row w v (dig M)) := hr
  have HR' : Hid (Row w v (dig (normN M))) := by rw [hn]; exact hr
  clear hn
  generalize normN M % 2 ^ 64 = lo at *
  generalize normN M / 2 ^ 64 % 2 ^ 64 = hi at *
  generalize normN M / 2 ^ 64 = K2 at *
  generalize normN M = K at *
  clear hr hb hc h0
  generalize ((blen M : Nat) : Int) = n at *
  refine cps fun Q hQ => ?_
  unfold exV at *
  go_enter Tryz.func43, Tryz.ntmps43
  go_wp2_with (first
    | (go_at_call 79; go_must (refine (k1 _ (HR.out.below (cmore (Below.refl _ _) _))).mono ?_); rintro e wx ⟨rfl, hwx⟩; rw [hwx]; clear hwx wx)
    | (go_at_call 80; go_must (refine (k2 _).mono ?_); rintro e wx ⟨rfl, hwx⟩; rw [hwx]; clear hwx wx)
    | (go_at_call_of 83 v3; go_must (refine (kx v3 _ HR3.out).mono ?_); rintro e wx ⟨rfl, hwx⟩; rw [hwx]; clear hwx wx)
    | (go_at_call 83; go_must (refine (kw v _ (HR'.out.below (cmore (cmore (Below.refl _ _) _) _))).mono ?_); rintro e wx ⟨rfl, hwx⟩; rw [hwx]; clear hwx wx)
    | (go_at_call 82; go_must (refine (ks v _ (HR'.out.below (cmore (cmore (Below.refl _ _) _) _))).mono ?_); rintro e w3 ⟨v3, rfl, hr3, hb3⟩; have R10 := (hb3.block (w.heap.size + 1) (by simp)).trans (rownew' _ _ _ _ (by simp)); have R8 := (hb3.block w.heap.size (by simp; omega)).trans ((Below.heap_alloc _ _ _ (by simp)).trans (rownew' _ _ _ _ (by simp))); have HB3 : Hid (Below w.heap.size w w3) := cthen (cmore (cmore (Below.refl _ _) _) _) hb3; have HR3 : Hid (Row w3 v3 (dig K2)) := hr3; have z3 : w.heap.size + 1 < w3.heap.size := (by have := hb3.size; simp at this; omega); have g0 := rowcell R10 0; have g1 := rowcell R10 1; have g2 := rowcell R10 2; have g3 := rowcell R10 3; have g4 := rowcell R10 4; have g5 := rowcell R10 5; have gf := rowfree R10; simp only [List.getElem?_toArray, List.getElem?_cons_zero, List.getElem?_cons_succ] at g0 g1 g2 g3 g4 g5; have h0 := rowcell R8 0; have h1 := rowcell R8 1; have h2 := rowcell R8 2; have h3 := rowcell R8 3; have h4 := rowcell R8 4; have h5 := rowcell R8 5; have hf := rowfree R8; simp only [List.getElem?_toArray, List.getElem?_cons_zero, List.getElem?_cons_succ] at h0 h1 h2 h3 h4 h5; clear hr3 hb3))
  refine bodyPost_ret (v := .agg #[.int .i64 1, .bool neg, .int .i64 hx, .int .u64 hi, .int .u64 lo, .bool rest]) (by simp [results, Tryz.results43, go_sem, h0, h1, h2, h3, h4, h5, hf]) rfl (hQ.out _ _ ⟨by simp, ?_⟩)
  exact cset6 (cset HB3.out (by omega) _ _) (Nat.le_refl _)
theorem exactly7_hi (neg : Bool) (v : Value) (M : Nat) (exp : Int) (rest : Bool) (h0 : M ≠ 0) (hb : blen M ≤ 1099511627776) (he : -1152921504606846976 ≤ exp ∧ exp ≤ 1152921504606846976) (hc : 128 < blen M) (w : World) (hr : Row w v (dig M)) :
    Calls Tryz.prog 43 #[.bool neg, v, .int .i64 exp, .bool rest] w fun e w' => e = .returned (exactV neg M exp rest) ∧ Below w.heap.size w w' := by
  have hS := dlen_of_blen hb
  obtain ⟨hK1, hK2⟩ := normN_mant h0
  have hSK := dlen_mant hK2
  have hp : 1 ≤ blen M := by rw [blen_pos h0]; omega
  have hv : exactV neg M exp rest = exV 1 neg (heldX (exp + blen M - 1)) (normN M / 2 ^ 64 % 2 ^ 64) (normN M % 2 ^ 64) (rest || lostN M) := by unfold exactV; rw [if_neg h0]
  rw [hv]
  have k1 := fun w hw => nbits_anyq v M hS w hw
  have k2 := held7_any (exp + blen M - 1)
  have hhb := heldX_bounds (exp + blen M - 1)
  have kw := fun v w hw => nword_anyq v (normN M) w hw
  have ks := fun v w hw => nshr_anyq v (normN M) 64 (by decide) hSK w hw
  have kx := fun v w hw => nword_anyq v (normN M / 2 ^ 64) w hw
  have k3 := fun w hw => nshr_anyq v M (blen M - 128) (by omega) hS w hw
  rw [show M / 2 ^ (blen M - 128) = normN M by unfold normN; rw [if_neg (by omega)]] at k3
  have k4 := fun w hw => nlow_anyq v M (blen M - 128) (by omega) hS w hw
  rw [show decide (M % 2 ^ (blen M - 128) ≠ 0) = lostN M by unfold lostN; rw [decide_eq_true hc]; simp] at k4
  have hd : ((blen M : Nat) : Int) - 128 = ((blen M - 128 : Nat) : Int) := by omega
  obtain ⟨d, hdd⟩ : ∃ d, d = blen M - 128 := ⟨_, rfl⟩
  rw [← hdd] at k3 k4 hd
  have g1 : decide (((blen M : Nat) : Int) < 128) = false := decide_eq_false (by omega)
  have g2 : decide ((128 : Int) < ((blen M : Nat) : Int)) = true := decide_eq_true (by omega)
  have hb1 : 1 ≤ ((blen M : Nat) : Int) ∧ ((blen M : Nat) : Int) ≤ 1099511627776 := by omega
  have g0 : (((blen M : Nat) : Int) == 0) = false := beq_eq_false_iff_ne.2 (by omega)
  clear hv hp hK1 hK2 hSK
  generalize lostN M = lost at *
  generalize heldX (exp + blen M - 1) = hx at *
  have HR : Hid (Row w v (dig M)) := hr
  generalize normN M % 2 ^ 64 = lo at *
  generalize normN M / 2 ^ 64 % 2 ^ 64 = hi at *
  generalize normN M / 2 ^ 64 = K2 at *
  generalize normN M = K at *
  clear hr hb hc h0
  clear hdd
  generalize ((blen M : Nat) : Int) = n at *
  refine cps fun Q hQ => ?_
  unfold exV at *
  cases rest
  · skip
    go_enter Tryz.func43, Tryz.ntmps43
    go_wp2_with (first
      | (go_at_call 79; go_must (refine (k1 _ (HR.out.below (cmore (Below.refl _ _) _))).mono ?_); rintro e wx ⟨rfl, hwx⟩; rw [hwx]; clear hwx wx)
      | (go_at_call 80; go_must (refine (k2 _).mono ?_); rintro e wx ⟨rfl, hwx⟩; rw [hwx]; clear hwx wx)
      | (go_at_call_of 83 v3; go_must (refine (kx v3 _ HR3.out).mono ?_); rintro e wx ⟨rfl, hwx⟩; rw [hwx]; clear hwx wx)
      | (go_at_call 81; go_must (refine (k4 _ (HR.out.below (cmore (cmore (Below.refl _ _) _) _))).mono ?_); rintro e wx ⟨rfl, hwx⟩; rw [hwx]; clear hwx wx)
      | (go_at_call_of 82 v2; go_must (refine (ks v2 _ (HR2.out.setU _ _ _ _ g4 (by intro x h; cases h))).mono ?_); rintro e w3 ⟨v3, rfl, hr3, hb3⟩; have R10 : w3.heap[w.heap.size + 1]? = some (.cells #[.int .i64 1, .bool neg, .int .i64 hx, .int .u64 0, .int .u64 lo, .bool lost] 39 (0, 0)) := (hb3.block (w.heap.size + 1) (by simpa using z2)).trans ((rowset HR10.out 4 _).trans (by simp only [List.setIfInBounds_toArray, List.set_cons_zero, List.set_cons_succ])); have R8 := (hb3.block w.heap.size (by simp; omega)).trans ((heap_setCell_other _ _ _ _ (by simp)).trans HR8.out); have HB3 : Hid (Below w.heap.size w w3) := cthen (cset HB2.out (by omega) _ _) hb3; have HR3 : Hid (Row w3 v3 (dig K2)) := hr3; have z3 : w.heap.size + 1 < w3.heap.size := (by have := hb3.size; simp at this; omega); have p0 := rowcell R10 0; have p1 := rowcell R10 1; have p2 := rowcell R10 2; have p3 := rowcell R10 3; have p4 := rowcell R10 4; have p5 := rowcell R10 5; have pf := rowfree R10; simp only [List.getElem?_toArray, List.getElem?_cons_zero, List.getElem?_cons_succ] at p0 p1 p2 p3 p4 p5; have q0 := rowcell R8 0; have q1 := rowcell R8 1; have q2 := rowcell R8 2; have q3 := rowcell R8 3; have q4 := rowcell R8 4; have q5 := rowcell R8 5; have qf := rowfree R8; simp only [List.getElem?_toArray, List.getElem?_cons_zero, List.getElem?_cons_succ] at q0 q1 q2 q3 q4 q5; clear hr3 hb3)
      | (go_at_call 82; go_must (refine (k3 _ (HR.out.below (cmore (cmore (Below.refl _ _) _) _))).mono ?_); rintro e w2 ⟨v2, rfl, hr2, hb2⟩; have R10 := (hb2.block (w.heap.size + 1) (by simp)).trans (rownew' _ _ _ _ (by simp)); have R8 := (hb2.block w.heap.size (by simp; omega)).trans ((Below.heap_alloc _ _ _ (by simp)).trans (rownew' _ _ _ _ (by simp))); have HB2 : Hid (Below w.heap.size w w2) := cthen (cmore (cmore (Below.refl _ _) _) _) hb2; have HR2 : Hid (Row w2 v2 (dig K)) := hr2; have z2 : w.heap.size + 1 < w2.heap.size := (by have := hb2.size; simp at this; omega); have g0 := rowcell R10 0; have g1 := rowcell R10 1; have g2 := rowcell R10 2; have g3 := rowcell R10 3; have g4 := rowcell R10 4; have g5 := rowcell R10 5; have gf := rowfree R10; simp only [List.getElem?_toArray, List.getElem?_cons_zero, List.getElem?_cons_succ] at g0 g1 g2 g3 g4 g5; have h0 := rowcell R8 0; have h1 := rowcell R8 1; have h2 := rowcell R8 2; have h3 := rowcell R8 3; have h4 := rowcell R8 4; have h5 := rowcell R8 5; have hf := rowfree R8; simp only [List.getElem?_toArray, List.getElem?_cons_zero, List.getElem?_cons_succ] at h0 h1 h2 h3 h4 h5; have HR10 : Hid _ := R10; have HR8 : Hid _ := R8; clear hr2 hb2 R10 R8)
      | (go_at_call 83; go_must (refine (kw v2 _ HR2.out).mono ?_); rintro e wx ⟨rfl, hwx⟩; rw [hwx]; clear hwx wx))
    refine bodyPost_ret (v := .agg #[.int .i64 1, .bool neg, .int .i64 hx, .int .u64 hi, .int .u64 lo, .bool lost]) (by simp [results, Tryz.results43, go_sem, q0, q1, q2, q3, q4, q5, qf]) rfl (hQ.out _ _ ⟨by simp, ?_⟩)
    exact cset6 (cset HB3.out (by omega) _ _) (Nat.le_refl _)
  · skip
    go_enter Tryz.func43, Tryz.ntmps43
    go_wp2_with (first
      | (go_at_call 79; go_must (refine (k1 _ (HR.out.below (cmore (Below.refl _ _) _))).mono ?_); rintro e wx ⟨rfl, hwx⟩; rw [hwx]; clear hwx wx)
      | (go_at_call 80; go_must (refine (k2 _).mono ?_); rintro e wx ⟨rfl, hwx⟩; rw [hwx]; clear hwx wx)
      | (go_at_call_of 83 v3; go_must (refine (kx v3 _ HR3.out).mono ?_); rintro e wx ⟨rfl, hwx⟩; rw [hwx]; clear hwx wx)
      | (go_at_call 81; go_must (refine (k4 _ (HR.out.below (cmore (cmore (Below.refl _ _) _) _))).mono ?_); rintro e wx ⟨rfl, hwx⟩; rw [hwx]; clear hwx wx)
      | (go_at_call_of 82 v2; go_must (refine (ks v2 _ (HR2.out.setU _ _ _ _ g4 (by intro x h; cases h))).mono ?_); rintro e w3 ⟨v3, rfl, hr3, hb3⟩; have R10 : w3.heap[w.heap.size + 1]? = some (.cells #[.int .i64 1, .bool neg, .int .i64 hx, .int .u64 0, .int .u64 lo, .bool true] 39 (0, 0)) := (hb3.block (w.heap.size + 1) (by simpa using z2)).trans ((rowset HR10.out 4 _).trans (by simp only [List.setIfInBounds_toArray, List.set_cons_zero, List.set_cons_succ])); have R8 := (hb3.block w.heap.size (by simp; omega)).trans ((heap_setCell_other _ _ _ _ (by simp)).trans HR8.out); have HB3 : Hid (Below w.heap.size w w3) := cthen (cset HB2.out (by omega) _ _) hb3; have HR3 : Hid (Row w3 v3 (dig K2)) := hr3; have z3 : w.heap.size + 1 < w3.heap.size := (by have := hb3.size; simp at this; omega); have p0 := rowcell R10 0; have p1 := rowcell R10 1; have p2 := rowcell R10 2; have p3 := rowcell R10 3; have p4 := rowcell R10 4; have p5 := rowcell R10 5; have pf := rowfree R10; simp only [List.getElem?_toArray, List.getElem?_cons_zero, List.getElem?_cons_succ] at p0 p1 p2 p3 p4 p5; have q0 := rowcell R8 0; have q1 := rowcell R8 1; have q2 := rowcell R8 2; have q3 := rowcell R8 3; have q4 := rowcell R8 4; have q5 := rowcell R8 5; have qf := rowfree R8; simp only [List.getElem?_toArray, List.getElem?_cons_zero, List.getElem?_cons_succ] at q0 q1 q2 q3 q4 q5; clear hr3 hb3)
      | (go_at_call 82; go_must (refine (k3 _ (HR.out.below (cmore (cmore (Below.refl _ _) _) _))).mono ?_); rintro e w2 ⟨v2, rfl, hr2, hb2⟩; have R10 := (hb2.block (w.heap.size + 1) (by simp)).trans (rownew' _ _ _ _ (by simp)); have R8 := (hb2.block w.heap.size (by simp; omega)).trans ((Below.heap_alloc _ _ _ (by simp)).trans (rownew' _ _ _ _ (by simp))); have HB2 : Hid (Below w.heap.size w w2) := cthen (cmore (cmore (Below.refl _ _) _) _) hb2; have HR2 : Hid (Row w2 v2 (dig K)) := hr2; have z2 : w.heap.size + 1 < w2.heap.size := (by have := hb2.size; simp at this; omega); have g0 := rowcell R10 0; have g1 := rowcell R10 1; have g2 := rowcell R10 2; have g3 := rowcell R10 3; have g4 := rowcell R10 4; have g5 := rowcell R10 5; have gf := rowfree R10; simp only [List.getElem?_toArray, List.getElem?_cons_zero, List.getElem?_cons_succ] at g0 g1 g2 g3 g4 g5; have h0 := rowcell R8 0; have h1 := rowcell R8 1; have h2 := rowcell R8 2; have h3 := rowcell R8 3; have h4 := rowcell R8 4; have h5 := rowcell R8 5; have hf := rowfree R8; simp only [List.getElem?_toArray, List.getElem?_cons_zero, List.getElem?_cons_succ] at h0 h1 h2 h3 h4 h5; have HR10 : Hid _ := R10; have HR8 : Hid _ := R8; clear hr2 hb2 R10 R8)
      | (go_at_call 83; go_must (refine (kw v2 _ HR2.out).mono ?_); rintro e wx ⟨rfl, hwx⟩; rw [hwx]; clear hwx wx))
    refine bodyPost_ret (v := .agg #[.int .i64 1, .bool neg, .int .i64 hx, .int .u64 hi, .int .u64 lo, .bool true]) (by simp [results, Tryz.results43, go_sem, q0, q1, q2, q3, q4, q5, qf]) rfl (hQ.out _ _ ⟨by simp, ?_⟩)
    exact cset6 (cset HB3.out (by omega) _ _) (Nat.le_refl _)
end Go.Proofs.YtheliihkkoohnaaGreat

namespace Go.Proofs.YtheliihkkoohnaaGreat
open Go.ChangeShapes Go.WideShapes Go.ChangeAt Go.RowKit
set_option linter.unusedVariables false
set_option linter.unusedSimpArgs false
set_option maxRecDepth 100000

theorem exactly7_zero (neg : Bool) (v : Value) (exp : Int) (rest : Bool) (w : World) (hr : Row w v (dig 0)) :
    Calls Tryz.prog 43 #[.bool neg, v, .int .i64 exp, .bool rest] w fun e w' => e = .returned (exV 0 false 0 0 0 false) ∧ Below w.heap.size w w' := by
  have k1 := fun w hw => nbits_anyq v 0 (by rw [dlen_zero]; decide) w hw
  rw [blen_zero, show ((0 : Nat) : Int) = 0 from rfl] at k1
  have HR : Hid (Row w v (dig 0)) := hr
  clear hr
  refine cps fun Q hQ => ?_
  unfold exV at *
  go_enter Tryz.func43, Tryz.ntmps43
  go_wp2_with (first
    | (go_at_call 79; go_must (refine (k1 _ (HR.out.below (cmore (Below.refl _ _) _))).mono ?_); rintro e wx ⟨rfl, hwx⟩; rw [hwx]; clear hwx wx))
  refine bodyPost_ret (v := .agg #[.int .i64 0, .bool false, .int .i64 0, .int .u64 0, .int .u64 0, .bool false]) (by simp [results, Tryz.results43, go_sem]) rfl (hQ.out _ _ ⟨rfl, ?_⟩)
  exact cmore (Below.refl _ _) _
theorem exactly7_any (neg : Bool) (v : Value) (M : Nat) (exp : Int) (rest : Bool) (hb : blen M ≤ 1099511627776) (he : -1152921504606846976 ≤ exp ∧ exp ≤ 1152921504606846976) (w : World) (hr : Row w v (dig M)) :
    Calls Tryz.prog 43 #[.bool neg, v, .int .i64 exp, .bool rest] w fun e w' => e = .returned (exactV neg M exp rest) ∧ Below w.heap.size w w' := by
  by_cases h0 : M = 0
  · subst h0
    have := exactly7_zero neg v exp rest w hr
    unfold exactV
    rwa [if_pos rfl]
  · rcases Nat.lt_trichotomy (blen M) 128 with h | h | h
    · exact exactly7_lo neg v M exp rest h0 hb he h w hr
    · exact exactly7_mid neg v M exp rest h0 hb he h w hr
    · exact exactly7_hi neg v M exp rest h0 hb he h w hr
theorem exactV_form (neg : Bool) (M : Nat) (exp : Int) (rest : Bool) : ∃ k b s h l r, exactV neg M exp rest = exV k b s h l r := by
  unfold exactV
  split
  · exact ⟨_, _, _, _, _, _, rfl⟩
  · exact ⟨_, _, _, _, _, _, rfl⟩
/-! ### Makes -/
theorem manX_lt {hi lo : Nat} (hh : hi < 2 ^ 64) (hl : lo < 2 ^ 64) : manX hi lo < 2 ^ 128 := by unfold manX; omega
end Go.Proofs.YtheliihkkoohnaaGreat

namespace Go.Proofs.YtheliihkkoohnaaGreat
open Go.ChangeShapes Go.WideShapes Go.ChangeAt Go.RowKit
set_option linter.unusedVariables false
set_option maxRecDepth 100000

/-- what the lowest k digits are -/
def lo (a k : Nat) : Nat := val (low a k)
theorem lo_zero (a : Nat) : lo a 0 = 0 := rfl
theorem lo_succ (a k : Nat) : lo a (k + 1) = lo a k + 16777216 ^ k * (top a k % 16777216) := by
  unfold lo; rw [low_snoc, val_append, low_length]; simp [val]
theorem lo_all (a : Nat) : lo a (dlen a) = a := by unfold lo; rw [low_dlen, val_dig]
theorem val_set (l : List Nat) (j d : Nat) (h : j < l.length) : val (l.set j d) + 16777216 ^ j * l.getD j 0 = val l + 16777216 ^ j * d := by
  induction l generalizing j with
  | nil => simp at h
  | cons x l ih =>
    cases j with
    | zero => simp [val_cons]; omega
    | succ j =>
      have := ih j (by simpa using h)
      simp only [List.set_cons_succ, val_cons, List.getD_cons_succ, Nat.pow_succ]
      have e1 : 16777216 ^ j * 16777216 * l.getD j 0 = 16777216 * (16777216 ^ j * l.getD j 0) := by rw [Nat.mul_comm (16777216 ^ j) 16777216, Nat.mul_assoc]
      have e2 : 16777216 ^ j * 16777216 * d = 16777216 * (16777216 ^ j * d) := by rw [Nat.mul_comm (16777216 ^ j) 16777216, Nat.mul_assoc]
      rw [e1, e2]; omega
theorem val_zeros (n : Nat) : val (List.replicate n 0) = 0 := by
  induction n with
  | zero => rfl
  | succ n ih => rw [List.replicate_succ, val_cons, ih]
theorem getD_set (l : List Nat) (j d i : Nat) (h : j < l.length) : (l.set j d).getD i 0 = if j = i then d else l.getD i 0 := by
  rw [List.getD_eq_getElem?_getD, List.getElem?_set]
  by_cases e : j = i
  · subst e; simp [h]
  · simp [e]
theorem mul_step {V V' O c t P p R : Nat} (h1 : V + P * c = R) (h2 : V' + P * O = V + P * (t % 16777216)) (ht : t = O + p + c) : V' + P * 16777216 * (t / 16777216) = R + P * p := by
  have e1 : P * t = P * 16777216 * (t / 16777216) + P * (t % 16777216) := by
    conv => lhs; rw [← Nat.div_add_mod t 16777216]
    rw [Nat.mul_add, Nat.mul_assoc]
  have e2 : P * t = P * O + P * p + P * c := by rw [ht, Nat.mul_add, Nat.mul_add]
  omega
/-- the row of a product under way -/
structure MulAt (a b i k c : Nat) (O : List Nat) : Prop where
  len : O.length = dlen a + dlen b
  digs : ∀ d ∈ O, d < 16777216
  sum : val O + 16777216 ^ (i + k) * c = lo a i * b + 16777216 ^ i * ((top a i % 16777216) * lo b k)
  up : ∀ j, i + dlen b ≤ j → O.getD j 0 = 0
theorem MulAt.start (a b : Nat) : MulAt a b 0 0 0 (List.replicate (dlen a + dlen b) 0) :=
  ⟨by simp, by simp, by rw [val_zeros, lo_zero, lo_zero]; simp, fun j _ => by rw [List.getD_eq_getElem?_getD, List.getElem?_replicate]; split <;> rfl⟩
theorem MulAt.step {a b i k c x t : Nat} {O : List Nat} (h : MulAt a b i k c O) (hi : i < dlen a) (hk : k < dlen b) (hx : x = O.getD (i + k) 0) (ht : t = x + (top a i % 16777216) * (top b k % 16777216) + c) :
    MulAt a b i (k + 1) (t / 16777216) (O.set (i + k) (t % 16777216)) := by
  have hl := h.len
  refine ⟨by simp [hl], ?_, ?_, ?_⟩
  · intro d hd
    rcases List.mem_or_eq_of_mem_set hd with h1 | h1
    · exact h.digs d h1
    · omega
  · have h2 := val_set O (i + k) (t % 16777216) (by omega)
    rw [← hx] at h2
    have h3 := mul_step h.sum h2 ht
    rw [show i + (k + 1) = (i + k) + 1 by omega, Nat.pow_succ, h3, lo_succ, Nat.mul_add, Nat.mul_add, Nat.add_assoc, Nat.pow_add, Nat.mul_assoc, Nat.mul_left_comm (top a i % 16777216)]
  · intro j hj
    rw [getD_set _ _ _ _ (by omega), if_neg (by omega)]
    exact h.up j hj
theorem MulAt.next {a b i c : Nat} {O : List Nat} (h : MulAt a b i (dlen b) c O) (hi : i < dlen a) (hc : c < 16777216) : MulAt a b (i + 1) 0 0 (O.set (i + dlen b) c) := by
  have hl := h.len
  refine ⟨by simp [hl], ?_, ?_, ?_⟩
  · intro d hd
    rcases List.mem_or_eq_of_mem_set hd with h1 | h1
    · exact h.digs d h1
    · omega
  · have h2 := val_set O (i + dlen b) c (by omega)
    rw [h.up _ (Nat.le_refl _), Nat.mul_zero, Nat.add_zero, h.sum, lo_all] at h2
    rw [h2, lo_zero, lo_succ, Nat.mul_zero, Nat.mul_zero, Nat.mul_zero, Nat.add_zero, Nat.add_zero, Nat.add_mul, Nat.mul_assoc]
  · intro j hj
    rw [getD_set _ _ _ _ (by omega), if_neg (by omega)]
    exact h.up j (by omega)
theorem MulAt.done {a b : Nat} {O : List Nat} (h : MulAt a b (dlen a) 0 0 O) : ∃ z, O = dig (a * b) ++ List.replicate z 0 := by
  have hs := h.sum
  rw [lo_zero, lo_all, Nat.mul_zero, Nat.mul_zero, Nat.mul_zero, Nat.add_zero, Nat.add_zero] at hs
  have hv := val_low O h.digs
  have hlt := val_lt O h.digs
  rw [hs] at hv hlt
  exact ⟨_, by rw [← low_ge (dlen_le_of_lt hlt), hv]⟩

end Go.Proofs.YtheliihkkoohnaaGreat

namespace Go.Proofs.YtheliihkkoohnaaGreat
set_option maxRecDepth 100000
open Go.ChangeShapes Go.WideShapes Go.ChangeAt Go.RowKit
set_option linter.unusedVariables false

theorem Row.alloc {w : World} {v : Value} {l : List Nat} (h : Row w v l) (o : Obj) : Row (w.alloc o) v l := h.below (bmore (Below.refl _ _) _)
theorem dlen_small {n : Nat} (h : n < 22300745198530623141535718272648361505980416) : dlen n ≤ 6 := dlen_le_of_lt (by rw [show (16777216 : Nat) ^ 6 = 22300745198530623141535718272648361505980416 by decide]; exact h)

/-- a one-digit row laid out -/
theorem rof_any {n h l : Nat} (hn : Tw n h l) (w : World) :
    Calls Tryz.prog 41 #[.agg #[.int .u64 h, .int .u64 l]] w fun e w' => ∃ v, e = .returned v ∧ Row w' v (dig n) ∧ Below w.heap.size w w' := by
  refine cps fun Q hQ => ?_
  obtain ⟨en, hh, hl⟩ := hn
  have d1 : dlen h ≤ 1099511627776 := Nat.le_trans (dlen_small (by omega)) (by decide)
  have d2 : dlen (h * 2 ^ 64 + l) ≤ 1099511627776 := Nat.le_trans (dlen_small (by omega)) (by decide)
  have en2 : n = h * 2 ^ 64 + l := by omega
  have HN : Hid (n = h * 2 ^ 64 + l) := en2
  rw [en2] at hQ
  clear en en2
  have k1 := of_any h (by omega)
  have k2 := of_any l (by omega)
  have k3 := fun v w hr => nshl_any v h 64 (by decide) d1 w hr
  have k4 := fun va vb w ha hb => nadd_any va vb (h * 2 ^ 64) l d2 w ha hb
  generalize h * 2 ^ 64 = hs at *
  clear d1 d2
  go_enter Tryz.func41, Tryz.ntmps41
  go_wp2_with (first
    | (go_at_call_of 75 h; refine (k1 _).mono ?_; rintro e w1 ⟨v1, rfl, hr1, hb1⟩)
    | (go_at_call 74; refine (k3 _ _ hr1).mono ?_; rintro e w2 ⟨v2, rfl, hr2, hb2⟩; have hb12 := bthen hb1 hb2; obtain ⟨hc, hf⟩ := bcell hb12; have hz : w.heap.size < w2.heap.size := by have := hb12.size; simp at this; omega)
    | (go_at_call_of 75 l; refine (k2 _).mono ?_; rintro e w3 ⟨v3, rfl, hr3, hb3⟩)
    | (go_at_call 76; refine (k4 _ _ _ (hr2.below hb3) hr3).mono ?_; rintro e w4 ⟨v4, rfl, hr4, hb4⟩))
  exact hQ.out _ _ ⟨_, rfl, hr4, bthen (bthen (bthen (bmore (Below.refl _ _) _) hb12) hb3) hb4⟩

end Go.Proofs.YtheliihkkoohnaaGreat

namespace Go.Proofs.YtheliihkkoohnaaGreat
set_option maxRecDepth 100000
open Go.ChangeShapes Go.WideShapes Go.ChangeAt Go.RowKit
set_option linter.unusedVariables false

/-! ### shifts -/
end Go.Proofs.YtheliihkkoohnaaGreat

namespace Go.Proofs.YtheliihkkoohnaaGreat
set_option maxRecDepth 100000
open Go.ChangeShapes Go.WideShapes Go.ChangeAt Go.RowKit
set_option linter.unusedVariables false

theorem tnorm_zero (w : World) :
    Calls Tryz.prog 90 #[.agg #[.int .u64 0, .int .u64 0]] w fun e w' => e = .returned (.tuple #[.agg #[.int .u64 0, .int .u64 0], .int .i64 0]) ∧ Below w.heap.size w w' := by
  refine cps fun Q hQ => ?_
  go_enter Tryz.func90, Tryz.ntmps90
  go_wp2
  refine bodyPost_ret (v := .tuple #[.agg #[.int .u64 0, .int .u64 0], .int .i64 0]) (by simp [results, Tryz.results90, go_sem]) rfl (hQ.out _ _ ⟨rfl, ?_⟩)
  exact bmore (bmore (Below.refl _ _) _) _
set_option maxHeartbeats 1000000 in
theorem tnorm_any {a h1 l1 h l k : Nat} (ha : Tw a h1 l1) (h0 : a ≠ 0) (hk : k + blen a = 128) (hs : Tw ((a * 2 ^ k) % 340282366920938463463374607431768211456) h l) (w : World) :
    Calls Tryz.prog 90 #[.agg #[.int .u64 h1, .int .u64 l1]] w fun e w' => e = .returned (.tuple #[.agg #[.int .u64 h, .int .u64 l], .int .i64 k]) ∧ Below w.heap.size w w' := by
  refine cps fun Q hQ => ?_
  have k1 := fun w => tlen_any ha w
  have k2 := fun w => up_any k (by omega) ha hs w
  have hne : (¬ (h1 : Int) = 0) ∨ (h1 = 0 ∧ ¬ (l1 : Int) = 0) := by have := ha.eq; omega
  clear ha hs h0
  generalize blen a = L at *
  have hkk : (128 : Int) - L = k := by omega
  have hL : L ≤ 128 := by omega
  clear hk
  rcases hne with hne | ⟨rfl, hne⟩
  all_goals
    go_enter Tryz.func90, Tryz.ntmps90
    go_wp2_with (first
      | (go_at_call 121; refine (k1 _).mono ?_; rintro e w1 ⟨rfl, hb1⟩; obtain ⟨hc1, hf1⟩ := bcell hb1)
      | (go_at_call 119; refine (k2 _).mono ?_; rintro e w2 ⟨rfl, hb2⟩; have hb12 := bthen hb1 hb2; obtain ⟨hc2, hf2⟩ := bcell hb12))
    refine bodyPost_ret (v := .tuple #[.agg #[.int .u64 h, .int .u64 l], .int .i64 k]) (by simp [results, Tryz.results90, go_sem, hc2]) rfl (hQ.out _ _ ⟨rfl, ?_⟩)
    exact bset (bset (bthen (bmore (bmore (Below.refl _ _) _) _) hb12) (by omega) _ _) (by omega) _ _
end Go.Proofs.YtheliihkkoohnaaGreat

namespace Go.Proofs.YtheliihkkoohnaaGreat
open Go.ChangeShapes Go.WideShapes Go.ChangeAt Go.RowKit
set_option linter.unusedVariables false
set_option linter.unusedSimpArgs false
set_option maxRecDepth 100000

/-! ### sound, row, compare, tail -/
def soundF (k : Int) (neg : Bool) (s : Int) (hi lo : Nat) (rest : Bool) (far : Int) : Bool :=
  if k = 0 ∨ k = 2 then decide (neg = false ∧ s = 0 ∧ hi = 0 ∧ lo = 0 ∧ rest = false) else decide (k = 1 ∧ 9223372036854775808 ≤ hi ∧ -far ≤ s ∧ s ≤ far)
theorem soundF_X (k : Int) (neg : Bool) (s : Int) (hi lo : Nat) (rest : Bool) : soundF k neg s hi lo rest 1099511627776 = soundX k neg s hi lo rest := rfl
theorem soundF_N (k : Int) (neg : Bool) (s : Int) (f : Nat) : soundF k neg s f 0 false 1073741824 = soundN k neg s f := by unfold soundF soundN; simp
set_option maxHeartbeats 1000000 in
theorem rsound_any (k : Int) (neg : Bool) (s : Int) (hi lo : Nat) (rest : Bool) (far : Int) (hh : hi < 2 ^ 64) (hf : 0 ≤ far ∧ far ≤ 1099511627776) (w : World) :
    Calls Tryz.prog 34 #[exV k neg s hi lo rest, .int .i64 far] w fun e w' => e = .returned (.bool (soundF k neg s hi lo rest far)) ∧ Below w.heap.size w w' := by
  have hsh : ((hi : Int) / 9223372036854775808 == 1) = decide (9223372036854775808 ≤ hi) := by
    by_cases h : 9223372036854775808 ≤ hi
    · rw [decide_eq_true h]; exact beq_iff_eq.2 (by omega)
    · rw [decide_eq_false h]; exact beq_eq_false_iff_ne.2 (by omega)
  have hwr : IntKind.i64.wrap (-far) = -far := wrapI (by omega)
  clear hf
  unfold exV soundF
  refine cps fun Q hQ => ?_
  by_cases h0 : k = 0
  · subst h0
    go_enter Tryz.func34, Tryz.ntmps34
    go_wp2
    all_goals exact hQ.out _ _ ⟨ret_b (by simp_all), cmore (Below.refl _ _) _⟩
  · by_cases h2 : k = 2
    · subst h2
      go_enter Tryz.func34, Tryz.ntmps34
      go_wp2
      all_goals exact hQ.out _ _ ⟨ret_b (by simp_all), cmore (Below.refl _ _) _⟩
    · by_cases h1 : k = 1
      · subst h1
        go_enter Tryz.func34, Tryz.ntmps34
        go_wp2
        all_goals exact hQ.out _ _ ⟨ret_b (by simp_all <;> omega), cmore (Below.refl _ _) _⟩
      · have d0 : (k == 0) = false := beq_eq_false_iff_ne.2 h0
        have d1 : (k == 1) = false := beq_eq_false_iff_ne.2 h1
        have d2 : (k == 2) = false := beq_eq_false_iff_ne.2 h2
        have HN : Hid (¬ k = 0 ∧ ¬ k = 1 ∧ ¬ k = 2) := ⟨h0, h1, h2⟩
        clear h0 h1 h2
        go_enter Tryz.func34, Tryz.ntmps34
        go_wp2
        all_goals exact hQ.out _ _ ⟨ret_b (by have := HN.out; simp_all), cmore (Below.refl _ _) _⟩
set_option maxHeartbeats 1000000 in
theorem rrow_any (k : Int) (h1 : -200 ≤ k) (h2 : k ≤ 61) (w : World) :
    Calls Tryz.prog 102 #[.int .i64 k] w fun e w' => e = .returned (.tuple #[.int .u64 (numOf (headK k) : Nat), .int .i64 ((headK k).length : Nat)]) ∧ w' = w := by
  obtain ⟨a, b⟩ := headK_num k
  rw [a, b]
  clear a b
  refine cps fun Q hQ => ?_
  by_cases h : 0 ≤ k
  · rw [if_pos h, if_pos h] at hQ
    obtain ⟨d, rfl⟩ := Int.eq_ofNat_of_zero_le h
    rw [Int.toNat_natCast] at hQ
    obtain ⟨D, hD⟩ : ∃ D, D = d + 2 := ⟨_, rfl⟩
    rw [← hD] at hQ
    have e1 : IntKind.i64.wrap ((d : Int) + 2) = (D : Int) := by rw [wrapI (by omega)]; omega
    have e2 : IntKind.u64.wrap (IntKind.u64.wrap (2 ^ D) - 2) = ((2 ^ D - 2 : Nat) : Int) := by
      have c : ((2 : Int) ^ D) = ((2 ^ D : Nat) : Int) := by simp
      have p1 : 2 ^ D ≤ 2 ^ 63 := Nat.pow_le_pow_right (by decide) (by omega)
      have p2 : 2 ^ 2 ≤ 2 ^ D := Nat.pow_le_pow_right (by decide) (by omega)
      rw [c, wrapN, Nat.mod_eq_of_lt (by omega), IntKind.wrap_u64]
      generalize 2 ^ D = X at *
      omega
    have e3 : IntKind.u64.wrap (IntKind.u64.wrap (1 * 2 ^ D) - 2) = ((2 ^ D - 2 : Nat) : Int) := by rw [Int.one_mul]; exact e2
    generalize 2 ^ D - 2 = X at *
    have g2 : (0 : Int) ≤ (D : Int) := by omega
    have g3 : decide ((0 : Int) ≤ (d : Int)) = true := decide_eq_true (by omega)
    have gm : min D 64 = D := by omega
    clear hD h1 h2 h
    go_enter Tryz.func102, Tryz.ntmps102
    go_wp2
    exact hQ.out _ _ ⟨rfl, rfl⟩
  · rw [if_neg h, if_neg h] at hQ
    have e1 : IntKind.i64.wrap (1 - k) = (((1 - k).toNat : Nat) : Int) := by rw [wrapI (by omega)]; omega
    generalize (1 - k).toNat = X at *
    have g : decide (0 ≤ k) = false := decide_eq_false h
    go_enter Tryz.func102, Tryz.ntmps102
    go_wp2
    exact hQ.out _ _ ⟨rfl, rfl⟩
theorem rcompare_any {a h l : Nat} (rest : Bool) (ha : Tw a h l) (w : World) :
    Calls Tryz.prog 104 #[.agg #[.int .u64 h, .int .u64 l], .bool rest] w fun e w' => e = .returned (.int .i64 (cmpX a rest : Nat)) ∧ Below w.heap.size w w' := by
  have k1 := tcmp_any ha (b := 2 ^ 127) (h2 := 9223372036854775808) (l2 := 0) ⟨by decide, by decide, by decide⟩
  refine cps fun Q hQ => ?_
  unfold cmpX at hQ
  rcases Nat.lt_trichotomy a (2 ^ 127) with hc | hc | hc
  · rw [cmpN_lt hc] at k1
    rw [if_neg (by omega), if_neg (by omega)] at hQ
    by_cases h0 : a = 0
    · have hz : h = 0 ∧ l = 0 := by have := ha.eq; omega
      obtain ⟨rfl, rfl⟩ := hz
      subst h0
      clear ha hc
      cases rest
      all_goals
        go_enter Tryz.func104, Tryz.ntmps104
        go_wp2_with (go_at_call 98; refine (k1 _).mono ?_; rintro e w1 ⟨rfl, hb1⟩; obtain ⟨hc1, hf1⟩ := bcell hb1; have z1 : w.heap.size < w1.heap.size := (by have := hb1.size; simp at this; omega))
        exact hQ.out _ _ ⟨rfl, cthen (cmore (Below.refl _ _) _) hb1⟩
    · rw [if_neg (fun c => h0 c.1)] at hQ
      have hz : (¬ h = 0) ∨ (h = 0 ∧ ¬ l = 0) := by have := ha.eq; omega
      clear ha hc h0
      rcases hz with hz | ⟨rfl, hz⟩
      · have d1 : ((h : Int) == 0) = false := beq_eq_false_iff_ne.2 (by omega)
        clear hz
        go_enter Tryz.func104, Tryz.ntmps104
        go_wp2_with (go_at_call 98; refine (k1 _).mono ?_; rintro e w1 ⟨rfl, hb1⟩; obtain ⟨hc1, hf1⟩ := bcell hb1; have z1 : w.heap.size < w1.heap.size := (by have := hb1.size; simp at this; omega))
        exact hQ.out _ _ ⟨rfl, cthen (cmore (Below.refl _ _) _) hb1⟩
      · have d1 : ((l : Int) == 0) = false := beq_eq_false_iff_ne.2 (by omega)
        clear hz
        go_enter Tryz.func104, Tryz.ntmps104
        go_wp2_with (go_at_call 98; refine (k1 _).mono ?_; rintro e w1 ⟨rfl, hb1⟩; obtain ⟨hc1, hf1⟩ := bcell hb1; have z1 : w.heap.size < w1.heap.size := (by have := hb1.size; simp at this; omega))
        exact hQ.out _ _ ⟨rfl, cthen (cmore (Below.refl _ _) _) hb1⟩
  · subst hc
    rw [cmpN_eq] at k1
    rw [if_pos rfl] at hQ
    clear ha
    cases rest
    all_goals
      go_enter Tryz.func104, Tryz.ntmps104
      go_wp2_with (go_at_call 98; refine (k1 _).mono ?_; rintro e w1 ⟨rfl, hb1⟩)
      exact hQ.out _ _ ⟨rfl, cthen (cmore (Below.refl _ _) _) hb1⟩
  · rw [cmpN_gt hc] at k1
    rw [if_neg (by omega), if_pos hc] at hQ
    clear ha hc
    go_enter Tryz.func104, Tryz.ntmps104
    go_wp2_with (go_at_call 98; refine (k1 _).mono ?_; rintro e w1 ⟨rfl, hb1⟩)
    exact hQ.out _ _ ⟨rfl, cthen (cmore (Below.refl _ _) _) hb1⟩
end Go.Proofs.YtheliihkkoohnaaGreat

namespace Go.Proofs.YtheliihkkoohnaaGreat
open Go.ChangeShapes Go.WideShapes Go.ChangeAt Go.RowKit
set_option linter.unusedVariables false
set_option linter.unusedSimpArgs false
set_option maxRecDepth 100000

/-! ### what stands behind the run -/
theorem top_off (hi : Nat) (h1 : 9223372036854775808 ≤ hi) (h2 : hi < 18446744073709551616) : bits BinOp.andNot IntKind.u64 (hi : Int) 9223372036854775808 = ((hi - 9223372036854775808 : Nat) : Int) := by
  have := u64_andNot_nat hi 9223372036854775808 h2 (by decide)
  rw [show ((9223372036854775808 : Nat) : Int) = 9223372036854775808 from rfl] at this
  rw [this, show 18446744073709551615 - 9223372036854775808 = 2 ^ 63 - 1 by decide, Nat.and_two_pow_sub_one_eq_mod]
  have e : hi % 2 ^ 63 = hi - 9223372036854775808 := by omega
  rw [e]
theorem exp_or (h1 e : Nat) (h : h1 < 4611686018427387904) (he : e < 4) : bits BinOp.or IntKind.u64 (h1 : Int) (IntKind.u64.wrap ((e : Int) * 4611686018427387904)) = ((e * 4611686018427387904 + h1 : Nat) : Int) := by
  have e1 : IntKind.u64.wrap ((e : Int) * 4611686018427387904) = ((e * 4611686018427387904 : Nat) : Int) := by rw [IntKind.wrap_u64]; omega
  rw [e1, u64_or_nat h1 (e * 4611686018427387904) (by omega) (by omega)]
  congr 1
  have := Nat.two_pow_add_eq_or_of_lt (i := 62) (b := h1) h e
  rw [show 2 ^ 62 * e = e * 4611686018427387904 by rw [Nat.mul_comm]] at this
  rw [this, Nat.or_comm]
/-- an operation that its guard leaves out, carried to the front -/
theorem wpC_skip {P : Program} {ops : Array Oper} {Q : Exit → Act → World → Prop} {md : Region.Mode} {C : World → Prop} (i : Nat) {oi : Oper} {fuel : Nat} {listed : Array Bool} {a : Act} {w : World} (hi : ops[i]? = some oi)
    (hf : (Region.noSelect ops && Region.free md ops listed i && (Region.ready md ops listed).contains i) = true)
    (hQ : ∀ c a w, Q (.panic c) (a.put oi.dst undef) w → Q (.panic c) a w) (hwant : Region.wanted oi (yielded ops a.tmps) = false)
    (h : wpAnyC C P md ops Q fuel (listed.setIfInBounds i true) (a.put oi.dst undef) w) : wpAnyC C P md ops Q (fuel + 1) listed a w := by
  simp only [Bool.and_eq_true] at hf
  exact wpC_first hi (Region.noSelect_spec hf.1.1) hQ fuel listed a w (Region.free_spec hi hf.1.2) (by simpa using hf.2) (.inr ⟨hwant, rfl⟩) h
set_option maxHeartbeats 1000000 in
theorem rtail_any (e : Nat) (he : e < 4) (k : Int) (neg : Bool) (s : Int) (hi lo : Nat) (rest : Bool) (h : WordsX hi lo) {th tl : Nat} (ht : Tw (e * 2 ^ 126 + (manX hi lo - 2 ^ 127) / 2) th tl) (w : World) :
    Calls Tryz.prog 103 #[.int .i64 e, exV k neg s hi lo rest] w fun r w' => r = .returned (.tuple #[.agg #[.int .u64 th, .int .u64 tl], .bool (decide (lo % 2 = 1) || rest)]) ∧ Below w.heap.size w w' := by
  obtain ⟨a1, a2, a3⟩ := h
  have hA : Tw (manX hi lo - 2 ^ 127) (hi - 9223372036854775808) lo := by
    unfold manX
    rw [show (2 : Nat) ^ 127 = 9223372036854775808 * 18446744073709551616 by decide]
    exact ⟨by omega, by omega, by omega⟩
  obtain ⟨h1, l1, hs⟩ : ∃ h1 l1, Tw ((manX hi lo - 2 ^ 127) / 2 ^ 1) h1 l1 := by
    have := hA.lt
    exact ⟨(manX hi lo - 2 ^ 127) / 2 ^ 1 / 18446744073709551616, (manX hi lo - 2 ^ 127) / 2 ^ 1 % 18446744073709551616, by omega, by omega, by omega⟩
  have hh1 : h1 < 4611686018427387904 := by
    have e1 := hs.eq
    have e2 := hA.eq
    have e3 := hs.lo
    rw [e2] at e1
    clear ht hs hA
    omega
  have hlost : decide (lo % 2 = 1) = decide ((manX hi lo - 2 ^ 127) % 2 ^ 1 ≠ 0) := by
    rw [hA.eq]
    have : ((hi - 9223372036854775808) * 18446744073709551616 + lo) % 2 ^ 1 = lo % 2 := by omega
    rw [this]
    rcases Nat.mod_two_eq_zero_or_one lo with c | c <;> simp [c]
  obtain ⟨hth, rfl⟩ := ht.one (show Tw (e * 2 ^ 126 + (manX hi lo - 2 ^ 127) / 2) (e * 4611686018427387904 + h1) l1 from ⟨by
    have e1 := hs.eq
    rw [Nat.pow_one] at e1
    rw [e1, show (2 : Nat) ^ 126 = 4611686018427387904 * 18446744073709551616 by decide]
    omega, by omega, hs.lo⟩)
  have k1 := fun w => tshr_any 1 (by decide) hA hs hlost w
  have f1 := top_off hi a1 a2
  have f2 := exp_or h1 e hh1 he
  have f3 : IntKind.u64.wrap (e : Int) = (e : Int) := by rw [IntKind.wrap_u64]; omega
  have f4 : bits BinOp.or IntKind.u64 (h1 : Int) (IntKind.u64.wrap (IntKind.u64.wrap (e : Int) * 4611686018427387904)) = ((e * 4611686018427387904 + h1 : Nat) : Int) := by rw [f3]; exact f2
  have f5 : bits BinOp.or IntKind.u64 (h1 : Int) ((e : Int) * 4611686018427387904) = ((e * 4611686018427387904 + h1 : Nat) : Int) := by
    rw [← f2]; congr 1; rw [IntKind.wrap_u64]; omega
  rw [← hth] at f2 f4 f5
  obtain ⟨hi', hhi⟩ : ∃ x, x = hi - 9223372036854775808 := ⟨_, rfl⟩
  rw [← hhi] at f1 k1
  clear hA hs hlost ht a1 a2 a3 hh1 hth hhi
  generalize decide (lo % 2 = 1) = lost at *
  unfold exV
  refine cps fun Q hQ => ?_
  cases lost
  · go_enter Tryz.func103, Tryz.ntmps103
    go_wp2_with (go_at_call 88; refine (k1 _).mono ?_; rintro e w1 ⟨rfl, hb1⟩; obtain ⟨hc1, hf1⟩ := bcell hb1; have z1 : w.heap.size + 1 < w1.heap.size := (by have := hb1.size; simp at this; omega); have z0 : w.heap.size < w1.heap.size := (by omega))
    refine wpC_region (fun W => W.cell? ⟨w.heap.size, 5, none⟩ = some (.bool rest) ∧ W.cell? ⟨w1.heap.size, 0, none⟩ = some (.int .u64 th) ∧ W.cell? ⟨w1.heap.size, 1, none⟩ = some (.int .u64 tl)) (by kernel_rfl) ?_
    refine wpC_take 0 (v := ?_) rfl (by kernel_rfl) (fun _ _ _ h => h) (by kernel_rfl) ?_ ?_; rotate_left; · (intro wC hC; obtain ⟨c1, c2, c3⟩ := hC; go_simp <;> with_reducible rfl)
    refine wpC_take 1 (v := ?_) rfl (by kernel_rfl) (fun _ _ _ h => h) (by kernel_rfl) ?_ ?_; rotate_left; · (intro wC hC; obtain ⟨c1, c2, c3⟩ := hC; go_simp <;> with_reducible rfl)
    refine wpC_take 2 (v := ?_) rfl (by kernel_rfl) (fun _ _ _ h => h) (by kernel_rfl) ?_ ?_; rotate_left; · (intro wC hC; obtain ⟨c1, c2, c3⟩ := hC; go_simp <;> with_reducible rfl)
    refine wpC_take 3 (v := ?_) rfl (by kernel_rfl) (fun _ _ _ h => h) (by kernel_rfl) ?_ ?_; rotate_left; · (intro wC hC; obtain ⟨c1, c2, c3⟩ := hC; go_simp <;> with_reducible rfl)
    refine wpC_take 4 (v := ?_) rfl (by kernel_rfl) (fun _ _ _ h => h) (by kernel_rfl) ?_ ?_; rotate_left; · (intro wC hC; obtain ⟨c1, c2, c3⟩ := hC; go_simp <;> with_reducible rfl)
    refine wpC_take 5 (v := ?_) rfl (by kernel_rfl) (fun _ _ _ h => h) (by kernel_rfl) ?_ ?_; rotate_left; · (intro wC hC; obtain ⟨c1, c2, c3⟩ := hC; go_simp <;> with_reducible rfl)
    refine wpC_step 6 rfl (by kernel_rfl) (by kernel_rfl) (by simp [go_sem, hc1, z0, f5]) (fun K hK => ?_)
    go_simp
    try (refine hK _ _ ?_; clear hK K)
    refine wpC_take 7 (v := ?_) rfl (by kernel_rfl) (fun _ _ _ h => h) (by kernel_rfl) ?_ ?_; rotate_left; · (intro wC hC; obtain ⟨c1, c2, c3⟩ := hC; go_simp <;> with_reducible rfl)
    refine wpC_done (by kernel_rfl) (by simp [go_sem, hc1, z0, f5]) ?_
    go_wp2
    refine bodyPost_ret (v := .tuple #[.agg #[.int .u64 th, .int .u64 tl], .bool _]) (by simp [results, Tryz.results103, go_sem, hc1, z0, z1]) rfl (hQ.out _ _ ⟨rfl, ?_⟩)
    exact bdrew (bmore (bset (bset (bthen (bmore (bmore (Below.refl _ _) _) _) hb1) (by omega) _ _) (by omega) _ _) _)
  · go_enter Tryz.func103, Tryz.ntmps103
    go_wp2_with (go_at_call 88; refine (k1 _).mono ?_; rintro e w1 ⟨rfl, hb1⟩; obtain ⟨hc1, hf1⟩ := bcell hb1; have z1 : w.heap.size + 1 < w1.heap.size := (by have := hb1.size; simp at this; omega); have z0 : w.heap.size < w1.heap.size := (by omega))
    refine wpC_region (fun W => W.cell? ⟨w.heap.size, 5, none⟩ = some (.bool rest) ∧ W.cell? ⟨w1.heap.size, 0, none⟩ = some (.int .u64 th) ∧ W.cell? ⟨w1.heap.size, 1, none⟩ = some (.int .u64 tl)) (by kernel_rfl) ?_
    refine wpC_take 0 (v := ?_) rfl (by kernel_rfl) (fun _ _ _ h => h) (by kernel_rfl) ?_ ?_; rotate_left; · (intro wC hC; obtain ⟨c1, c2, c3⟩ := hC; go_simp <;> with_reducible rfl)
    refine wpC_take 1 (v := ?_) rfl (by kernel_rfl) (fun _ _ _ h => h) (by kernel_rfl) ?_ ?_; rotate_left; · (intro wC hC; obtain ⟨c1, c2, c3⟩ := hC; go_simp <;> with_reducible rfl)
    refine wpC_take 2 (v := ?_) rfl (by kernel_rfl) (fun _ _ _ h => h) (by kernel_rfl) ?_ ?_; rotate_left; · (intro wC hC; obtain ⟨c1, c2, c3⟩ := hC; go_simp <;> with_reducible rfl)
    refine wpC_skip 3 rfl (by kernel_rfl) (fun _ _ _ h => h) (by kernel_rfl) ?_
    refine wpC_skip 4 rfl (by kernel_rfl) (fun _ _ _ h => h) (by kernel_rfl) ?_
    refine wpC_take 5 (v := ?_) rfl (by kernel_rfl) (fun _ _ _ h => h) (by kernel_rfl) ?_ ?_; rotate_left; · (intro wC hC; obtain ⟨c1, c2, c3⟩ := hC; go_simp <;> with_reducible rfl)
    refine wpC_step 6 rfl (by kernel_rfl) (by kernel_rfl) (by simp [go_sem, hc1, z0, f5]) (fun K hK => ?_)
    go_simp
    try (refine hK _ _ ?_; clear hK K)
    refine wpC_take 7 (v := ?_) rfl (by kernel_rfl) (fun _ _ _ h => h) (by kernel_rfl) ?_ ?_; rotate_left; · (intro wC hC; obtain ⟨c1, c2, c3⟩ := hC; go_simp <;> with_reducible rfl)
    refine wpC_done (by kernel_rfl) (by simp [go_sem, hc1, z0, f5]) ?_
    go_wp2
    refine bodyPost_ret (v := .tuple #[.agg #[.int .u64 th, .int .u64 tl], .bool _]) (by simp [results, Tryz.results103, go_sem, hc1, z0, z1]) rfl (hQ.out _ _ ⟨rfl, ?_⟩)
    exact bdrew (bmore (bset (bset (bthen (bmore (bmore (Below.refl _ _) _) _) hb1) (by omega) _ _) (by omega) _ _) _)
end Go.Proofs.YtheliihkkoohnaaGreat

namespace Go.Proofs.YtheliihkkoohnaaGreat
open Go.ChangeShapes Go.WideShapes Go.ChangeAt Go.RowKit
set_option linter.unusedVariables false
set_option linter.unusedSimpArgs false
set_option maxRecDepth 100000

/-! ### the string, cut -/
theorem pow_join (R room n : Nat) (h : room ≤ 62) : R * 2 ^ room < 2 ^ 64 → IntKind.u64.wrap ((R : Int) * 2 ^ room) = ((R * 2 ^ room : Nat) : Int) := by
  intro h2
  have e : ((R : Int) * 2 ^ room) = ((R * 2 ^ room : Nat) : Int) := by simp
  rw [e, wrapN, Nat.mod_eq_of_lt h2]
theorem tail_half (s : Int) (M : Nat) (h : Mant M) : tailN s M / 2 < 340282366920938463463374607431768211456 := by
  have := tail_lt s M h
  rw [show (2 : Nat) ^ 129 = 340282366920938463463374607431768211456 * 2 by decide] at this
  exact Nat.div_lt_of_lt_mul (by rw [Nat.mul_comm]; exact this)
theorem half_pow (x y : Nat) : (x * (2 ^ 127) + y) / 2 = x * 2 ^ 126 + y / 2 := by
  rw [show (2 : Nat) ^ 127 = 2 * 2 ^ 126 by decide, show x * (2 * 2 ^ 126) = 2 * (x * 2 ^ 126) by rw [Nat.mul_left_comm], Nat.mul_add_div (by decide)]
theorem tw_of {x : Nat} (h : x < 340282366920938463463374607431768211456) : ∃ a b, Tw x a b := ⟨x / 18446744073709551616, x % 18446744073709551616, by omega, by omega, by omega⟩
set_option maxHeartbeats 2000000 in
theorem rcutstr_any (n : Nat) (neg : Bool) (s : Int) (hi lo : Nat) (rest : Bool) (hn : Wd n) (h : WordsX hi lo) (h1 : s < 4 * n - 8) (h2 : 8 - 4 * (n : Int) ≤ s) (w : World) :
    Calls Tryz.prog 69 #[.int .i64 n, exV 1 neg s hi lo rest] w fun e w' => e = .returned (.tuple #[.int .u64 (numOf ((strX s hi lo).take (n - 1)) : Nat), .int .i64 (leftL ((strX s hi lo).drop (n - 1)) rest : Nat)]) ∧ Below w.heap.size w w' := by
  have hw := wd_le hn
  obtain ⟨hr1, hr2⟩ := head_room n s hn h1 h2
  obtain ⟨room, hroom⟩ : ∃ r, r = n - 1 - (headK (s / 4)).length := ⟨_, rfl⟩
  obtain ⟨B, hB⟩ : ∃ B, B = tailN s (manX hi lo) / 2 := ⟨_, rfl⟩
  obtain ⟨c1, c2, c3⟩ := cut_parts n s hi lo rest h hr1 hw.2 B room hB hroom
  have hrl := numOf_lt (headK (s / 4))
  have hBe : B = (s % 4).toNat * 2 ^ 126 + (manX hi lo - 2 ^ 127) / 2 := by
    rw [hB]; unfold tailN
    exact half_pow _ _
  have hBl : B < 340282366920938463463374607431768211456 := hB ▸ tail_half s (manX hi lo) h.mant
  obtain ⟨bh, bl, hTB⟩ : ∃ bh bl, Tw B bh bl := tw_of hBl
  have k2 := fun w => rtail_any (s % 4).toNat (by omega) 1 neg s hi lo rest h (hBe ▸ hTB) w
  have k1 := rrow_any (s / 4) (by omega) (by omega)
  obtain ⟨F, hF⟩ : ∃ F, F = B / 2 ^ (128 - room) := ⟨_, rfl⟩
  rw [← hF] at c1 c2
  have hr62 : room ≤ 62 := by omega
  have hF62 : F < 4611686018427387904 := Nat.lt_of_lt_of_le c2 (Nat.le_trans (Nat.pow_le_pow_right (by decide) hr62) (by decide))
  have hTF : Tw (B / 2 ^ (128 - room)) 0 F := ⟨by rw [← hF]; omega, by omega, by omega⟩
  have k3 := fun w => tshr_any (c := decide (B % 2 ^ (128 - room) ≠ 0)) (128 - room) (by omega) hTB hTF rfl w
  obtain ⟨L, hL⟩ : ∃ L, L = B * 2 ^ room % 2 ^ 128 := ⟨_, rfl⟩
  rw [← hL] at c3
  have hLl : L < 340282366920938463463374607431768211456 := by rw [hL]; exact Nat.mod_lt _ (by decide)
  obtain ⟨lh, ll, hTL⟩ : ∃ lh ll, Tw L lh ll := tw_of hLl
  have k4 := fun w => tshl_any (c := decide (340282366920938463463374607431768211456 ≤ B * 2 ^ room)) room (by omega) hTB (hL ▸ hTL) rfl w
  have k5 := rcompare_any (decide (lo % 2 = 1) || rest) hTL
  rw [← c3] at k5
  have hrun : numOf (headK (s / 4)) * 2 ^ room + 2 ^ room ≤ 2 ^ 63 := by
    rw [← Nat.succ_mul]
    refine Nat.le_trans (Nat.mul_le_mul_right _ hrl) ?_
    rw [← Nat.pow_add]
    exact Nat.pow_le_pow_right (by decide) (by omega)
  have w1 := pow_join (numOf (headK (s / 4))) room n hr62 (by omega)
  have w2 := u64_or_nat (numOf (headK (s / 4)) * 2 ^ room) F (by omega) (by omega)
  have w3 : (numOf (headK (s / 4)) * 2 ^ room) ||| F = numOf (headK (s / 4)) * 2 ^ room + F := by
    have := Nat.two_pow_add_eq_or_of_lt (i := room) (b := F) c2 (numOf (headK (s / 4)))
    rw [Nat.mul_comm (2 ^ room)] at this
    exact this.symm
  rw [w3, ← c1] at w2
  have e1 : IntKind.i64.wrap (s / 4 * 4) = s / 4 * 4 := wrapI (by omega)
  have e2 : IntKind.i64.wrap (s - s / 4 * 4) = (((s % 4).toNat : Nat) : Int) := by rw [wrapI (by omega)]; omega
  have e3 : IntKind.i64.wrap ((n : Int) - 1) = (n : Int) - 1 := wrapI (by omega)
  have e4 : IntKind.i64.wrap ((n : Int) - 1 - ((headK (s / 4)).length : Nat)) = (room : Int) := by rw [wrapI (by omega)]; omega
  have e5 : IntKind.i64.wrap (128 - (room : Int)) = ((128 - room : Nat) : Int) := by rw [wrapI (by omega)]; omega
  have g0 : (0 : Int) ≤ (room : Int) := by omega
  have gm : min room 64 = room := by omega
  clear hF hL hB hBe hBl hTB hTF hTL hLl hrun w3 hrl c1 c2 c3 hr1 hr2 hroom h1 h2 h hn
  generalize numOf (headK (s / 4)) * 2 ^ room = RR at *
  generalize numOf (headK (s / 4)) = R at *
  generalize (headK (s / 4)).length = size at *
  generalize leftL ((strX s hi lo).drop (n - 1)) rest = LF at *
  generalize numOf ((strX s hi lo).take (n - 1)) = P at *
  generalize decide (B % 2 ^ (128 - room) ≠ 0) = q1 at *
  generalize decide (340282366920938463463374607431768211456 ≤ B * 2 ^ room) = q2 at *
  generalize (decide (lo % 2 = 1) || rest) = rr at *
  generalize (s % 4).toNat = ee at *
  generalize 128 - room = j at *
  unfold exV at *
  refine cps fun Q hQ => ?_
  go_enter Tryz.func69, Tryz.ntmps69
  go_wp2_with (first
    | (go_at_call 102; refine (k1 _).mono ?_; rintro e wx ⟨rfl, hwx⟩; rw [hwx]; clear hwx wx)
    | (go_at_call 103; refine (k2 _).mono ?_; rintro e w1 ⟨rfl, hb1⟩; have z1 : w.heap.size < w1.heap.size := (by have := hb1.size; simp at this; omega); have HB1 : Hid (Below _ _ _) := cthen (cmore (Below.refl _ _) _) hb1; clear hb1)
    | (go_at_call 88; refine (k3 _).mono ?_; rintro e w2 ⟨rfl, hb2⟩; have R9 := (hb2.block w1.heap.size (by simp)).trans (rownew w1 _ _); have z2 : w1.heap.size < w2.heap.size := (by have := hb2.size; simp at this; omega); have x0 := rowcell R9 0; have x1 := rowcell R9 1; simp only [List.getElem?_toArray, List.getElem?_cons_zero, List.getElem?_cons_succ] at x0 x1; have HB2 : Hid (Below _ _ _) := cthen (cmore HB1.out _) hb2; have HR9 : Hid _ := R9; clear hb2 R9)
    | (go_at_call 99; refine (k4 _).mono ?_; rintro e w3 ⟨rfl, hb3⟩; have R12 := (hb3.block w2.heap.size (by simp)).trans (rownew w2 _ _); have z3 : w2.heap.size < w3.heap.size := (by have := hb3.size; simp at this; omega); have y0 := rowcell R12 0; have y1 := rowcell R12 1; simp only [List.getElem?_toArray, List.getElem?_cons_zero, List.getElem?_cons_succ] at y0 y1; have HB3 : Hid (Below _ _ _) := cthen (cmore HB2.out _) hb3; have HR12 : Hid _ := R12; clear hb3 R12))
  have R15 := rownew w3 #[.int .u64 lh, .int .u64 ll] 79
  have BW : Hid (Below _ _ _) := cmore HB3.out (.cells #[.int .u64 lh, .int .u64 ll] 79)
  have x120 := (Below.heap_alloc w3 (.cells #[.int .u64 lh, .int .u64 ll] 79) _ z3).trans HR12.out
  obtain ⟨W, hW⟩ : ∃ W, W = w3.alloc (.cells #[.int .u64 lh, .int .u64 ll] 79) := ⟨_, rfl⟩
  rw [← hW] at R15 x120 BW ⊢
  have u1 := rowcell x120 1
  have v0 := rowcell R15 0
  have v1 := rowcell R15 1
  simp only [List.getElem?_toArray, List.getElem?_cons_zero, List.getElem?_cons_succ] at u1 v0 v1
  clear hW
  refine wpC_region (fun W => W.cell? ⟨w2.heap.size, 1, none⟩ = some (.int .u64 F) ∧ W.cell? ⟨w3.heap.size, 0, none⟩ = some (.int .u64 lh) ∧ W.cell? ⟨w3.heap.size, 1, none⟩ = some (.int .u64 ll)) (by kernel_rfl) ?_
  refine wpC_take 0 (v := ?_) rfl (by kernel_rfl) (fun _ _ _ h => h) (by kernel_rfl) ?_ ?_; rotate_left; · (intro wC hC; obtain ⟨c1, c2, c3⟩ := hC; go_simp <;> with_reducible rfl)
  refine wpC_take 1 (v := ?_) rfl (by kernel_rfl) (fun _ _ _ h => h) (by kernel_rfl) ?_ ?_; rotate_left; · (intro wC hC; obtain ⟨c1, c2, c3⟩ := hC; go_simp <;> with_reducible rfl)
  refine wpC_take 2 (v := ?_) rfl (by kernel_rfl) (fun _ _ _ h => h) (by kernel_rfl) ?_ ?_; rotate_left; · (intro wC hC; obtain ⟨c1, c2, c3⟩ := hC; go_simp <;> with_reducible rfl)
  refine wpC_take 3 (v := ?_) rfl (by kernel_rfl) (fun _ _ _ h => h) (by kernel_rfl) ?_ ?_; rotate_left; · (intro wC hC; obtain ⟨c1, c2, c3⟩ := hC; go_simp <;> with_reducible rfl)
  refine wpC_take 4 (v := ?_) rfl (by kernel_rfl) (fun _ _ _ h => h) (by kernel_rfl) ?_ ?_; rotate_left; · (intro wC hC; obtain ⟨c1, c2, c3⟩ := hC; go_simp <;> with_reducible rfl)
  refine wpC_take 5 (v := ?_) rfl (by kernel_rfl) (fun _ _ _ h => h) (by kernel_rfl) ?_ ?_; rotate_left; · (intro wC hC; obtain ⟨c1, c2, c3⟩ := hC; go_simp <;> with_reducible rfl)
  refine wpC_take 6 (v := ?_) rfl (by kernel_rfl) (fun _ _ _ h => h) (by kernel_rfl) ?_ ?_; rotate_left; · (intro wC hC; obtain ⟨c1, c2, c3⟩ := hC; go_simp <;> with_reducible rfl)
  refine wpC_take 7 (v := ?_) rfl (by kernel_rfl) (fun _ _ _ h => h) (by kernel_rfl) ?_ ?_; rotate_left; · (intro wC hC; obtain ⟨c1, c2, c3⟩ := hC; go_simp <;> with_reducible rfl)
  refine wpC_step 8 rfl (by kernel_rfl) (by kernel_rfl) ⟨u1, v0, v1⟩ (fun K hK => ?_)
  go_simp
  go_wp2_with ((go_at_call 104; refine (k5 _).mono ?_; rintro e w5 ⟨rfl, hb5⟩))
  try (refine hK _ _ ?_; clear hK K)
  refine wpC_take 9 (v := ?_) rfl (by kernel_rfl) (fun _ _ _ h => h) (by kernel_rfl) ?_ ?_; rotate_left; · (intro wC hC; obtain ⟨c1, c2, c3⟩ := hC; go_simp <;> with_reducible rfl)
  refine wpC_take 10 (v := ?_) rfl (by kernel_rfl) (fun _ _ _ h => h) (by kernel_rfl) ?_ ?_; rotate_left; · (intro wC hC; obtain ⟨c1, c2, c3⟩ := hC; go_simp <;> with_reducible rfl)
  have bcl := cdrew (Below.refl W.heap.size W)
  refine wpC_done (by kernel_rfl) (by have z4 : w2.heap.size < W.heap.size := rowlt x120; have z5 : w3.heap.size < W.heap.size := rowlt R15; exact ⟨(hb5.cell (p := ⟨w2.heap.size, 1, none⟩) z4).trans u1, (hb5.cell (p := ⟨w3.heap.size, 0, none⟩) z5).trans v0, (hb5.cell (p := ⟨w3.heap.size, 1, none⟩) z5).trans v1⟩) ?_
  go_wp2
  go_ret2
  exact hQ.out _ _ ⟨rfl, cthen BW.out (cthen bcl hb5)⟩
end Go.Proofs.YtheliihkkoohnaaGreat
