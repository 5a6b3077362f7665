import Derived.Test.YtheliihkkoohnaaGreatJoin8
import Derived.Test.YtheliihkkoohnaaGreatJoin7
namespace Go.Proofs.YtheliihkkoohnaaGreat
open Go.ChangeShapes Go.WideShapes Go.ChangeAt Go.RowKit
set_option linter.unusedVariables false
set_option linter.unusedSimpArgs false
set_option maxRecDepth 100000

set_option maxHeartbeats 4000000 in
theorem exact12_real (k : Int) (neg : Bool) (s : Int) (hi lo : Nat) (rest : Bool) (hh : hi < 2 ^ 64) (hl : lo < 2 ^ 64) (h1 : soundX k neg s hi lo rest = true) (hk : k = 1) (hn : neg = false) (w : World) :
    Calls Tryz.prog 30 #[exV k neg s hi lo rest] w fun e w' => e = .returned (.tuple #[exV 1 false (s / 2) (rtH (mR s (manX hi lo))) 0 (rtR (mR s (manX hi lo)) || rest), .int .i64 0]) ∧ Below w.heap.size w w' := by
  subst hk hn
  have hs : 9223372036854775808 ≤ hi ∧ -1099511627776 ≤ s ∧ s ≤ 1099511627776 := by
    unfold soundX at h1; rw [if_neg (by decide)] at h1; exact (of_decide_eq_true h1).2
  have k1 := sound7_any 1 false s hi lo rest
  rw [h1] at k1
  have wd : WordsX hi lo := ⟨hs.1, hh, hl⟩
  obtain ⟨m1, m2⟩ := mR_size s wd.mant
  have kh := half12_any s hs.2
  have tw : Tw (manX hi lo) hi lo := ⟨by unfold manX; omega, by omega, by omega⟩
  have k2 := rof_any tw
  obtain ⟨j, hj⟩ : ∃ j, j = 13 + (s % 2).toNat := ⟨_, rfl⟩
  have hj2 : j ≤ 14 := by omega
  have hM := wd.mant.2
  have k3 := fun v w hr => nshl_anyq v (manX hi lo) j (by omega) (Nat.le_trans (dlen_small (Nat.lt_of_lt_of_le hM (by decide))) (by decide)) w hr
  rw [show manX hi lo * 2 ^ j = mR s (manX hi lo) by rw [hj]; rfl] at k3
  obtain ⟨hf, hhf⟩ : ∃ hf, hf = s / 2 := ⟨_, rfl⟩
  rw [← hhf] at kh
  rw [← hhf]
  have k4 := rt_exact m1 m2 hf (by omega)
  have k5 := rt_rest m2 rest
  have k6 := fun v w hr => exactly7_any false v (rtN (mR s (manX hi lo))) (hf - 70) false (by
    obtain ⟨_, b, _⟩ := rt_words m1 m2
    exact Nat.le_trans (blen_le.2 b) (by decide)) (by omega) w hr
  rw [k4] at k6
  have k7 := cut11_any 1 false hf (rtH (mR s (manX hi lo))) (rtN (mR s (manX hi lo)) % 2 ^ 7 * 2 ^ 57) false
  have hstart := rtF_ok (mR s (manX hi lo))
  generalize mR s (manX hi lo) = m at *
  generalize manX hi lo = M at *
  have hdm : dlen m ≤ 1099511627776 := Nat.le_trans (dlen_small (Nat.lt_of_lt_of_le m2 (by decide))) (by decide)
  have e0 : IntKind.i64.wrap (13 + s) = 13 + s := wrapI (by omega)
  have e1 : IntKind.i64.wrap (2 * hf) = 2 * hf := wrapI (by omega)
  have e1' : IntKind.i64.wrap (hf * 2) = 2 * hf := by rw [Int.mul_comm]; exact e1
  have e2 : IntKind.i64.wrap (j : Int) = (j : Int) := wrapI (by omega)
  have e2' : 13 + s - 2 * hf = (j : Int) := by omega
  have e3 : IntKind.i64.wrap (hf - 70) = hf - 70 := wrapI (by omega)
  have K5 : Hid _ := k5
  have HN : Hid (rtF m 0 71 = rtN m) := rfl
  have HM2 : Hid (m < 2 ^ 142) := m2
  clear h1 hs wd m1 m2 tw hj hj2 hM hhf k4 k5 hh hl hstart
  unfold exV at *
  rw [show ((0 : Nat) : Int) = 0 from rfl] at *
  refine cps fun Q hQ => ?_
  go_enter Tryz.func30, Tryz.ntmps30
  go_wp2_with (first
    | (go_at_call 51; go_must (refine (k1 _).mono ?_); rintro e w1 ⟨rfl, hb1⟩; have R1_0 := (hb1.block (w.heap.size) (by first | (simp; done) | (simp; omega) | omega)).trans ((Below.heap_alloc _ _ _ (by first | (simp; done) | (simp; omega) | omega)).trans (rownew' _ _ _ _ (by simp))); have z1_0 : w.heap.size < w1.heap.size := Nat.lt_of_lt_of_le (by first | (simp; done) | (simp; omega) | omega) hb1.size; have c1_0_0 := rowcell R1_0 0; have c1_0_1 := rowcell R1_0 1; have c1_0_2 := rowcell R1_0 2; have c1_0_3 := rowcell R1_0 3; have c1_0_4 := rowcell R1_0 4; have c1_0_5 := rowcell R1_0 5; simp only [List.getElem?_toArray, List.getElem?_cons_zero, List.getElem?_cons_succ] at c1_0_0 c1_0_1 c1_0_2 c1_0_3 c1_0_4 c1_0_5; have HR1_0 : Hid _ := R1_0; clear R1_0; have R1_1 := (hb1.block (w.heap.size + 1) (by first | (simp; done) | (simp; omega) | omega)).trans (rownew' _ _ _ _ (by simp)); have z1_1 : w.heap.size + 1 < w1.heap.size := Nat.lt_of_lt_of_le (by first | (simp; done) | (simp; omega) | omega) hb1.size; have HR1_1 : Hid _ := R1_1; clear R1_1; have HB1 : Hid (Below _ _ _) := hb1; clear hb1)
    | (go_at_call 52; refine (kh _).mono ?_; rintro e wx ⟨rfl, hwx⟩; rw [hwx]; clear hwx wx))
  have cls : ∀ W, Below w1.heap.size w1 W → W.cell? ⟨w.heap.size, 2, none⟩ = some (.int .i64 s) ∧ W.cell? ⟨w.heap.size, 3, none⟩ = some (.int .u64 hi) ∧ W.cell? ⟨w.heap.size, 4, none⟩ = some (.int .u64 lo) := fun W hW => ⟨(hW.cell (p := ⟨w.heap.size, 2, none⟩) z1_0).trans c1_0_2, (hW.cell (p := ⟨w.heap.size, 3, none⟩) z1_0).trans c1_0_3, (hW.cell (p := ⟨w.heap.size, 4, none⟩) z1_0).trans c1_0_4⟩
  refine wpC_region (fun W => W.cell? ⟨w.heap.size, 2, none⟩ = some (.int .i64 s) ∧ W.cell? ⟨w.heap.size, 3, none⟩ = some (.int .u64 hi) ∧ W.cell? ⟨w.heap.size, 4, none⟩ = some (.int .u64 lo)) (by kernel_rfl) ?_
  refine wpC_take 0 (v := ?_) rfl (by kernel_rfl) (fun _ _ _ h => h) (by kernel_rfl) ?_ ?_; rotate_left; · (intro wC hC; obtain ⟨c1, c2, c3⟩ := hC; go_simp <;> with_reducible rfl)
  refine wpC_take 1 (v := ?_) rfl (by kernel_rfl) (fun _ _ _ h => h) (by kernel_rfl) ?_ ?_; rotate_left; · (intro wC hC; obtain ⟨c1, c2, c3⟩ := hC; go_simp <;> with_reducible rfl)
  refine wpC_take 2 (v := ?_) rfl (by kernel_rfl) (fun _ _ _ h => h) (by kernel_rfl) ?_ ?_; rotate_left; · (intro wC hC; obtain ⟨c1, c2, c3⟩ := hC; go_simp <;> with_reducible rfl)
  refine wpC_take 3 (v := ?_) rfl (by kernel_rfl) (fun _ _ _ h => h) (by kernel_rfl) ?_ ?_; rotate_left; · (intro wC hC; obtain ⟨c1, c2, c3⟩ := hC; go_simp <;> with_reducible rfl)
  refine wpC_take 4 (v := ?_) rfl (by kernel_rfl) (fun _ _ _ h => h) (by kernel_rfl) ?_ ?_; rotate_left; · (intro wC hC; obtain ⟨c1, c2, c3⟩ := hC; go_simp <;> with_reducible rfl)
  refine wpC_take 6 (v := ?_) rfl (by kernel_rfl) (fun _ _ _ h => h) (by kernel_rfl) ?_ ?_; rotate_left; · (intro wC hC; obtain ⟨c1, c2, c3⟩ := hC; go_simp <;> with_reducible rfl)
  refine wpC_take 7 (v := ?_) rfl (by kernel_rfl) (fun _ _ _ h => h) (by kernel_rfl) ?_ ?_; rotate_left; · (intro wC hC; obtain ⟨c1, c2, c3⟩ := hC; go_simp <;> with_reducible rfl)
  refine wpC_take 8 (v := ?_) rfl (by kernel_rfl) (fun _ _ _ h => h) (by kernel_rfl) ?_ ?_; rotate_left; · (intro wC hC; obtain ⟨c1, c2, c3⟩ := hC; go_simp <;> with_reducible rfl)
  refine wpC_take 9 (v := ?_) rfl (by kernel_rfl) (fun _ _ _ h => h) (by kernel_rfl) ?_ ?_; rotate_left; · (intro wC hC; obtain ⟨c1, c2, c3⟩ := hC; go_simp <;> with_reducible rfl)
  refine wpC_take 10 (v := ?_) rfl (by kernel_rfl) (fun _ _ _ h => h) (by kernel_rfl) ?_ ?_; rotate_left; · (intro wC hC; obtain ⟨c1, c2, c3⟩ := hC; go_simp <;> with_reducible rfl)
  refine wpC_take 11 (v := ?_) rfl (by kernel_rfl) (fun _ _ _ h => h) (by kernel_rfl) ?_ ?_; rotate_left; · (intro wC hC; obtain ⟨c1, c2, c3⟩ := hC; go_simp <;> with_reducible rfl)
  have b1 := cdrew (Below.refl w1.heap.size w1)
  refine wpC_step 5 rfl (by kernel_rfl) (by kernel_rfl) (cls _ b1) (fun K hK => ?_)
  go_simp
  go_wp2_with ((go_at_call 41; go_must (refine (k2 _).mono ?_); rintro e w2 ⟨v2, rfl, hr2, hb2⟩))
  try (refine hK _ _ ?_; clear hK K)
  have b2 : Below w1.heap.size w1 w2 := cthen b1 hb2
  refine wpC_step 12 rfl (by kernel_rfl) (by kernel_rfl) (cls _ b2) (fun K hK => ?_)
  go_simp
  go_wp2_with ((go_at_call 42; go_must (refine (k3 _ _ hr2).mono ?_); rintro e w3 ⟨v3, rfl, hr3, hb3⟩))
  try (refine hK _ _ ?_; clear hK K)
  have b3 : Below w1.heap.size w1 w3 := cthen b2 hb3
  refine wpC_take 13 (v := ?_) rfl (by kernel_rfl) (fun _ _ _ h => h) (by kernel_rfl) ?_ ?_; rotate_left; · (intro wC hC; obtain ⟨c1, c2, c3⟩ := hC; go_simp <;> with_reducible rfl)
  refine wpC_done (by kernel_rfl) (cls _ b3) ?_
  have HV3 : Hid (Row w3 v3 (dig m)) := hr3
  have HB3 : Hid (Below w1.heap.size w1 w3) := b3
  have zz : w1.heap.size ≤ w3.heap.size := b3.size
  clear cls b1 b2 b3 hb2 hb3 hr2 hr3 k2 k3 kh
  go_wp2
  go_loopw [7, 8] (fun rv kv wr => ∃ (k r : Nat), k ≤ 71 ∧ kv = .int .i64 ((k : Int) - 1) ∧ Hid (rtF m r k = rtN m) ∧ Hid (r * r ≤ m) ∧ Row wr rv (dig r) ∧ Hid (Below w3.heap.size w3 wr)) (fun _ kv _ => (intOf kv + 1).toNat)
  case atStart => exact ⟨71, 0, by decide, rfl, HN.out, Nat.zero_le _, by rw [dig_zero]; exact row_nil _, Below.refl _ _⟩
  case round =>
    obtain ⟨k, r, hk, rfl, hrt, hrm, hrow, hbel⟩ := hrel
    have hr71 : r < 2 ^ 71 := by
      have h1 := hrm.out
      have h2 := HM2.out
      have : r ≤ 2 ^ 71 - 1 := sq_le' (by rw [Nat.sub_add_cancel (by decide), ← Nat.pow_add]; exact Nat.lt_of_le_of_lt h1 h2)
      have h0 : 0 < 2 ^ 71 := by decide
      omega
    by_cases h0 : 0 < k
    · obtain ⟨i, rfl⟩ : ∃ i, k = i + 1 := ⟨k - 1, by omega⟩
      rw [show ((i + 1 : Nat) : Int) - 1 = (i : Int) by omega]
      obtain ⟨more, hmore⟩ : ∃ x, x = r + 2 ^ i := ⟨_, rfl⟩
      have hi70 : 2 ^ i ≤ 2 ^ 70 := Nat.pow_le_pow_right (by decide) (by omega)
      have hm72 : more < 2 ^ 72 := by omega
      have hq144 : more * more < 2 ^ 144 := by
        have := Nat.mul_lt_mul_of_lt_of_lt hm72 hm72
        rwa [← Nat.pow_add] at this
      have kshl := fun v w hr => nshl_anyq v 1 i (by omega) (Nat.le_trans (dlen_small (by decide)) (by decide)) w hr
      rw [Nat.one_mul] at kshl
      have kadd := fun va vb w ha hb => nadd_anyq va vb r (2 ^ i) (Nat.le_trans (dlen_small (by omega)) (by decide)) w ha hb
      rw [← hmore] at kadd
      have hdm2 : dlen more ≤ 1099511627776 := Nat.le_trans (dlen_small (by omega)) (by decide)
      have kmul := fun va vb w ha hb => nmul_anyq va vb more more hdm2 hdm2 w ha hb
      have kcmp := fun va vb w ha hb => ncmp_anyq va vb (more * more) m w ha hb
      have hcx : ∃ c : Int, c = cmpN (more * more) m ∧ ((decide (c ≤ 0) = true ∧ more * more ≤ m) ∨ (decide (c ≤ 0) = false ∧ m < more * more)) := by
        refine ⟨_, rfl, ?_⟩
        rcases Nat.lt_trichotomy (more * more) m with g | g | g
        · rw [cmpN_lt g]; exact .inl ⟨by decide, by omega⟩
        · rw [g, cmpN_eq]; exact .inl ⟨by decide, Nat.le_refl _⟩
        · rw [cmpN_gt g]; exact .inr ⟨by decide, g⟩
      obtain ⟨c, hc, hcc⟩ := hcx
      rw [← hc] at kcmp
      have HR : Hid (Row wr _ (dig r)) := hrow
      have HMO : Hid (more = r + 2 ^ i) := hmore
      obtain ⟨ti, hti⟩ : ∃ x, x = 2 ^ i := ⟨_, rfl⟩
      rw [← hti] at kshl kadd
      clear hc hrow hmore hi70 hm72 hq144 hdm2 hr71 h0 hti
      rcases hcc with ⟨dc, hle⟩ | ⟨dc, hle⟩
      · have HLE : Hid _ := hle
        clear hle
        go_wp2_with (first
          | (go_at_call 42; go_must (refine (kshl _ _ (one_lit _)).mono ?_); rintro e w4 ⟨v4, rfl, hr4, hb4⟩; have HR4 : Hid (Row w4 v4 (dig ti)) := hr4; have HB4 : Hid (Below wr.heap.size wr w4) := cthen (cmore (Below.refl _ _) _) hb4; clear hr4 hb4)
          | (go_at_call 44; go_must (refine (kadd _ _ _ (HR.out.below HB4.out) HR4.out).mono ?_); rintro e w5 ⟨v5, rfl, hr5, hb5⟩; have HR5 : Hid (Row w5 v5 (dig more)) := hr5; have HB5 : Hid (Below wr.heap.size wr w5) := cthen HB4.out hb5; clear hr5 hb5)
          | (go_at_call 53; go_must (refine (kmul _ _ _ HR5.out HR5.out).mono ?_); rintro e w6 ⟨v6, rfl, hr6, hb6⟩; have HR6 : Hid (Row w6 v6 (dig (more * more))) := hr6; have HB6 : Hid (Below wr.heap.size wr w6) := cthen HB5.out hb6; have HB56 : Hid (Below w5.heap.size w5 w6) := hb6; clear hr6 hb6)
          | (go_at_call 45; go_must (refine (kcmp _ _ _ HR6.out (HV3.out.below (cthen hbel.out HB6.out))).mono ?_); rintro e w7 ⟨rfl, q7, rfl⟩))
        go_roundw
        case measure => simp [intOf]
        case rel => exact ⟨i, more, by omega, by go_num, (rtF_yes HMO.out HLE.out hrt.out), HLE.out, (HR5.out.below HB56.out).below (bdrewN' (Below.refl _ _) _), bdrewN' (cthen hbel.out HB6.out) _⟩
      · have HLE : Hid _ := hle
        clear hle
        go_wp2_with (first
          | (go_at_call 42; go_must (refine (kshl _ _ (one_lit _)).mono ?_); rintro e w4 ⟨v4, rfl, hr4, hb4⟩; have HR4 : Hid (Row w4 v4 (dig ti)) := hr4; have HB4 : Hid (Below wr.heap.size wr w4) := cthen (cmore (Below.refl _ _) _) hb4; clear hr4 hb4)
          | (go_at_call 44; go_must (refine (kadd _ _ _ (HR.out.below HB4.out) HR4.out).mono ?_); rintro e w5 ⟨v5, rfl, hr5, hb5⟩; have HR5 : Hid (Row w5 v5 (dig more)) := hr5; have HB5 : Hid (Below wr.heap.size wr w5) := cthen HB4.out hb5; clear hr5 hb5)
          | (go_at_call 53; go_must (refine (kmul _ _ _ HR5.out HR5.out).mono ?_); rintro e w6 ⟨v6, rfl, hr6, hb6⟩; have HR6 : Hid (Row w6 v6 (dig (more * more))) := hr6; have HB6 : Hid (Below wr.heap.size wr w6) := cthen HB5.out hb6; have HB56 : Hid (Below w5.heap.size w5 w6) := hb6; clear hr6 hb6)
          | (go_at_call 45; go_must (refine (kcmp _ _ _ HR6.out (HV3.out.below (cthen hbel.out HB6.out))).mono ?_); rintro e w7 ⟨rfl, q7, rfl⟩))
        go_roundw
        case measure => simp [intOf]
        case rel => exact ⟨i, r, by omega, by go_num, (rtF_no HMO.out HLE.out hrt.out), hrm.out, (HR.out.below HB6.out).below (bdrewN' (Below.refl _ _) _), bdrewN' (cthen hbel.out HB6.out) _⟩
    · have hk0 : k = 0 := by omega
      subst hk0
      rw [show ((0 : Nat) : Int) - 1 = -1 from rfl]
      have hrn : r = rtN m := hrt.out
      have k5 := K5.out
      rw [← hrn] at k5 k6 k7
      have hdr : dlen r ≤ 1099511627776 := Nat.le_trans (dlen_small (by omega)) (by decide)
      have kmul := fun va vb w ha hb => nmul_anyq va vb r r hdr hdr w ha hb
      have kcmp := fun va vb w ha hb => ncmp_anyq va vb (r * r) m w ha hb
      have hcx : ∃ (c : Int) (lf : Bool), c = cmpN (r * r) m ∧ decide (r * r ≠ m) = lf ∧ ((c = 0 ∧ lf = false) ∨ (c = -1 ∧ lf = true)) := by
        refine ⟨_, _, rfl, rfl, ?_⟩
        by_cases g : r * r = m
        · rw [g, cmpN_eq]; exact .inl ⟨rfl, decide_eq_false (fun c => c rfl)⟩
        · have := hrm.out
          rw [cmpN_lt (by omega)]; exact .inr ⟨rfl, decide_eq_true g⟩
      obtain ⟨c, lf, hc, hlf, hcc⟩ := hcx
      rw [← hc] at kcmp
      rw [hlf] at k5
      rw [← k5] at hQ
      obtain ⟨R1, hR1⟩ : ∃ x, x = (false || decide (r % 2 ^ 7 * 2 ^ 57 ≠ 0)) := ⟨_, rfl⟩
      rw [← hR1] at hQ k7
      obtain ⟨L1, hL1⟩ : ∃ x, x = r % 2 ^ 7 * 2 ^ 57 := ⟨_, rfl⟩
      rw [← hL1] at k6 k7
      clear hR1 hL1
      generalize rtH m = H at *
      have HR : Hid (Row wr _ (dig r)) := hrow
      have HB : Hid (Below w1.heap.size w1 wr) := HB3.out.trans (hbel.out.mono zz)
      have HV : Hid (Row wr v3 (dig m)) := HV3.out.below hbel.out
      clear hrow hc hlf hrn hrt hrm k5 hdr hdm hr71 h0 hk hbel HV3 HB3 HN HM2 K5
      cases R1
      all_goals cases rest
      all_goals rcases hcc with ⟨rfl, rfl⟩ | ⟨rfl, rfl⟩
      all_goals
        go_upto_region 22 with (first
          | (go_at_call 53; go_must (refine (kmul _ _ _ HR.out HR.out).mono ?_); rintro e w4 ⟨v4, rfl, hr4, hb4⟩; have HR4 : Hid (Row w4 v4 (dig (r * r))) := hr4; have HB4 : Hid (Below wr.heap.size wr w4) := hb4; clear hr4 hb4)
          | (go_at_call 45; go_must (refine (kcmp _ _ _ HR4.out (HV.out.below HB4.out)).mono ?_); rintro e w4q ⟨rfl, q4, hq4⟩; have HB5 : Hid (Below wr.heap.size wr w4q) := (by show Below _ _ _; rw [hq4]; exact bdrewN' HB4.out _); clear hq4)
          | (go_at_call 43; go_must (refine (k6 _ _ (HR.out.below HB5.out)).mono ?_); rintro e w5 ⟨rfl, hb5⟩; have HB6 : Hid (Below w1.heap.size w1 w5) := cthen (cthen HB.out HB5.out) hb5; have R0 := (HB6.out.block w.heap.size z1_0).trans HR1_0.out; have R1 := (HB6.out.block (w.heap.size + 1) z1_1).trans HR1_1.out; have y0 : w.heap.size < w5.heap.size := Nat.lt_of_lt_of_le z1_0 HB6.out.size; have y1 : w.heap.size + 1 < w5.heap.size := Nat.lt_of_lt_of_le z1_1 HB6.out.size; have HX0 : Hid _ := R0; have HX1 : Hid _ := R1; clear hb5 R0 R1)
          | (go_at_call 54; go_must (refine (k7 _).mono ?_); rintro e w6 ⟨rfl, hb6⟩; have R0 := (hb6.block w.heap.size (by first | (simp; done) | (simp; omega) | omega)).trans ((Below.heap_alloc w5 _ _ y0).trans HX0.out); have R1 := (hb6.block (w.heap.size + 1) (by first | (simp; done) | (simp; omega) | omega)).trans ((Below.heap_alloc w5 _ _ y1).trans HX1.out); have R2 := (hb6.block w5.heap.size (by first | (simp; done) | (simp; omega) | omega)).trans (rownew w5 _ _); have x5 := rowcell R0 5; simp only [List.getElem?_toArray, List.getElem?_cons_zero, List.getElem?_cons_succ] at x5; have l0 := rowcell R2 0; have l1 := rowcell R2 1; have l2 := rowcell R2 2; have l3 := rowcell R2 3; have l4 := rowcell R2 4; have l5 := rowcell R2 5; have lf := rowfree R2; simp only [List.getElem?_toArray, List.getElem?_cons_zero, List.getElem?_cons_succ] at l0 l1 l2 l3 l4 l5; have n1 : ¬ w.heap.size = w5.heap.size := (by omega); have n2 : ¬ w.heap.size + 1 = w5.heap.size := (by omega); have n3 : ¬ w5.heap.size = w.heap.size := (by omega); have n4 : ¬ w5.heap.size = w.heap.size + 1 := (by omega); have y6 : w5.heap.size < w6.heap.size := Nat.lt_of_lt_of_le (by first | (simp; done) | (simp; omega) | omega) hb6.size; have y7 : w.heap.size + 1 < w6.heap.size := (by omega); have HB7 : Hid (Below w1.heap.size w1 w6) := cthen (cmore HB6.out _) hb6; have HR1 : Hid _ := R1; have HR2 : Hid _ := R2; clear hb6 R0 R1 R2))
        generalize hW7 : World.setCell _ _ _ = W7
        have RA := row7' hW7 HR2.out
        have BA := bset7' hW7
        have RB := (BA.block (w.heap.size + 1) y1).trans HR1.out
        have HBW : Hid (Below w1.heap.size w1 W7) := HB7.out.trans (BA.mono HB6.out.size)
        clear l0 l1 l2 l3 l4 l5 lf x5 hW7
        have yW : w.heap.size + 1 < W7.heap.size := Nat.lt_of_lt_of_le y7 BA.size
        have l0 := rowcell RA 0; have l1 := rowcell RA 1; have l2 := rowcell RA 2; have l3 := rowcell RA 3; have l4 := rowcell RA 4; have l5 := rowcell RA 5; have lf := rowfree RA; simp only [List.getElem?_toArray, List.getElem?_cons_zero, List.getElem?_cons_succ] at l0 l1 l2 l3 l4 l5
        have r0 := rowcell RB 0; have r1 := rowcell RB 1; have r2 := rowcell RB 2; have r3 := rowcell RB 3; have r4 := rowcell RB 4; have r5 := rowcell RB 5; have rf := rowfree RB; simp only [List.getElem?_toArray, List.getElem?_cons_zero, List.getElem?_cons_succ] at r0 r1 r2 r3 r4 r5
        clear RA RB BA
        go_wp2
        refine bodyPost_ret ?_ rfl (hQ.out _ _ ⟨rfl, ?_⟩)
        · simp [results, Tryz.results30, go_sem, r0, r1, r2, r3, r4, r5, rf, yW]
        · exact cset6 (cthen (cthen (cmore (cmore (Below.refl _ _) _) _) HB1.out) HBW.out) (by omega)
theorem soundX_kinds {k : Int} {neg : Bool} {s : Int} {hi lo : Nat} {rest : Bool} (h : soundX k neg s hi lo rest = true) : (k = 0 ∧ neg = false) ∨ (k = 2 ∧ neg = false) ∨ k = 1 := by
  rcases soundX_cases h with ⟨a, b, _⟩ | ⟨a, b, _⟩ | a
  · exact .inl ⟨a, b⟩
  · exact .inr (.inl ⟨a, b⟩)
  · exact .inr (.inr a)
theorem exact12_ok (k : Int) (neg : Bool) (s : Int) (hi lo : Nat) (rest : Bool) (hh : hi < 2 ^ 64) (hl : lo < 2 ^ 64) (h : soundX k neg s hi lo rest = true) (w : World) :
    Calls Tryz.prog 30 #[exV k neg s hi lo rest] w fun e w' => e = .returned (.tuple #[root12 k neg s hi lo rest, .int .i64 0]) ∧ Below w.heap.size w w' := by
  unfold root12
  by_cases a2 : k = 2
  · rw [if_pos (.inl a2)]; exact exact12_nar1 k neg s hi lo rest h a2 w
  · by_cases an : neg = true
    · rw [if_pos (.inr an)]; exact exact12_nar2 k neg s hi lo rest h a2 an w
    · rw [if_neg (by rintro (c | c); exact a2 c; exact an c)]
      have an' : neg = false := by cases neg; rfl; exact absurd rfl an
      by_cases a0 : k = 0
      · rw [if_pos a0]; exact exact12_zero k neg s hi lo rest h a0 an' w
      · rw [if_neg a0]
        have a1 : k = 1 := by
          rcases soundX_kinds h with ⟨c, _⟩ | ⟨c, _⟩ | c
          · exact absurd c a0
          · exact absurd c a2
          · exact c
        exact exact12_real k neg s hi lo rest hh hl h a1 an' w
end Go.Proofs.YtheliihkkoohnaaGreat

namespace Go.Proofs.YtheliihkkoohnaaGreat
open Go.ChangeShapes Go.WideShapes Go.ChangeAt Go.RowKit
set_option linter.unusedVariables false
set_option linter.unusedSimpArgs false
set_option maxRecDepth 100000

/-! ### the document's sums of products -/
theorem soundX_v (n a : Nat) (hn : Wd n) (ha : a < 2 ^ 64) : soundX (vK n a) (vB n a) (vS n a) (vF n a) 0 false = true := by
  by_cases k1' : vK n a = 1
  · obtain ⟨_, _, _, _, _, _, wa, s1, s2⟩ := v_real n a hn ha k1'
    have hw := wd_le hn
    unfold soundX
    rw [k1', if_neg (by decide)]
    exact decide_eq_true ⟨rfl, wa.top, by omega, by omega⟩
  · obtain ⟨e1, e2, e3⟩ := v_other n a k1'
    unfold soundX
    rw [e1, e2, e3]
    rcases v_kinds n a hn with ⟨c, _⟩ | c | ⟨c, _⟩
    · rw [c]; rfl
    · exact absurd c k1'
    · rw [c]; rfl
/-- a product's parts, with what Sum asks of them -/
theorem prod_parts (n a b : Nat) (hn : Wd n) (ha : a < 2 ^ 64) (hb : b < 2 ^ 64) : ∃ K N S H L, prod10 (vK n a) (vB n a) (vS n a) (vF n a) (vK n b) (vB n b) (vS n b) (vF n b) = exV K N S H L false ∧
    soundX K N S H L false = true ∧ H < 2 ^ 64 ∧ L < 2 ^ 64 ∧ ((K = 2 ∧ (vK n a = 2 ∨ vK n b = 2)) ∨ (¬ (vK n a = 2 ∨ vK n b = 2) ∧ Prt (eN + eN) (valI n a * valI n b) K N S H L)) := by
  by_cases h : vK n a = 2 ∨ vK n b = 2
  · refine ⟨2, false, 0, 0, 0, ?_, rfl, by decide, by decide, .inl ⟨rfl, h⟩⟩
    unfold prod10; rw [if_pos h]
  · obtain ⟨K, N, S, H, L, e, hp⟩ := prod_prt n a b hn ha hb (fun c => h (.inl c)) (fun c => h (.inr c))
    exact ⟨K, N, S, H, L, e, hp.sound, hp.words.1, hp.words.2, .inr ⟨h, hp⟩⟩
theorem sum_parts {e T T' K K' : Int} {N N' : Bool} {S S' : Int} {H L H' L' : Nat} {A B : Prop} [Decidable A] [Decidable B] (h : (K = 2 ∧ A) ∨ (¬ A ∧ Prt e T K N S H L)) (h' : (K' = 2 ∧ B) ∨ (¬ B ∧ Prt e T' K' N' S' H' L')) :
    sum9 K N S H L K' N' S' H' L' = if A ∨ B then exV 2 false 0 0 0 false else exI (T + T') e := by
  rcases h with ⟨rfl, ha⟩ | ⟨ha, hp⟩
  · unfold sum9; rw [if_pos (.inl rfl), if_pos (.inl ha)]
  · rcases h' with ⟨rfl, hb⟩ | ⟨hb, hp'⟩
    · unfold sum9; rw [if_pos (.inr rfl), if_pos (.inr hb)]
    · rw [if_neg (by rintro (c | c); exact ha c; exact hb c), hp.sum hp']
theorem val_parts (n c : Nat) (hn : Wd n) (hc : c < 2 ^ 64) : (vK n c = 2 ∧ vK n c = 2) ∨ (¬ vK n c = 2 ∧ Prt (eN + eN) (valI n c * ((2 ^ 375 : Nat) : Int)) (vK n c) (vB n c) (vS n c) (vF n c) 0) := by
  by_cases h : vK n c = 2
  · exact .inl ⟨h, h⟩
  · exact .inr ⟨h, val_prt2 n c hn hc h⟩
theorem form_if {A : Prop} [Decidable A] {U V : Value} (h : ∃ k b s h l r, U = exV k b s h l r) (h' : ∃ k b s h l r, V = exV k b s h l r) : ∃ k b s h l r, (if A then U else V) = exV k b s h l r := by
  by_cases a : A
  · rw [if_pos a]; exact h
  · rw [if_neg a]; exact h'
theorem round_sum (n : Nat) (T e : Int) (A : Prop) [Decidable A] (hn : Wd n) (w : World) :
    Calls Tryz.prog 25 #[.int .i64 n, if A then exV 2 false 0 0 0 false else exI T e] w fun r w' => r = .returned (.int .u64 (if A then 2 ^ (n - 1) else patI n T e : Nat)) ∧ Below w.heap.size w w' := by
  by_cases a : A
  · rw [if_pos a, if_pos a]; exact round7_nar n hn w
  · rw [if_neg a, if_neg a]; exact round7_exI n T e hn w
theorem round_root (n : Nat) (T e : Int) (A : Prop) [Decidable A] (hn : Wd n) (w : World) :
    Calls Tryz.prog 25 #[.int .i64 n, if A then exV 2 false 0 0 0 false else rootI T e] w fun r w' => r = .returned (.int .u64 (if A then 2 ^ (n - 1) else patG n T e : Nat)) ∧ Below w.heap.size w w' := by
  by_cases a : A
  · rw [if_pos a, if_pos a]; exact round7_nar n hn w
  · rw [if_neg a, if_neg a]
    refine round7_via n _ _ (rootI_form T e) (fun w => ?_) w
    unfold rootI patG
    by_cases h0 : T = 0
    · rw [if_pos h0, if_pos h0]
      exact rounds7_plain n 0 0 w (cut7_zero n hn)
    · rw [if_neg h0, if_neg h0]
      obtain ⟨wd, s1, s2⟩ := rootI_words T e h0
      refine rounds7_real n _ _ _ 0 _ hn ?_ wd w
      unfold soundX
      rw [if_neg (by decide)]
      exact decide_eq_true ⟨rfl, wd.top, s1, s2⟩
theorem product13_two (n a b : Nat) (hn : Wd n) (ha : a < 2 ^ 64) (hb : b < 2 ^ 64) (w : World) :
    Calls Tryz.prog 27 #[.int .i64 n, .int .u64 a, .int .u64 b] w fun e w' => e = .returned (prod10 (vK n a) (vB n a) (vS n a) (vF n a) (vK n b) (vB n b) (vS n b) (vF n b)) ∧ Below w.heap.size w w' := by
  have k1 := decode6_v n a hn ha
  have k2 := decode6_v n b hn hb
  have k3 := exact10_ok (vK n a) (vB n a) (vS n a) (vF n a) (vK n b) (vB n b) (vS n b) (vF n b) (vF_lt n a) (vF_lt n b) (sound_v n a hn ha) (sound_v n b hn hb)
  obtain ⟨K, B, S, H, L, hform, _⟩ := prod_parts n a b hn ha hb
  rw [hform] at k3 ⊢
  clear hform hn ha hb
  unfold numV exV at *
  generalize false = R at k3 ⊢
  generalize vK n a = vKa at *
  generalize vB n a = vBa at *
  generalize vS n a = vSa at *
  generalize vF n a = vFa at *
  generalize vK n b = vKb at *
  generalize vB n b = vBb at *
  generalize vS n b = vSb at *
  generalize vF n b = vFb at *
  refine cps fun Q hQ => ?_
  go_enter Tryz.func27, Tryz.ntmps27
  go_wp2_with (first
    | (go_at_call_of 39 a; go_must (refine (k1 _).mono ?_); rintro e w1 ⟨rfl, hb1⟩; have R1_0 := (hb1.block (w.heap.size) (by first | (simp; done) | (simp; omega) | omega)).trans (rownew' _ _ _ _ (by simp)); have z1_0 : w.heap.size < w1.heap.size := Nat.lt_of_lt_of_le (by first | (simp; done) | (simp; omega) | omega) hb1.size; have HR1_0 : Hid _ := R1_0; clear R1_0; have HB1 : Hid (Below _ _ _) := hb1; clear hb1)
    | (go_at_call_of 39 b; go_must (refine (k2 _).mono ?_); rintro e w2 ⟨rfl, hb2⟩; have R2_0 := (hb2.block (w.heap.size) (by first | (simp; done) | (simp; omega) | omega)).trans HR1_0.out; have z2_0 : w.heap.size < w2.heap.size := Nat.lt_of_lt_of_le (by first | (simp; done) | (simp; omega) | omega) hb2.size; have HR2_0 : Hid _ := R2_0; clear R2_0; have HB2 : Hid (Below _ _ _) := hb2; clear hb2)
    | (go_at_call 47; go_must (refine (k3 _).mono ?_); rintro e w3 ⟨rfl, hb3⟩; have R3_0 := (hb3.block (w.heap.size) (by first | (simp; done) | (simp; omega) | omega)).trans HR2_0.out; have z3_0 : w.heap.size < w3.heap.size := Nat.lt_of_lt_of_le (by first | (simp; done) | (simp; omega) | omega) hb3.size; have c3_0_0 := rowcell R3_0 0; have c3_0_1 := rowcell R3_0 1; have c3_0_2 := rowcell R3_0 2; have c3_0_3 := rowcell R3_0 3; have c3_0_4 := rowcell R3_0 4; have c3_0_5 := rowcell R3_0 5; simp only [List.getElem?_toArray, List.getElem?_cons_zero, List.getElem?_cons_succ] at c3_0_0 c3_0_1 c3_0_2 c3_0_3 c3_0_4 c3_0_5; have rf3 := rowfree R3_0; have n1 : ¬ w.heap.size = w3.heap.size := (by omega); have n2 : ¬ w3.heap.size = w.heap.size := (by omega); have HR3_0 : Hid _ := R3_0; clear R3_0; have HB3 : Hid (Below _ _ _) := hb3; clear hb3))
  refine bodyPost_ret (v := .agg #[.int .i64 K, .bool B, .int .i64 S, .int .u64 H, .int .u64 L, .bool R]) (by simp [results, Tryz.results27, go_sem, rf3, z3_0, n1, n2, c3_0_0, c3_0_1, c3_0_2, c3_0_3, c3_0_4, c3_0_5]) rfl (hQ.out _ _ ⟨by simp, ?_⟩)
  exact cmore (cset6 (cthen (cthen (cthen (cmore (Below.refl _ _) _) HB1.out) HB2.out) HB3.out) (Nat.le_refl _)) _
theorem product13_self (n a : Nat) (hn : Wd n) (ha : a < 2 ^ 64) (w : World) :
    Calls Tryz.prog 27 #[.int .i64 n, .int .u64 a, .int .u64 a] w fun e w' => e = .returned (prod10 (vK n a) (vB n a) (vS n a) (vF n a) (vK n a) (vB n a) (vS n a) (vF n a)) ∧ Below w.heap.size w w' := by
  have k1 := decode6_v n a hn ha
  have k2 := decode6_v n a hn ha
  have k3 := exact10_ok (vK n a) (vB n a) (vS n a) (vF n a) (vK n a) (vB n a) (vS n a) (vF n a) (vF_lt n a) (vF_lt n a) (sound_v n a hn ha) (sound_v n a hn ha)
  obtain ⟨K, B, S, H, L, hform, _⟩ := prod_parts n a a hn ha ha
  rw [hform] at k3 ⊢
  clear hform hn ha
  unfold numV exV at *
  generalize false = R at k3 ⊢
  generalize vK n a = vKa at *
  generalize vB n a = vBa at *
  generalize vS n a = vSa at *
  generalize vF n a = vFa at *
  refine cps fun Q hQ => ?_
  go_enter Tryz.func27, Tryz.ntmps27
  go_wp2_with (first
    | (go_at_call 39; have chk := HB1; go_must (refine (k2 _).mono ?_); rintro e w2 ⟨rfl, hb2⟩; have R2_0 := (hb2.block (w.heap.size) (by first | (simp; done) | (simp; omega) | omega)).trans HR1_0.out; have z2_0 : w.heap.size < w2.heap.size := Nat.lt_of_lt_of_le (by first | (simp; done) | (simp; omega) | omega) hb2.size; have HR2_0 : Hid _ := R2_0; clear R2_0; have HB2 : Hid (Below _ _ _) := hb2; clear hb2; clear chk)
    | (go_at_call 39; go_must (refine (k1 _).mono ?_); rintro e w1 ⟨rfl, hb1⟩; have R1_0 := (hb1.block (w.heap.size) (by first | (simp; done) | (simp; omega) | omega)).trans (rownew' _ _ _ _ (by simp)); have z1_0 : w.heap.size < w1.heap.size := Nat.lt_of_lt_of_le (by first | (simp; done) | (simp; omega) | omega) hb1.size; have HR1_0 : Hid _ := R1_0; clear R1_0; have HB1 : Hid (Below _ _ _) := hb1; clear hb1)
    | (go_at_call 47; go_must (refine (k3 _).mono ?_); rintro e w3 ⟨rfl, hb3⟩; have R3_0 := (hb3.block (w.heap.size) (by first | (simp; done) | (simp; omega) | omega)).trans HR2_0.out; have z3_0 : w.heap.size < w3.heap.size := Nat.lt_of_lt_of_le (by first | (simp; done) | (simp; omega) | omega) hb3.size; have c3_0_0 := rowcell R3_0 0; have c3_0_1 := rowcell R3_0 1; have c3_0_2 := rowcell R3_0 2; have c3_0_3 := rowcell R3_0 3; have c3_0_4 := rowcell R3_0 4; have c3_0_5 := rowcell R3_0 5; simp only [List.getElem?_toArray, List.getElem?_cons_zero, List.getElem?_cons_succ] at c3_0_0 c3_0_1 c3_0_2 c3_0_3 c3_0_4 c3_0_5; have rf3 := rowfree R3_0; have n1 : ¬ w.heap.size = w3.heap.size := (by omega); have n2 : ¬ w3.heap.size = w.heap.size := (by omega); have HR3_0 : Hid _ := R3_0; clear R3_0; have HB3 : Hid (Below _ _ _) := hb3; clear hb3))
  refine bodyPost_ret (v := .agg #[.int .i64 K, .bool B, .int .i64 S, .int .u64 H, .int .u64 L, .bool R]) (by simp [results, Tryz.results27, go_sem, rf3, z3_0, n1, n2, c3_0_0, c3_0_1, c3_0_2, c3_0_3, c3_0_4, c3_0_5]) rfl (hQ.out _ _ ⟨by simp, ?_⟩)
  exact cmore (cset6 (cthen (cthen (cthen (cmore (Below.refl _ _) _) HB1.out) HB2.out) HB3.out) (Nat.le_refl _)) _
theorem patF_if (n a b c : Nat) : patF n a b c = if (vK n a = 2 ∨ vK n b = 2) ∨ vK n c = 2 then 2 ^ (n - 1) else patI n (valI n a * valI n b + valI n c * ((2 ^ 375 : Nat) : Int)) (eN + eN) := by
  unfold patF
  by_cases h : (vK n a = 2 ∨ vK n b = 2) ∨ vK n c = 2
  · rw [if_pos h, if_pos (by rcases h with (h | h) | h <;> simp [h])]
  · rw [if_neg h, if_neg (by rintro (q | q | q) <;> exact h (by simp [q]))]
theorem patX_if (n a b c d : Nat) : patX n a b c d = if (vK n a = 2 ∨ vK n b = 2) ∨ (vK n c = 2 ∨ vK n d = 2) then 2 ^ (n - 1) else patI n (valI n a * valI n b + valI n c * valI n d) (eN + eN) := by
  unfold patX
  by_cases h : (vK n a = 2 ∨ vK n b = 2) ∨ (vK n c = 2 ∨ vK n d = 2)
  · rw [if_pos h, if_pos (by rcases h with (h | h) | (h | h) <;> simp [h])]
  · rw [if_neg h, if_neg (by rintro (q | q | q | q) <;> exact h (by simp [q]))]
theorem patH_if (n a b : Nat) : patH n a b = if (vK n a = 2 ∨ vK n a = 2) ∨ (vK n b = 2 ∨ vK n b = 2) then 2 ^ (n - 1) else patG n (valI n a * valI n a + valI n b * valI n b) (eN + eN) := by
  unfold patH
  by_cases h : (vK n a = 2 ∨ vK n a = 2) ∨ (vK n b = 2 ∨ vK n b = 2)
  · rw [if_pos h, if_pos (by rcases h with (h | h) | (h | h) <;> simp [h])]
  · rw [if_neg h, if_neg (by rintro (q | q) <;> exact h (by simp [q]))]
theorem exI_form' (T e : Int) : ∃ k b s h l r, exI T e = exV k b s h l r := exactV_form _ _ _ _
set_option maxHeartbeats 2000000 in
theorem fma13_any (n a b c : Nat) (hn : Wd n) (ha : a < 2 ^ 64) (hb : b < 2 ^ 64) (hc : c < 2 ^ 64) (w : World) :
    Calls Tryz.prog 22 #[.int .i64 n, .int .u64 a, .int .u64 b, .int .u64 c] w fun e w' => e = .returned (.int .u64 (patF n a b c : Nat)) ∧ Below w.heap.size w w' := by
  have k1 := decode6_v n c hn hc
  have k2 := of7_ok (vK n c) (vB n c) (vS n c) (vF n c) (sound_v n c hn hc)
  have k3 := product13_two n a b hn ha hb
  obtain ⟨K, B, S, H, L, hform, hs, hh, hl, hp⟩ := prod_parts n a b hn ha hb
  have k4 := sum9_any K B S H L (vK n c) (vB n c) (vS n c) (vF n c) 0 hh hl (vF_lt n c) (by decide) hs (soundX_v n c hn hc)
  rw [sum_parts hp (val_parts n c hn hc)] at k4
  have k5 := round_sum n (valI n a * valI n b + valI n c * ((2 ^ 375 : Nat) : Int)) (eN + eN) ((vK n a = 2 ∨ vK n b = 2) ∨ vK n c = 2) hn
  rw [← patF_if] at k5
  obtain ⟨K2, B2, S2, H2, L2, R2, hform2⟩ := form_if (A := (vK n a = 2 ∨ vK n b = 2) ∨ vK n c = 2) ⟨2, false, 0, 0, 0, false, rfl⟩ (exI_form' (valI n a * valI n b + valI n c * ((2 ^ 375 : Nat) : Int)) (eN + eN))
  rw [hform2] at k4 k5
  rw [hform] at k3
  clear hform hform2 hp hs hh hl hn ha hb hc
  unfold numV exV at *
  rw [show ((0 : Nat) : Int) = 0 from rfl] at *
  generalize patF n a b c = P at *
  generalize vK n c = kc at *
  generalize vB n c = bc at *
  generalize vS n c = sc at *
  generalize vF n c = fc at *
  refine cps fun Q hQ => ?_
  go_enter Tryz.func22, Tryz.ntmps22
  go_upto_region 2 with (first
    | (go_at_call 39; go_must (refine (k1 _).mono ?_); rintro e w1 ⟨rfl, hb1⟩; have HB1 : Hid (Below _ _ _) := hb1; clear hb1)
    | (go_at_call 38; go_must (refine (k2 _).mono ?_); rintro e w2 ⟨rfl, hb2⟩; have HB2 : Hid (Below _ _ _) := hb2; clear hb2))
  obtain ⟨W0, hW0⟩ : ∃ W0, W0 = w2.alloc (.cells #[.int .i64 kc, .bool bc, .int .i64 sc, .int .u64 fc, .int .u64 0, .bool false] 39) := ⟨_, rfl⟩
  have hrow : W0.heap[w2.heap.size]? = some (.cells #[.int .i64 kc, .bool bc, .int .i64 sc, .int .u64 fc, .int .u64 0, .bool false] 39 (0, 0)) := by rw [hW0]; exact rownew _ _ _
  have hlt : w2.heap.size < W0.heap.size := by rw [hW0]; simp
  have hB0 : Below w2.heap.size w2 W0 := by rw [hW0]; exact cmore (Below.refl _ _) _
  rw [← hW0]
  clear hW0
  have cls : ∀ W, Below W0.heap.size W0 W → W.cell? ⟨w2.heap.size, 0, none⟩ = some (.int .i64 kc) ∧ W.cell? ⟨w2.heap.size, 1, none⟩ = some (.bool bc) ∧ W.cell? ⟨w2.heap.size, 2, none⟩ = some (.int .i64 sc) ∧ W.cell? ⟨w2.heap.size, 3, none⟩ = some (.int .u64 fc) ∧ W.cell? ⟨w2.heap.size, 4, none⟩ = some (.int .u64 0) ∧ W.cell? ⟨w2.heap.size, 5, none⟩ = some (.bool false) := fun W hW => by
    have R := (hW.block w2.heap.size hlt).trans hrow
    exact ⟨rowcell R 0, rowcell R 1, rowcell R 2, rowcell R 3, rowcell R 4, rowcell R 5⟩
  refine wpC_region (fun W => W.cell? ⟨w2.heap.size, 0, none⟩ = some (.int .i64 kc) ∧ W.cell? ⟨w2.heap.size, 1, none⟩ = some (.bool bc) ∧ W.cell? ⟨w2.heap.size, 2, none⟩ = some (.int .i64 sc) ∧ W.cell? ⟨w2.heap.size, 3, none⟩ = some (.int .u64 fc) ∧ W.cell? ⟨w2.heap.size, 4, none⟩ = some (.int .u64 0) ∧ W.cell? ⟨w2.heap.size, 5, none⟩ = some (.bool false)) (by kernel_rfl) ?_
  refine wpC_take 0 (v := ?_) rfl (by kernel_rfl) (fun _ _ _ h => h) (by kernel_rfl) ?_ ?_; rotate_left; · (intro wC hC; obtain ⟨c1, c2, c3, c4, c5, c6⟩ := hC; go_simp <;> with_reducible rfl)
  refine wpC_take 1 (v := ?_) rfl (by kernel_rfl) (fun _ _ _ h => h) (by kernel_rfl) ?_ ?_; rotate_left; · (intro wC hC; obtain ⟨c1, c2, c3, c4, c5, c6⟩ := hC; go_simp <;> with_reducible rfl)
  refine wpC_take 2 (v := ?_) rfl (by kernel_rfl) (fun _ _ _ h => h) (by kernel_rfl) ?_ ?_; rotate_left; · (intro wC hC; obtain ⟨c1, c2, c3, c4, c5, c6⟩ := hC; go_simp <;> with_reducible rfl)
  refine wpC_take 3 (v := ?_) rfl (by kernel_rfl) (fun _ _ _ h => h) (by kernel_rfl) ?_ ?_; rotate_left; · (intro wC hC; obtain ⟨c1, c2, c3, c4, c5, c6⟩ := hC; go_simp <;> with_reducible rfl)
  refine wpC_take 5 (v := ?_) rfl (by kernel_rfl) (fun _ _ _ h => h) (by kernel_rfl) ?_ ?_; rotate_left; · (intro wC hC; obtain ⟨c1, c2, c3, c4, c5, c6⟩ := hC; go_simp <;> with_reducible rfl)
  have b1 := cdrew (Below.refl W0.heap.size W0)
  refine wpC_step 4 rfl (by kernel_rfl) (by kernel_rfl) (cls _ b1) (fun K hK => ?_)
  go_simp
  go_wp2_with ((go_at_call 27; go_must (refine (k3 _).mono ?_); rintro e w3 ⟨rfl, hb3⟩))
  try (refine hK _ _ ?_; clear hK K)
  have b3 : Below W0.heap.size W0 w3 := cthen b1 hb3
  refine wpC_step 6 rfl (by kernel_rfl) (by kernel_rfl) (cls _ b3) (fun K hK => ?_)
  go_simp
  go_wp2_with ((go_at_call 26; go_must (refine (k4 _).mono ?_); rintro e w4 ⟨rfl, hb4⟩))
  try (refine hK _ _ ?_; clear hK K)
  have b4 : Below W0.heap.size W0 w4 := cthen b3 hb4
  refine wpC_step 7 rfl (by kernel_rfl) (by kernel_rfl) (cls _ b4) (fun K hK => ?_)
  go_simp
  go_wp2_with ((go_at_call 25; go_must (refine (k5 _).mono ?_); rintro e w5 ⟨rfl, hb5⟩))
  try (refine hK _ _ ?_; clear hK K)
  have b5 : Below W0.heap.size W0 w5 := cthen b4 hb5
  refine wpC_take 8 (v := ?_) rfl (by kernel_rfl) (fun _ _ _ h => h) (by kernel_rfl) ?_ ?_; rotate_left; · (intro wC hC; obtain ⟨c1, c2, c3, c4, c5, c6⟩ := hC; go_simp <;> with_reducible rfl)
  refine wpC_done (by kernel_rfl) (cls _ b5) ?_
  have HBX : Hid (Below w.heap.size w w5) := cthen (cthen (cthen (cthen (Below.refl _ _) HB1.out) HB2.out) hB0) b5
  clear cls hrow b1 b3 b4 b5 hb3 hb4 hb5
  go_wp2
  exact bodyPost_ret (v := .int .u64 P) (by simp [results, Tryz.results22, go_sem]) rfl (hQ.out _ _ ⟨rfl, HBX.out⟩)
theorem fmas13_no (n : Int) (a b c : Nat) (hn : isW n = false) (w : World) :
    Calls Tryz.prog 8 #[.int .i64 n, .int .u64 a, .int .u64 b, .int .u64 c] w fun e w' => e = .returned (.tuple #[.int .u64 0, .int .i64 2]) ∧ Below w.heap.size w w' := by
  have kis := is_width n
  rw [hn] at kis
  clear hn
  refine cps fun Q hQ => ?_
  go_enter Tryz.func8, Tryz.ntmps8
  go_wp2_with (go_at_call 21; refine (kis _).mono ?_; rintro e wx ⟨rfl, hwx⟩; rw [hwx]; clear hwx wx)
  exact hQ.out _ _ ⟨rfl, Below.refl _ _⟩
theorem fmas13_ok (n a b c : Nat) (hn : Wd n) (ha : a < 2 ^ 64) (hb : b < 2 ^ 64) (hc : c < 2 ^ 64) (w : World) :
    Calls Tryz.prog 8 #[.int .i64 n, .int .u64 a, .int .u64 b, .int .u64 c] w fun e w' => e = .returned (.tuple #[.int .u64 (patF n a b c : Nat), .int .i64 0]) ∧ Below w.heap.size w w' := by
  have kis := is_width n
  rw [isW_of hn] at kis
  have k1 := fma13_any n a b c hn ha hb hc
  clear hn ha hb hc
  generalize patF n a b c = P at *
  refine cps fun Q hQ => ?_
  go_enter Tryz.func8, Tryz.ntmps8
  go_wp2_with (first
    | (go_at_call 21; refine (kis _).mono ?_; rintro e wx ⟨rfl, hwx⟩; rw [hwx]; clear hwx wx)
    | (go_at_call 22; refine (k1 _).mono ?_; rintro e w1 ⟨rfl, hb1⟩))
  exact hQ.out _ _ ⟨rfl, hb1⟩
theorem pair13_no (n : Int) (a b c d : Nat) (hn : isW n = false) (w : World) :
    Calls Tryz.prog 12 #[.int .i64 n, .int .u64 a, .int .u64 b, .int .u64 c, .int .u64 d] w fun e w' => e = .returned (.tuple #[.int .u64 0, .int .i64 2]) ∧ Below w.heap.size w w' := by
  have kis := is_width n
  rw [hn] at kis
  clear hn
  refine cps fun Q hQ => ?_
  go_enter Tryz.func12, Tryz.ntmps12
  go_wp2_with (go_at_call 21; refine (kis _).mono ?_; rintro e wx ⟨rfl, hwx⟩; rw [hwx]; clear hwx wx)
  exact hQ.out _ _ ⟨rfl, Below.refl _ _⟩
set_option maxHeartbeats 2000000 in
theorem pair13_ok (n a b c d : Nat) (hn : Wd n) (ha : a < 2 ^ 64) (hb : b < 2 ^ 64) (hc : c < 2 ^ 64) (hd : d < 2 ^ 64) (w : World) :
    Calls Tryz.prog 12 #[.int .i64 n, .int .u64 a, .int .u64 b, .int .u64 c, .int .u64 d] w fun e w' => e = .returned (.tuple #[.int .u64 (patX n a b c d : Nat), .int .i64 0]) ∧ Below w.heap.size w w' := by
  have kis := is_width n
  rw [isW_of hn] at kis
  have k1 := product13_two n a b hn ha hb
  have k2 := product13_two n c d hn hc hd
  obtain ⟨K, B, S, H, L, hform, hs, hh, hl, hp⟩ := prod_parts n a b hn ha hb
  obtain ⟨K', B', S', H', L', hform', hs', hh', hl', hp'⟩ := prod_parts n c d hn hc hd
  have k4 := sum9_any K B S H L K' B' S' H' L' hh hl hh' hl' hs hs'
  rw [sum_parts hp hp'] at k4
  have k5 := round_sum n (valI n a * valI n b + valI n c * valI n d) (eN + eN) ((vK n a = 2 ∨ vK n b = 2) ∨ (vK n c = 2 ∨ vK n d = 2)) hn
  rw [← patX_if] at k5
  obtain ⟨K2, B2, S2, H2, L2, R2, hform2⟩ := form_if (A := (vK n a = 2 ∨ vK n b = 2) ∨ (vK n c = 2 ∨ vK n d = 2)) ⟨2, false, 0, 0, 0, false, rfl⟩ (exI_form' (valI n a * valI n b + valI n c * valI n d) (eN + eN))
  rw [hform2] at k4 k5
  rw [hform] at k1
  rw [hform'] at k2
  clear hform hform' hform2 hp hp' hs hs' hh hh' hl hl' hn ha hb hc hd
  unfold exV at *
  generalize patX n a b c d = P at *
  refine cps fun Q hQ => ?_
  go_enter Tryz.func12, Tryz.ntmps12
  go_wp2_with (first
    | (go_at_call 21; refine (kis _).mono ?_; rintro e wx ⟨rfl, hwx⟩; rw [hwx]; clear hwx wx)
    | (go_at_call_of 27 a; go_must (refine (k1 _).mono ?_); rintro e w1 ⟨rfl, hb1⟩; have HB1 : Hid (Below _ _ _) := hb1; clear hb1)
    | (go_at_call_of 27 c; go_must (refine (k2 _).mono ?_); rintro e w2 ⟨rfl, hb2⟩; have HB2 : Hid (Below _ _ _) := hb2; clear hb2)
    | (go_at_call 26; go_must (refine (k4 _).mono ?_); rintro e w3 ⟨rfl, hb3⟩; have HB3 : Hid (Below _ _ _) := hb3; clear hb3)
    | (go_at_call 25; go_must (refine (k5 _).mono ?_); rintro e w4 ⟨rfl, hb4⟩; have HB4 : Hid (Below _ _ _) := hb4; clear hb4))
  exact hQ.out _ _ ⟨rfl, cthen (cthen (cthen (cthen (Below.refl _ _) HB1.out) HB2.out) HB3.out) HB4.out⟩
theorem cross13_no (n : Int) (a b c d : Nat) (hn : isW n = false) (w : World) :
    Calls Tryz.prog 13 #[.int .i64 n, .int .u64 a, .int .u64 b, .int .u64 c, .int .u64 d] w fun e w' => e = .returned (.tuple #[.int .u64 0, .int .i64 2]) ∧ Below w.heap.size w w' := by
  have kis := is_width n
  rw [hn] at kis
  clear hn
  refine cps fun Q hQ => ?_
  go_enter Tryz.func13, Tryz.ntmps13
  go_wp2_with (go_at_call 21; refine (kis _).mono ?_; rintro e wx ⟨rfl, hwx⟩; rw [hwx]; clear hwx wx)
  exact hQ.out _ _ ⟨rfl, Below.refl _ _⟩
theorem cross13_ok (n a b c d : Nat) (hn : Wd n) (ha : a < 2 ^ 64) (hb : b < 2 ^ 64) (hc : c < 2 ^ 64) (hd : d < 2 ^ 64) (w : World) :
    Calls Tryz.prog 13 #[.int .i64 n, .int .u64 a, .int .u64 b, .int .u64 c, .int .u64 d] w fun e w' => e = .returned (.tuple #[.int .u64 (patX n a b (negO n c) d : Nat), .int .i64 0]) ∧ Below w.heap.size w w' := by
  have kis := is_width n
  rw [isW_of hn] at kis
  have k1 := neg6_any n c hn hc
  change ∀ w, Calls Tryz.prog 28 #[.int .i64 n, .int .u64 (c : Nat)] w fun e w' => e = .returned (.int .u64 (negO n c : Nat)) ∧ Below w.heap.size w w' at k1
  have k2 := pair13_ok n a b (negO n c) d hn ha hb (negO_lt64 n c hn) hd
  clear hn ha hb hc hd
  generalize patX n a b (negO n c) d = P at *
  generalize negO n c = nc at *
  refine cps fun Q hQ => ?_
  go_enter Tryz.func13, Tryz.ntmps13
  go_wp2_with (first
    | (go_at_call 21; refine (kis _).mono ?_; rintro e wx ⟨rfl, hwx⟩; rw [hwx]; clear hwx wx)
    | (go_at_call 28; refine (k1 _).mono ?_; rintro e w1 ⟨rfl, hb1⟩)
    | (go_at_call 12; refine (k2 _).mono ?_; rintro e w2 ⟨rfl, hb2⟩))
  exact hQ.out _ _ ⟨rfl, cthen hb1 hb2⟩
theorem hypot13_no (n : Int) (a b : Nat) (hn : isW n = false) (w : World) :
    Calls Tryz.prog 15 #[.int .i64 n, .int .u64 a, .int .u64 b] w fun e w' => e = .returned (.tuple #[.int .u64 0, .int .i64 2]) ∧ Below w.heap.size w w' := by
  have kis := is_width n
  rw [hn] at kis
  clear hn
  refine cps fun Q hQ => ?_
  go_enter Tryz.func15, Tryz.ntmps15
  go_wp2_with (go_at_call 21; refine (kis _).mono ?_; rintro e wx ⟨rfl, hwx⟩; rw [hwx]; clear hwx wx)
  exact hQ.out _ _ ⟨rfl, Below.refl _ _⟩
theorem root_sum (T e : Int) (A : Prop) [Decidable A] (h : 0 ≤ T) (w : World) :
    ∃ K B S H L R, (if A then exV 2 false 0 0 0 false else exI T e) = exV K B S H L R ∧ ∀ w, Calls Tryz.prog 30 #[exV K B S H L R] w fun e' w' => e' = .returned (.tuple #[(if A then exV 2 false 0 0 0 false else rootI T e), .int .i64 0]) ∧ Below w.heap.size w w' := by
  by_cases a : A
  · refine ⟨2, false, 0, 0, 0, false, by rw [if_pos a], fun w => ?_⟩
    rw [if_pos a]
    exact exact12_ok 2 false 0 0 0 false (by decide) (by decide) rfl w
  · obtain ⟨k, neg, s, hi, lo, rest, e1, e2, e3, e4, e5⟩ := root12_exI T e h
    refine ⟨k, neg, s, hi, lo, rest, by rw [if_neg a]; exact e1, fun w => ?_⟩
    rw [if_neg a, ← e5]
    exact exact12_ok k neg s hi lo rest e3 e4 e2 w
theorem sq_nonneg' (x y : Int) : 0 ≤ x * x + y * y := by
  have h : ∀ z : Int, 0 ≤ z * z := fun z => by
    rcases Int.le_total 0 z with c | c
    · exact Int.mul_nonneg c c
    · exact Int.mul_nonneg_of_nonpos_of_nonpos c c
  have := h x
  have := h y
  omega
set_option maxHeartbeats 2000000 in
theorem hypot13_ok (n a b : Nat) (hn : Wd n) (ha : a < 2 ^ 64) (hb : b < 2 ^ 64) (w : World) :
    Calls Tryz.prog 15 #[.int .i64 n, .int .u64 a, .int .u64 b] w fun e w' => e = .returned (.tuple #[.int .u64 (patH n a b : Nat), .int .i64 0]) ∧ Below w.heap.size w w' := by
  have kis := is_width n
  rw [isW_of hn] at kis
  have k1 := product13_self n a hn ha
  have k2 := product13_self n b hn hb
  obtain ⟨K, B, S, H, L, hform, hs, hh, hl, hp⟩ := prod_parts n a a hn ha ha
  obtain ⟨K', B', S', H', L', hform', hs', hh', hl', hp'⟩ := prod_parts n b b hn hb hb
  have k4 := sum9_any K B S H L K' B' S' H' L' hh hl hh' hl' hs hs'
  rw [sum_parts hp hp'] at k4
  have k5 := round_root n (valI n a * valI n a + valI n b * valI n b) (eN + eN) ((vK n a = 2 ∨ vK n a = 2) ∨ (vK n b = 2 ∨ vK n b = 2)) hn
  rw [← patH_if] at k5
  obtain ⟨K2, B2, S2, H2, L2, R2, hform2, k6⟩ := root_sum (valI n a * valI n a + valI n b * valI n b) (eN + eN) ((vK n a = 2 ∨ vK n a = 2) ∨ (vK n b = 2 ∨ vK n b = 2)) (sq_nonneg' _ _) w
  obtain ⟨K3, B3, S3, H3, L3, R3, hform3⟩ := form_if (A := (vK n a = 2 ∨ vK n a = 2) ∨ (vK n b = 2 ∨ vK n b = 2)) ⟨2, false, 0, 0, 0, false, rfl⟩ (rootI_form (valI n a * valI n a + valI n b * valI n b) (eN + eN))
  rw [hform2] at k4
  rw [hform3] at k5 k6
  rw [hform] at k1
  rw [hform'] at k2
  clear hform hform' hform2 hform3 hp hp' hs hs' hh hh' hl hl' hn ha hb
  unfold exV at *
  generalize patH n a b = P at *
  refine cps fun Q hQ => ?_
  go_enter Tryz.func15, Tryz.ntmps15
  go_wp2_with (first
    | (go_at_call 21; refine (kis _).mono ?_; rintro e wx ⟨rfl, hwx⟩; rw [hwx]; clear hwx wx)
    | (go_at_call_of 27 a; go_must (refine (k1 _).mono ?_); rintro e w1 ⟨rfl, hb1⟩; have HB1 : Hid (Below _ _ _) := hb1; clear hb1)
    | (go_at_call_of 27 b; go_must (refine (k2 _).mono ?_); rintro e w2 ⟨rfl, hb2⟩; have HB2 : Hid (Below _ _ _) := hb2; clear hb2)
    | (go_at_call 26; go_must (refine (k4 _).mono ?_); rintro e w3 ⟨rfl, hb3⟩; have HB3 : Hid (Below _ _ _) := hb3; clear hb3)
    | (go_at_call 30; go_must (refine (k6 _).mono ?_); rintro e w4 ⟨rfl, hb4⟩; have HB4 : Hid (Below _ _ _) := hb4; clear hb4)
    | (go_at_call 25; go_must (refine (k5 _).mono ?_); rintro e w5 ⟨rfl, hb5⟩; have R5_0 := (hb5.block (w4.heap.size) (by first | (simp; done) | (simp; omega) | omega)).trans (rownew' _ _ _ _ (by simp)); have z5_0 : w4.heap.size < w5.heap.size := Nat.lt_of_lt_of_le (by first | (simp; done) | (simp; omega) | omega) hb5.size; have HR5_0 : Hid _ := R5_0; clear R5_0; have HB5 : Hid (Below _ _ _) := hb5; clear hb5))
  exact hQ.out _ _ ⟨rfl, cthen (cmore (cthen (cthen (cthen (cthen (Below.refl _ _) HB1.out) HB2.out) HB3.out) HB4.out) _) HB5.out⟩
end Go.Proofs.YtheliihkkoohnaaGreat
