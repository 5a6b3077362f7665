import Derived.Test.YtllahgcifichbaaJoin5
import Derived.Test.YtllahgcifichbaaJoin1
import Derived.Lib.SmallJoins
namespace Go.Proofs.Ytllahgcifichbaa
open Go.ChangeShapes Go.WideShapes Go.ChangeAt Go.RowKit
set_option linter.unusedVariables false
set_option linter.unusedSimpArgs false
set_option maxRecDepth 100000

set_option maxHeartbeats 4000000 in
theorem exact12_real (k : Int) (neg : Bool) (s : Int) (hi lo : Nat) (rest : Bool) (hh : hi < 2 ^ 64) (hl : lo < 2 ^ 64) (h1 : soundX k neg s hi lo rest = true) (hk : k = 1) (hn : neg = false) (w : World) :
    Calls Try.prog 9 #[exV k neg s hi lo rest] w fun e w' => e = .returned (.tuple #[exV 1 false (s / 2) (rtH (mR s (manX hi lo))) 0 (rtR (mR s (manX hi lo)) || rest), .int .i64 0]) ∧ Below w.heap.size w w' := by
  subst hk hn
  have hs : 9223372036854775808 ≤ hi ∧ -1099511627776 ≤ s ∧ s ≤ 1099511627776 := by
    unfold soundX at h1; rw [if_neg (by decide)] at h1; exact (of_decide_eq_true h1).2
  have k1 := sound7_any 1 false s hi lo rest
  rw [h1] at k1
  have wd : WordsX hi lo := ⟨hs.1, hh, hl⟩
  obtain ⟨m1, m2⟩ := mR_size s wd.mant
  have kh := half12_any s hs.2
  have tw : Tw (manX hi lo) hi lo := ⟨by unfold manX; omega, by omega, by omega⟩
  have k2 := rof_any tw
  obtain ⟨j, hj⟩ : ∃ j, j = 13 + (s % 2).toNat := ⟨_, rfl⟩
  have hj2 : j ≤ 14 := by omega
  have hM := wd.mant.2
  have k3 := fun v w hr => nshl_anyq v (manX hi lo) j (by omega) (Nat.le_trans (dlen_small (Nat.lt_of_lt_of_le hM (by decide))) (by decide)) w hr
  rw [show manX hi lo * 2 ^ j = mR s (manX hi lo) by rw [hj]; rfl] at k3
  obtain ⟨hf, hhf⟩ : ∃ hf, hf = s / 2 := ⟨_, rfl⟩
  rw [← hhf] at kh
  rw [← hhf]
  have k4 := rt_exact m1 m2 hf (by omega)
  have k5 := rt_rest m2 rest
  have k6 := fun v w hr => exactly7_any false v (rtN (mR s (manX hi lo))) (hf - 70) false (by
    obtain ⟨_, b, _⟩ := rt_words m1 m2
    exact Nat.le_trans (blen_le.2 b) (by decide)) (by omega) w hr
  rw [k4] at k6
  have k7 := cut11_any 1 false hf (rtH (mR s (manX hi lo))) (rtN (mR s (manX hi lo)) % 2 ^ 7 * 2 ^ 57) false
  have hstart := rtF_ok (mR s (manX hi lo))
  generalize mR s (manX hi lo) = m at *
  generalize manX hi lo = M at *
  have hdm : dlen m ≤ 1099511627776 := Nat.le_trans (dlen_small (Nat.lt_of_lt_of_le m2 (by decide))) (by decide)
  have e0 : IntKind.i64.wrap (13 + s) = 13 + s := wrapI (by omega)
  have e1 : IntKind.i64.wrap (2 * hf) = 2 * hf := wrapI (by omega)
  have e1' : IntKind.i64.wrap (hf * 2) = 2 * hf := by rw [Int.mul_comm]; exact e1
  have e2 : IntKind.i64.wrap (j : Int) = (j : Int) := wrapI (by omega)
  have e2' : 13 + s - 2 * hf = (j : Int) := by omega
  have e3 : IntKind.i64.wrap (hf - 70) = hf - 70 := wrapI (by omega)
  have K5 : Hid _ := k5
  have HN : Hid (rtF m 0 71 = rtN m) := rfl
  have HM2 : Hid (m < 2 ^ 142) := m2
  clear h1 hs wd m1 m2 tw hj hj2 hM hhf k4 k5 hh hl hstart
  unfold exV at *
  rw [show ((0 : Nat) : Int) = 0 from rfl] at *
  refine cps fun Q hQ => ?_
  go_enter Try.func9, Try.ntmps9
  go_wp2_with (first
    | (go_at_call 25; go_must (refine (k1 _).mono ?_); rintro e w1 ⟨rfl, hb1⟩; have R1_0 := (hb1.block (w.heap.size) (by first | (simp; done) | (simp; omega) | omega)).trans ((Below.heap_alloc _ _ _ (by first | (simp; done) | (simp; omega) | omega)).trans (rownew' _ _ _ _ (by simp))); have z1_0 : w.heap.size < w1.heap.size := Nat.lt_of_lt_of_le (by first | (simp; done) | (simp; omega) | omega) hb1.size; have c1_0_0 := rowcell R1_0 0; have c1_0_1 := rowcell R1_0 1; have c1_0_2 := rowcell R1_0 2; have c1_0_3 := rowcell R1_0 3; have c1_0_4 := rowcell R1_0 4; have c1_0_5 := rowcell R1_0 5; simp only [List.getElem?_toArray, List.getElem?_cons_zero, List.getElem?_cons_succ] at c1_0_0 c1_0_1 c1_0_2 c1_0_3 c1_0_4 c1_0_5; have HR1_0 : Hid _ := R1_0; clear R1_0; have R1_1 := (hb1.block (w.heap.size + 1) (by first | (simp; done) | (simp; omega) | omega)).trans (rownew' _ _ _ _ (by simp)); have z1_1 : w.heap.size + 1 < w1.heap.size := Nat.lt_of_lt_of_le (by first | (simp; done) | (simp; omega) | omega) hb1.size; have HR1_1 : Hid _ := R1_1; clear R1_1; have HB1 : Hid (Below _ _ _) := hb1; clear hb1)
    | (go_at_call 26; refine (kh _).mono ?_; rintro e wx ⟨rfl, hwx⟩; rw [hwx]; clear hwx wx))
  have cls : ∀ W, Below w1.heap.size w1 W → W.cell? ⟨w.heap.size, 2, none⟩ = some (.int .i64 s) ∧ W.cell? ⟨w.heap.size, 3, none⟩ = some (.int .u64 hi) ∧ W.cell? ⟨w.heap.size, 4, none⟩ = some (.int .u64 lo) := fun W hW => ⟨(hW.cell (p := ⟨w.heap.size, 2, none⟩) z1_0).trans c1_0_2, (hW.cell (p := ⟨w.heap.size, 3, none⟩) z1_0).trans c1_0_3, (hW.cell (p := ⟨w.heap.size, 4, none⟩) z1_0).trans c1_0_4⟩
  refine wpC_region (fun W => W.cell? ⟨w.heap.size, 2, none⟩ = some (.int .i64 s) ∧ W.cell? ⟨w.heap.size, 3, none⟩ = some (.int .u64 hi) ∧ W.cell? ⟨w.heap.size, 4, none⟩ = some (.int .u64 lo)) (by kernel_rfl) ?_
  refine wpC_take 0 (v := ?_) rfl (by kernel_rfl) (fun _ _ _ h => h) (by kernel_rfl) ?_ ?_; rotate_left; · (intro wC hC; obtain ⟨c1, c2, c3⟩ := hC; go_simp <;> with_reducible rfl)
  refine wpC_take 1 (v := ?_) rfl (by kernel_rfl) (fun _ _ _ h => h) (by kernel_rfl) ?_ ?_; rotate_left; · (intro wC hC; obtain ⟨c1, c2, c3⟩ := hC; go_simp <;> with_reducible rfl)
  refine wpC_take 2 (v := ?_) rfl (by kernel_rfl) (fun _ _ _ h => h) (by kernel_rfl) ?_ ?_; rotate_left; · (intro wC hC; obtain ⟨c1, c2, c3⟩ := hC; go_simp <;> with_reducible rfl)
  refine wpC_take 3 (v := ?_) rfl (by kernel_rfl) (fun _ _ _ h => h) (by kernel_rfl) ?_ ?_; rotate_left; · (intro wC hC; obtain ⟨c1, c2, c3⟩ := hC; go_simp <;> with_reducible rfl)
  refine wpC_take 4 (v := ?_) rfl (by kernel_rfl) (fun _ _ _ h => h) (by kernel_rfl) ?_ ?_; rotate_left; · (intro wC hC; obtain ⟨c1, c2, c3⟩ := hC; go_simp <;> with_reducible rfl)
  refine wpC_take 6 (v := ?_) rfl (by kernel_rfl) (fun _ _ _ h => h) (by kernel_rfl) ?_ ?_; rotate_left; · (intro wC hC; obtain ⟨c1, c2, c3⟩ := hC; go_simp <;> with_reducible rfl)
  refine wpC_take 7 (v := ?_) rfl (by kernel_rfl) (fun _ _ _ h => h) (by kernel_rfl) ?_ ?_; rotate_left; · (intro wC hC; obtain ⟨c1, c2, c3⟩ := hC; go_simp <;> with_reducible rfl)
  refine wpC_take 8 (v := ?_) rfl (by kernel_rfl) (fun _ _ _ h => h) (by kernel_rfl) ?_ ?_; rotate_left; · (intro wC hC; obtain ⟨c1, c2, c3⟩ := hC; go_simp <;> with_reducible rfl)
  refine wpC_take 9 (v := ?_) rfl (by kernel_rfl) (fun _ _ _ h => h) (by kernel_rfl) ?_ ?_; rotate_left; · (intro wC hC; obtain ⟨c1, c2, c3⟩ := hC; go_simp <;> with_reducible rfl)
  refine wpC_take 10 (v := ?_) rfl (by kernel_rfl) (fun _ _ _ h => h) (by kernel_rfl) ?_ ?_; rotate_left; · (intro wC hC; obtain ⟨c1, c2, c3⟩ := hC; go_simp <;> with_reducible rfl)
  refine wpC_take 11 (v := ?_) rfl (by kernel_rfl) (fun _ _ _ h => h) (by kernel_rfl) ?_ ?_; rotate_left; · (intro wC hC; obtain ⟨c1, c2, c3⟩ := hC; go_simp <;> with_reducible rfl)
  have b1 := cdrew (Below.refl w1.heap.size w1)
  refine wpC_step 5 rfl (by kernel_rfl) (by kernel_rfl) (cls _ b1) (fun K hK => ?_)
  go_simp
  go_wp2_with ((go_at_call 28; go_must (refine (k2 _).mono ?_); rintro e w2 ⟨v2, rfl, hr2, hb2⟩))
  try (refine hK _ _ ?_; clear hK K)
  have b2 : Below w1.heap.size w1 w2 := cthen b1 hb2
  refine wpC_step 12 rfl (by kernel_rfl) (by kernel_rfl) (cls _ b2) (fun K hK => ?_)
  go_simp
  go_wp2_with ((go_at_call 27; go_must (refine (k3 _ _ hr2).mono ?_); rintro e w3 ⟨v3, rfl, hr3, hb3⟩))
  try (refine hK _ _ ?_; clear hK K)
  have b3 : Below w1.heap.size w1 w3 := cthen b2 hb3
  refine wpC_take 13 (v := ?_) rfl (by kernel_rfl) (fun _ _ _ h => h) (by kernel_rfl) ?_ ?_; rotate_left; · (intro wC hC; obtain ⟨c1, c2, c3⟩ := hC; go_simp <;> with_reducible rfl)
  refine wpC_done (by kernel_rfl) (cls _ b3) ?_
  have HV3 : Hid (Row w3 v3 (dig m)) := hr3
  have HB3 : Hid (Below w1.heap.size w1 w3) := b3
  have zz : w1.heap.size ≤ w3.heap.size := b3.size
  clear cls b1 b2 b3 hb2 hb3 hr2 hr3 k2 k3 kh
  go_wp2
  go_loopw [7, 8] (fun rv kv wr => ∃ (k r : Nat), k ≤ 71 ∧ kv = .int .i64 ((k : Int) - 1) ∧ Hid (rtF m r k = rtN m) ∧ Hid (r * r ≤ m) ∧ Row wr rv (dig r) ∧ Hid (Below w3.heap.size w3 wr)) (fun _ kv _ => (intOf kv + 1).toNat)
  case atStart => exact ⟨71, 0, by decide, rfl, HN.out, Nat.zero_le _, by rw [dig_zero]; exact row_nil _, Below.refl _ _⟩
  case round =>
    obtain ⟨k, r, hk, rfl, hrt, hrm, hrow, hbel⟩ := hrel
    have hr71 : r < 2 ^ 71 := by
      have h1 := hrm.out
      have h2 := HM2.out
      have : r ≤ 2 ^ 71 - 1 := sq_le' (by rw [Nat.sub_add_cancel (by decide), ← Nat.pow_add]; exact Nat.lt_of_le_of_lt h1 h2)
      have h0 : 0 < 2 ^ 71 := by decide
      omega
    by_cases h0 : 0 < k
    · obtain ⟨i, rfl⟩ : ∃ i, k = i + 1 := ⟨k - 1, by omega⟩
      rw [show ((i + 1 : Nat) : Int) - 1 = (i : Int) by omega]
      obtain ⟨more, hmore⟩ : ∃ x, x = r + 2 ^ i := ⟨_, rfl⟩
      have hi70 : 2 ^ i ≤ 2 ^ 70 := Nat.pow_le_pow_right (by decide) (by omega)
      have hm72 : more < 2 ^ 72 := by omega
      have hq144 : more * more < 2 ^ 144 := by
        have := Nat.mul_lt_mul_of_lt_of_lt hm72 hm72
        rwa [← Nat.pow_add] at this
      have kshl := fun v w hr => nshl_anyq v 1 i (by omega) (Nat.le_trans (dlen_small (by decide)) (by decide)) w hr
      rw [Nat.one_mul] at kshl
      have kadd := fun va vb w ha hb => nadd_anyq va vb r (2 ^ i) (Nat.le_trans (dlen_small (by omega)) (by decide)) w ha hb
      rw [← hmore] at kadd
      have hdm2 : dlen more ≤ 1099511627776 := Nat.le_trans (dlen_small (by omega)) (by decide)
      have kmul := fun va vb w ha hb => nmul_anyq va vb more more hdm2 hdm2 w ha hb
      have kcmp := fun va vb w ha hb => ncmp_anyq va vb (more * more) m w ha hb
      have hcx : ∃ c : Int, c = cmpN (more * more) m ∧ ((decide (c ≤ 0) = true ∧ more * more ≤ m) ∨ (decide (c ≤ 0) = false ∧ m < more * more)) := by
        refine ⟨_, rfl, ?_⟩
        rcases Nat.lt_trichotomy (more * more) m with g | g | g
        · rw [cmpN_lt g]; exact .inl ⟨by decide, by omega⟩
        · rw [g, cmpN_eq]; exact .inl ⟨by decide, Nat.le_refl _⟩
        · rw [cmpN_gt g]; exact .inr ⟨by decide, g⟩
      obtain ⟨c, hc, hcc⟩ := hcx
      rw [← hc] at kcmp
      have HR : Hid (Row wr _ (dig r)) := hrow
      have HMO : Hid (more = r + 2 ^ i) := hmore
      obtain ⟨ti, hti⟩ : ∃ x, x = 2 ^ i := ⟨_, rfl⟩
      rw [← hti] at kshl kadd
      clear hc hrow hmore hi70 hm72 hq144 hdm2 hr71 h0 hti
      rcases hcc with ⟨dc, hle⟩ | ⟨dc, hle⟩
      · have HLE : Hid _ := hle
        clear hle
        go_wp2_with (first
          | (go_at_call 27; go_must (refine (kshl _ _ (one_lit _)).mono ?_); rintro e w4 ⟨v4, rfl, hr4, hb4⟩; have HR4 : Hid (Row w4 v4 (dig ti)) := hr4; have HB4 : Hid (Below wr.heap.size wr w4) := cthen (cmore (Below.refl _ _) _) hb4; clear hr4 hb4)
          | (go_at_call 29; go_must (refine (kadd _ _ _ (HR.out.below HB4.out) HR4.out).mono ?_); rintro e w5 ⟨v5, rfl, hr5, hb5⟩; have HR5 : Hid (Row w5 v5 (dig more)) := hr5; have HB5 : Hid (Below wr.heap.size wr w5) := cthen HB4.out hb5; clear hr5 hb5)
          | (go_at_call 30; go_must (refine (kmul _ _ _ HR5.out HR5.out).mono ?_); rintro e w6 ⟨v6, rfl, hr6, hb6⟩; have HR6 : Hid (Row w6 v6 (dig (more * more))) := hr6; have HB6 : Hid (Below wr.heap.size wr w6) := cthen HB5.out hb6; have HB56 : Hid (Below w5.heap.size w5 w6) := hb6; clear hr6 hb6)
          | (go_at_call 31; go_must (refine (kcmp _ _ _ HR6.out (HV3.out.below (cthen hbel.out HB6.out))).mono ?_); rintro e w7 ⟨rfl, q7, rfl⟩))
        go_roundw
        case measure => simp [intOf]
        case rel => exact ⟨i, more, by omega, by go_num, (rtF_yes HMO.out HLE.out hrt.out), HLE.out, (HR5.out.below HB56.out).below (bdrewN' (Below.refl _ _) _), bdrewN' (cthen hbel.out HB6.out) _⟩
      · have HLE : Hid _ := hle
        clear hle
        go_wp2_with (first
          | (go_at_call 27; go_must (refine (kshl _ _ (one_lit _)).mono ?_); rintro e w4 ⟨v4, rfl, hr4, hb4⟩; have HR4 : Hid (Row w4 v4 (dig ti)) := hr4; have HB4 : Hid (Below wr.heap.size wr w4) := cthen (cmore (Below.refl _ _) _) hb4; clear hr4 hb4)
          | (go_at_call 29; go_must (refine (kadd _ _ _ (HR.out.below HB4.out) HR4.out).mono ?_); rintro e w5 ⟨v5, rfl, hr5, hb5⟩; have HR5 : Hid (Row w5 v5 (dig more)) := hr5; have HB5 : Hid (Below wr.heap.size wr w5) := cthen HB4.out hb5; clear hr5 hb5)
          | (go_at_call 30; go_must (refine (kmul _ _ _ HR5.out HR5.out).mono ?_); rintro e w6 ⟨v6, rfl, hr6, hb6⟩; have HR6 : Hid (Row w6 v6 (dig (more * more))) := hr6; have HB6 : Hid (Below wr.heap.size wr w6) := cthen HB5.out hb6; have HB56 : Hid (Below w5.heap.size w5 w6) := hb6; clear hr6 hb6)
          | (go_at_call 31; go_must (refine (kcmp _ _ _ HR6.out (HV3.out.below (cthen hbel.out HB6.out))).mono ?_); rintro e w7 ⟨rfl, q7, rfl⟩))
        go_roundw
        case measure => simp [intOf]
        case rel => exact ⟨i, r, by omega, by go_num, (rtF_no HMO.out HLE.out hrt.out), hrm.out, (HR.out.below HB6.out).below (bdrewN' (Below.refl _ _) _), bdrewN' (cthen hbel.out HB6.out) _⟩
    · have hk0 : k = 0 := by omega
      subst hk0
      rw [show ((0 : Nat) : Int) - 1 = -1 from rfl]
      have hrn : r = rtN m := hrt.out
      have k5 := K5.out
      rw [← hrn] at k5 k6 k7
      have hdr : dlen r ≤ 1099511627776 := Nat.le_trans (dlen_small (by omega)) (by decide)
      have kmul := fun va vb w ha hb => nmul_anyq va vb r r hdr hdr w ha hb
      have kcmp := fun va vb w ha hb => ncmp_anyq va vb (r * r) m w ha hb
      have hcx : ∃ (c : Int) (lf : Bool), c = cmpN (r * r) m ∧ decide (r * r ≠ m) = lf ∧ ((c = 0 ∧ lf = false) ∨ (c = -1 ∧ lf = true)) := by
        refine ⟨_, _, rfl, rfl, ?_⟩
        by_cases g : r * r = m
        · rw [g, cmpN_eq]; exact .inl ⟨rfl, decide_eq_false (fun c => c rfl)⟩
        · have := hrm.out
          rw [cmpN_lt (by omega)]; exact .inr ⟨rfl, decide_eq_true g⟩
      obtain ⟨c, lf, hc, hlf, hcc⟩ := hcx
      rw [← hc] at kcmp
      rw [hlf] at k5
      rw [← k5] at hQ
      obtain ⟨R1, hR1⟩ : ∃ x, x = (false || decide (r % 2 ^ 7 * 2 ^ 57 ≠ 0)) := ⟨_, rfl⟩
      rw [← hR1] at hQ k7
      obtain ⟨L1, hL1⟩ : ∃ x, x = r % 2 ^ 7 * 2 ^ 57 := ⟨_, rfl⟩
      rw [← hL1] at k6 k7
      clear hR1 hL1
      generalize rtH m = H at *
      have HR : Hid (Row wr _ (dig r)) := hrow
      have HB : Hid (Below w1.heap.size w1 wr) := HB3.out.trans (hbel.out.mono zz)
      have HV : Hid (Row wr v3 (dig m)) := HV3.out.below hbel.out
      clear hrow hc hlf hrn hrt hrm k5 hdr hdm hr71 h0 hk hbel HV3 HB3 HN HM2 K5
      cases R1
      all_goals cases rest
      all_goals rcases hcc with ⟨rfl, rfl⟩ | ⟨rfl, rfl⟩
      all_goals
        go_upto_region 22 with (first
          | (go_at_call 30; go_must (refine (kmul _ _ _ HR.out HR.out).mono ?_); rintro e w4 ⟨v4, rfl, hr4, hb4⟩; have HR4 : Hid (Row w4 v4 (dig (r * r))) := hr4; have HB4 : Hid (Below wr.heap.size wr w4) := hb4; clear hr4 hb4)
          | (go_at_call 31; go_must (refine (kcmp _ _ _ HR4.out (HV.out.below HB4.out)).mono ?_); rintro e w4q ⟨rfl, q4, hq4⟩; have HB5 : Hid (Below wr.heap.size wr w4q) := (by show Below _ _ _; rw [hq4]; exact bdrewN' HB4.out _); clear hq4)
          | (go_at_call 32; go_must (refine (k6 _ _ (HR.out.below HB5.out)).mono ?_); rintro e w5 ⟨rfl, hb5⟩; have HB6 : Hid (Below w1.heap.size w1 w5) := cthen (cthen HB.out HB5.out) hb5; have R0 := (HB6.out.block w.heap.size z1_0).trans HR1_0.out; have R1 := (HB6.out.block (w.heap.size + 1) z1_1).trans HR1_1.out; have y0 : w.heap.size < w5.heap.size := Nat.lt_of_lt_of_le z1_0 HB6.out.size; have y1 : w.heap.size + 1 < w5.heap.size := Nat.lt_of_lt_of_le z1_1 HB6.out.size; have HX0 : Hid _ := R0; have HX1 : Hid _ := R1; clear hb5 R0 R1)
          | (go_at_call 33; go_must (refine (k7 _).mono ?_); rintro e w6 ⟨rfl, hb6⟩; have R0 := (hb6.block w.heap.size (by first | (simp; done) | (simp; omega) | omega)).trans ((Below.heap_alloc w5 _ _ y0).trans HX0.out); have R1 := (hb6.block (w.heap.size + 1) (by first | (simp; done) | (simp; omega) | omega)).trans ((Below.heap_alloc w5 _ _ y1).trans HX1.out); have R2 := (hb6.block w5.heap.size (by first | (simp; done) | (simp; omega) | omega)).trans (rownew w5 _ _); have x5 := rowcell R0 5; simp only [List.getElem?_toArray, List.getElem?_cons_zero, List.getElem?_cons_succ] at x5; have l0 := rowcell R2 0; have l1 := rowcell R2 1; have l2 := rowcell R2 2; have l3 := rowcell R2 3; have l4 := rowcell R2 4; have l5 := rowcell R2 5; have lf := rowfree R2; simp only [List.getElem?_toArray, List.getElem?_cons_zero, List.getElem?_cons_succ] at l0 l1 l2 l3 l4 l5; have n1 : ¬ w.heap.size = w5.heap.size := (by omega); have n2 : ¬ w.heap.size + 1 = w5.heap.size := (by omega); have n3 : ¬ w5.heap.size = w.heap.size := (by omega); have n4 : ¬ w5.heap.size = w.heap.size + 1 := (by omega); have y6 : w5.heap.size < w6.heap.size := Nat.lt_of_lt_of_le (by first | (simp; done) | (simp; omega) | omega) hb6.size; have y7 : w.heap.size + 1 < w6.heap.size := (by omega); have HB7 : Hid (Below w1.heap.size w1 w6) := cthen (cmore HB6.out _) hb6; have HR1 : Hid _ := R1; have HR2 : Hid _ := R2; clear hb6 R0 R1 R2))
        generalize hW7 : World.setCell _ _ _ = W7
        have RA := row7' hW7 HR2.out
        have BA := bset7' hW7
        have RB := (BA.block (w.heap.size + 1) y1).trans HR1.out
        have HBW : Hid (Below w1.heap.size w1 W7) := HB7.out.trans (BA.mono HB6.out.size)
        clear l0 l1 l2 l3 l4 l5 lf x5 hW7
        have yW : w.heap.size + 1 < W7.heap.size := Nat.lt_of_lt_of_le y7 BA.size
        have l0 := rowcell RA 0; have l1 := rowcell RA 1; have l2 := rowcell RA 2; have l3 := rowcell RA 3; have l4 := rowcell RA 4; have l5 := rowcell RA 5; have lf := rowfree RA; simp only [List.getElem?_toArray, List.getElem?_cons_zero, List.getElem?_cons_succ] at l0 l1 l2 l3 l4 l5
        have r0 := rowcell RB 0; have r1 := rowcell RB 1; have r2 := rowcell RB 2; have r3 := rowcell RB 3; have r4 := rowcell RB 4; have r5 := rowcell RB 5; have rf := rowfree RB; simp only [List.getElem?_toArray, List.getElem?_cons_zero, List.getElem?_cons_succ] at r0 r1 r2 r3 r4 r5
        clear RA RB BA
        go_wp2
        refine bodyPost_ret ?_ rfl (hQ.out _ _ ⟨rfl, ?_⟩)
        · simp [results, Try.results9, go_sem, r0, r1, r2, r3, r4, r5, rf, yW]
        · exact cset6 (cthen (cthen (cmore (cmore (Below.refl _ _) _) _) HB1.out) HBW.out) (by omega)
theorem soundX_kinds {k : Int} {neg : Bool} {s : Int} {hi lo : Nat} {rest : Bool} (h : soundX k neg s hi lo rest = true) : (k = 0 ∧ neg = false) ∨ (k = 2 ∧ neg = false) ∨ k = 1 := by
  rcases soundX_cases h with ⟨a, b, _⟩ | ⟨a, b, _⟩ | a
  · exact .inl ⟨a, b⟩
  · exact .inr (.inl ⟨a, b⟩)
  · exact .inr (.inr a)
theorem exact12_ok (k : Int) (neg : Bool) (s : Int) (hi lo : Nat) (rest : Bool) (hh : hi < 2 ^ 64) (hl : lo < 2 ^ 64) (h : soundX k neg s hi lo rest = true) (w : World) :
    Calls Try.prog 9 #[exV k neg s hi lo rest] w fun e w' => e = .returned (.tuple #[root12 k neg s hi lo rest, .int .i64 0]) ∧ Below w.heap.size w w' := by
  unfold root12
  by_cases a2 : k = 2
  · rw [if_pos (.inl a2)]; exact exact12_nar1 k neg s hi lo rest h a2 w
  · by_cases an : neg = true
    · rw [if_pos (.inr an)]; exact exact12_nar2 k neg s hi lo rest h a2 an w
    · rw [if_neg (by rintro (c | c); exact a2 c; exact an c)]
      have an' : neg = false := by cases neg; rfl; exact absurd rfl an
      by_cases a0 : k = 0
      · rw [if_pos a0]; exact exact12_zero k neg s hi lo rest h a0 an' w
      · rw [if_neg a0]
        have a1 : k = 1 := by
          rcases soundX_kinds h with ⟨c, _⟩ | ⟨c, _⟩ | c
          · exact absurd c a0
          · exact absurd c a2
          · exact c
        exact exact12_real k neg s hi lo rest hh hl h a1 an' w
theorem root_pat (n a : Nat) (hn : Wd n) (ha : a < 2 ^ 64) (w : World) :
    Calls Try.prog 66 #[.int .i64 n, root12 (vK n a) (vB n a) (vS n a) (vF n a) 0 false] w fun r w' => r = .returned (.int .u64 (patT2 n a : Nat)) ∧ Below w.heap.size w w' := by
  refine round7_via n _ _ (root12_form _ _ _ _ _ _) (fun w => ?_) w
  unfold root12 patT2
  by_cases h : vK n a = 2 ∨ vB n a = true
  · rw [if_pos h, if_pos h]
    exact rounds7_plain n 2 (2 ^ (n - 1)) w (cut7_nar n hn)
  · rw [if_neg h, if_neg h]
    by_cases h0 : vK n a = 0
    · rw [if_pos h0, if_pos h0]
      exact rounds7_plain n 0 0 w (cut7_zero n hn)
    · rw [if_neg h0, if_neg h0, Bool.or_false]
      have a1 := real_or n a hn (fun c => h (.inl c)) h0
      obtain ⟨_, _, _, _, _, _, wa, s1, s2⟩ := v_real n a hn ha a1
      have hw := wd_le hn
      obtain ⟨m1, m2⟩ := mR_size (vS n a) wa.mant
      have wd := (rt_words m1 m2).2.2
      unfold mgT
      refine rounds7_real n _ _ _ 0 _ hn ?_ wd w
      unfold soundX
      rw [if_neg (by decide)]
      exact decide_eq_true ⟨rfl, wd.top, by omega, by omega⟩
theorem sqrt12_any (n a : Nat) (hn : Wd n) (ha : a < 2 ^ 64) (w : World) :
    Calls Try.prog 37 #[.int .i64 n, .int .u64 a] w fun e w' => e = .returned (.int .u64 (patT2 n a : Nat)) ∧ Below w.heap.size w w' := by
  have k1 := decode6_v n a hn ha
  have k2 := of7_ok (vK n a) (vB n a) (vS n a) (vF n a) (sound_v n a hn ha)
  have hfl : vF n a < 2 ^ 64 := by
    by_cases k1' : vK n a = 1
    · exact (v_real n a hn ha k1').2.2.2.2.2.2.1.hi64
    · rw [(v_other n a k1').2.2]; decide
  have hsx : soundX (vK n a) (vB n a) (vS n a) (vF n a) 0 false = true := by
    by_cases k1' : vK n a = 1
    · obtain ⟨_, _, _, _, _, _, wa, s1, s2⟩ := v_real n a hn ha k1'
      have hw := wd_le hn
      unfold soundX
      rw [k1', if_neg (by decide)]
      exact decide_eq_true ⟨rfl, wa.top, by omega, by omega⟩
    · obtain ⟨e1, e2, e3⟩ := v_other n a k1'
      unfold soundX
      rw [e1, e2, e3]
      rcases v_kinds n a hn with ⟨c, _⟩ | c | ⟨c, _⟩
      · rw [c]; rfl
      · exact absurd c k1'
      · rw [c]; rfl
  have k3 := exact12_ok (vK n a) (vB n a) (vS n a) (vF n a) 0 false hfl (by decide) hsx
  have k4 := root_pat n a hn ha
  obtain ⟨K, B, S, H, L, R, hform⟩ := root12_form (vK n a) (vB n a) (vS n a) (vF n a) 0 false
  rw [hform] at k3 k4
  clear hn ha hfl hsx hform
  unfold numV exV at *
  rw [show ((0 : Nat) : Int) = 0 from rfl] at *
  generalize patT2 n a = P at *
  generalize vK n a = k at *
  generalize vB n a = b at *
  generalize vS n a = s at *
  generalize vF n a = f at *
  refine cps fun Q hQ => ?_
  go_enter Try.func37, Try.ntmps37
  go_wp2_with (first
    | (go_at_call 15; go_must (refine (k1 _).mono ?_); rintro e w1 ⟨rfl, hb1⟩; have HB1 : Hid (Below _ _ _) := hb1; clear hb1)
    | (go_at_call 18; go_must (refine (k2 _).mono ?_); rintro e w2 ⟨rfl, hb2⟩; have HB2 : Hid (Below _ _ _) := hb2; clear hb2)
    | (go_at_call 9; go_must (refine (k3 _).mono ?_); rintro e w3 ⟨rfl, hb3⟩; have R3_0 := (hb3.block (w2.heap.size) (by first | (simp; done) | (simp; omega) | omega)).trans (rownew' _ _ _ _ (by simp)); have z3_0 : w2.heap.size < w3.heap.size := Nat.lt_of_lt_of_le (by first | (simp; done) | (simp; omega) | omega) hb3.size; have HR3_0 : Hid _ := R3_0; clear R3_0; have HB3 : Hid (Below _ _ _) := hb3; clear hb3)
    | (go_at_call 66; go_must (refine (k4 _).mono ?_); rintro e w4 ⟨rfl, hb4⟩; have R4_0 := (hb4.block (w2.heap.size) (by first | (simp; done) | (simp; omega) | omega)).trans ((Below.heap_alloc _ _ _ (by first | (simp; done) | (simp; omega) | omega)).trans HR3_0.out); have z4_0 : w2.heap.size < w4.heap.size := Nat.lt_of_lt_of_le (by first | (simp; done) | (simp; omega) | omega) hb4.size; have HR4_0 : Hid _ := R4_0; clear R4_0; have R4_1 := (hb4.block (w3.heap.size) (by first | (simp; done) | (simp; omega) | omega)).trans (rownew' _ _ _ _ (by simp)); have z4_1 : w3.heap.size < w4.heap.size := Nat.lt_of_lt_of_le (by first | (simp; done) | (simp; omega) | omega) hb4.size; have HR4_1 : Hid _ := R4_1; clear R4_1; have HB4 : Hid (Below _ _ _) := hb4; clear hb4))
  exact hQ.out _ _ ⟨rfl, cthen (cmore (cthen (cmore (cthen (cthen (Below.refl _ _) HB1.out) HB2.out) _) HB3.out) _) HB4.out⟩
theorem sqrts12_no (n : Int) (a : Nat) (hn : isW n = false) (w : World) :
    Calls Try.prog 12 #[.int .i64 n, .int .u64 a] w fun e w' => e = .returned (.tuple #[.int .u64 0, .int .i64 2]) ∧ Below w.heap.size w w' := by
  have kis := is_width n
  rw [hn] at kis
  clear hn
  refine cps fun Q hQ => ?_
  go_enter Try.func12, Try.ntmps12
  go_wp2_with (go_at_call 13; refine (kis _).mono ?_; rintro e wx ⟨rfl, hwx⟩; rw [hwx]; clear hwx wx)
  exact hQ.out _ _ ⟨rfl, Below.refl _ _⟩
theorem sqrts12_ok (n a : Nat) (hn : Wd n) (ha : a < 2 ^ 64) (w : World) :
    Calls Try.prog 12 #[.int .i64 n, .int .u64 a] w fun e w' => e = .returned (.tuple #[.int .u64 (patT2 n a : Nat), .int .i64 0]) ∧ Below w.heap.size w w' := by
  have kis := is_width n
  rw [isW_of hn] at kis
  have k1 := sqrt12_any n a hn ha
  clear hn ha
  generalize patT2 n a = P at *
  refine cps fun Q hQ => ?_
  go_enter Try.func12, Try.ntmps12
  go_wp2_with (first
    | (go_at_call 13; refine (kis _).mono ?_; rintro e wx ⟨rfl, hwx⟩; rw [hwx]; clear hwx wx)
    | (go_at_call 37; refine (k1 _).mono ?_; rintro e w1 ⟨rfl, hb1⟩))
  exact hQ.out _ _ ⟨rfl, hb1⟩
end Go.Proofs.Ytllahgcifichbaa

namespace Go.Proofs.Ytllahgcifichbaa
open Go.ChangeShapes Go.WideShapes Go.ChangeAt Go.RowKit
set_option linter.unusedVariables false
set_option linter.unusedSimpArgs false
set_option maxRecDepth 100000

theorem nil_not_code (w : World) (c : Int) : (binOp BinOp.eql 27 .nilIface (.iface 41 (.int .i64 c))).run Try.prog w = .ok (.bool false) w := by kernel_rfl
end Go.Proofs.Ytllahgcifichbaa

namespace Go.Proofs.Ytllahgcifichbaa
open Go.ChangeShapes Go.WideShapes Go.ChangeAt Go.RowKit
set_option linter.unusedVariables false
set_option linter.unusedSimpArgs false
set_option maxRecDepth 100000

/-- the head of all laws of this layer -/
theorem rootup_any (w : World) : Calls Try.prog 7 #[] w fun e w' => e = .returned (.bool true) ∧ Below w.heap.size w w' := by
  have k1 := fun w => rootq_ok 8 80 (.inl rfl) (by decide) w
  have k2 := fun w => rootq_ok 8 192 (.inl rfl) (by decide) w
  rw [show patT2 8 80 = 72 by decide +kernel] at k1
  rw [show patT2 8 192 = 128 by decide +kernel] at k2
  rw [show ((72 : Nat) : Int) = 72 from rfl, show ((80 : Nat) : Int) = 80 from rfl, show ((8 : Nat) : Int) = 8 from rfl] at k1
  rw [show ((192 : Nat) : Int) = 192 from rfl, show ((8 : Nat) : Int) = 8 from rfl, show ((128 : Nat) : Int) = 128 from rfl] at k2
  refine cps fun Q hQ => ?_
  go_enter Try.func7, Try.ntmps7
  go_wp2_with (first
    | (go_at_call_of 11 (80 : Int); refine (k1 _).mono ?_; rintro e w1 ⟨rfl, hb1⟩)
    | (go_at_call 11; refine (k2 _).mono ?_; rintro e w2 ⟨rfl, hb2⟩))
  exact hQ.out _ _ ⟨rfl, cthen hb1 hb2⟩
end Go.Proofs.Ytllahgcifichbaa

namespace Go.Proofs.Ytllahgcifichbaa
set_option maxRecDepth 100000
open Go.ChangeShapes Go.WideShapes Go.ChangeAt Go.RowKit
set_option linter.unusedVariables false
set_option linter.unusedSimpArgs false

section
variable {H : Type} {enc : TypeId × Value → H} {P : Program} {w : World} {base : Nat} {spare : Nat → Bool} {held : Bool}
theorem arr6 {α : Type} {cs : Array α} (h : cs.size = 6) : ∃ c0 c1 c2 c3 c4 c5, cs = #[c0, c1, c2, c3, c4, c5] := by
  obtain ⟨l⟩ := cs
  match l, h with
  | [c0, c1, c2, c3, c4, c5], _ => exact ⟨c0, c1, c2, c3, c4, c5, rfl⟩
theorem lst6 {α : Type} {l : List α} (h : l.length = 6) : ∃ c0 c1 c2 c3 c4 c5, l = [c0, c1, c2, c3, c4, c5] := by
  match l, h with
  | [c0, c1, c2, c3, c4, c5], _ => exact ⟨c0, c1, c2, c3, c4, c5, rfl⟩
theorem open_agg6 {r : Reach} {b0 : Nat} {t : TypeId} {f0 f1 f2 f3 f4 f5 : Field} {v : Value} {d : DataW H} {p : List MemPlace} (hs : P.underlying t = some (.struct #[f0, f1, f2, f3, f4, f5])) (hone : Deep.oneCellFields P #[f0, f1, f2, f3, f4, f5] = true) (hC : P.cellsOf t = 6)
    (hv : Value.okWide P w r b0 t v) (h : DataW.Trod enc P w base spare held t v d p) :
    ∃ (v0 v1 v2 v3 v4 v5 : Value) (y0 y1 y2 y3 y4 y5 : DataW H × List MemPlace) (n : Nat), v = .agg #[v0, v1, v2, v3, v4, v5] ∧ d = .agg [y0.1, y1.1, y2.1, y3.1, y4.1, y5.1] ∧ p = y0.2 ++ (y1.2 ++ (y2.2 ++ (y3.2 ++ (y4.2 ++ y5.2)))) ∧
      DataW.trod enc P w base spare held n f0.type [v0] = some y0 ∧ DataW.trod enc P w base spare held n f1.type [v1] = some y1 ∧ DataW.trod enc P w base spare held n f2.type [v2] = some y2 ∧ DataW.trod enc P w base spare held n f3.type [v3] = some y3 ∧ DataW.trod enc P w base spare held n f4.type [v4] = some y4 ∧ DataW.trod enc P w base spare held n f5.type [v5] = some y5 := by
  obtain ⟨cs, rfl, hsz⟩ := okWide_struct hs hv
  obtain ⟨c0, c1, c2, c3, c4, c5, rfl⟩ := arr6 (hsz.trans hC)
  obtain ⟨fuel, hf⟩ := h
  obtain ⟨xs, n, _, hx, _, hlen, hg⟩ := DataW.trod_struct hs hf
  obtain ⟨y0, y1, y2, y3, y4, y5, rfl⟩ := lst6 (l := xs) (by simpa using hlen)
  obtain ⟨o0, k0⟩ := Deep.hone_of hone 0 f0 rfl
  obtain ⟨o1, k1⟩ := Deep.hone_of hone 1 f1 rfl
  obtain ⟨o2, k2⟩ := Deep.hone_of hone 2 f2 rfl
  obtain ⟨o3, k3⟩ := Deep.hone_of hone 3 f3 rfl
  obtain ⟨o4, k4⟩ := Deep.hone_of hone 4 f4 rfl
  obtain ⟨o5, k5⟩ := Deep.hone_of hone 5 f5 rfl
  have g0 := hg 0 f0 rfl
  have g1 := hg 1 f1 rfl
  have g2 := hg 2 f2 rfl
  have g3 := hg 3 f3 rfl
  have g4 := hg 4 f4 rfl
  have g5 := hg 5 f5 rfl
  simp only [Prod.mk.injEq] at hx
  exact ⟨c0, c1, c2, c3, c4, c5, y0, y1, y2, y3, y4, y5, n, rfl, by rw [hx.1]; rfl, by rw [hx.2]; simp, by simpa [Value.cells, o0, k0] using g0, by simpa [Value.cells, o1, k1] using g1, by simpa [Value.cells, o2, k2] using g2, by simpa [Value.cells, o3, k3] using g3, by simpa [Value.cells, o4, k4] using g4, by simpa [Value.cells, o5, k5] using g5⟩
theorem shut_agg6 {t : TypeId} {f0 f1 f2 f3 f4 f5 : Field} {v0 v1 v2 v3 v4 v5 : Value} {y0 y1 y2 y3 y4 y5 : DataW H × List MemPlace} (hs : P.underlying t = some (.struct #[f0, f1, f2, f3, f4, f5])) (hone : Deep.oneCellFields P #[f0, f1, f2, f3, f4, f5] = true) (hC : P.cellsOf t = 6)
    (t0 : ∃ n, DataW.trod enc P w base spare held n f0.type [v0] = some y0) (t1 : ∃ n, DataW.trod enc P w base spare held n f1.type [v1] = some y1) (t2 : ∃ n, DataW.trod enc P w base spare held n f2.type [v2] = some y2) (t3 : ∃ n, DataW.trod enc P w base spare held n f3.type [v3] = some y3) (t4 : ∃ n, DataW.trod enc P w base spare held n f4.type [v4] = some y4) (t5 : ∃ n, DataW.trod enc P w base spare held n f5.type [v5] = some y5) :
    DataW.Trod enc P w base spare held t (.agg #[v0, v1, v2, v3, v4, v5]) (.agg [y0.1, y1.1, y2.1, y3.1, y4.1, y5.1]) (y0.2 ++ (y1.2 ++ (y2.2 ++ (y3.2 ++ (y4.2 ++ y5.2))))) := by
  obtain ⟨n0, t0⟩ := t0
  obtain ⟨n1, t1⟩ := t1
  obtain ⟨n2, t2⟩ := t2
  obtain ⟨n3, t3⟩ := t3
  obtain ⟨n4, t4⟩ := t4
  obtain ⟨n5, t5⟩ := t5
  obtain ⟨n, hn⟩ : ∃ n, n = n0 + n1 + n2 + n3 + n4 + n5 := ⟨_, rfl⟩
  obtain ⟨o0, k0⟩ := Deep.hone_of hone 0 f0 rfl
  obtain ⟨o1, k1⟩ := Deep.hone_of hone 1 f1 rfl
  obtain ⟨o2, k2⟩ := Deep.hone_of hone 2 f2 rfl
  obtain ⟨o3, k3⟩ := Deep.hone_of hone 3 f3 rfl
  obtain ⟨o4, k4⟩ := Deep.hone_of hone 4 f4 rfl
  obtain ⟨o5, k5⟩ := Deep.hone_of hone 5 f5 rfl
  have e0 := DataW.trod_le (show n0 ≤ n by omega) t0
  have e1 := DataW.trod_le (show n1 ≤ n by omega) t1
  have e2 := DataW.trod_le (show n2 ≤ n by omega) t2
  have e3 := DataW.trod_le (show n3 ≤ n by omega) t3
  have e4 := DataW.trod_le (show n4 ≤ n by omega) t4
  have e5 := DataW.trod_le (show n5 ≤ n by omega) t5
  have b0 : DataW.trod enc P w base spare held n f0.type ((([v0, v1, v2, v3, v4, v5] : List Value).drop f0.offset).take (P.cellsOf f0.type)) = some y0 := by simpa [o0, k0] using e0
  have b1 : DataW.trod enc P w base spare held n f1.type ((([v0, v1, v2, v3, v4, v5] : List Value).drop f1.offset).take (P.cellsOf f1.type)) = some y1 := by simpa [o1, k1] using e1
  have b2 : DataW.trod enc P w base spare held n f2.type ((([v0, v1, v2, v3, v4, v5] : List Value).drop f2.offset).take (P.cellsOf f2.type)) = some y2 := by simpa [o2, k2] using e2
  have b3 : DataW.trod enc P w base spare held n f3.type ((([v0, v1, v2, v3, v4, v5] : List Value).drop f3.offset).take (P.cellsOf f3.type)) = some y3 := by simpa [o3, k3] using e3
  have b4 : DataW.trod enc P w base spare held n f4.type ((([v0, v1, v2, v3, v4, v5] : List Value).drop f4.offset).take (P.cellsOf f4.type)) = some y4 := by simpa [o4, k4] using e4
  have b5 : DataW.trod enc P w base spare held n f5.type ((([v0, v1, v2, v3, v4, v5] : List Value).drop f5.offset).take (P.cellsOf f5.type)) = some y5 := by simpa [o5, k5] using e5
  have ts := trod_struct_mk (enc := enc) (w := w) (base := base) (spare := spare) (held := held) (n := n) (cs := [v0, v1, v2, v3, v4, v5]) (xs := [y0, y1, y2, y3, y4, y5]) hs (by simp [hC]) (by simp [b0, b1, b2, b3, b4, b5])
  exact ⟨_, by simpa [Value.cells] using ts⟩
theorem arr8 {α : Type} {cs : Array α} (h : cs.size = 8) : ∃ c0 c1 c2 c3 c4 c5 c6 c7, cs = #[c0, c1, c2, c3, c4, c5, c6, c7] := by
  obtain ⟨l⟩ := cs
  match l, h with
  | [c0, c1, c2, c3, c4, c5, c6, c7], _ => exact ⟨c0, c1, c2, c3, c4, c5, c6, c7, rfl⟩
theorem lst8 {α : Type} {l : List α} (h : l.length = 8) : ∃ c0 c1 c2 c3 c4 c5 c6 c7, l = [c0, c1, c2, c3, c4, c5, c6, c7] := by
  match l, h with
  | [c0, c1, c2, c3, c4, c5, c6, c7], _ => exact ⟨c0, c1, c2, c3, c4, c5, c6, c7, rfl⟩
theorem open_agg8 {r : Reach} {b0 : Nat} {t : TypeId} {f0 f1 f2 f3 f4 f5 f6 f7 : Field} {v : Value} {d : DataW H} {p : List MemPlace} (hs : P.underlying t = some (.struct #[f0, f1, f2, f3, f4, f5, f6, f7])) (hone : Deep.oneCellFields P #[f0, f1, f2, f3, f4, f5, f6, f7] = true) (hC : P.cellsOf t = 8)
    (hv : Value.okWide P w r b0 t v) (h : DataW.Trod enc P w base spare held t v d p) :
    ∃ (v0 v1 v2 v3 v4 v5 v6 v7 : Value) (y0 y1 y2 y3 y4 y5 y6 y7 : DataW H × List MemPlace) (n : Nat), v = .agg #[v0, v1, v2, v3, v4, v5, v6, v7] ∧ d = .agg [y0.1, y1.1, y2.1, y3.1, y4.1, y5.1, y6.1, y7.1] ∧ p = y0.2 ++ (y1.2 ++ (y2.2 ++ (y3.2 ++ (y4.2 ++ (y5.2 ++ (y6.2 ++ y7.2)))))) ∧
      DataW.trod enc P w base spare held n f0.type [v0] = some y0 ∧ DataW.trod enc P w base spare held n f1.type [v1] = some y1 ∧ DataW.trod enc P w base spare held n f2.type [v2] = some y2 ∧ DataW.trod enc P w base spare held n f3.type [v3] = some y3 ∧ DataW.trod enc P w base spare held n f4.type [v4] = some y4 ∧ DataW.trod enc P w base spare held n f5.type [v5] = some y5 ∧ DataW.trod enc P w base spare held n f6.type [v6] = some y6 ∧ DataW.trod enc P w base spare held n f7.type [v7] = some y7 := by
  obtain ⟨cs, rfl, hsz⟩ := okWide_struct hs hv
  obtain ⟨c0, c1, c2, c3, c4, c5, c6, c7, rfl⟩ := arr8 (hsz.trans hC)
  obtain ⟨fuel, hf⟩ := h
  obtain ⟨xs, n, _, hx, _, hlen, hg⟩ := DataW.trod_struct hs hf
  obtain ⟨y0, y1, y2, y3, y4, y5, y6, y7, rfl⟩ := lst8 (l := xs) (by simpa using hlen)
  obtain ⟨o0, k0⟩ := Deep.hone_of hone 0 f0 rfl
  obtain ⟨o1, k1⟩ := Deep.hone_of hone 1 f1 rfl
  obtain ⟨o2, k2⟩ := Deep.hone_of hone 2 f2 rfl
  obtain ⟨o3, k3⟩ := Deep.hone_of hone 3 f3 rfl
  obtain ⟨o4, k4⟩ := Deep.hone_of hone 4 f4 rfl
  obtain ⟨o5, k5⟩ := Deep.hone_of hone 5 f5 rfl
  obtain ⟨o6, k6⟩ := Deep.hone_of hone 6 f6 rfl
  obtain ⟨o7, k7⟩ := Deep.hone_of hone 7 f7 rfl
  have g0 := hg 0 f0 rfl
  have g1 := hg 1 f1 rfl
  have g2 := hg 2 f2 rfl
  have g3 := hg 3 f3 rfl
  have g4 := hg 4 f4 rfl
  have g5 := hg 5 f5 rfl
  have g6 := hg 6 f6 rfl
  have g7 := hg 7 f7 rfl
  simp only [Prod.mk.injEq] at hx
  exact ⟨c0, c1, c2, c3, c4, c5, c6, c7, y0, y1, y2, y3, y4, y5, y6, y7, n, rfl, by rw [hx.1]; rfl, by rw [hx.2]; simp, by simpa [Value.cells, o0, k0] using g0, by simpa [Value.cells, o1, k1] using g1, by simpa [Value.cells, o2, k2] using g2, by simpa [Value.cells, o3, k3] using g3, by simpa [Value.cells, o4, k4] using g4, by simpa [Value.cells, o5, k5] using g5, by simpa [Value.cells, o6, k6] using g6, by simpa [Value.cells, o7, k7] using g7⟩
theorem shut_agg8 {t : TypeId} {f0 f1 f2 f3 f4 f5 f6 f7 : Field} {v0 v1 v2 v3 v4 v5 v6 v7 : Value} {y0 y1 y2 y3 y4 y5 y6 y7 : DataW H × List MemPlace} (hs : P.underlying t = some (.struct #[f0, f1, f2, f3, f4, f5, f6, f7])) (hone : Deep.oneCellFields P #[f0, f1, f2, f3, f4, f5, f6, f7] = true) (hC : P.cellsOf t = 8)
    (t0 : ∃ n, DataW.trod enc P w base spare held n f0.type [v0] = some y0) (t1 : ∃ n, DataW.trod enc P w base spare held n f1.type [v1] = some y1) (t2 : ∃ n, DataW.trod enc P w base spare held n f2.type [v2] = some y2) (t3 : ∃ n, DataW.trod enc P w base spare held n f3.type [v3] = some y3) (t4 : ∃ n, DataW.trod enc P w base spare held n f4.type [v4] = some y4) (t5 : ∃ n, DataW.trod enc P w base spare held n f5.type [v5] = some y5) (t6 : ∃ n, DataW.trod enc P w base spare held n f6.type [v6] = some y6) (t7 : ∃ n, DataW.trod enc P w base spare held n f7.type [v7] = some y7) :
    DataW.Trod enc P w base spare held t (.agg #[v0, v1, v2, v3, v4, v5, v6, v7]) (.agg [y0.1, y1.1, y2.1, y3.1, y4.1, y5.1, y6.1, y7.1]) (y0.2 ++ (y1.2 ++ (y2.2 ++ (y3.2 ++ (y4.2 ++ (y5.2 ++ (y6.2 ++ y7.2))))))) := by
  obtain ⟨n0, t0⟩ := t0
  obtain ⟨n1, t1⟩ := t1
  obtain ⟨n2, t2⟩ := t2
  obtain ⟨n3, t3⟩ := t3
  obtain ⟨n4, t4⟩ := t4
  obtain ⟨n5, t5⟩ := t5
  obtain ⟨n6, t6⟩ := t6
  obtain ⟨n7, t7⟩ := t7
  obtain ⟨n, hn⟩ : ∃ n, n = n0 + n1 + n2 + n3 + n4 + n5 + n6 + n7 := ⟨_, rfl⟩
  obtain ⟨o0, k0⟩ := Deep.hone_of hone 0 f0 rfl
  obtain ⟨o1, k1⟩ := Deep.hone_of hone 1 f1 rfl
  obtain ⟨o2, k2⟩ := Deep.hone_of hone 2 f2 rfl
  obtain ⟨o3, k3⟩ := Deep.hone_of hone 3 f3 rfl
  obtain ⟨o4, k4⟩ := Deep.hone_of hone 4 f4 rfl
  obtain ⟨o5, k5⟩ := Deep.hone_of hone 5 f5 rfl
  obtain ⟨o6, k6⟩ := Deep.hone_of hone 6 f6 rfl
  obtain ⟨o7, k7⟩ := Deep.hone_of hone 7 f7 rfl
  have e0 := DataW.trod_le (show n0 ≤ n by omega) t0
  have e1 := DataW.trod_le (show n1 ≤ n by omega) t1
  have e2 := DataW.trod_le (show n2 ≤ n by omega) t2
  have e3 := DataW.trod_le (show n3 ≤ n by omega) t3
  have e4 := DataW.trod_le (show n4 ≤ n by omega) t4
  have e5 := DataW.trod_le (show n5 ≤ n by omega) t5
  have e6 := DataW.trod_le (show n6 ≤ n by omega) t6
  have e7 := DataW.trod_le (show n7 ≤ n by omega) t7
  have b0 : DataW.trod enc P w base spare held n f0.type ((([v0, v1, v2, v3, v4, v5, v6, v7] : List Value).drop f0.offset).take (P.cellsOf f0.type)) = some y0 := by simpa [o0, k0] using e0
  have b1 : DataW.trod enc P w base spare held n f1.type ((([v0, v1, v2, v3, v4, v5, v6, v7] : List Value).drop f1.offset).take (P.cellsOf f1.type)) = some y1 := by simpa [o1, k1] using e1
  have b2 : DataW.trod enc P w base spare held n f2.type ((([v0, v1, v2, v3, v4, v5, v6, v7] : List Value).drop f2.offset).take (P.cellsOf f2.type)) = some y2 := by simpa [o2, k2] using e2
  have b3 : DataW.trod enc P w base spare held n f3.type ((([v0, v1, v2, v3, v4, v5, v6, v7] : List Value).drop f3.offset).take (P.cellsOf f3.type)) = some y3 := by simpa [o3, k3] using e3
  have b4 : DataW.trod enc P w base spare held n f4.type ((([v0, v1, v2, v3, v4, v5, v6, v7] : List Value).drop f4.offset).take (P.cellsOf f4.type)) = some y4 := by simpa [o4, k4] using e4
  have b5 : DataW.trod enc P w base spare held n f5.type ((([v0, v1, v2, v3, v4, v5, v6, v7] : List Value).drop f5.offset).take (P.cellsOf f5.type)) = some y5 := by simpa [o5, k5] using e5
  have b6 : DataW.trod enc P w base spare held n f6.type ((([v0, v1, v2, v3, v4, v5, v6, v7] : List Value).drop f6.offset).take (P.cellsOf f6.type)) = some y6 := by simpa [o6, k6] using e6
  have b7 : DataW.trod enc P w base spare held n f7.type ((([v0, v1, v2, v3, v4, v5, v6, v7] : List Value).drop f7.offset).take (P.cellsOf f7.type)) = some y7 := by simpa [o7, k7] using e7
  have ts := trod_struct_mk (enc := enc) (w := w) (base := base) (spare := spare) (held := held) (n := n) (cs := [v0, v1, v2, v3, v4, v5, v6, v7]) (xs := [y0, y1, y2, y3, y4, y5, y6, y7]) hs (by simp [hC]) (by simp [b0, b1, b2, b3, b4, b5, b6, b7])
  exact ⟨_, by simpa [Value.cells] using ts⟩
end
end Go.Proofs.Ytllahgcifichbaa
