import Derived.Test.YtceejccjamakmaaPartB
import Derived.Deep.CutRange
import Derived.Test.YtceejccjamakmaaRegC
namespace Go.Proofs.Ytceejccjamakmaa
open Go.ChangeShapes Go.WideShapes Go.ChangeAt Go.RowKit
set_option linter.unusedVariables false

theorem pwide_zero (h1 l1 : Nat) (w : World) :
    Calls Try.prog 15 #[.agg #[.int .u64 h1, .int .u64 l1], .agg #[.int .u64 0, .int .u64 0]] w fun e w' => e = .returned (.tuple #[.agg #[.int .u64 0, .int .u64 0], .agg #[.int .u64 0, .int .u64 0], .iface 46 (.int .i64 4)]) ∧ Below w.heap.size w w' := by
  refine cps fun Q hQ => ?_
  have k1 := fun w => plong_zero h1 l1 w
  go_enter Try.func15, Try.ntmps15
  go_wp2_with (go_at_call 13; refine (k1 _).mono ?_; rintro e w1 ⟨rfl, hb1⟩; obtain ⟨hc1, hf1⟩ := bcell hb1; have z0 : w.heap.size + 1 + 1 + 1 < w1.heap.size := (by have := hb1.size; simp at this; omega); have z1 : w.heap.size + 1 + 1 < w1.heap.size := (by omega))
  refine bodyPost_ret (v := .tuple #[.agg #[.int .u64 0, .int .u64 0], .agg #[.int .u64 0, .int .u64 0], .iface 46 (.int .i64 4)]) (by simp [results, Try.results15, go_sem, hc1, z0, z1]) rfl (hQ.out _ _ ⟨rfl, ?_⟩)
  exact bmore (bset (bset (bset (bset (bthen (bmore (bmore (bmore (bmore (Below.refl _ _) _) _) _) _) hb1) (by omega) _ _) (by omega) _ _) (by omega) _ _) (by omega) _ _) _
theorem pwide_low {a h1 l1 d h l r : Nat} (ha : Tw a h1 l1) (hd : d ≤ 18446744073709551615) (h0 : 0 < d) (hq : Tw (a / d) h l) (hr : r = a % d) (w : World) :
    Calls Try.prog 15 #[.agg #[.int .u64 h1, .int .u64 l1], .agg #[.int .u64 0, .int .u64 d]] w fun e w' => e = .returned (.tuple #[.agg #[.int .u64 h, .int .u64 l], .agg #[.int .u64 0, .int .u64 r], .nilIface]) ∧ Below w.heap.size w w' := by
  refine cps fun Q hQ => ?_
  have k1 := fun w => plong_any ha hd h0 hq hr w
  clear ha hq hr
  go_enter Try.func15, Try.ntmps15
  go_wp2_with (go_at_call 13; refine (k1 _).mono ?_; rintro e w1 ⟨rfl, hb1⟩; obtain ⟨hc1, hf1⟩ := bcell hb1; have z0 : w.heap.size + 1 + 1 + 1 < w1.heap.size := (by have := hb1.size; simp at this; omega); have z1 : w.heap.size + 1 + 1 < w1.heap.size := (by omega))
  refine bodyPost_ret (v := .tuple #[.agg #[.int .u64 h, .int .u64 l], .agg #[.int .u64 0, .int .u64 r], .nilIface]) (by simp [results, Try.results15, go_sem, hc1, z0, z1]) rfl (hQ.out _ _ ⟨rfl, ?_⟩)
  exact bmore (bset (bset (bset (bset (bthen (bmore (bmore (bmore (bmore (Below.refl _ _) _) _) _) _) hb1) (by omega) _ _) (by omega) _ _) (by omega) _ _) (by omega) _ _) _
theorem tw_some {n : Nat} (h : n < 340282366920938463463374607431768211456) : ∃ h l, Tw n h l := ⟨n / 18446744073709551616, n % 18446744073709551616, by omega, by omega, by omega⟩
set_option maxHeartbeats 2000000 in
theorem pwide_any {a h1 l1 d h2 l2 q h l : Nat} (ha : Tw a h1 l1) (hd : Tw d h2 l2) (hn : 0 < h2) (hq : q = a / d) (hr : Tw (a % d) h l) (w : World) :
    Calls Try.prog 15 #[.agg #[.int .u64 h1, .int .u64 l1], .agg #[.int .u64 h2, .int .u64 l2]] w fun e w' => e = .returned (.tuple #[.agg #[.int .u64 0, .int .u64 q], .agg #[.int .u64 h, .int .u64 l], .nilIface]) ∧ Below w.heap.size w w' := by
  refine cps fun Q hQ => ?_
  have k1 := fun w => pguess_any ha hd hn w
  have hne : ¬ ((h2 : Int) = 0) := by omega
  have HA : Hid (Tw a h1 l1 ∧ Tw d h2 l2) := ⟨ha, hd⟩
  have HQ : Hid (q = a / d ∧ Tw (a % d) h l ∧ 0 < h2) := ⟨hq, hr, hn⟩
  clear ha hd hn hq hr
  go_enter Try.func15, Try.ntmps15
  go_upto_region 5 with (go_at_call 25; refine (k1 _).mono ?_; rintro e w1 ⟨⟨g, rfl, g1, g2, g3⟩, hb1⟩; obtain ⟨hc1, hf1⟩ := bcell hb1; have z0 : w.heap.size + 1 + 1 + 1 < w1.heap.size := (by have := hb1.size; simp at this; omega); have z1 : w.heap.size + 1 + 1 < w1.heap.size := (by omega))
  obtain ⟨ta, td⟩ := HA.out
  obtain ⟨hqq, hrr, hn⟩ := HQ.out
  have hgd : d * g < 340282366920938463463374607431768211456 := by have := ta.lt; rw [Nat.mul_comm]; omega
  obtain ⟨h3, l3, t3⟩ := tw_some hgd
  have g2' : d * g ≤ a := by rw [Nat.mul_comm]; exact g2
  have laa := ta.lt
  obtain ⟨L, hL⟩ : ∃ L, L = a - d * g := ⟨_, rfl⟩
  obtain ⟨h4, l4, t4⟩ := tw_some (n := L) (by omega)
  have e1 : (a + 340282366920938463463374607431768211456 - d * g) % 340282366920938463463374607431768211456 = L := by
    rw [hL, show a + 340282366920938463463374607431768211456 - d * g = (a - d * g) + 340282366920938463463374607431768211456 by omega, Nat.add_mod_right, Nat.mod_eq_of_lt (by omega)]
  have k2 := fun w => ptimes_any td g1 t3 w
  have k3 := fun w => tsub_any (c := false) ta t3 (e1 ▸ t4) (by rw [decide_eq_false (by omega)]) w
  have HL : Hid (Tw L h4 l4 ∧ L = a - d * g ∧ g * d ≤ a ∧ a < (g + 2) * d) := ⟨t4, hL, g2, g3⟩
  clear ta td hqq hrr hn hgd t3 g2' laa hL t4 e1 g2 g3
  have H1 : Below w.heap.size w w1 := bthen (bmore (bmore (bmore (bmore (Below.refl _ _) _) _) _) _) hb1
  have y0 : w.heap.size < w1.heap.size := by omega
  have y1 : w.heap.size + 1 < w1.heap.size := by omega
  have r1 : Below w1.heap.size w1 w1 := Below.refl _ _
  have cls : ∀ W, Below w1.heap.size w1 W → W.cell? ⟨w.heap.size, 0, none⟩ = some (.int .u64 h1) ∧ W.cell? ⟨w.heap.size, 1, none⟩ = some (.int .u64 l1) ∧ W.cell? ⟨w.heap.size + 1, 0, none⟩ = some (.int .u64 h2) ∧ W.cell? ⟨w.heap.size + 1, 1, none⟩ = some (.int .u64 l2) := fun W hW => by
    obtain ⟨c, _⟩ := bcell hW
    rw [c _ _ y0, c _ _ y0, c _ _ y1, c _ _ y1]
    simp [go_sem, hc1]
  go_cut [11, 12] from 34 (fun s11 s12 wx => ∃ n : Nat, s11 = .pointer (some ⟨n, 0, none⟩) ∧ s12 = .bool false ∧ Below w1.heap.size w1 wx ∧ w1.heap.size ≤ n ∧ n < wx.heap.size ∧
    wx.cell? ⟨n, 0, none⟩ = some (.int .u64 h4) ∧ wx.cell? ⟨n, 1, none⟩ = some (.int .u64 l4) ∧ wx.frozen? ⟨n, 0, none⟩ = false ∧ wx.frozen? ⟨n, 1, none⟩ = false)
  case first =>
    refine wpC_region (fun W => W.cell? ⟨w.heap.size, 0, none⟩ = some (.int .u64 h1) ∧ W.cell? ⟨w.heap.size, 1, none⟩ = some (.int .u64 l1) ∧ W.cell? ⟨w.heap.size + 1, 0, none⟩ = some (.int .u64 h2) ∧ W.cell? ⟨w.heap.size + 1, 1, none⟩ = some (.int .u64 l2)) (by kernel_rfl) ?_
    refine wpC_take 0 (v := ?_) rfl (by kernel_rfl) (fun _ _ _ h => h) (by kernel_rfl) ?_ ?_; rotate_left; · (intro wC hC; obtain ⟨c1, c2, c3, c4⟩ := hC; go_simp <;> with_reducible rfl)
    refine wpC_take 1 (v := ?_) rfl (by kernel_rfl) (fun _ _ _ h => h) (by kernel_rfl) ?_ ?_; rotate_left; · (intro wC hC; obtain ⟨c1, c2, c3, c4⟩ := hC; go_simp <;> with_reducible rfl)
    refine wpC_take 2 (v := ?_) rfl (by kernel_rfl) (fun _ _ _ h => h) (by kernel_rfl) ?_ ?_; rotate_left; · (intro wC hC; obtain ⟨c1, c2, c3, c4⟩ := hC; go_simp <;> with_reducible rfl)
    refine wpC_two 3 8 rfl rfl (by kernel_rfl) (by kernel_rfl) (by kernel_rfl) (cls _ (bdrew r1)) (fun K hK => ?_) (fun K hK => ?_)
    · skip
      go_simp
      go_wp2_with ((go_at_call 27; refine (k2 _).mono ?_; rintro e w2 ⟨rfl, hb2⟩; have B2 := bthen (bdrew r1) hb2))
      try (refine hK _ _ ?_; clear hK K)
      have y2 : w1.heap.size ≤ w2.heap.size := B2.size
      refine wpC_two 4 8 rfl rfl (by kernel_rfl) (by kernel_rfl) (by kernel_rfl) (cls _ B2) (fun K hK => ?_) (fun K hK => ?_)
      · skip
        go_simp
        go_wp2_with ((go_at_call 26; refine (k3 _).mono ?_; rintro e w3 ⟨rfl, hb3⟩; have B3 := bthen B2 hb3))
        try (refine hK _ _ ?_; clear hK K)
        have y3 : w1.heap.size ≤ w3.heap.size := B3.size
        refine wpC_take 5 (v := ?_) rfl (by kernel_rfl) (fun _ _ _ h => h) (by kernel_rfl) ?_ ?_; rotate_left; · (intro wC hC; obtain ⟨c1, c2, c3, c4⟩ := hC; go_simp <;> with_reducible rfl)
        refine wpC_take 6 (v := ?_) rfl (by kernel_rfl) (fun _ _ _ h => h) (by kernel_rfl) ?_ ?_; rotate_left; · (intro wC hC; obtain ⟨c1, c2, c3, c4⟩ := hC; go_simp <;> with_reducible rfl)
        refine wpC_take 7 (v := ?_) rfl (by kernel_rfl) (fun _ _ _ h => h) (by kernel_rfl) ?_ ?_; rotate_left; · (intro wC hC; obtain ⟨c1, c2, c3, c4⟩ := hC; go_simp <;> with_reducible rfl)
        refine wpC_step 8 rfl (by kernel_rfl) (by kernel_rfl) (cls _ B3) (fun K hK => ?_)
        go_simp
        try (refine hK _ _ ?_; clear hK K)
        refine wpC_step 9 rfl (by kernel_rfl) (by kernel_rfl) (cls _ (bmore B3 _)) (fun K hK => ?_)
        go_simp
        try (refine hK _ _ ?_; clear hK K)
        refine wpC_step 10 rfl (by kernel_rfl) (by kernel_rfl) (cls _ (bmore B3 _)) (fun K hK => ?_)
        go_simp
        try (refine hK _ _ ?_; clear hK K)
        refine wpC_done (by kernel_rfl) (cls _ (bmore B3 _)) ?_
        go_wp2_with fail
        go_meet
        case rel =>
          refine ⟨_, rfl, rfl, bmore B3 _, y3, by simp, ?_, ?_, ?_, ?_⟩ <;> simp [go_sem]
      · skip
        go_simp
        try (refine hK _ _ ?_; clear hK K)
        refine wpC_step 4 rfl (by kernel_rfl) (by kernel_rfl) (cls _ (bmore B2 _)) (fun K hK => ?_)
        go_simp
        go_wp2_with ((go_at_call 26; refine (k3 _).mono ?_; rintro e w3 ⟨rfl, hb3⟩; have B3 := bthen (bmore B2 _) hb3; obtain ⟨hc3, hf3⟩ := bcell hb3; have y4 : w2.heap.size < w3.heap.size := (by have := hb3.size; simp at this; omega)))
        try (refine hK _ _ ?_; clear hK K)
        refine wpC_step 5 rfl (by kernel_rfl) (by kernel_rfl) (cls _ B3) (fun K hK => ?_)
        go_simp
        try (refine hK _ _ ?_; clear hK K)
        refine wpC_take 6 (v := ?_) rfl (by kernel_rfl) (fun _ _ _ h => h) (by kernel_rfl) ?_ ?_; rotate_left; · (intro wC hC; obtain ⟨c1, c2, c3, c4⟩ := hC; go_simp <;> with_reducible rfl)
        refine wpC_take 7 (v := ?_) rfl (by kernel_rfl) (fun _ _ _ h => h) (by kernel_rfl) ?_ ?_; rotate_left; · (intro wC hC; obtain ⟨c1, c2, c3, c4⟩ := hC; go_simp <;> with_reducible rfl)
        refine wpC_step 9 rfl (by kernel_rfl) (by kernel_rfl) (cls _ B3) (fun K hK => ?_)
        go_simp
        try (refine hK _ _ ?_; clear hK K)
        refine wpC_step 10 rfl (by kernel_rfl) (by kernel_rfl) (cls _ (bset (bset B3 y2 _ _) y2 _ _)) (fun K hK => ?_)
        go_simp
        try (refine hK _ _ ?_; clear hK K)
        refine wpC_done (by kernel_rfl) (cls _ (bset (bset B3 y2 _ _) y2 _ _)) ?_
        go_wp2_with fail
        go_meet
        case rel =>
          refine ⟨_, rfl, rfl, bset (bset B3 y2 _ _) y2 _ _, y2, by simp [y4], ?_, ?_, ?_, ?_⟩ <;> simp [go_sem, hc3, hf3]
    · skip
      go_simp
      try (refine hK _ _ ?_; clear hK K)
      refine wpC_step 3 rfl (by kernel_rfl) (by kernel_rfl) (cls _ (bmore (bdrew r1) _)) (fun K hK => ?_)
      go_simp
      go_wp2_with ((go_at_call 27; refine (k2 _).mono ?_; rintro e w2 ⟨rfl, hb2⟩; obtain ⟨hc2, hf2⟩ := bcell hb2; have B2 := bthen (bmore (bdrew r1) _) hb2; have y4 : w1.heap.size < w2.heap.size := (by have := hb2.size; simp at this; omega)))
      try (refine hK _ _ ?_; clear hK K)
      refine wpC_step 4 rfl (by kernel_rfl) (by kernel_rfl) (cls _ B2) (fun K hK => ?_)
      go_simp
      go_wp2_with ((go_at_call 26; refine (k3 _).mono ?_; rintro e w3 ⟨rfl, hb3⟩; have B3 := bthen B2 hb3; obtain ⟨hc3, hf3⟩ := bcell hb3; have y5 : w1.heap.size < w3.heap.size := (by have := hb3.size; omega)))
      try (refine hK _ _ ?_; clear hK K)
      refine wpC_step 5 rfl (by kernel_rfl) (by kernel_rfl) (cls _ B3) (fun K hK => ?_)
      go_simp
      try (refine hK _ _ ?_; clear hK K)
      refine wpC_take 6 (v := ?_) rfl (by kernel_rfl) (fun _ _ _ h => h) (by kernel_rfl) ?_ ?_; rotate_left; · (intro wC hC; obtain ⟨c1, c2, c3, c4⟩ := hC; go_simp <;> with_reducible rfl)
      refine wpC_take 7 (v := ?_) rfl (by kernel_rfl) (fun _ _ _ h => h) (by kernel_rfl) ?_ ?_; rotate_left; · (intro wC hC; obtain ⟨c1, c2, c3, c4⟩ := hC; go_simp <;> with_reducible rfl)
      refine wpC_step 9 rfl (by kernel_rfl) (by kernel_rfl) (cls _ B3) (fun K hK => ?_)
      go_simp
      try (refine hK _ _ ?_; clear hK K)
      refine wpC_step 10 rfl (by kernel_rfl) (by kernel_rfl) (cls _ (bset (bset B3 (Nat.le_refl _) _ _) (Nat.le_refl _) _ _)) (fun K hK => ?_)
      go_simp
      try (refine hK _ _ ?_; clear hK K)
      refine wpC_done (by kernel_rfl) (cls _ (bset (bset B3 (Nat.le_refl _) _ _) (Nat.le_refl _) _ _)) ?_
      go_wp2_with fail
      go_meet
      case rel =>
        refine ⟨_, rfl, rfl, bset (bset B3 (Nat.le_refl _) _ _) (Nat.le_refl _) _ _, Nat.le_refl _, by simp [y5], ?_, ?_, ?_, ?_⟩ <;> simp [go_sem, hc2, hc3, hf2, hf3, y4]
  case rest =>
    obtain ⟨n, rfl, rfl, HB, n1, n2, c5, c6, f5, f6⟩ := hcut
    obtain ⟨hcx, hfx⟩ := bcell HB
    have x0 : w.heap.size < wc.heap.size := by omega
    have x1 : w.heap.size + 1 < wc.heap.size := by omega
    have x2 : w.heap.size + 1 + 1 < wc.heap.size := by omega
    have x3 : w.heap.size + 1 + 1 + 1 < wc.heap.size := by omega
    have H2 : Below w.heap.size w wc := bthen H1 HB
    have n3 : w.heap.size ≤ n := by omega
    obtain ⟨tl, eL, e1, e2⟩ := HL.out
    obtain ⟨ta, td⟩ := HA.out
    obtain ⟨eq, tr, hn⟩ := HQ.out
    have hd0 : 0 < d := by have := td.eq; omega
    rw [Nat.mul_comm d g] at eL
    obtain ⟨h5, l5, t5⟩ := tw_some (n := (L + 340282366920938463463374607431768211456 - d) % 340282366920938463463374607431768211456) (Nat.mod_lt _ (by decide))
    have m2 : ¬ (w.heap.size + 1 + 1 = n) := by omega
    have m3 : ¬ (w.heap.size + 1 + 1 + 1 = n) := by omega
    have m4 : ¬ (n = w.heap.size + 1 + 1) := by omega
    have m5 : ¬ (n = w.heap.size + 1 + 1 + 1) := by omega
    by_cases hc : L < d
    · have fq : a / d = g := div_at e1 (by rw [Nat.add_mul, Nat.one_mul]; omega)
      have fm : a % d = L := by
        have := Nat.div_add_mod' a d
        rw [fq] at this
        omega
      rw [fm] at tr
      obtain ⟨g1, g2⟩ := tl.one tr
      have eq2 := eq.trans fq
      clear fq fm eq
      subst g1 g2 eq2
      have k4 := fun w => tsub_any (c := true) tl td t5 (decide_eq_true hc).symm w
      clear tl ta td tr t5 e1 e2 eL hn hd0 hc k1 k2 k3 cls r1 H1 HB
      go_wp2_with (go_at_call 26; refine (k4 _).mono ?_; rintro e w4 ⟨rfl, hb4⟩; obtain ⟨hc4, hf4⟩ := bcell hb4; have y4 : wc.heap.size ≤ w4.heap.size := hb4.size; have n4 : n < w4.heap.size := (by omega); have y2 : w.heap.size + 1 + 1 < w4.heap.size := (by omega); have y3 : w.heap.size + 1 + 1 + 1 < w4.heap.size := (by omega))
      go_region
      all_goals
        go_wp2
        refine bodyPost_ret (v := .tuple #[.agg #[.int .u64 0, .int .u64 q], .agg #[.int .u64 h4, .int .u64 l4], .nilIface]) (by simp [results, Try.results15, go_sem, hc4, hcx, hc1, y2, y3, x2, x3, z0, z1]) rfl (hQ.out _ _ ⟨rfl, ?_⟩)
        exact bdrew (bmore (bset (bset (bset (bset (bthen H2 hb4) (by omega) _ _) (by omega) _ _) (by omega) _ _) (by omega) _ _) _)
    · have hLd : d ≤ L := by omega
      obtain ⟨ge, gr⟩ : a / d = g + 1 ∧ a % d = L - d := by
        have fq : a / d = g + 1 := div_at (by rw [Nat.add_mul, Nat.one_mul]; omega) (by omega)
        have := Nat.div_add_mod' a d
        rw [fq, Nat.add_mul, Nat.one_mul] at this
        exact ⟨fq, by omega⟩
      rw [gr] at tr
      have tL := tl.lt
      rw [show (L + 340282366920938463463374607431768211456 - d) % 340282366920938463463374607431768211456 = L - d by
        rw [show L + 340282366920938463463374607431768211456 - d = (L - d) + 340282366920938463463374607431768211456 by omega, Nat.add_mod_right, Nat.mod_eq_of_lt (by omega)]] at t5
      have k4 := fun w => tsub_any (c := false) tl td (h := h5) (l := l5) (by
        rw [show (L + 340282366920938463463374607431768211456 - d) % 340282366920938463463374607431768211456 = L - d by
          rw [show L + 340282366920938463463374607431768211456 - d = (L - d) + 340282366920938463463374607431768211456 by omega, Nat.add_mod_right, Nat.mod_eq_of_lt (by omega)]]
        exact t5) (decide_eq_false (by omega)).symm w
      obtain ⟨g1, g2⟩ := t5.one tr
      have eq2 := eq.trans ge
      have q64 : q ≤ 18446744073709551615 := by
        have h1 : q * d ≤ a := by rw [eq]; exact Nat.div_mul_le_self a d
        have h2 := Nat.mul_le_mul (Nat.le_refl q) (show 18446744073709551616 ≤ d by have := td.eq; omega)
        have := ta.lt
        omega
      have v1 : IntKind.u64.wrap ((g : Int) + 1) = q := by rw [eq2]; exact wrapU (g + 1) (by omega)
      clear eq ge gr eq2
      subst g1 g2
      clear tl ta td tr t5 e1 e2 eL hn hd0 hc k1 k2 k3 cls r1 H1 HB tL hLd q64
      go_wp2_with (go_at_call 26; refine (k4 _).mono ?_; rintro e w4 ⟨rfl, hb4⟩; obtain ⟨hc4, hf4⟩ := bcell hb4; have y4 : wc.heap.size ≤ w4.heap.size := hb4.size; have n4 : n < w4.heap.size := (by omega); have y2 : w.heap.size + 1 + 1 < w4.heap.size := (by omega); have y3 : w.heap.size + 1 + 1 + 1 < w4.heap.size := (by omega))
      go_region
      all_goals
        go_wp2
        go_region
        all_goals
          go_wp2
          refine bodyPost_ret (v := .tuple #[.agg #[.int .u64 0, .int .u64 q], .agg #[.int .u64 h5, .int .u64 l5], .nilIface]) (by simp [results, Try.results15, go_sem, hc4, hcx, hc1, y2, y3, x2, x3, z0, z1]) rfl (hQ.out _ _ ⟨rfl, ?_⟩)
          exact bdrew (bdrew (bmore (bset (bset (bset (bset (bset (bset (bthen H2 hb4) n3 _ _) n3 _ _) (by omega) _ _) (by omega) _ _) (by omega) _ _) (by omega) _ _) _))
end Go.Proofs.Ytceejccjamakmaa
