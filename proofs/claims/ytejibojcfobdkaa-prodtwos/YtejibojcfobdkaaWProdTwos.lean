import Derived.Test.YtejibojcfobdkaaJoin6
namespace Go.Proofs.Ytejibojcfobdkaa
open Go.ChangeShapes Go.WideShapes Go.ChangeAt Go.RowKit
set_option linter.unusedVariables false
set_option linter.unusedSimpArgs false
set_option maxRecDepth 100000

set_option maxHeartbeats 4000000 in
theorem prodTwos_walk (n s t : Int) (wn : (Lit.int .i64 n).wf = true) (ws : (Lit.int .i64 s).wf = true) (wt : (Lit.int .i64 t).wf = true) (w : World) :
    Calls Try.prog 7 #[.int .i64 n, .int .i64 s, .int .i64 t] w fun e w' => e = .returned (.bool true) ∧ Below w.heap.size w w' := by
  clear wn ws wt
  refine cps fun Q hQ => ?_
  have kis := is_width n
  cases hisw : isW n
  · rw [hisw] at kis
    clear hisw
    go_enter Try.func7, Try.ntmps7
    go_wp2_with (first
      | (go_at_call 16; go_must (refine (kis _).mono ?_); rintro e wx ⟨rfl, hwx⟩; rw [hwx]; clear hwx wx)
      | (go_at_call 8; go_must (refine (produp_any _).mono ?_); rintro e w1 ⟨rfl, hb1⟩; have HB1 : Hid (Below _ _ _) := hb1; clear hb1))
    all_goals exact hQ.out _ _ ⟨by first | rfl | simp, cthen (Below.refl _ _) HB1.out⟩
  · obtain ⟨m, rfl, hm⟩ := isW_yes hisw
    rw [hisw] at kis
    by_cases hr : -300 ≤ s ∧ s ≤ 300 ∧ -300 ≤ t ∧ t ≤ 300
    · obtain ⟨r1, r2, r3, r4⟩ := hr
      have d1 : decide (s < -300) = false := decide_eq_false (by omega)
      have d2 : decide (300 < s) = false := decide_eq_false (by omega)
      have d3 : decide (t < -300) = false := decide_eq_false (by omega)
      have d4 : decide (300 < t) = false := decide_eq_false (by omega)
      have k1 := two10_any m s hm (by omega) (by omega)
      have k2 := two10_any m t hm (by omega) (by omega)
      have k3 := two10_any m (s + t) hm (by omega) (by omega)
      have e1 : IntKind.i64.wrap (s + t) = s + t := wrapI (by omega)
      have hw := wd_le hm
      have e2 : IntKind.i64.wrap ((m : Int) * 4) = 4 * (m : Int) := by rw [wrapI (by omega)]; omega
      have e2' : IntKind.i64.wrap (4 * (m : Int)) = 4 * (m : Int) := wrapI (by omega)
      have e3 : IntKind.i64.wrap (4 * (m : Int) - 8) = 4 * (m : Int) - 8 := wrapI (by omega)
      have e4 : IntKind.i64.wrap (8 - 4 * (m : Int)) = 8 - 4 * (m : Int) := wrapI (by omega)
      have q1 : IntKind.i64.wrap ((m : Int) - 1) = (m : Int) - 1 := wrapI (by omega)
      have kp := power_sub m (by omega) hw.2
      by_cases hok : okT m s = true ∧ okT m t = true
      · obtain ⟨o1, o2⟩ := hok
        have f1 := okT_facts m s hm o1
        have f2 := okT_facts m t hm o2
        have km := pmul_ok m (patT m s) (patT m t) hm (lt64_of hm f1.1) (lt64_of hm f2.1)
        rw [two_mul m s t hm o1 o2] at km
        have hrg := rnd_range m (s + t) P63 0 false hm P63_words
        have htop := rnd_top m (s + t) P63 0 false
        have hlow := rnd_low m (s + t) P63 0 false
        have hthe : okT m (s + t) = true → rndX m (s + t) P63 0 false = patT m (s + t) := fun c => (okT_facts m (s + t) hm c).2.2.2.2.2.symm
        obtain ⟨H, p1, p2, p3, _⟩ := wd_pows hm
        have hp64 : H ≤ 9223372036854775808 := by have := (two_pow_lt hm).2; omega
        rw [o1] at k1
        rw [o2] at k2
        rw [p2] at kp hrg htop
        have pw : IntKind.u64.wrap ((H : Int) - 1) = ((H - 1 : Nat) : Int) := by rw [IntKind.wrap_u64]; omega
        clear f1 f2 o1 o2 hisw p1
        have HR : Hid (1 ≤ rndX m (s + t) P63 0 false ∧ rndX m (s + t) P63 0 false ≤ H - 1 ∧ 128 ≤ H) := ⟨hrg.1, hrg.2, p3⟩
        clear hrg p2 p3 hp64 r1 r2 r3 r4 hw
        by_cases c1 : 4 * (m : Int) - 8 < s + t
        · have g1 : decide (4 * (m : Int) - 8 < s + t) = true := decide_eq_true c1
          rw [htop (by omega)] at km
          clear htop hlow hthe hm c1 HR
          generalize patT m s = ps at *
          generalize patT m t = pt at *
          generalize patT m (s + t) = pst at *
          generalize okT m (s + t) = ok at *
          generalize H - 1 = H1 at *
          go_enter Try.func7, Try.ntmps7
          go_wp2_with (first
            | (go_at_call 17; go_must (refine (kp _).mono ?_); rintro e wx ⟨rfl, hwx⟩; rw [hwx]; clear hwx wx)
            | (go_at_call 20; have chk := HB4; go_must (refine (k3 _).mono ?_); rintro e w5 ⟨rfl, hb5⟩; have HB5 : Hid (Below _ _ _) := hb5; clear hb5; clear chk)
            | (go_at_call 12; go_must (refine (km _).mono ?_); rintro e w4 ⟨rfl, hb4⟩; have HB4 : Hid (Below _ _ _) := hb4; clear hb4)
            | (go_at_call 20; have chk := HB2; go_must (refine (k2 _).mono ?_); rintro e w3 ⟨rfl, hb3⟩; have HB3 : Hid (Below _ _ _) := hb3; clear hb3; clear chk)
            | (go_at_call 20; have chk := HB1; go_must (refine (k1 _).mono ?_); rintro e w2 ⟨rfl, hb2⟩; have HB2 : Hid (Below _ _ _) := hb2; clear hb2; clear chk)
            | (go_at_call 16; go_must (refine (kis _).mono ?_); rintro e wx ⟨rfl, hwx⟩; rw [hwx]; clear hwx wx)
            | (go_at_call 8; go_must (refine (produp_any _).mono ?_); rintro e w1 ⟨rfl, hb1⟩; have HB1 : Hid (Below _ _ _) := hb1; clear hb1))
          all_goals exact hQ.out _ _ ⟨by first | rfl | simp, cthen (cthen (cthen (cthen (cthen (Below.refl _ _) HB1.out) HB2.out) HB3.out) HB4.out) HB5.out⟩
        · have g1 : decide (4 * (m : Int) - 8 < s + t) = false := decide_eq_false c1
          by_cases c2 : s + t < 8 - 4 * (m : Int)
          · have g2 : decide (s + t < 8 - 4 * (m : Int)) = true := decide_eq_true c2
            rw [hlow (by have := wd_le hm; omega) (.inl c2), show ((1 : Nat) : Int) = 1 from rfl] at km
            clear htop hlow hthe hm c1 c2 HR
            generalize patT m s = ps at *
            generalize patT m t = pt at *
            generalize patT m (s + t) = pst at *
            generalize okT m (s + t) = ok at *
            generalize H - 1 = H1 at *
            go_enter Try.func7, Try.ntmps7
            go_wp2_with (first
              | (go_at_call 17; go_must (refine (kp _).mono ?_); rintro e wx ⟨rfl, hwx⟩; rw [hwx]; clear hwx wx)
              | (go_at_call 20; have chk := HB4; go_must (refine (k3 _).mono ?_); rintro e w5 ⟨rfl, hb5⟩; have HB5 : Hid (Below _ _ _) := hb5; clear hb5; clear chk)
              | (go_at_call 12; go_must (refine (km _).mono ?_); rintro e w4 ⟨rfl, hb4⟩; have HB4 : Hid (Below _ _ _) := hb4; clear hb4)
              | (go_at_call 20; have chk := HB2; go_must (refine (k2 _).mono ?_); rintro e w3 ⟨rfl, hb3⟩; have HB3 : Hid (Below _ _ _) := hb3; clear hb3; clear chk)
              | (go_at_call 20; have chk := HB1; go_must (refine (k1 _).mono ?_); rintro e w2 ⟨rfl, hb2⟩; have HB2 : Hid (Below _ _ _) := hb2; clear hb2; clear chk)
              | (go_at_call 16; go_must (refine (kis _).mono ?_); rintro e wx ⟨rfl, hwx⟩; rw [hwx]; clear hwx wx)
              | (go_at_call 8; go_must (refine (produp_any _).mono ?_); rintro e w1 ⟨rfl, hb1⟩; have HB1 : Hid (Below _ _ _) := hb1; clear hb1))
            all_goals exact hQ.out _ _ ⟨by first | rfl | simp, cthen (cthen (cthen (cthen (cthen (Below.refl _ _) HB1.out) HB2.out) HB3.out) HB4.out) HB5.out⟩
          · have g2 : decide (s + t < 8 - 4 * (m : Int)) = false := decide_eq_false c2
            clear htop hlow c1 c2 hm
            have HT : Hid (okT m (s + t) = true → rndX m (s + t) P63 0 false = patT m (s + t)) := hthe
            clear hthe
            generalize rndX m (s + t) P63 0 false = X at *
            generalize patT m s = ps at *
            generalize patT m t = pt at *
            generalize patT m (s + t) = pst at *
            cases hst : okT m (s + t)
            · rw [hst] at k3
              have x1 : decide ((0 : Int) < (X : Int)) = true := decide_eq_true (by have := HR.out; omega)
              have x2 : decide ((X : Int) < (H : Int)) = true := decide_eq_true (by have := HR.out; omega)
              clear hst HT
              go_enter Try.func7, Try.ntmps7
              go_wp2_with (first
                | (go_at_call 17; go_must (refine (kp _).mono ?_); rintro e wx ⟨rfl, hwx⟩; rw [hwx]; clear hwx wx)
                | (go_at_call 20; have chk := HB4; go_must (refine (k3 _).mono ?_); rintro e w5 ⟨rfl, hb5⟩; have HB5 : Hid (Below _ _ _) := hb5; clear hb5; clear chk)
                | (go_at_call 12; go_must (refine (km _).mono ?_); rintro e w4 ⟨rfl, hb4⟩; have HB4 : Hid (Below _ _ _) := hb4; clear hb4)
                | (go_at_call 20; have chk := HB2; go_must (refine (k2 _).mono ?_); rintro e w3 ⟨rfl, hb3⟩; have HB3 : Hid (Below _ _ _) := hb3; clear hb3; clear chk)
                | (go_at_call 20; have chk := HB1; go_must (refine (k1 _).mono ?_); rintro e w2 ⟨rfl, hb2⟩; have HB2 : Hid (Below _ _ _) := hb2; clear hb2; clear chk)
                | (go_at_call 16; go_must (refine (kis _).mono ?_); rintro e wx ⟨rfl, hwx⟩; rw [hwx]; clear hwx wx)
                | (go_at_call 8; go_must (refine (produp_any _).mono ?_); rintro e w1 ⟨rfl, hb1⟩; have HB1 : Hid (Below _ _ _) := hb1; clear hb1))
              all_goals exact hQ.out _ _ ⟨by first | rfl | (simp; done) | (have := HR.out; simp; omega) | (have := HR.out; exfalso; omega), cthen (cthen (cthen (cthen (cthen (Below.refl _ _) HB1.out) HB2.out) HB3.out) HB4.out) HB5.out⟩
            · rw [hst] at k3
              have e := HT.out hst
              subst e
              clear hst HT HR
              generalize H - 1 = H1 at *
              go_enter Try.func7, Try.ntmps7
              go_wp2_with (first
                | (go_at_call 17; go_must (refine (kp _).mono ?_); rintro e wx ⟨rfl, hwx⟩; rw [hwx]; clear hwx wx)
                | (go_at_call 20; have chk := HB4; go_must (refine (k3 _).mono ?_); rintro e w5 ⟨rfl, hb5⟩; have HB5 : Hid (Below _ _ _) := hb5; clear hb5; clear chk)
                | (go_at_call 12; go_must (refine (km _).mono ?_); rintro e w4 ⟨rfl, hb4⟩; have HB4 : Hid (Below _ _ _) := hb4; clear hb4)
                | (go_at_call 20; have chk := HB2; go_must (refine (k2 _).mono ?_); rintro e w3 ⟨rfl, hb3⟩; have HB3 : Hid (Below _ _ _) := hb3; clear hb3; clear chk)
                | (go_at_call 20; have chk := HB1; go_must (refine (k1 _).mono ?_); rintro e w2 ⟨rfl, hb2⟩; have HB2 : Hid (Below _ _ _) := hb2; clear hb2; clear chk)
                | (go_at_call 16; go_must (refine (kis _).mono ?_); rintro e wx ⟨rfl, hwx⟩; rw [hwx]; clear hwx wx)
                | (go_at_call 8; go_must (refine (produp_any _).mono ?_); rintro e w1 ⟨rfl, hb1⟩; have HB1 : Hid (Below _ _ _) := hb1; clear hb1))
              all_goals exact hQ.out _ _ ⟨by first | rfl | simp, cthen (cthen (cthen (cthen (cthen (Below.refl _ _) HB1.out) HB2.out) HB3.out) HB4.out) HB5.out⟩
      · have hno : okT m s = false ∨ (okT m s = true ∧ okT m t = false) := by
          cases h1 : okT m s
          · exact .inl rfl
          · cases h2 : okT m t
            · exact .inr ⟨rfl, rfl⟩
            · exact absurd ⟨h1, h2⟩ hok
        clear hok hisw hm r1 r2 r3 r4 hw kp k3
        generalize patT m s = ps at *
        generalize patT m t = pt at *
        generalize okT m s = os at *
        generalize okT m t = ot at *
        rcases hno with rfl | ⟨rfl, rfl⟩
        all_goals
          go_enter Try.func7, Try.ntmps7
          go_wp2_with (first
            | (go_at_call 20; have chk := HB2; go_must (refine (k2 _).mono ?_); rintro e w3 ⟨rfl, hb3⟩; have HB3 : Hid (Below _ _ _) := hb3; clear hb3; clear chk)
            | (go_at_call 20; have chk := HB1; go_must (refine (k1 _).mono ?_); rintro e w2 ⟨rfl, hb2⟩; have HB2 : Hid (Below _ _ _) := hb2; clear hb2; clear chk)
            | (go_at_call 16; go_must (refine (kis _).mono ?_); rintro e wx ⟨rfl, hwx⟩; rw [hwx]; clear hwx wx)
            | (go_at_call 8; go_must (refine (produp_any _).mono ?_); rintro e w1 ⟨rfl, hb1⟩; have HB1 : Hid (Below _ _ _) := hb1; clear hb1))
          all_goals exact hQ.out _ _ ⟨by first | rfl | simp, cthen (cthen (cthen (Below.refl _ _) HB1.out) HB2.out) HB3.out⟩
    · have hd : decide (s < -300) = true ∨ (decide (s < -300) = false ∧ decide (300 < s) = true) ∨ (decide (s < -300) = false ∧ decide (300 < s) = false ∧ decide (t < -300) = true) ∨ (decide (s < -300) = false ∧ decide (300 < s) = false ∧ decide (t < -300) = false ∧ decide (300 < t) = true) := by
        by_cases c1 : s < -300
        · exact .inl (decide_eq_true c1)
        · by_cases c2 : 300 < s
          · exact .inr (.inl ⟨decide_eq_false c1, decide_eq_true c2⟩)
          · by_cases c3 : t < -300
            · exact .inr (.inr (.inl ⟨decide_eq_false c1, decide_eq_false c2, decide_eq_true c3⟩))
            · exact .inr (.inr (.inr ⟨decide_eq_false c1, decide_eq_false c2, decide_eq_false c3, decide_eq_true (by omega)⟩))
      clear hr hm hisw
      rcases hd with c1 | ⟨c1, c2⟩ | ⟨c1, c2, c3⟩ | ⟨c1, c2, c3, c4⟩
      all_goals
        go_enter Try.func7, Try.ntmps7
        go_wp2_with (first
          | (go_at_call 16; go_must (refine (kis _).mono ?_); rintro e wx ⟨rfl, hwx⟩; rw [hwx]; clear hwx wx)
          | (go_at_call 8; go_must (refine (produp_any _).mono ?_); rintro e w1 ⟨rfl, hb1⟩; have HB1 : Hid (Below _ _ _) := hb1; clear hb1))
        all_goals exact hQ.out _ _ ⟨by first | rfl | simp, cthen (Below.refl _ _) HB1.out⟩
end Go.Proofs.Ytejibojcfobdkaa
