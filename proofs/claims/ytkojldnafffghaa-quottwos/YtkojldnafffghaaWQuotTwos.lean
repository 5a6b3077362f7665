import Derived.Test.YtkojldnafffghaaJoin8
namespace Go.Proofs.Ytkojldnafffghaa
open Go.ChangeShapes Go.WideShapes Go.ChangeAt Go.RowKit
set_option linter.unusedVariables false
set_option linter.unusedSimpArgs false
set_option maxRecDepth 100000

set_option maxHeartbeats 4000000 in
theorem quotTwos_walk (n ia s : Int) (wn : (Lit.int .i64 n).wf = true) (wa : (Lit.int .u64 ia).wf = true) (ws : (Lit.int .i64 s).wf = true) (w : World) :
    Calls Try.prog 7 #[.int .i64 n, .int .u64 ia, .int .i64 s] w fun e w' => e = .returned (.bool true) ∧ Below w.heap.size w w' := by
  obtain ⟨a, rfl, ha⟩ := nat_of_u64 wa
  clear wn wa ws
  refine cps fun Q hQ => ?_
  have kis := is_width n
  cases hisw : isW n
  · rw [hisw] at kis
    clear hisw ha
    go_enter Try.func7, Try.ntmps7
    go_wp2_with (first
      | (go_at_call 15; go_must (refine (kis _).mono ?_); rintro e wx ⟨rfl, hwx⟩; rw [hwx]; clear hwx wx)
      | (go_at_call 8; go_must (refine (quotup_any _).mono ?_); rintro e w1 ⟨rfl, hb1⟩; have HB1 : Hid (Below _ _ _) := hb1; clear hb1))
    all_goals exact hQ.out _ _ ⟨by first | rfl | simp, cthen (Below.refl _ _) HB1.out⟩
  · obtain ⟨m, rfl, hm⟩ := isW_yes hisw
    rw [hisw] at kis
    by_cases hr : -300 ≤ s ∧ s ≤ 300
    · obtain ⟨r1, r2⟩ := hr
      have d1 : decide (s < -300) = false := decide_eq_false (by omega)
      have d2 : decide (300 < s) = false := decide_eq_false (by omega)
      have e1 : IntKind.i64.wrap (-s) = -s := wrapI (by omega)
      have kp := power_any 63 (by decide)
      rw [show (2 : Nat) ^ 63 = P63 by decide, show ((63 : Nat) : Int) = 63 from rfl] at kp
      have k1 := enc_two m s hm (by omega) (by omega)
      have k2 := enc_two m (-s) hm (by omega) (by omega)
      by_cases hok : okT m s = true ∧ okT m (-s) = true
      · obtain ⟨o1, o2⟩ := hok
        have f1 := okT_facts m s hm o1
        have f2 := okT_facts m (-s) hm o2
        obtain ⟨g1, g2⟩ := quo_mul m a s hm ha o1 o2
        have k3 := qdiv_ok m a (patT m s) hm ha (lt64_of hm f1.1)
        have k4 := pmul_ok m a (patT m (-s)) hm ha (lt64_of hm f2.1)
        have k5 := qinv_ok m (patT m s) hm (lt64_of hm f1.1)
        rw [g1] at k3
        rw [g2] at k5
        rw [if_pos o1] at k1
        rw [if_pos o2] at k2
        unfold numV at k1 k2
        clear f1 f2 o1 o2 g1 g2 hisw hm ha r1 r2
        generalize patP m a (patT m (-s)) = V at *
        generalize patT m s = ps at *
        generalize patT m (-s) = pt at *
        generalize P63 = p63 at *
        go_enter Try.func7, Try.ntmps7
        go_wp2_with (first
          | (go_at_call 14; go_must (refine (k5 _).mono ?_); rintro e w6 ⟨rfl, hb6⟩; have HB6 : Hid (Below _ _ _) := hb6; clear hb6)
          | (go_at_call 21; go_must (refine (k4 _).mono ?_); rintro e w5 ⟨rfl, hb5⟩; have HB5 : Hid (Below _ _ _) := hb5; clear hb5)
          | (go_at_call 12; go_must (refine (k3 _).mono ?_); rintro e w4 ⟨rfl, hb4⟩; have HB4 : Hid (Below _ _ _) := hb4; clear hb4)
          | (go_at_call 20; have chk := HB2; go_must (refine (k2 _).mono ?_); rintro e w3 ⟨rfl, hb3⟩; have HB3 : Hid (Below _ _ _) := hb3; clear hb3; clear chk)
          | (go_at_call 20; have chk := HB1; go_must (refine (k1 _).mono ?_); rintro e w2 ⟨rfl, hb2⟩; have HB2 : Hid (Below _ _ _) := hb2; clear hb2; clear chk)
          | (go_at_call 17; go_must (refine (kp _).mono ?_); rintro e wx ⟨rfl, hwx⟩; rw [hwx]; clear hwx wx)
          | (go_at_call 15; go_must (refine (kis _).mono ?_); rintro e wx ⟨rfl, hwx⟩; rw [hwx]; clear hwx wx)
          | (go_at_call 8; go_must (refine (quotup_any _).mono ?_); rintro e w1 ⟨rfl, hb1⟩; have HB1 : Hid (Below _ _ _) := hb1; clear hb1))
        all_goals exact hQ.out _ _ ⟨by first | rfl | simp, cthen (cthen (cthen (cthen (cthen (cthen (Below.refl _ _) HB1.out) HB2.out) HB3.out) HB4.out) HB5.out) HB6.out⟩
      · have hno : okT m s = false ∨ (okT m s = true ∧ okT m (-s) = false) := by
          cases h1 : okT m s
          · exact .inl rfl
          · cases h2 : okT m (-s)
            · exact .inr ⟨rfl, rfl⟩
            · exact absurd ⟨h1, h2⟩ hok
        unfold numV at k1 k2
        clear hok hisw hm ha r1 r2
        generalize patT m s = ps at *
        generalize patT m (-s) = pt at *
        generalize okT m s = os at *
        generalize okT m (-s) = ot at *
        generalize P63 = p63 at *
        rcases hno with rfl | ⟨rfl, rfl⟩
        · rw [if_neg (by decide)] at k1
          cases ot
          · rw [if_neg (by decide)] at k2
            go_enter Try.func7, Try.ntmps7
            go_wp2_with (first
              | (go_at_call 20; have chk := HB2; go_must (refine (k2 _).mono ?_); rintro e w3 ⟨rfl, hb3⟩; have HB3 : Hid (Below _ _ _) := hb3; clear hb3; clear chk)
              | (go_at_call 20; have chk := HB1; go_must (refine (k1 _).mono ?_); rintro e w2 ⟨rfl, hb2⟩; have HB2 : Hid (Below _ _ _) := hb2; clear hb2; clear chk)
              | (go_at_call 17; go_must (refine (kp _).mono ?_); rintro e wx ⟨rfl, hwx⟩; rw [hwx]; clear hwx wx)
              | (go_at_call 15; go_must (refine (kis _).mono ?_); rintro e wx ⟨rfl, hwx⟩; rw [hwx]; clear hwx wx)
              | (go_at_call 8; go_must (refine (quotup_any _).mono ?_); rintro e w1 ⟨rfl, hb1⟩; have HB1 : Hid (Below _ _ _) := hb1; clear hb1))
            all_goals exact hQ.out _ _ ⟨by first | rfl | simp, cthen (cthen (cthen (Below.refl _ _) HB1.out) HB2.out) HB3.out⟩
          · rw [if_pos rfl] at k2
            go_enter Try.func7, Try.ntmps7
            go_wp2_with (first
              | (go_at_call 20; have chk := HB2; go_must (refine (k2 _).mono ?_); rintro e w3 ⟨rfl, hb3⟩; have HB3 : Hid (Below _ _ _) := hb3; clear hb3; clear chk)
              | (go_at_call 20; have chk := HB1; go_must (refine (k1 _).mono ?_); rintro e w2 ⟨rfl, hb2⟩; have HB2 : Hid (Below _ _ _) := hb2; clear hb2; clear chk)
              | (go_at_call 17; go_must (refine (kp _).mono ?_); rintro e wx ⟨rfl, hwx⟩; rw [hwx]; clear hwx wx)
              | (go_at_call 15; go_must (refine (kis _).mono ?_); rintro e wx ⟨rfl, hwx⟩; rw [hwx]; clear hwx wx)
              | (go_at_call 8; go_must (refine (quotup_any _).mono ?_); rintro e w1 ⟨rfl, hb1⟩; have HB1 : Hid (Below _ _ _) := hb1; clear hb1))
            all_goals exact hQ.out _ _ ⟨by first | rfl | simp, cthen (cthen (cthen (Below.refl _ _) HB1.out) HB2.out) HB3.out⟩
        · rw [if_pos rfl] at k1
          rw [if_neg (by decide)] at k2
          go_enter Try.func7, Try.ntmps7
          go_wp2_with (first
            | (go_at_call 20; have chk := HB2; go_must (refine (k2 _).mono ?_); rintro e w3 ⟨rfl, hb3⟩; have HB3 : Hid (Below _ _ _) := hb3; clear hb3; clear chk)
            | (go_at_call 20; have chk := HB1; go_must (refine (k1 _).mono ?_); rintro e w2 ⟨rfl, hb2⟩; have HB2 : Hid (Below _ _ _) := hb2; clear hb2; clear chk)
            | (go_at_call 17; go_must (refine (kp _).mono ?_); rintro e wx ⟨rfl, hwx⟩; rw [hwx]; clear hwx wx)
            | (go_at_call 15; go_must (refine (kis _).mono ?_); rintro e wx ⟨rfl, hwx⟩; rw [hwx]; clear hwx wx)
            | (go_at_call 8; go_must (refine (quotup_any _).mono ?_); rintro e w1 ⟨rfl, hb1⟩; have HB1 : Hid (Below _ _ _) := hb1; clear hb1))
          all_goals exact hQ.out _ _ ⟨by first | rfl | simp, cthen (cthen (cthen (Below.refl _ _) HB1.out) HB2.out) HB3.out⟩
    · have hd : decide (s < -300) = true ∨ (decide (s < -300) = false ∧ decide (300 < s) = true) := by
        by_cases c1 : s < -300
        · exact .inl (decide_eq_true c1)
        · exact .inr ⟨decide_eq_false c1, decide_eq_true (by omega)⟩
      clear hr hm hisw ha
      rcases hd with c1 | ⟨c1, c2⟩
      all_goals
        go_enter Try.func7, Try.ntmps7
        go_wp2_with (first
          | (go_at_call 15; go_must (refine (kis _).mono ?_); rintro e wx ⟨rfl, hwx⟩; rw [hwx]; clear hwx wx)
          | (go_at_call 8; go_must (refine (quotup_any _).mono ?_); rintro e w1 ⟨rfl, hb1⟩; have HB1 : Hid (Below _ _ _) := hb1; clear hb1))
        all_goals exact hQ.out _ _ ⟨by first | rfl | simp, cthen (Below.refl _ _) HB1.out⟩
end Go.Proofs.Ytkojldnafffghaa
