import Derived.Test.YtmkdnhdbgoehgaaJoin6
namespace Go.Proofs.Ytmkdnhdbgoehgaa
open Go.ChangeShapes Go.WideShapes Go.ChangeAt Go.RowKit
set_option linter.unusedVariables false
set_option linter.unusedSimpArgs false
set_option maxRecDepth 100000

set_option maxHeartbeats 4000000 in
theorem sumRises_walk (n ia ib ic : Int) (wn : (Lit.int .i64 n).wf = true) (wa : (Lit.int .u64 ia).wf = true) (wb : (Lit.int .u64 ib).wf = true) (wc : (Lit.int .u64 ic).wf = true) (w : World) :
    Calls Try.prog 5 #[.int .i64 n, .int .u64 ia, .int .u64 ib, .int .u64 ic] w fun e w' => e = .returned (.bool true) ∧ Below w.heap.size w w' := by
  obtain ⟨a, rfl, ha⟩ := nat_of_u64 wa
  obtain ⟨b, rfl, hb⟩ := nat_of_u64 wb
  obtain ⟨c, rfl, hc⟩ := nat_of_u64 wc
  clear wn wa wb wc
  refine cps fun Q hQ => ?_
  have kis := is_width n
  cases hisw : isW n
  · rw [hisw] at kis
    clear hisw ha hb hc
    go_enter Try.func5, Try.ntmps5
    go_wp2_with (first
      | (go_at_call 10; go_must (refine (kis _).mono ?_); rintro e wx ⟨rfl, hwx⟩; rw [hwx]; clear hwx wx)
      | (go_at_call 6; go_must (refine (sumup_any _).mono ?_); rintro e w1 ⟨rfl, hb1⟩; have HB1 : Hid (Below _ _ _) := hb1; clear hb1))
    all_goals exact hQ.out _ _ ⟨by first | rfl | simp, cthen (Below.refl _ _) HB1.out⟩
  · obtain ⟨m, rfl, hm⟩ := isW_yes hisw
    rw [hisw] at kis
    have hw := wd_le hm
    have q1 : IntKind.i64.wrap ((m : Int) - 1) = (m : Int) - 1 := wrapI (by omega)
    have kp := power_sub m (by omega) hw.2
    have f1 := fold6_any m a hm
    have f2 := fold6_any m b hm
    have f3 := fold6_any m c hm
    have k1 := sadd_ok m a b hm ha hb
    have k2 := sadd_ok m a c hm ha hc
    have k3 := cmp8_ok m b c hm
    have k4 := cmp8_ok m (patS m a b) (patS m a c) hm
    have hkn : ∀ x, vK m x ≠ 2 → (((x % 2 ^ m : Nat) : Int) == ((2 ^ (m - 1) : Nat) : Int)) = false := fun x hk => beq_eq_false_iff_ne.2 (fun c => by
      have c2 : x % 2 ^ m = 2 ^ (m - 1) := Int.ofNat.inj c
      have : narB m x = true := decide_eq_true c2
      rw [narB_kind m x hm, decide_eq_false hk] at this
      cases this)
    have hky : ∀ x, vK m x = 2 → x % 2 ^ m = 2 ^ (m - 1) := fun x hk => by rcases v_kinds m x hm with ⟨h, _⟩ | h | ⟨_, h⟩; exact absurd (h.symm.trans hk) (by decide); exact absurd (h.symm.trans hk) (by decide); exact h
    have hways := patS_ways m a b c hm ha hb hc
    by_cases ka : vK m a = 2
    · have e1 := hky a ka
      rw [e1] at f1
      clear hkn hky hways k1 k2 k3 k4 e1 ka hw hisw hm ha hb hc f2 f3
      generalize 2 ^ (m - 1) = nar at *
      go_enter Try.func5, Try.ntmps5
      go_wp2_with (first
        | (go_at_call 13; go_must (refine (f1 _).mono ?_); rintro e w2 ⟨rfl, hb2⟩; have HB2 : Hid (Below _ _ _) := hb2; clear hb2)
        | (go_at_call 14; go_must (refine (kp _).mono ?_); rintro e wx ⟨rfl, hwx⟩; rw [hwx]; clear hwx wx)
        | (go_at_call 10; go_must (refine (kis _).mono ?_); rintro e wx ⟨rfl, hwx⟩; rw [hwx]; clear hwx wx)
        | (go_at_call 6; go_must (refine (sumup_any _).mono ?_); rintro e w1 ⟨rfl, hb1⟩; have HB1 : Hid (Below _ _ _) := hb1; clear hb1))
      all_goals exact hQ.out _ _ ⟨by first | rfl | simp, cthen (cthen (Below.refl _ _) HB1.out) HB2.out⟩
    · have d1 := hkn a ka
      by_cases kb : vK m b = 2
      · have e1 := hky b kb
        rw [e1] at f2
        clear hkn hky hways k1 k2 k3 k4 e1 ka kb hw hisw hm ha hb hc f3
        generalize 2 ^ (m - 1) = nar at *
        generalize a % 2 ^ m = own at *
        go_enter Try.func5, Try.ntmps5
        go_wp2_with (first
          | (go_at_call 13; have chk := HB2; go_must (refine (f2 _).mono ?_); rintro e w3 ⟨rfl, hb3⟩; have HB3 : Hid (Below _ _ _) := hb3; clear hb3; clear chk)
          | (go_at_call 13; have chk := HB1; go_must (refine (f1 _).mono ?_); rintro e w2 ⟨rfl, hb2⟩; have HB2 : Hid (Below _ _ _) := hb2; clear hb2; clear chk)
          | (go_at_call 14; go_must (refine (kp _).mono ?_); rintro e wx ⟨rfl, hwx⟩; rw [hwx]; clear hwx wx)
          | (go_at_call 10; go_must (refine (kis _).mono ?_); rintro e wx ⟨rfl, hwx⟩; rw [hwx]; clear hwx wx)
          | (go_at_call 6; go_must (refine (sumup_any _).mono ?_); rintro e w1 ⟨rfl, hb1⟩; have HB1 : Hid (Below _ _ _) := hb1; clear hb1))
        all_goals exact hQ.out _ _ ⟨by first | rfl | simp, cthen (cthen (cthen (Below.refl _ _) HB1.out) HB2.out) HB3.out⟩
      · have d2 := hkn b kb
        by_cases kc : vK m c = 2
        · have e1 := hky c kc
          rw [e1] at f3
          clear hkn hky hways k1 k2 k3 k4 e1 ka kb kc hw hisw hm ha hb hc
          generalize 2 ^ (m - 1) = nar at *
          generalize a % 2 ^ m = own at *
          generalize b % 2 ^ m = own2 at *
          go_enter Try.func5, Try.ntmps5
          go_wp2_with (first
            | (go_at_call 13; have chk := HB3; go_must (refine (f3 _).mono ?_); rintro e w4 ⟨rfl, hb4⟩; have HB4 : Hid (Below _ _ _) := hb4; clear hb4; clear chk)
            | (go_at_call 13; have chk := HB2; go_must (refine (f2 _).mono ?_); rintro e w3 ⟨rfl, hb3⟩; have HB3 : Hid (Below _ _ _) := hb3; clear hb3; clear chk)
            | (go_at_call 13; have chk := HB1; go_must (refine (f1 _).mono ?_); rintro e w2 ⟨rfl, hb2⟩; have HB2 : Hid (Below _ _ _) := hb2; clear hb2; clear chk)
            | (go_at_call 14; go_must (refine (kp _).mono ?_); rintro e wx ⟨rfl, hwx⟩; rw [hwx]; clear hwx wx)
            | (go_at_call 10; go_must (refine (kis _).mono ?_); rintro e wx ⟨rfl, hwx⟩; rw [hwx]; clear hwx wx)
            | (go_at_call 6; go_must (refine (sumup_any _).mono ?_); rintro e w1 ⟨rfl, hb1⟩; have HB1 : Hid (Below _ _ _) := hb1; clear hb1))
          all_goals exact hQ.out _ _ ⟨by first | rfl | simp, cthen (cthen (cthen (cthen (Below.refl _ _) HB1.out) HB2.out) HB3.out) HB4.out⟩
        · have d3 := hkn c kc
          obtain ⟨g1, g2⟩ := hways ka kb kc
          clear hkn hky hways ka kb kc hw hisw hm ha hb hc
          generalize cmpR m (patS m a b) (patS m a c) = got at *
          generalize cmpR m b c = way at *
          generalize patS m a b = P1 at *
          generalize patS m a c = P2 at *
          generalize 2 ^ (m - 1) = nar at *
          generalize a % 2 ^ m = own at *
          generalize b % 2 ^ m = own2 at *
          generalize c % 2 ^ m = own3 at *
          have G1 : Hid ((0 < way ∨ got ≤ 0) ∧ (way < 0 ∨ 0 ≤ got)) := ⟨g1, g2⟩
          clear g1 g2
          go_enter Try.func5, Try.ntmps5
          go_wp2_with (first
            | (go_at_call 16; have chk := HB7; go_must (refine (k4 _).mono ?_); rintro e w8 ⟨rfl, hb8⟩; have HB8 : Hid (Below _ _ _) := hb8; clear hb8; clear chk)
            | (go_at_call 16; have chk := HB6; go_must (refine (k3 _).mono ?_); rintro e w7 ⟨rfl, hb7⟩; have HB7 : Hid (Below _ _ _) := hb7; clear hb7; clear chk)
            | (go_at_call 11; have chk := HB5; go_must (refine (k2 _).mono ?_); rintro e w6 ⟨rfl, hb6⟩; have HB6 : Hid (Below _ _ _) := hb6; clear hb6; clear chk)
            | (go_at_call 11; have chk := HB4; go_must (refine (k1 _).mono ?_); rintro e w5 ⟨rfl, hb5⟩; have HB5 : Hid (Below _ _ _) := hb5; clear hb5; clear chk)
            | (go_at_call 13; have chk := HB3; go_must (refine (f3 _).mono ?_); rintro e w4 ⟨rfl, hb4⟩; have HB4 : Hid (Below _ _ _) := hb4; clear hb4; clear chk)
            | (go_at_call 13; have chk := HB2; go_must (refine (f2 _).mono ?_); rintro e w3 ⟨rfl, hb3⟩; have HB3 : Hid (Below _ _ _) := hb3; clear hb3; clear chk)
            | (go_at_call 13; have chk := HB1; go_must (refine (f1 _).mono ?_); rintro e w2 ⟨rfl, hb2⟩; have HB2 : Hid (Below _ _ _) := hb2; clear hb2; clear chk)
            | (go_at_call 14; go_must (refine (kp _).mono ?_); rintro e wx ⟨rfl, hwx⟩; rw [hwx]; clear hwx wx)
            | (go_at_call 10; go_must (refine (kis _).mono ?_); rintro e wx ⟨rfl, hwx⟩; rw [hwx]; clear hwx wx)
            | (go_at_call 6; go_must (refine (sumup_any _).mono ?_); rintro e w1 ⟨rfl, hb1⟩; have HB1 : Hid (Below _ _ _) := hb1; clear hb1))
          all_goals exact hQ.out _ _ ⟨by first | rfl | (have := G1.out; simp <;> omega) | simp, cthen (cthen (cthen (cthen (cthen (cthen (cthen (cthen (Below.refl _ _) HB1.out) HB2.out) HB3.out) HB4.out) HB5.out) HB6.out) HB7.out) HB8.out⟩
end Go.Proofs.Ytmkdnhdbgoehgaa
