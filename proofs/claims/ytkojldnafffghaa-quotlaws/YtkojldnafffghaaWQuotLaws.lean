import Derived.Test.YtkojldnafffghaaJoin8
namespace Go.Proofs.Ytkojldnafffghaa
open Go.ChangeShapes Go.WideShapes Go.ChangeAt Go.RowKit
set_option linter.unusedVariables false
set_option linter.unusedSimpArgs false
set_option maxRecDepth 100000

set_option maxHeartbeats 4000000 in
theorem quotLaws_walk (n ia ib : Int) (wn : (Lit.int .i64 n).wf = true) (wa : (Lit.int .u64 ia).wf = true) (wb : (Lit.int .u64 ib).wf = true) (w : World) :
    Calls Try.prog 6 #[.int .i64 n, .int .u64 ia, .int .u64 ib] w fun e w' => e = .returned (.bool true) ∧ Below w.heap.size w w' := by
  have he := fun w a b => Lib.run_eql_iface_int (P := Try.prog) w (t := 29) (tx := 43) (k := .i64) a b Try.underlying29 (by kernel_rfl) Try.underlying43
  have hnl := nil_not_code
  obtain ⟨a, rfl, ha⟩ := nat_of_u64 wa
  obtain ⟨b, rfl, hb⟩ := nat_of_u64 wb
  clear wn wa wb
  refine cps fun Q hQ => ?_
  have kis := is_width n
  cases hisw : isW n
  · have k1 := qdiv_no n a b hisw
    rw [hisw] at kis
    unfold codeV at *
    clear hisw ha hb
    go_enter Try.func6, Try.ntmps6
    go_wp2_with (first
      | (go_at_call 12; go_must (refine (k1 _).mono ?_); rintro e w2 ⟨rfl, hb2⟩; have HB2 : Hid (Below _ _ _) := hb2; clear hb2)
      | (go_at_call 15; go_must (refine (kis _).mono ?_); rintro e wx ⟨rfl, hwx⟩; rw [hwx]; clear hwx wx)
      | (go_at_call 8; go_must (refine (quotup_any _).mono ?_); rintro e w1 ⟨rfl, hb1⟩; have HB1 : Hid (Below _ _ _) := hb1; clear hb1))
    all_goals exact hQ.out _ _ ⟨by first | rfl | simp, cthen (cthen (Below.refl _ _) HB1.out) HB2.out⟩
  · obtain ⟨m, rfl, hm⟩ := isW_yes hisw
    rw [hisw] at kis
    have hw := wd_le hm
    obtain ⟨n2, hn2⟩ : ∃ x, x = m - 2 := ⟨_, rfl⟩
    obtain ⟨n1, hn1⟩ : ∃ x, x = m - 1 := ⟨_, rfl⟩
    have q1 : IntKind.i64.wrap ((m : Int) - 1) = (n1 : Int) := by rw [wrapI (by omega)]; omega
    have q2 : IntKind.i64.wrap ((m : Int) - 2) = (n2 : Int) := by rw [wrapI (by omega)]; omega
    have kp1 := power_any n2 (by omega)
    have kp2 := power_any n1 (by omega)
    have ol := one_lt m hm
    have k1 := qdiv_ok m a b hm ha hb
    have k2 := qdiv_ok m a (2 ^ (m - 2)) hm ha ol
    rw [patQ_one m a hm ha] at k2
    have k3 := qdiv_ok m a (minusU (2 ^ (m - 2))) hm ha (minusU_lt _)
    rw [patQ_mone m a hm ha] at k3
    have k4 := qdiv_ok m a a hm ha ha
    have k5 := qdiv_ok m (minusU a) b hm (minusU_lt a) hb
    rw [patQ_minus1 m a b hm ha hb] at k5
    have k6 := qdiv_ok m a (minusU b) hm ha (minusU_lt b)
    rw [patQ_minus2 m a b hm ha hb] at k6
    have k7 := qdiv_ok m a 0 hm ha (by decide)
    rw [patQ_nar m a 0 (.inr (by rw [vK_zero]; decide))] at k7
    have k8 := fold6_any m a hm
    have hpl := lt64_of hm (patQ_lt m a b hm ha hb)
    have ka := neg6_any m a hm ha
    have kb := neg6_any m (patQ m a b) hm hpl
    change ∀ w, Calls Try.prog 19 #[.int .i64 m, .int .u64 (a : Nat)] w fun e w' => e = .returned (.int .u64 (negO m a : Nat)) ∧ Below w.heap.size w w' at ka
    change ∀ w, Calls Try.prog 19 #[.int .i64 m, .int .u64 (patQ m a b : Nat)] w fun e w' => e = .returned (.int .u64 (negO m (patQ m a b) : Nat)) ∧ Below w.heap.size w w' at kb
    have kc := kb
    have wa := minusU_wrap a ha
    have wb := minusU_wrap b hb
    have wo := minusU_wrap (2 ^ (m - 2)) ol
    have hmod := negO_mod m a hm ha
    have hnn := negO_nar m hm
    have hnz := negO_zero m hm
    rw [show ((0 : Nat) : Int) = 0 from rfl] at *
    rw [← hn2] at k2 k3 wo
    rw [← hn1] at k7 hnn
    obtain ⟨H, p1, p2, p3, _⟩ := wd_pows hm
    rw [← hn1] at p2
    have e0 : ((0 : Int) == ((2 ^ n1 : Nat) : Int)) = false := beq_eq_false_iff_ne.2 (by omega)
    clear p1 p2 p3
    rcases v_kinds m a hm with ⟨hk, hz⟩ | hk | ⟨hk, hz⟩
    · have e4 := patQ_nar m a a (.inr (by rw [hk]; decide))
      rw [← hn1] at e4
      rw [hz] at k2 k8 hmod
      rw [← hmod, hnz] at k3 ka
      rw [e4] at k4
      rw [show ((0 : Nat) : Int) = 0 from rfl] at *
      clear e4 hk hz hmod hnn hnz hpl hw hisw hm ha hb ol hn1 hn2
      generalize negO m (patQ m a b) = NP at *
      generalize patQ m a b = P at *
      generalize 2 ^ n1 = nar at *
      generalize 2 ^ n2 = one at *
      generalize minusU a = ua at *
      generalize minusU b = ub at *
      generalize minusU one = uo at *
      go_enter Try.func6, Try.ntmps6
      go_wp2_with (first
        | (go_at_call_of 17 n2; go_must (refine (kp1 _).mono ?_); rintro e wx ⟨rfl, hwx⟩; rw [hwx]; clear hwx wx)
        | (go_at_call_of 17 n1; go_must (refine (kp2 _).mono ?_); rintro e wx ⟨rfl, hwx⟩; rw [hwx]; clear hwx wx)
        | (go_at_call 18; go_must (refine (k8 _).mono ?_); rintro e w9 ⟨rfl, hb9⟩; have HB9 : Hid (Below _ _ _) := hb9; clear hb9)
        | (go_at_call 12; have chk := HB7; go_must (refine (k7 _).mono ?_); rintro e w8 ⟨rfl, hb8⟩; have HB8 : Hid (Below _ _ _) := hb8; clear hb8; clear chk)
        | (go_at_call 12; have chk := HB6; go_must (refine (k6 _).mono ?_); rintro e w7 ⟨rfl, hb7⟩; have HB7 : Hid (Below _ _ _) := hb7; clear hb7; clear chk)
        | (go_at_call 12; have chk := HB5; go_must (refine (k5 _).mono ?_); rintro e w6 ⟨rfl, hb6⟩; have HB6 : Hid (Below _ _ _) := hb6; clear hb6; clear chk)
        | (go_at_call 12; have chk := HB4; go_must (refine (k4 _).mono ?_); rintro e w5 ⟨rfl, hb5⟩; have HB5 : Hid (Below _ _ _) := hb5; clear hb5; clear chk)
        | (go_at_call 12; have chk := HB3; go_must (refine (k3 _).mono ?_); rintro e w4 ⟨rfl, hb4⟩; have HB4 : Hid (Below _ _ _) := hb4; clear hb4; clear chk)
        | (go_at_call 12; have chk := HB2; go_must (refine (k2 _).mono ?_); rintro e w3 ⟨rfl, hb3⟩; have HB3 : Hid (Below _ _ _) := hb3; clear hb3; clear chk)
        | (go_at_call 12; have chk := HB1; go_must (refine (k1 _).mono ?_); rintro e w2 ⟨rfl, hb2⟩; have HB2 : Hid (Below _ _ _) := hb2; clear hb2; clear chk)
        | (go_at_call 15; go_must (refine (kis _).mono ?_); rintro e wx ⟨rfl, hwx⟩; rw [hwx]; clear hwx wx)
        | (go_at_call 8; go_must (refine (quotup_any _).mono ?_); rintro e w1 ⟨rfl, hb1⟩; have HB1 : Hid (Below _ _ _) := hb1; clear hb1))
      all_goals exact hQ.out _ _ ⟨by first | rfl | simp, cthen (cthen (cthen (cthen (cthen (cthen (cthen (cthen (cthen (Below.refl _ _) HB1.out) HB2.out) HB3.out) HB4.out) HB5.out) HB6.out) HB7.out) HB8.out) HB9.out⟩
    · have e4 := patQ_self m a hm ha hk
      rw [← hn2] at e4
      rw [e4] at k4
      have hne : vK m a ≠ 0 ∧ vK m a ≠ 2 := by rw [hk]; exact ⟨by decide, by decide⟩
      have e5 : (((a % 2 ^ m : Nat) : Int) == ((2 ^ n1 : Nat) : Int)) = false := beq_eq_false_iff_ne.2 (fun c => by
        have c2 : a % 2 ^ m = 2 ^ (m - 1) := by rw [← hn1]; exact Int.ofNat.inj c
        have : narB m a = true := decide_eq_true c2
        rw [narB_kind m a hm, decide_eq_false hne.2] at this
        cases this)
      have e6 : (((a % 2 ^ m : Nat) : Int) == 0) = false := beq_eq_false_iff_ne.2 (fun c => by
        have c2 : a % 2 ^ m = 0 := by omega
        have : vK m a = 0 := by unfold vK kindOf; rw [if_pos c2]
        exact hne.1 this)
      clear e4 hk hne hmod hnn hnz hpl hw hisw hm ha hb ol hn1 hn2
      generalize negO m (patQ m a b) = NP at *
      generalize patQ m a b = P at *
      generalize a % 2 ^ m = own at *
      generalize negO m a = na at *
      generalize 2 ^ n1 = nar at *
      generalize 2 ^ n2 = one at *
      generalize minusU a = ua at *
      generalize minusU b = ub at *
      generalize minusU one = uo at *
      go_enter Try.func6, Try.ntmps6
      go_wp2_with (first
        | (go_at_call_of 17 n2; go_must (refine (kp1 _).mono ?_); rintro e wx ⟨rfl, hwx⟩; rw [hwx]; clear hwx wx)
        | (go_at_call_of 17 n1; go_must (refine (kp2 _).mono ?_); rintro e wx ⟨rfl, hwx⟩; rw [hwx]; clear hwx wx)
        | (go_at_call 19; have chk := HB11; go_must (refine (kc _).mono ?_); rintro e w12 ⟨rfl, hb12⟩; have HB12 : Hid (Below _ _ _) := hb12; clear hb12; clear chk)
        | (go_at_call 19; have chk := HB10; go_must (refine (kb _).mono ?_); rintro e w11 ⟨rfl, hb11⟩; have HB11 : Hid (Below _ _ _) := hb11; clear hb11; clear chk)
        | (go_at_call 19; have chk := HB9; go_must (refine (ka _).mono ?_); rintro e w10 ⟨rfl, hb10⟩; have HB10 : Hid (Below _ _ _) := hb10; clear hb10; clear chk)
        | (go_at_call 18; go_must (refine (k8 _).mono ?_); rintro e w9 ⟨rfl, hb9⟩; have HB9 : Hid (Below _ _ _) := hb9; clear hb9)
        | (go_at_call 12; have chk := HB7; go_must (refine (k7 _).mono ?_); rintro e w8 ⟨rfl, hb8⟩; have HB8 : Hid (Below _ _ _) := hb8; clear hb8; clear chk)
        | (go_at_call 12; have chk := HB6; go_must (refine (k6 _).mono ?_); rintro e w7 ⟨rfl, hb7⟩; have HB7 : Hid (Below _ _ _) := hb7; clear hb7; clear chk)
        | (go_at_call 12; have chk := HB5; go_must (refine (k5 _).mono ?_); rintro e w6 ⟨rfl, hb6⟩; have HB6 : Hid (Below _ _ _) := hb6; clear hb6; clear chk)
        | (go_at_call 12; have chk := HB4; go_must (refine (k4 _).mono ?_); rintro e w5 ⟨rfl, hb5⟩; have HB5 : Hid (Below _ _ _) := hb5; clear hb5; clear chk)
        | (go_at_call 12; have chk := HB3; go_must (refine (k3 _).mono ?_); rintro e w4 ⟨rfl, hb4⟩; have HB4 : Hid (Below _ _ _) := hb4; clear hb4; clear chk)
        | (go_at_call 12; have chk := HB2; go_must (refine (k2 _).mono ?_); rintro e w3 ⟨rfl, hb3⟩; have HB3 : Hid (Below _ _ _) := hb3; clear hb3; clear chk)
        | (go_at_call 12; have chk := HB1; go_must (refine (k1 _).mono ?_); rintro e w2 ⟨rfl, hb2⟩; have HB2 : Hid (Below _ _ _) := hb2; clear hb2; clear chk)
        | (go_at_call 15; go_must (refine (kis _).mono ?_); rintro e wx ⟨rfl, hwx⟩; rw [hwx]; clear hwx wx)
        | (go_at_call 8; go_must (refine (quotup_any _).mono ?_); rintro e w1 ⟨rfl, hb1⟩; have HB1 : Hid (Below _ _ _) := hb1; clear hb1))
      all_goals exact hQ.out _ _ ⟨by first | rfl | simp, cthen (cthen (cthen (cthen (cthen (cthen (cthen (cthen (cthen (cthen (cthen (cthen (Below.refl _ _) HB1.out) HB2.out) HB3.out) HB4.out) HB5.out) HB6.out) HB7.out) HB8.out) HB9.out) HB10.out) HB11.out) HB12.out⟩
    · have e1 := patQ_nar m a b (.inl hk)
      have e4 := patQ_nar m a a (.inl hk)
      rw [← hn1] at e1 e4 hz
      rw [hz] at k2 k8 hmod
      rw [← hmod, hnn] at k3 ka
      rw [e4] at k4
      rw [e1] at k1 k5 k6 kb kc
      rw [hnn] at k5 k6 kb kc
      clear e1 e4 hk hz hmod hnn hnz hpl hw hisw hm ha hb ol hn1 hn2
      generalize 2 ^ n1 = nar at *
      generalize 2 ^ n2 = one at *
      generalize minusU a = ua at *
      generalize minusU b = ub at *
      generalize minusU one = uo at *
      go_enter Try.func6, Try.ntmps6
      go_wp2_with (first
        | (go_at_call_of 17 n2; go_must (refine (kp1 _).mono ?_); rintro e wx ⟨rfl, hwx⟩; rw [hwx]; clear hwx wx)
        | (go_at_call_of 17 n1; go_must (refine (kp2 _).mono ?_); rintro e wx ⟨rfl, hwx⟩; rw [hwx]; clear hwx wx)
        | (go_at_call 18; go_must (refine (k8 _).mono ?_); rintro e w9 ⟨rfl, hb9⟩; have HB9 : Hid (Below _ _ _) := hb9; clear hb9)
        | (go_at_call 12; have chk := HB7; go_must (refine (k7 _).mono ?_); rintro e w8 ⟨rfl, hb8⟩; have HB8 : Hid (Below _ _ _) := hb8; clear hb8; clear chk)
        | (go_at_call 12; have chk := HB6; go_must (refine (k6 _).mono ?_); rintro e w7 ⟨rfl, hb7⟩; have HB7 : Hid (Below _ _ _) := hb7; clear hb7; clear chk)
        | (go_at_call 12; have chk := HB5; go_must (refine (k5 _).mono ?_); rintro e w6 ⟨rfl, hb6⟩; have HB6 : Hid (Below _ _ _) := hb6; clear hb6; clear chk)
        | (go_at_call 12; have chk := HB4; go_must (refine (k4 _).mono ?_); rintro e w5 ⟨rfl, hb5⟩; have HB5 : Hid (Below _ _ _) := hb5; clear hb5; clear chk)
        | (go_at_call 12; have chk := HB3; go_must (refine (k3 _).mono ?_); rintro e w4 ⟨rfl, hb4⟩; have HB4 : Hid (Below _ _ _) := hb4; clear hb4; clear chk)
        | (go_at_call 12; have chk := HB2; go_must (refine (k2 _).mono ?_); rintro e w3 ⟨rfl, hb3⟩; have HB3 : Hid (Below _ _ _) := hb3; clear hb3; clear chk)
        | (go_at_call 12; have chk := HB1; go_must (refine (k1 _).mono ?_); rintro e w2 ⟨rfl, hb2⟩; have HB2 : Hid (Below _ _ _) := hb2; clear hb2; clear chk)
        | (go_at_call 15; go_must (refine (kis _).mono ?_); rintro e wx ⟨rfl, hwx⟩; rw [hwx]; clear hwx wx)
        | (go_at_call 8; go_must (refine (quotup_any _).mono ?_); rintro e w1 ⟨rfl, hb1⟩; have HB1 : Hid (Below _ _ _) := hb1; clear hb1))
      all_goals exact hQ.out _ _ ⟨by first | rfl | simp, cthen (cthen (cthen (cthen (cthen (cthen (cthen (cthen (cthen (Below.refl _ _) HB1.out) HB2.out) HB3.out) HB4.out) HB5.out) HB6.out) HB7.out) HB8.out) HB9.out⟩
end Go.Proofs.Ytkojldnafffghaa
