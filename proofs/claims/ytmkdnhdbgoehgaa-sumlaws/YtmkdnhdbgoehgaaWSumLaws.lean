import Derived.Test.YtmkdnhdbgoehgaaJoin6
namespace Go.Proofs.Ytmkdnhdbgoehgaa
open Go.ChangeShapes Go.WideShapes Go.ChangeAt Go.RowKit
set_option linter.unusedVariables false
set_option linter.unusedSimpArgs false
set_option maxRecDepth 100000

set_option maxHeartbeats 4000000 in
theorem sumLaws_walk (n ia ib : Int) (wn : (Lit.int .i64 n).wf = true) (wa : (Lit.int .u64 ia).wf = true) (wb : (Lit.int .u64 ib).wf = true) (w : World) :
    Calls Try.prog 4 #[.int .i64 n, .int .u64 ia, .int .u64 ib] w fun e w' => e = .returned (.bool true) ∧ Below w.heap.size w w' := by
  have he := fun w a b => Lib.run_eql_iface_int (P := Try.prog) w (t := 29) (tx := 39) (k := .i64) a b Try.underlying29 (by kernel_rfl) Try.underlying39
  have hnl := nil_not_code
  obtain ⟨a, rfl, ha⟩ := nat_of_u64 wa
  obtain ⟨b, rfl, hb⟩ := nat_of_u64 wb
  clear wn wa wb
  refine cps fun Q hQ => ?_
  have kis := is_width n
  cases hisw : isW n
  · have k1 := sadd_no n a b hisw
    have k2 := sadd_no n b a hisw
    rw [hisw] at kis
    unfold codeV at *
    clear hisw ha hb
    go_enter Try.func4, Try.ntmps4
    go_wp2_with (first
      | (go_at_call 11; have chk := HB2; go_must (refine (k2 _).mono ?_); rintro e w3 ⟨rfl, hb3⟩; have HB3 : Hid (Below _ _ _) := hb3; clear hb3; clear chk)
      | (go_at_call 11; have chk := HB1; go_must (refine (k1 _).mono ?_); rintro e w2 ⟨rfl, hb2⟩; have HB2 : Hid (Below _ _ _) := hb2; clear hb2; clear chk)
      | (go_at_call 10; go_must (refine (kis _).mono ?_); rintro e wx ⟨rfl, hwx⟩; rw [hwx]; clear hwx wx)
      | (go_at_call 6; go_must (refine (sumup_any _).mono ?_); rintro e w1 ⟨rfl, hb1⟩; have HB1 : Hid (Below _ _ _) := hb1; clear hb1))
    all_goals exact hQ.out _ _ ⟨by first | rfl | simp, cthen (cthen (cthen (Below.refl _ _) HB1.out) HB2.out) HB3.out⟩
  · obtain ⟨m, rfl, hm⟩ := isW_yes hisw
    rw [hisw] at kis
    have hw := wd_le hm
    have q1 : IntKind.i64.wrap ((m : Int) - 1) = (m : Int) - 1 := wrapI (by omega)
    have na := negO_lt64 m a hm
    have nb := negO_lt64 m b hm
    have k1 := sadd_ok m a b hm ha hb
    have k2 := sadd_ok m b a hm hb ha
    rw [patS_comm m b a] at k2
    have k3 := sadd_ok m a 0 hm ha (by decide)
    have k4 := ssub_ok m a a hm ha ha
    have k5 := sadd_ok m (minusU a) (minusU b) hm (minusU_lt a) (minusU_lt b)
    rw [patS_minus m a b hm ha hb] at k5
    have k6 := ssub_ok m b a hm hb ha
    rw [patS_swap m a b hm ha hb] at k6
    have k7 := ssub_ok m a b hm ha hb
    have k8 := fold6_any m a hm
    have k9 := power_sub m (by omega) hw.2
    have hpl := lt64_of hm (patS_lt m a b hm)
    have hvl := lt64_of hm (patS_lt m a (negO m b) hm)
    have ka := neg6_any m (patS m a b) hm hpl
    have kb := neg6_any m (patS m a (negO m b)) hm hvl
    change ∀ w, Calls Try.prog 15 #[.int .i64 m, .int .u64 (patS m a b : Nat)] w fun e w' => e = .returned (.int .u64 (negO m (patS m a b) : Nat)) ∧ Below w.heap.size w w' at ka
    change ∀ w, Calls Try.prog 15 #[.int .i64 m, .int .u64 (patS m a (negO m b) : Nat)] w fun e w' => e = .returned (.int .u64 (negO m (patS m a (negO m b)) : Nat)) ∧ Below w.heap.size w w' at kb
    have wa := minusU_wrap a ha
    have wb := minusU_wrap b hb
    rw [show ((0 : Nat) : Int) = 0 from rfl] at *
    by_cases hk : vK m a = 2
    · have e1 := patS_nar m a b (.inl hk)
      have e2 := patS_nar m a 0 (.inl hk)
      have e3 := patS_nar m a (negO m a) (.inl hk)
      have e4 := patS_nar m a (negO m b) (.inl hk)
      have e5 : a % 2 ^ m = 2 ^ (m - 1) := by rcases v_kinds m a hm with ⟨h, _⟩ | h | ⟨_, h⟩; exact absurd (h.symm.trans hk) (by decide); exact absurd (h.symm.trans hk) (by decide); exact h
      rw [e1] at k1 k2 k5 ka
      rw [e4] at k6 k7 kb
      rw [negO_nar m hm] at k5 k6
      rw [e2] at k3
      rw [e3] at k4
      rw [e5] at k8
      clear ka kb e1 e2 e3 e4 e5 hk hpl hvl na nb hw hisw hm ha hb
      generalize 2 ^ (m - 1) = nar at *
      generalize minusU a = ua at *
      generalize minusU b = ub at *
      go_enter Try.func4, Try.ntmps4
      go_wp2_with (first
        | (go_at_call 14; go_must (refine (k9 _).mono ?_); rintro e wx ⟨rfl, hwx⟩; rw [hwx]; clear hwx wx)
        | (go_at_call 13; go_must (refine (k8 _).mono ?_); rintro e w9 ⟨rfl, hb9⟩; have HB9 : Hid (Below _ _ _) := hb9; clear hb9)
        | (go_at_call 12; have chk := HB7; go_must (refine (k7 _).mono ?_); rintro e w8 ⟨rfl, hb8⟩; have HB8 : Hid (Below _ _ _) := hb8; clear hb8; clear chk)
        | (go_at_call 12; have chk := HB6; go_must (refine (k6 _).mono ?_); rintro e w7 ⟨rfl, hb7⟩; have HB7 : Hid (Below _ _ _) := hb7; clear hb7; clear chk)
        | (go_at_call 11; have chk := HB5; go_must (refine (k5 _).mono ?_); rintro e w6 ⟨rfl, hb6⟩; have HB6 : Hid (Below _ _ _) := hb6; clear hb6; clear chk)
        | (go_at_call 12; have chk := HB4; go_must (refine (k4 _).mono ?_); rintro e w5 ⟨rfl, hb5⟩; have HB5 : Hid (Below _ _ _) := hb5; clear hb5; clear chk)
        | (go_at_call 11; have chk := HB3; go_must (refine (k3 _).mono ?_); rintro e w4 ⟨rfl, hb4⟩; have HB4 : Hid (Below _ _ _) := hb4; clear hb4; clear chk)
        | (go_at_call 11; have chk := HB2; go_must (refine (k2 _).mono ?_); rintro e w3 ⟨rfl, hb3⟩; have HB3 : Hid (Below _ _ _) := hb3; clear hb3; clear chk)
        | (go_at_call 11; have chk := HB1; go_must (refine (k1 _).mono ?_); rintro e w2 ⟨rfl, hb2⟩; have HB2 : Hid (Below _ _ _) := hb2; clear hb2; clear chk)
        | (go_at_call 10; go_must (refine (kis _).mono ?_); rintro e wx ⟨rfl, hwx⟩; rw [hwx]; clear hwx wx)
        | (go_at_call 6; go_must (refine (sumup_any _).mono ?_); rintro e w1 ⟨rfl, hb1⟩; have HB1 : Hid (Below _ _ _) := hb1; clear hb1))
      all_goals exact hQ.out _ _ ⟨by first | rfl | simp, cthen (cthen (cthen (cthen (cthen (cthen (cthen (cthen (cthen (Below.refl _ _) HB1.out) HB2.out) HB3.out) HB4.out) HB5.out) HB6.out) HB7.out) HB8.out) HB9.out⟩
    · have e2 := patS_zero m a hm ha hk
      have e3 := patS_self m a hm ha hk
      have e5 : (((a % 2 ^ m : Nat) : Int) == ((2 ^ (m - 1) : Nat) : Int)) = false := beq_eq_false_iff_ne.2 (fun c => by
        have c2 : a % 2 ^ m = 2 ^ (m - 1) := Int.ofNat.inj c
        have : narB m a = true := decide_eq_true c2
        rw [narB_kind m a hm, decide_eq_false hk] at this
        cases this)
      rw [e2] at k3
      rw [e3] at k4
      rw [show ((0 : Nat) : Int) = 0 from rfl] at *
      clear e2 e3 hk hpl hvl na nb hw hisw hm ha hb
      generalize negO m (patS m a b) = NP at *
      generalize negO m (patS m a (negO m b)) = NV at *
      generalize patS m a (negO m b) = V at *
      generalize patS m a b = P at *
      generalize a % 2 ^ m = own at *
      generalize 2 ^ (m - 1) = nar at *
      generalize minusU a = ua at *
      generalize minusU b = ub at *
      go_enter Try.func4, Try.ntmps4
      go_wp2_with (first
        | (go_at_call 15; have chk := HB10; go_must (refine (kb _).mono ?_); rintro e w11 ⟨rfl, hb11⟩; have HB11 : Hid (Below _ _ _) := hb11; clear hb11; clear chk)
        | (go_at_call 15; have chk := HB9; go_must (refine (ka _).mono ?_); rintro e w10 ⟨rfl, hb10⟩; have HB10 : Hid (Below _ _ _) := hb10; clear hb10; clear chk)
        | (go_at_call 14; go_must (refine (k9 _).mono ?_); rintro e wx ⟨rfl, hwx⟩; rw [hwx]; clear hwx wx)
        | (go_at_call 13; go_must (refine (k8 _).mono ?_); rintro e w9 ⟨rfl, hb9⟩; have HB9 : Hid (Below _ _ _) := hb9; clear hb9)
        | (go_at_call 12; have chk := HB7; go_must (refine (k7 _).mono ?_); rintro e w8 ⟨rfl, hb8⟩; have HB8 : Hid (Below _ _ _) := hb8; clear hb8; clear chk)
        | (go_at_call 12; have chk := HB6; go_must (refine (k6 _).mono ?_); rintro e w7 ⟨rfl, hb7⟩; have HB7 : Hid (Below _ _ _) := hb7; clear hb7; clear chk)
        | (go_at_call 11; have chk := HB5; go_must (refine (k5 _).mono ?_); rintro e w6 ⟨rfl, hb6⟩; have HB6 : Hid (Below _ _ _) := hb6; clear hb6; clear chk)
        | (go_at_call 12; have chk := HB4; go_must (refine (k4 _).mono ?_); rintro e w5 ⟨rfl, hb5⟩; have HB5 : Hid (Below _ _ _) := hb5; clear hb5; clear chk)
        | (go_at_call 11; have chk := HB3; go_must (refine (k3 _).mono ?_); rintro e w4 ⟨rfl, hb4⟩; have HB4 : Hid (Below _ _ _) := hb4; clear hb4; clear chk)
        | (go_at_call 11; have chk := HB2; go_must (refine (k2 _).mono ?_); rintro e w3 ⟨rfl, hb3⟩; have HB3 : Hid (Below _ _ _) := hb3; clear hb3; clear chk)
        | (go_at_call 11; have chk := HB1; go_must (refine (k1 _).mono ?_); rintro e w2 ⟨rfl, hb2⟩; have HB2 : Hid (Below _ _ _) := hb2; clear hb2; clear chk)
        | (go_at_call 10; go_must (refine (kis _).mono ?_); rintro e wx ⟨rfl, hwx⟩; rw [hwx]; clear hwx wx)
        | (go_at_call 6; go_must (refine (sumup_any _).mono ?_); rintro e w1 ⟨rfl, hb1⟩; have HB1 : Hid (Below _ _ _) := hb1; clear hb1))
      all_goals exact hQ.out _ _ ⟨by first | rfl | simp, cthen (cthen (cthen (cthen (cthen (cthen (cthen (cthen (cthen (cthen (cthen (Below.refl _ _) HB1.out) HB2.out) HB3.out) HB4.out) HB5.out) HB6.out) HB7.out) HB8.out) HB9.out) HB10.out) HB11.out⟩
end Go.Proofs.Ytmkdnhdbgoehgaa
