import Derived.Test.YtheliihkkoohnaaJoin9
import Derived.Test.YtheliihkkoohnaaJoin10
namespace Go.Proofs.Ytheliihkkoohnaa
open Go.ChangeShapes Go.WideShapes Go.ChangeAt Go.RowKit
set_option linter.unusedVariables false
set_option linter.unusedSimpArgs false
set_option maxRecDepth 100000

set_option maxHeartbeats 8000000 in
theorem fuseLaws_walk (n ia ib ic id : Int) (wn : (Lit.int .i64 n).wf = true) (wa : (Lit.int .u64 ia).wf = true) (wb : (Lit.int .u64 ib).wf = true) (wc : (Lit.int .u64 ic).wf = true) (wd : (Lit.int .u64 id).wf = true) (w : World) :
    Calls Try.prog 4 #[.int .i64 n, .int .u64 ia, .int .u64 ib, .int .u64 ic, .int .u64 id] w fun e w' => e = .returned (.bool true) ∧ Below w.heap.size w w' := by
  have he := fun w a b => Lib.run_eql_iface_int (P := Try.prog) w (t := 27) (tx := 37) (k := .i64) a b Try.underlying27 (by kernel_rfl) Try.underlying37
  have hnl := nil_not_code
  obtain ⟨a, rfl, ha⟩ := nat_of_u64 wa
  obtain ⟨b, rfl, hb⟩ := nat_of_u64 wb
  obtain ⟨c, rfl, hc⟩ := nat_of_u64 wc
  obtain ⟨d, rfl, hd⟩ := nat_of_u64 wd
  clear wn wa wb wc wd
  refine cps fun Q hQ => ?_
  have kis := is_width n
  cases hisw : isW n
  · have k1 := ffma_no n a b c hisw
    rw [hisw] at kis
    unfold codeV at *
    clear hisw ha hb hc hd
    go_enter Try.func4, Try.ntmps4
    go_wp2_with (first
      | (go_at_call 11; go_must (refine (k1 _).mono ?_); rintro e w2 ⟨rfl, hb2⟩; have HB2 : Hid (Below _ _ _) := hb2; clear hb2)
      | (go_at_call 10; go_must (refine (kis _).mono ?_); rintro e wx ⟨rfl, hwx⟩; rw [hwx]; clear hwx wx)
      | (go_at_call 6; go_must (refine (fuseup_any _).mono ?_); rintro e w1 ⟨rfl, hb1⟩; have HB1 : Hid (Below _ _ _) := hb1; clear hb1))
    all_goals exact hQ.out _ _ ⟨by first | rfl | simp, cthen (cthen (Below.refl _ _) HB1.out) HB2.out⟩
  · obtain ⟨m, rfl, hm⟩ := isW_yes hisw
    rw [hisw] at kis
    have hw := wd_le hm
    obtain ⟨n2, hn2⟩ : ∃ x, x = m - 2 := ⟨_, rfl⟩
    obtain ⟨n1, hn1⟩ : ∃ x, x = m - 1 := ⟨_, rfl⟩
    have q1 : IntKind.i64.wrap ((m : Int) - 1) = (n1 : Int) := by rw [wrapI (by omega)]; omega
    have q2 : IntKind.i64.wrap ((m : Int) - 2) = (n2 : Int) := by rw [wrapI (by omega)]; omega
    have kp1 := power_any n2 (by omega)
    have kp2 := power_any n1 (by omega)
    have ol := one_lt m hm
    have k1 := ffma_ok m a b c hm ha hb hc
    have k2 := ffma_ok m a (2 ^ (m - 2)) c hm ha ol hc
    rw [patF_one m a c hm, ← hn2] at k2
    have k3 := sadd_ok m a c hm ha hc
    have k4 := ffma_ok m a b 0 hm ha hb (by decide)
    rw [patF_zero, show ((0 : Nat) : Int) = 0 from rfl] at k4
    have k5 := pmul_ok m a b hm ha hb
    have k6 := fpair_ok m a b c d hm ha hb hc hd
    have k7 := fpair_ok m d c b a hm hd hc hb ha
    rw [patX_turn m a b c d] at k7
    have k8 := fcross_ok m a b c d hm ha hb hc hd
    have k9 := fcross_ok m c d a b hm hc hd ha hb
    rw [patX_cross m a b c d hm ha hc] at k9
    have k10 := fcross_ok m a b b a hm ha hb hb ha
    rw [patX_self m a b hm hb] at k10
    have hz := lt64_of hm (patX_lt m a b (negO m c) d hm)
    have k11 := neg6_any m (patX m a b (negO m c) d) hm hz
    change ∀ w, Calls Try.prog 17 #[.int .i64 m, .int .u64 (patX m a b (negO m c) d : Nat)] w fun e w' => e = .returned (.int .u64 (negO m (patX m a b (negO m c) d) : Nat)) ∧ Below w.heap.size w w' at k11
    have k12 := fold6_any m a hm
    have k13 := fold6_any m b hm
    have hna : ∀ x, (vK m x = 2 ↔ x % 2 ^ m = 2 ^ n1) := fun x => by
      rw [hn1]
      constructor
      · intro h
        rcases v_kinds m x hm with ⟨c, _⟩ | c | ⟨_, c⟩
        · rw [c] at h; exact absurd h (by decide)
        · rw [c] at h; exact absurd h (by decide)
        · exact c
      · intro h
        have hb : narB m x = true := decide_eq_true h
        rw [narB_kind m x hm] at hb
        exact of_decide_eq_true hb
    have hFn : (vK m a = 2 ∨ vK m b = 2) → patF m a b c = 2 ^ n1 := fun h => by
      unfold patF; rw [if_pos (by rcases h with h | h <;> simp [h]), hn1]
    rw [← hn1] at k10
    by_cases na : vK m a = 2
    · have e1 : (((a % 2 ^ m : Nat) : Int) == ((2 ^ n1 : Nat) : Int)) = true := beq_iff_eq.2 (by rw [(hna a).1 na])
      have e2 : (a % 2 ^ m == 2 ^ n1) = true := beq_iff_eq.2 ((hna a).1 na)
      rw [hFn (.inl na)] at k1
      rw [if_pos (.inl na)] at k10
      clear hna hFn hz hisw hm ha hb hc hd hw ol hn1 hn2
      generalize negO m (patX m a b (negO m c) d) = NX at *
      generalize patX m a b (negO m c) d = VX at *
      generalize patX m a b c d = VP at *
      generalize patP m a b = VM at *
      generalize patS m a c = VS at *
      generalize a % 2 ^ m = xa at *
      generalize b % 2 ^ m = xb at *
      generalize 2 ^ n1 = nar at *
      generalize 2 ^ n2 = one at *
      go_enter Try.func4, Try.ntmps4
      go_wp2_with (first
        | (go_at_call_of 12 n2; go_must (refine (kp1 _).mono ?_); rintro e wx ⟨rfl, hwx⟩; rw [hwx]; clear hwx wx)
        | (go_at_call_of 12 n1; go_must (refine (kp2 _).mono ?_); rintro e wx ⟨rfl, hwx⟩; rw [hwx]; clear hwx wx)
        | (go_at_call 18; go_must (refine (k12 _).mono ?_); rintro e w13 ⟨rfl, hb13⟩; have HB13 : Hid (Below _ _ _) := hb13; clear hb13)
        | (go_at_call 17; go_must (refine (k11 _).mono ?_); rintro e w12 ⟨rfl, hb12⟩; have HB12 : Hid (Below _ _ _) := hb12; clear hb12)
        | (go_at_call 16; have chk := HB10; go_must (refine (k10 _).mono ?_); rintro e w11 ⟨rfl, hb11⟩; have HB11 : Hid (Below _ _ _) := hb11; clear hb11; clear chk)
        | (go_at_call 16; have chk := HB9; go_must (refine (k9 _).mono ?_); rintro e w10 ⟨rfl, hb10⟩; have HB10 : Hid (Below _ _ _) := hb10; clear hb10; clear chk)
        | (go_at_call 16; have chk := HB8; go_must (refine (k8 _).mono ?_); rintro e w9 ⟨rfl, hb9⟩; have HB9 : Hid (Below _ _ _) := hb9; clear hb9; clear chk)
        | (go_at_call 15; have chk := HB7; go_must (refine (k7 _).mono ?_); rintro e w8 ⟨rfl, hb8⟩; have HB8 : Hid (Below _ _ _) := hb8; clear hb8; clear chk)
        | (go_at_call 15; have chk := HB6; go_must (refine (k6 _).mono ?_); rintro e w7 ⟨rfl, hb7⟩; have HB7 : Hid (Below _ _ _) := hb7; clear hb7; clear chk)
        | (go_at_call 14; go_must (refine (k5 _).mono ?_); rintro e w6 ⟨rfl, hb6⟩; have HB6 : Hid (Below _ _ _) := hb6; clear hb6)
        | (go_at_call 11; have chk := HB4; go_must (refine (k4 _).mono ?_); rintro e w5 ⟨rfl, hb5⟩; have HB5 : Hid (Below _ _ _) := hb5; clear hb5; clear chk)
        | (go_at_call 13; go_must (refine (k3 _).mono ?_); rintro e w4 ⟨rfl, hb4⟩; have HB4 : Hid (Below _ _ _) := hb4; clear hb4)
        | (go_at_call 11; have chk := HB2; go_must (refine (k2 _).mono ?_); rintro e w3 ⟨rfl, hb3⟩; have HB3 : Hid (Below _ _ _) := hb3; clear hb3; clear chk)
        | (go_at_call 11; have chk := HB1; go_must (refine (k1 _).mono ?_); rintro e w2 ⟨rfl, hb2⟩; have HB2 : Hid (Below _ _ _) := hb2; clear hb2; clear chk)
        | (go_at_call 10; go_must (refine (kis _).mono ?_); rintro e wx ⟨rfl, hwx⟩; rw [hwx]; clear hwx wx)
        | (go_at_call 6; go_must (refine (fuseup_any _).mono ?_); rintro e w1 ⟨rfl, hb1⟩; have HB1 : Hid (Below _ _ _) := hb1; clear hb1))
      all_goals exact hQ.out _ _ ⟨by first | rfl | simp, cthen (cthen (cthen (cthen (cthen (cthen (cthen (cthen (cthen (cthen (cthen (cthen (cthen (Below.refl _ _) HB1.out) HB2.out) HB3.out) HB4.out) HB5.out) HB6.out) HB7.out) HB8.out) HB9.out) HB10.out) HB11.out) HB12.out) HB13.out⟩
    · have e1 : (((a % 2 ^ m : Nat) : Int) == ((2 ^ n1 : Nat) : Int)) = false := beq_eq_false_iff_ne.2 (fun c => na ((hna a).2 (by omega)))
      have e2 : (a % 2 ^ m == 2 ^ n1) = false := beq_eq_false_iff_ne.2 (fun c => na ((hna a).2 c))
      by_cases nb : vK m b = 2
      · have f1 : (((b % 2 ^ m : Nat) : Int) == ((2 ^ n1 : Nat) : Int)) = true := beq_iff_eq.2 (by rw [(hna b).1 nb])
        have f2 : (b % 2 ^ m == 2 ^ n1) = true := beq_iff_eq.2 ((hna b).1 nb)
        rw [hFn (.inr nb)] at k1
        rw [if_pos (.inr nb)] at k10
        clear hna hFn hz hisw hm ha hb hc hd hw ol hn1 hn2
        generalize negO m (patX m a b (negO m c) d) = NX at *
        generalize patX m a b (negO m c) d = VX at *
        generalize patX m a b c d = VP at *
        generalize patP m a b = VM at *
        generalize patS m a c = VS at *
        generalize a % 2 ^ m = xa at *
        generalize b % 2 ^ m = xb at *
        generalize 2 ^ n1 = nar at *
        generalize 2 ^ n2 = one at *
        go_enter Try.func4, Try.ntmps4
        go_wp2_with (first
          | (go_at_call_of 12 n2; go_must (refine (kp1 _).mono ?_); rintro e wx ⟨rfl, hwx⟩; rw [hwx]; clear hwx wx)
          | (go_at_call_of 12 n1; go_must (refine (kp2 _).mono ?_); rintro e wx ⟨rfl, hwx⟩; rw [hwx]; clear hwx wx)
          | (go_at_call 18; have chk := HB13; go_must (refine (k13 _).mono ?_); rintro e w14 ⟨rfl, hb14⟩; have HB14 : Hid (Below _ _ _) := hb14; clear hb14; clear chk)
          | (go_at_call 18; have chk := HB12; go_must (refine (k12 _).mono ?_); rintro e w13 ⟨rfl, hb13⟩; have HB13 : Hid (Below _ _ _) := hb13; clear hb13; clear chk)
          | (go_at_call 17; go_must (refine (k11 _).mono ?_); rintro e w12 ⟨rfl, hb12⟩; have HB12 : Hid (Below _ _ _) := hb12; clear hb12)
          | (go_at_call 16; have chk := HB10; go_must (refine (k10 _).mono ?_); rintro e w11 ⟨rfl, hb11⟩; have HB11 : Hid (Below _ _ _) := hb11; clear hb11; clear chk)
          | (go_at_call 16; have chk := HB9; go_must (refine (k9 _).mono ?_); rintro e w10 ⟨rfl, hb10⟩; have HB10 : Hid (Below _ _ _) := hb10; clear hb10; clear chk)
          | (go_at_call 16; have chk := HB8; go_must (refine (k8 _).mono ?_); rintro e w9 ⟨rfl, hb9⟩; have HB9 : Hid (Below _ _ _) := hb9; clear hb9; clear chk)
          | (go_at_call 15; have chk := HB7; go_must (refine (k7 _).mono ?_); rintro e w8 ⟨rfl, hb8⟩; have HB8 : Hid (Below _ _ _) := hb8; clear hb8; clear chk)
          | (go_at_call 15; have chk := HB6; go_must (refine (k6 _).mono ?_); rintro e w7 ⟨rfl, hb7⟩; have HB7 : Hid (Below _ _ _) := hb7; clear hb7; clear chk)
          | (go_at_call 14; go_must (refine (k5 _).mono ?_); rintro e w6 ⟨rfl, hb6⟩; have HB6 : Hid (Below _ _ _) := hb6; clear hb6)
          | (go_at_call 11; have chk := HB4; go_must (refine (k4 _).mono ?_); rintro e w5 ⟨rfl, hb5⟩; have HB5 : Hid (Below _ _ _) := hb5; clear hb5; clear chk)
          | (go_at_call 13; go_must (refine (k3 _).mono ?_); rintro e w4 ⟨rfl, hb4⟩; have HB4 : Hid (Below _ _ _) := hb4; clear hb4)
          | (go_at_call 11; have chk := HB2; go_must (refine (k2 _).mono ?_); rintro e w3 ⟨rfl, hb3⟩; have HB3 : Hid (Below _ _ _) := hb3; clear hb3; clear chk)
          | (go_at_call 11; have chk := HB1; go_must (refine (k1 _).mono ?_); rintro e w2 ⟨rfl, hb2⟩; have HB2 : Hid (Below _ _ _) := hb2; clear hb2; clear chk)
          | (go_at_call 10; go_must (refine (kis _).mono ?_); rintro e wx ⟨rfl, hwx⟩; rw [hwx]; clear hwx wx)
          | (go_at_call 6; go_must (refine (fuseup_any _).mono ?_); rintro e w1 ⟨rfl, hb1⟩; have HB1 : Hid (Below _ _ _) := hb1; clear hb1))
        all_goals exact hQ.out _ _ ⟨by first | rfl | simp, cthen (cthen (cthen (cthen (cthen (cthen (cthen (cthen (cthen (cthen (cthen (cthen (cthen (cthen (Below.refl _ _) HB1.out) HB2.out) HB3.out) HB4.out) HB5.out) HB6.out) HB7.out) HB8.out) HB9.out) HB10.out) HB11.out) HB12.out) HB13.out) HB14.out⟩
      · have f1 : (((b % 2 ^ m : Nat) : Int) == ((2 ^ n1 : Nat) : Int)) = false := beq_eq_false_iff_ne.2 (fun c => nb ((hna b).2 (by omega)))
        have f2 : (b % 2 ^ m == 2 ^ n1) = false := beq_eq_false_iff_ne.2 (fun c => nb ((hna b).2 c))
        rw [if_neg (by rintro (c | c); exact na c; exact nb c), show ((0 : Nat) : Int) = 0 from rfl] at k10
        generalize patF m a b c = VF at *
        clear hna hFn hz hisw hm ha hb hc hd hw ol hn1 hn2
        generalize negO m (patX m a b (negO m c) d) = NX at *
        generalize patX m a b (negO m c) d = VX at *
        generalize patX m a b c d = VP at *
        generalize patP m a b = VM at *
        generalize patS m a c = VS at *
        generalize a % 2 ^ m = xa at *
        generalize b % 2 ^ m = xb at *
        generalize 2 ^ n1 = nar at *
        generalize 2 ^ n2 = one at *
        go_enter Try.func4, Try.ntmps4
        go_wp2_with (first
          | (go_at_call_of 12 n2; go_must (refine (kp1 _).mono ?_); rintro e wx ⟨rfl, hwx⟩; rw [hwx]; clear hwx wx)
          | (go_at_call_of 12 n1; go_must (refine (kp2 _).mono ?_); rintro e wx ⟨rfl, hwx⟩; rw [hwx]; clear hwx wx)
          | (go_at_call 18; have chk := HB13; go_must (refine (k13 _).mono ?_); rintro e w14 ⟨rfl, hb14⟩; have HB14 : Hid (Below _ _ _) := hb14; clear hb14; clear chk)
          | (go_at_call 18; have chk := HB12; go_must (refine (k12 _).mono ?_); rintro e w13 ⟨rfl, hb13⟩; have HB13 : Hid (Below _ _ _) := hb13; clear hb13; clear chk)
          | (go_at_call 17; go_must (refine (k11 _).mono ?_); rintro e w12 ⟨rfl, hb12⟩; have HB12 : Hid (Below _ _ _) := hb12; clear hb12)
          | (go_at_call 16; have chk := HB10; go_must (refine (k10 _).mono ?_); rintro e w11 ⟨rfl, hb11⟩; have HB11 : Hid (Below _ _ _) := hb11; clear hb11; clear chk)
          | (go_at_call 16; have chk := HB9; go_must (refine (k9 _).mono ?_); rintro e w10 ⟨rfl, hb10⟩; have HB10 : Hid (Below _ _ _) := hb10; clear hb10; clear chk)
          | (go_at_call 16; have chk := HB8; go_must (refine (k8 _).mono ?_); rintro e w9 ⟨rfl, hb9⟩; have HB9 : Hid (Below _ _ _) := hb9; clear hb9; clear chk)
          | (go_at_call 15; have chk := HB7; go_must (refine (k7 _).mono ?_); rintro e w8 ⟨rfl, hb8⟩; have HB8 : Hid (Below _ _ _) := hb8; clear hb8; clear chk)
          | (go_at_call 15; have chk := HB6; go_must (refine (k6 _).mono ?_); rintro e w7 ⟨rfl, hb7⟩; have HB7 : Hid (Below _ _ _) := hb7; clear hb7; clear chk)
          | (go_at_call 14; go_must (refine (k5 _).mono ?_); rintro e w6 ⟨rfl, hb6⟩; have HB6 : Hid (Below _ _ _) := hb6; clear hb6)
          | (go_at_call 11; have chk := HB4; go_must (refine (k4 _).mono ?_); rintro e w5 ⟨rfl, hb5⟩; have HB5 : Hid (Below _ _ _) := hb5; clear hb5; clear chk)
          | (go_at_call 13; go_must (refine (k3 _).mono ?_); rintro e w4 ⟨rfl, hb4⟩; have HB4 : Hid (Below _ _ _) := hb4; clear hb4)
          | (go_at_call 11; have chk := HB2; go_must (refine (k2 _).mono ?_); rintro e w3 ⟨rfl, hb3⟩; have HB3 : Hid (Below _ _ _) := hb3; clear hb3; clear chk)
          | (go_at_call 11; have chk := HB1; go_must (refine (k1 _).mono ?_); rintro e w2 ⟨rfl, hb2⟩; have HB2 : Hid (Below _ _ _) := hb2; clear hb2; clear chk)
          | (go_at_call 10; go_must (refine (kis _).mono ?_); rintro e wx ⟨rfl, hwx⟩; rw [hwx]; clear hwx wx)
          | (go_at_call 6; go_must (refine (fuseup_any _).mono ?_); rintro e w1 ⟨rfl, hb1⟩; have HB1 : Hid (Below _ _ _) := hb1; clear hb1))
        all_goals exact hQ.out _ _ ⟨by first | rfl | simp, cthen (cthen (cthen (cthen (cthen (cthen (cthen (cthen (cthen (cthen (cthen (cthen (cthen (cthen (Below.refl _ _) HB1.out) HB2.out) HB3.out) HB4.out) HB5.out) HB6.out) HB7.out) HB8.out) HB9.out) HB10.out) HB11.out) HB12.out) HB13.out) HB14.out⟩
end Go.Proofs.Ytheliihkkoohnaa
