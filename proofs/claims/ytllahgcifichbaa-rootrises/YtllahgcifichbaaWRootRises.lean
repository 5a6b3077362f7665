import Derived.Test.YtllahgcifichbaaJoin6
namespace Go.Proofs.Ytllahgcifichbaa
open Go.ChangeShapes Go.WideShapes Go.ChangeAt Go.RowKit
set_option linter.unusedVariables false
set_option linter.unusedSimpArgs false
set_option maxRecDepth 100000

theorem ext_low (n x : Nat) (hn : Wd n) (h : x < 2 ^ (n - 1)) : extOf x n = (x : Int) := by
  obtain ⟨H, p1, p2, p3, _⟩ := wd_pows hn
  rw [extOf_val n x hn, Nat.mod_eq_of_lt (by omega), if_pos h]
set_option maxHeartbeats 4000000 in
theorem rootRises_walk (n ia ib : Int) (wn : (Lit.int .i64 n).wf = true) (wa : (Lit.int .u64 ia).wf = true) (wb : (Lit.int .u64 ib).wf = true) (w : World) :
    Calls Try.prog 6 #[.int .i64 n, .int .u64 ia, .int .u64 ib] w fun e w' => e = .returned (.bool true) ∧ Below w.heap.size w w' := by
  have he := fun w a b => Lib.run_eql_iface_int (P := Try.prog) w (t := 27) (tx := 41) (k := .i64) a b Try.underlying27 (by kernel_rfl) Try.underlying41
  have hnl := nil_not_code
  obtain ⟨a, rfl, ha⟩ := nat_of_u64 wa
  obtain ⟨b, rfl, hb⟩ := nat_of_u64 wb
  clear wn wa wb
  refine cps fun Q hQ => ?_
  have kis := is_width n
  cases hisw : isW n
  · have k1 := rootq_no n a hisw
    have k2 := rootq_no n b hisw
    rw [hisw] at kis
    unfold codeV at *
    clear hisw ha hb
    go_enter Try.func6, Try.ntmps6
    go_wp2_with (first
      | (go_at_call 11; have chk := HB2; go_must (refine (k2 _).mono ?_); rintro e w3 ⟨rfl, hb3⟩; have HB3 : Hid (Below _ _ _) := hb3; clear hb3; clear chk)
      | (go_at_call 11; have chk := HB1; go_must (refine (k1 _).mono ?_); rintro e w2 ⟨rfl, hb2⟩; have HB2 : Hid (Below _ _ _) := hb2; clear hb2; clear chk)
      | (go_at_call 13; go_must (refine (kis _).mono ?_); rintro e wx ⟨rfl, hwx⟩; rw [hwx]; clear hwx wx)
      | (go_at_call 7; go_must (refine (rootup_any _).mono ?_); rintro e w1 ⟨rfl, hb1⟩; have HB1 : Hid (Below _ _ _) := hb1; clear hb1))
    all_goals exact hQ.out _ _ ⟨by first | rfl | simp, cthen (cthen (cthen (Below.refl _ _) HB1.out) HB2.out) HB3.out⟩
  · obtain ⟨m, rfl, hm⟩ := isW_yes hisw
    rw [hisw] at kis
    have hw := wd_le hm
    have q1 : IntKind.i64.wrap ((m : Int) - 1) = (m : Int) - 1 := wrapI (by omega)
    have kp := power_sub m (by omega) hw.2
    have k1 := rootq_ok m a hm ha
    have k2 := rootq_ok m b hm hb
    have k3 := fold6_any m a hm
    have k4 := fold6_any m b hm
    have k5 := k3
    have k6 := k4
    have k7 := cmp8_ok m a b hm
    have k8 := cmp8_ok m (patT2 m a) (patT2 m b) hm
    have c1 := cmpR_cases m a b
    have c2 := cmpR_cases m (patT2 m a) (patT2 m b)
    by_cases fa : a % 2 ^ m < 2 ^ (m - 1)
    · have la := patT2_low m a hm ha fa
      by_cases fb : b % 2 ^ m < 2 ^ (m - 1)
      · have lb := patT2_low m b hm hb fb
        have r1 := patT2_rise m a b hm ha hb fa fb
        have r2 := patT2_rise m b a hm hb ha fb fa
        rw [ext_low m _ hm la, ext_low m _ hm lb] at c2
        have hcc : (cmpR m a b = -1 ∧ decide (cmpR m (patT2 m a) (patT2 m b) ≤ 0) = true) ∨ (cmpR m a b = 1 ∧ decide (0 ≤ cmpR m (patT2 m a) (patT2 m b)) = true) ∨ (cmpR m a b = 0 ∧ cmpR m (patT2 m a) (patT2 m b) = 0) := by
          rcases c1 with ⟨g1, g2⟩ | ⟨g1, g2⟩ | ⟨g1, g2⟩
          · have := r1 (by omega)
            exact .inl ⟨g1, decide_eq_true (by omega)⟩
          · have := r2 (by omega)
            exact .inr (.inl ⟨g1, decide_eq_true (by omega)⟩)
          · have h1 := r1 (by omega)
            have h2 := r2 (by omega)
            exact .inr (.inr ⟨g1, by omega⟩)
        have d1 : decide (((2 ^ (m - 1) : Nat) : Int) ≤ ((a % 2 ^ m : Nat) : Int)) = false := decide_eq_false (by omega)
        have nd1 : decide (2 ^ (m - 1) ≤ a % 2 ^ m) = false := decide_eq_false (by omega)
        have d2 : decide (((2 ^ (m - 1) : Nat) : Int) ≤ ((b % 2 ^ m : Nat) : Int)) = false := decide_eq_false (by omega)
        have nd2 : decide (2 ^ (m - 1) ≤ b % 2 ^ m) = false := decide_eq_false (by omega)
        have d3 : decide (((patT2 m a : Nat) : Int) < ((2 ^ (m - 1) : Nat) : Int)) = true := decide_eq_true (by omega)
        have nd3 : decide (patT2 m a < 2 ^ (m - 1)) = true := decide_eq_true (by omega)
        have d4 : decide (((patT2 m b : Nat) : Int) < ((2 ^ (m - 1) : Nat) : Int)) = true := decide_eq_true (by omega)
        have nd4 : decide (patT2 m b < 2 ^ (m - 1)) = true := decide_eq_true (by omega)
        clear c1 c2 r1 r2 la lb fa fb hisw hm ha hb hw k5 k6
        generalize cmpR m a b = way at *
        generalize cmpR m (patT2 m a) (patT2 m b) = got at *
        generalize patT2 m a = p at *
        generalize patT2 m b = q at *
        generalize a % 2 ^ m = xa at *
        generalize b % 2 ^ m = xb at *
        generalize 2 ^ (m - 1) = nar at *
        rcases hcc with ⟨rfl, hg⟩ | ⟨rfl, hg⟩ | ⟨rfl, rfl⟩
        all_goals
          go_enter Try.func6, Try.ntmps6
          go_wp2_with (first
            | (go_at_call 21; have chk := HB6; go_must (refine (k8 _).mono ?_); rintro e w7 ⟨rfl, hb7⟩; have HB7 : Hid (Below _ _ _) := hb7; clear hb7; clear chk)
            | (go_at_call 21; have chk := HB5; go_must (refine (k7 _).mono ?_); rintro e w6 ⟨rfl, hb6⟩; have HB6 : Hid (Below _ _ _) := hb6; clear hb6; clear chk)
            | (go_at_call 20; have chk := HB4; go_must (refine (k4 _).mono ?_); rintro e w5 ⟨rfl, hb5⟩; have HB5 : Hid (Below _ _ _) := hb5; clear hb5; clear chk)
            | (go_at_call 20; have chk := HB3; go_must (refine (k3 _).mono ?_); rintro e w4 ⟨rfl, hb4⟩; have HB4 : Hid (Below _ _ _) := hb4; clear hb4; clear chk)
            | (go_at_call 16; go_must (refine (kp _).mono ?_); rintro e wx ⟨rfl, hwx⟩; rw [hwx]; clear hwx wx)
            | (go_at_call 11; have chk := HB2; go_must (refine (k2 _).mono ?_); rintro e w3 ⟨rfl, hb3⟩; have HB3 : Hid (Below _ _ _) := hb3; clear hb3; clear chk)
            | (go_at_call 11; have chk := HB1; go_must (refine (k1 _).mono ?_); rintro e w2 ⟨rfl, hb2⟩; have HB2 : Hid (Below _ _ _) := hb2; clear hb2; clear chk)
            | (go_at_call 13; go_must (refine (kis _).mono ?_); rintro e wx ⟨rfl, hwx⟩; rw [hwx]; clear hwx wx)
            | (go_at_call 7; go_must (refine (rootup_any _).mono ?_); rintro e w1 ⟨rfl, hb1⟩; have HB1 : Hid (Below _ _ _) := hb1; clear hb1))
          all_goals exact hQ.out _ _ ⟨by first | rfl | simp, cthen (cthen (cthen (cthen (cthen (cthen (cthen (Below.refl _ _) HB1.out) HB2.out) HB3.out) HB4.out) HB5.out) HB6.out) HB7.out⟩
      · have d1 : decide (((2 ^ (m - 1) : Nat) : Int) ≤ ((a % 2 ^ m : Nat) : Int)) = false := decide_eq_false (by omega)
        have nd1 : decide (2 ^ (m - 1) ≤ a % 2 ^ m) = false := decide_eq_false (by omega)
        have d2 : decide (((2 ^ (m - 1) : Nat) : Int) ≤ ((b % 2 ^ m : Nat) : Int)) = true := decide_eq_true (by omega)
        have nd2 : decide (2 ^ (m - 1) ≤ b % 2 ^ m) = true := decide_eq_true (by omega)
        have d3 : decide (((a % 2 ^ m : Nat) : Int) < ((2 ^ (m - 1) : Nat) : Int)) = true := decide_eq_true (by omega)
        have nd3 : decide (a % 2 ^ m < 2 ^ (m - 1)) = true := decide_eq_true (by omega)
        have d4 : decide (((b % 2 ^ m : Nat) : Int) < ((2 ^ (m - 1) : Nat) : Int)) = false := decide_eq_false (by omega)
        have nd4 : decide (b % 2 ^ m < 2 ^ (m - 1)) = false := decide_eq_false (by omega)
        rw [patT2_nar m b hm hb (by omega)] at k2
        clear c1 c2 la fa fb hisw hm ha hb hw k7 k8
        generalize patT2 m a = p at *
        generalize a % 2 ^ m = xa at *
        generalize b % 2 ^ m = xb at *
        generalize 2 ^ (m - 1) = nar at *
        go_enter Try.func6, Try.ntmps6
        go_wp2_with (first
          | (go_at_call 20; have chk := HB6; go_must (refine (k6 _).mono ?_); rintro e w7 ⟨rfl, hb7⟩; have HB7 : Hid (Below _ _ _) := hb7; clear hb7; clear chk)
          | (go_at_call 20; have chk := HB5; go_must (refine (k5 _).mono ?_); rintro e w6 ⟨rfl, hb6⟩; have HB6 : Hid (Below _ _ _) := hb6; clear hb6; clear chk)
          | (go_at_call 20; have chk := HB4; go_must (refine (k4 _).mono ?_); rintro e w5 ⟨rfl, hb5⟩; have HB5 : Hid (Below _ _ _) := hb5; clear hb5; clear chk)
          | (go_at_call 20; have chk := HB3; go_must (refine (k3 _).mono ?_); rintro e w4 ⟨rfl, hb4⟩; have HB4 : Hid (Below _ _ _) := hb4; clear hb4; clear chk)
          | (go_at_call 16; go_must (refine (kp _).mono ?_); rintro e wx ⟨rfl, hwx⟩; rw [hwx]; clear hwx wx)
          | (go_at_call 11; have chk := HB2; go_must (refine (k2 _).mono ?_); rintro e w3 ⟨rfl, hb3⟩; have HB3 : Hid (Below _ _ _) := hb3; clear hb3; clear chk)
          | (go_at_call 11; have chk := HB1; go_must (refine (k1 _).mono ?_); rintro e w2 ⟨rfl, hb2⟩; have HB2 : Hid (Below _ _ _) := hb2; clear hb2; clear chk)
          | (go_at_call 13; go_must (refine (kis _).mono ?_); rintro e wx ⟨rfl, hwx⟩; rw [hwx]; clear hwx wx)
          | (go_at_call 7; go_must (refine (rootup_any _).mono ?_); rintro e w1 ⟨rfl, hb1⟩; have HB1 : Hid (Below _ _ _) := hb1; clear hb1))
        all_goals exact hQ.out _ _ ⟨by first | rfl | simp, cthen (cthen (cthen (cthen (cthen (cthen (cthen (Below.refl _ _) HB1.out) HB2.out) HB3.out) HB4.out) HB5.out) HB6.out) HB7.out⟩
    · have d1 : decide (((2 ^ (m - 1) : Nat) : Int) ≤ ((a % 2 ^ m : Nat) : Int)) = true := decide_eq_true (by omega)
      have nd1 : decide (2 ^ (m - 1) ≤ a % 2 ^ m) = true := decide_eq_true (by omega)
      have d3 : decide (((a % 2 ^ m : Nat) : Int) < ((2 ^ (m - 1) : Nat) : Int)) = false := decide_eq_false (by omega)
      have nd3 : decide (a % 2 ^ m < 2 ^ (m - 1)) = false := decide_eq_false (by omega)
      rw [patT2_nar m a hm ha (by omega)] at k1
      by_cases fb : b % 2 ^ m < 2 ^ (m - 1)
      · have d4 : decide (((b % 2 ^ m : Nat) : Int) < ((2 ^ (m - 1) : Nat) : Int)) = true := decide_eq_true (by omega)
        have nd4 : decide (b % 2 ^ m < 2 ^ (m - 1)) = true := decide_eq_true (by omega)
        clear c1 c2 fa fb hisw hm ha hb hw k7 k8 k6
        generalize patT2 m b = q at *
        generalize a % 2 ^ m = xa at *
        generalize b % 2 ^ m = xb at *
        generalize 2 ^ (m - 1) = nar at *
        go_enter Try.func6, Try.ntmps6
        go_wp2_with (first
          | (go_at_call 20; have chk := HB5; go_must (refine (k4 _).mono ?_); rintro e w6 ⟨rfl, hb6⟩; have HB6 : Hid (Below _ _ _) := hb6; clear hb6; clear chk)
          | (go_at_call 20; have chk := HB4; go_must (refine (k5 _).mono ?_); rintro e w5 ⟨rfl, hb5⟩; have HB5 : Hid (Below _ _ _) := hb5; clear hb5; clear chk)
          | (go_at_call 20; have chk := HB3; go_must (refine (k3 _).mono ?_); rintro e w4 ⟨rfl, hb4⟩; have HB4 : Hid (Below _ _ _) := hb4; clear hb4; clear chk)
          | (go_at_call 16; go_must (refine (kp _).mono ?_); rintro e wx ⟨rfl, hwx⟩; rw [hwx]; clear hwx wx)
          | (go_at_call 11; have chk := HB2; go_must (refine (k2 _).mono ?_); rintro e w3 ⟨rfl, hb3⟩; have HB3 : Hid (Below _ _ _) := hb3; clear hb3; clear chk)
          | (go_at_call 11; have chk := HB1; go_must (refine (k1 _).mono ?_); rintro e w2 ⟨rfl, hb2⟩; have HB2 : Hid (Below _ _ _) := hb2; clear hb2; clear chk)
          | (go_at_call 13; go_must (refine (kis _).mono ?_); rintro e wx ⟨rfl, hwx⟩; rw [hwx]; clear hwx wx)
          | (go_at_call 7; go_must (refine (rootup_any _).mono ?_); rintro e w1 ⟨rfl, hb1⟩; have HB1 : Hid (Below _ _ _) := hb1; clear hb1))
        all_goals exact hQ.out _ _ ⟨by first | rfl | simp, cthen (cthen (cthen (cthen (cthen (cthen (Below.refl _ _) HB1.out) HB2.out) HB3.out) HB4.out) HB5.out) HB6.out⟩
      · have d4 : decide (((b % 2 ^ m : Nat) : Int) < ((2 ^ (m - 1) : Nat) : Int)) = false := decide_eq_false (by omega)
        have nd4 : decide (b % 2 ^ m < 2 ^ (m - 1)) = false := decide_eq_false (by omega)
        rw [patT2_nar m b hm hb (by omega)] at k2
        clear c1 c2 fa fb hisw hm ha hb hw k7 k8 k6
        generalize a % 2 ^ m = xa at *
        generalize b % 2 ^ m = xb at *
        generalize 2 ^ (m - 1) = nar at *
        go_enter Try.func6, Try.ntmps6
        go_wp2_with (first
          | (go_at_call 20; have chk := HB5; go_must (refine (k4 _).mono ?_); rintro e w6 ⟨rfl, hb6⟩; have HB6 : Hid (Below _ _ _) := hb6; clear hb6; clear chk)
          | (go_at_call 20; have chk := HB4; go_must (refine (k5 _).mono ?_); rintro e w5 ⟨rfl, hb5⟩; have HB5 : Hid (Below _ _ _) := hb5; clear hb5; clear chk)
          | (go_at_call 20; have chk := HB3; go_must (refine (k3 _).mono ?_); rintro e w4 ⟨rfl, hb4⟩; have HB4 : Hid (Below _ _ _) := hb4; clear hb4; clear chk)
          | (go_at_call 16; go_must (refine (kp _).mono ?_); rintro e wx ⟨rfl, hwx⟩; rw [hwx]; clear hwx wx)
          | (go_at_call 11; have chk := HB2; go_must (refine (k2 _).mono ?_); rintro e w3 ⟨rfl, hb3⟩; have HB3 : Hid (Below _ _ _) := hb3; clear hb3; clear chk)
          | (go_at_call 11; have chk := HB1; go_must (refine (k1 _).mono ?_); rintro e w2 ⟨rfl, hb2⟩; have HB2 : Hid (Below _ _ _) := hb2; clear hb2; clear chk)
          | (go_at_call 13; go_must (refine (kis _).mono ?_); rintro e wx ⟨rfl, hwx⟩; rw [hwx]; clear hwx wx)
          | (go_at_call 7; go_must (refine (rootup_any _).mono ?_); rintro e w1 ⟨rfl, hb1⟩; have HB1 : Hid (Below _ _ _) := hb1; clear hb1))
        all_goals exact hQ.out _ _ ⟨by first | rfl | simp, cthen (cthen (cthen (cthen (cthen (cthen (Below.refl _ _) HB1.out) HB2.out) HB3.out) HB4.out) HB5.out) HB6.out⟩
end Go.Proofs.Ytllahgcifichbaa
