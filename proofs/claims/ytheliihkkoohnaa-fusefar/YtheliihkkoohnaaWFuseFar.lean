import Derived.Test.YtheliihkkoohnaaJoin9
namespace Go.Proofs.Ytheliihkkoohnaa
open Go.ChangeShapes Go.WideShapes Go.ChangeAt Go.RowKit
set_option linter.unusedVariables false
set_option linter.unusedSimpArgs false
set_option maxRecDepth 100000

theorem patH_abs (n a : Nat) (hn : Wd n) (ha : a < 2 ^ 64) : patH n a 0 = absO n a := by
  by_cases h : vK n a = 2
  · have hz : a % 2 ^ n = 2 ^ (n - 1) := by
      rcases v_kinds n a hn with ⟨c, _⟩ | c | ⟨_, c⟩
      · rw [c] at h; exact absurd h (by decide)
      · rw [c] at h; exact absurd h (by decide)
      · exact c
    unfold patH
    rw [if_pos (.inl h)]
    obtain ⟨H, p1, p2, p3, p4, p5, p6, _⟩ := rank_range n a hn
    unfold absO
    have hb : narB n a = true := decide_eq_true hz
    rw [if_pos (by have := p6.1 hb; omega), ← negO_mod n a hn ha, hz, negO_nar n hn]
  · exact patH_self n a hn ha h
set_option maxHeartbeats 2000000 in
theorem fuseFar_walk (n ia ib : Int) (wn : (Lit.int .i64 n).wf = true) (wa : (Lit.int .u64 ia).wf = true) (wb : (Lit.int .u64 ib).wf = true) (w : World) :
    Calls Try.prog 5 #[.int .i64 n, .int .u64 ia, .int .u64 ib] w fun e w' => e = .returned (.bool true) ∧ Below w.heap.size w w' := by
  have he := fun w a b => Lib.run_eql_iface_int (P := Try.prog) w (t := 27) (tx := 37) (k := .i64) a b Try.underlying27 (by kernel_rfl) Try.underlying37
  have hnl := nil_not_code
  obtain ⟨a, rfl, ha⟩ := nat_of_u64 wa
  obtain ⟨b, rfl, hb⟩ := nat_of_u64 wb
  clear wn wa wb
  refine cps fun Q hQ => ?_
  have kis := is_width n
  cases hisw : isW n
  · have k1 := fhyp_no n a 0 hisw
    rw [show ((0 : Nat) : Int) = 0 from rfl] at k1
    rw [hisw] at kis
    unfold codeV at *
    clear hisw ha hb
    go_enter Try.func5, Try.ntmps5
    go_wp2_with (first
      | (go_at_call 19; go_must (refine (k1 _).mono ?_); rintro e w2 ⟨rfl, hb2⟩; have HB2 : Hid (Below _ _ _) := hb2; clear hb2)
      | (go_at_call 10; go_must (refine (kis _).mono ?_); rintro e wx ⟨rfl, hwx⟩; rw [hwx]; clear hwx wx)
      | (go_at_call 6; go_must (refine (fuseup_any _).mono ?_); rintro e w1 ⟨rfl, hb1⟩; have HB1 : Hid (Below _ _ _) := hb1; clear hb1))
    all_goals exact hQ.out _ _ ⟨by first | rfl | simp, cthen (cthen (Below.refl _ _) HB1.out) HB2.out⟩
  · obtain ⟨m, rfl, hm⟩ := isW_yes hisw
    rw [hisw] at kis
    have k1 := fhyp_ok m a 0 hm ha (by decide)
    rw [patH_abs m a hm ha, show ((0 : Nat) : Int) = 0 from rfl] at k1
    have k2 := fhyp_ok m a b hm ha hb
    have k3 := fhyp_ok m (minusU b) a hm (minusU_lt b) ha
    rw [patH_swap m a b hm ha hb] at k3
    have k4 := abs8_ok m a hm ha
    have wb := minusU_wrap b hb
    have wb2 : -(b : Int) % 18446744073709551616 = (minusU b : Int) := by rw [← wb, IntKind.wrap_u64]
    clear hisw hm ha hb
    generalize absO m a = AB at *
    generalize patH m a b = V at *
    generalize minusU b = ub at *
    go_enter Try.func5, Try.ntmps5
    go_wp2_with (first
      | (go_at_call 20; go_must (refine (k4 _).mono ?_); rintro e w5 ⟨rfl, hb5⟩; have HB5 : Hid (Below _ _ _) := hb5; clear hb5)
      | (go_at_call 19; have chk := HB3; go_must (refine (k3 _).mono ?_); rintro e w4 ⟨rfl, hb4⟩; have HB4 : Hid (Below _ _ _) := hb4; clear hb4; clear chk)
      | (go_at_call 19; have chk := HB2; go_must (refine (k2 _).mono ?_); rintro e w3 ⟨rfl, hb3⟩; have HB3 : Hid (Below _ _ _) := hb3; clear hb3; clear chk)
      | (go_at_call 19; have chk := HB1; go_must (refine (k1 _).mono ?_); rintro e w2 ⟨rfl, hb2⟩; have HB2 : Hid (Below _ _ _) := hb2; clear hb2; clear chk)
      | (go_at_call 10; go_must (refine (kis _).mono ?_); rintro e wx ⟨rfl, hwx⟩; rw [hwx]; clear hwx wx)
      | (go_at_call 6; go_must (refine (fuseup_any _).mono ?_); rintro e w1 ⟨rfl, hb1⟩; have HB1 : Hid (Below _ _ _) := hb1; clear hb1))
    all_goals exact hQ.out _ _ ⟨by first | rfl | simp, cthen (cthen (cthen (cthen (cthen (Below.refl _ _) HB1.out) HB2.out) HB3.out) HB4.out) HB5.out⟩
end Go.Proofs.Ytheliihkkoohnaa
