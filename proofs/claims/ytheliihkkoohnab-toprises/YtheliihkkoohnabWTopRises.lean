import Derived.Test.YtheliihkkoohnabJoin3
import Derived.Test.YtheliihkkoohnabJoin7
import Derived.Test.YtheliihkkoohnabJoin8
import Derived.Test.YtheliihkkoohnabJoin9
namespace Go.Proofs.Ytheliihkkoohnab
open Go.ChangeShapes Go.WideShapes Go.ChangeAt Go.RowKit
set_option linter.unusedVariables false
set_option linter.unusedSimpArgs false
set_option maxRecDepth 100000

set_option maxHeartbeats 8000000 in
theorem topRises_walk (n ia id ib ic : Int) (wn : (Lit.int .i64 n).wf = true) (wa : (Lit.int .u64 ia).wf = true) (wd : (Lit.int .u64 id).wf = true) (wb : (Lit.int .u64 ib).wf = true) (wc : (Lit.int .u64 ic).wf = true) (w : World) :
    Calls Try.prog 3 #[.int .i64 n, .int .u64 ia, .int .u64 id, .int .u64 ib, .int .u64 ic] w fun e w' => e = .returned (.bool true) ∧ Below w.heap.size w w' := by
  have he := fun w a b => Lib.run_eql_iface_int (P := Try.prog) w (t := 25) (tx := 29) (k := .i64) a b Try.underlying25 (by kernel_rfl) Try.underlying29
  have hnl := nil_not_code
  obtain ⟨a, rfl, ha⟩ := nat_of_u64 wa
  obtain ⟨d, rfl, hd⟩ := nat_of_u64 wd
  obtain ⟨b, rfl, hb⟩ := nat_of_u64 wb
  obtain ⟨c, rfl, hc⟩ := nat_of_u64 wc
  clear wn wa wb wc wd
  refine cps fun Q hQ => ?_
  have kis := is_width n
  cases hisw : isW n
  · have k1 := ffma_no n a b c hisw
    have k2 := ffma_no n d b c hisw
    have k3 := qdiv_no n a b hisw
    have k4 := qdiv_no n d b hisw
    have k5 := ssub_no n c a hisw
    have k6 := ssub_no n c d hisw
    rw [hisw] at kis
    unfold codeV at *
    clear hisw ha hb hc hd
    go_enter Try.func3, Try.ntmps3
    go_wp2_with (first
      | (go_at_call 7; have chk := HB5; go_must (refine (k6 _).mono ?_); rintro e w6 ⟨rfl, hb6⟩; have HB6 : Hid (Below _ _ _) := hb6; clear hb6; clear chk)
      | (go_at_call 7; have chk := HB4; go_must (refine (k5 _).mono ?_); rintro e w5 ⟨rfl, hb5⟩; have HB5 : Hid (Below _ _ _) := hb5; clear hb5; clear chk)
      | (go_at_call 6; have chk := HB3; go_must (refine (k4 _).mono ?_); rintro e w4 ⟨rfl, hb4⟩; have HB4 : Hid (Below _ _ _) := hb4; clear hb4; clear chk)
      | (go_at_call 6; have chk := HB2; go_must (refine (k3 _).mono ?_); rintro e w3 ⟨rfl, hb3⟩; have HB3 : Hid (Below _ _ _) := hb3; clear hb3; clear chk)
      | (go_at_call 5; have chk := HB1; go_must (refine (k2 _).mono ?_); rintro e w2 ⟨rfl, hb2⟩; have HB2 : Hid (Below _ _ _) := hb2; clear hb2; clear chk)
      | (go_at_call 5; go_must (refine (k1 _).mono ?_); rintro e w1 ⟨rfl, hb1⟩; have HB1 : Hid (Below _ _ _) := hb1; clear hb1)
      | (go_at_call 4; go_must (refine (kis _).mono ?_); rintro e wx ⟨rfl, hwx⟩; rw [hwx]; clear hwx wx))
    all_goals exact hQ.out _ _ ⟨by first | rfl | simp, cthen (cthen (cthen (cthen (cthen (cthen (Below.refl _ _) HB1.out) HB2.out) HB3.out) HB4.out) HB5.out) HB6.out⟩
  · obtain ⟨m, rfl, hm⟩ := isW_yes hisw
    rw [hisw] at kis
    have hw := wd_le hm
    have q1 : IntKind.i64.wrap ((m : Int) - 1) = (m : Int) - 1 := wrapI (by omega)
    have kp := power_sub m (by omega) hw.2
    have k1 := ffma_ok m a b c hm ha hb hc
    have k2 := ffma_ok m d b c hm hd hb hc
    have k3 := qdiv_ok m a b hm ha hb
    have k4 := qdiv_ok m d b hm hd hb
    have k5 := ssub_ok m c a hm hc ha
    have k6 := ssub_ok m c d hm hc hd
    have fa := fold6_any m a hm
    have fb := fold6_any m b hm
    have fc := fold6_any m c hm
    have fd := fold6_any m d hm
    have g1 := cmp8_ok m a d hm
    have g2 := cmp8_ok m b 0 hm
    rw [show ((0 : Nat) : Int) = 0 from rfl] at g2
    have g3 := cmp8_ok m (patF m a b c) (patF m d b c) hm
    have g4 := cmp8_ok m (patQ m a b) (patQ m d b) hm
    have g5 := cmp8_ok m (patS m c (negO m a)) (patS m c (negO m d)) hm
    have hna : ∀ x, (vK m x = 2 → x % 2 ^ m = 2 ^ (m - 1)) ∧ (vK m x ≠ 2 → x % 2 ^ m ≠ 2 ^ (m - 1)) := fun x => by
      constructor
      · intro h
        rcases v_kinds m x hm with ⟨c, _⟩ | c | ⟨_, c⟩
        · rw [c] at h; exact absurd h (by decide)
        · rw [c] at h; exact absurd h (by decide)
        · exact c
      · intro h h2
        have hb : narB m x = true := decide_eq_true h2
        rw [narB_kind m x hm] at hb
        exact h (of_decide_eq_true hb)
    have rs := fun ka kd kb kc => rises_all m a d b c hm ha hd hb hc ka kd kb kc
    have one := cmpR_cases m (patF m a b c) (patF m d b c)
    have two := cmpR_cases m (patQ m a b) (patQ m d b)
    have three := cmpR_cases m (patS m c (negO m a)) (patS m c (negO m d))
    have way := cmpR_cases m a d
    have by' := cmpR_cases m b 0
    by_cases na : vK m a = 2
    · have ea : ((((a % 2 ^ m : Nat) : Int)) == ((2 ^ (m - 1) : Nat) : Int)) = true := beq_iff_eq.2 (by rw [(hna a).1 na])
      have fa2 : (a % 2 ^ m == 2 ^ (m - 1)) = true := beq_iff_eq.2 ((hna a).1 na)
      clear rs one two three way by' hna g1 g2 g3 g4 g5 hisw hm ha hb hc hd hw fb fc fd
      generalize patF m a b c = VP at *
      generalize patF m d b c = VQ at *
      generalize patQ m a b = VR at *
      generalize patQ m d b = VS at *
      generalize patS m c (negO m a) = VT at *
      generalize patS m c (negO m d) = VU at *
      generalize a % 2 ^ m = xa at *
      generalize b % 2 ^ m = xb at *
      generalize c % 2 ^ m = xc at *
      generalize d % 2 ^ m = xd at *
      generalize 2 ^ (m - 1) = nar at *
      go_enter Try.func3, Try.ntmps3
      go_wp2_with (first
        | (go_at_call 8; go_must (refine (kp _).mono ?_); rintro e wx ⟨rfl, hwx⟩; rw [hwx]; clear hwx wx)
        | (go_at_call 7; have chk := HB5; go_must (refine (k6 _).mono ?_); rintro e w6 ⟨rfl, hb6⟩; have HB6 : Hid (Below _ _ _) := hb6; clear hb6; clear chk)
        | (go_at_call 7; have chk := HB4; go_must (refine (k5 _).mono ?_); rintro e w5 ⟨rfl, hb5⟩; have HB5 : Hid (Below _ _ _) := hb5; clear hb5; clear chk)
        | (go_at_call 6; have chk := HB3; go_must (refine (k4 _).mono ?_); rintro e w4 ⟨rfl, hb4⟩; have HB4 : Hid (Below _ _ _) := hb4; clear hb4; clear chk)
        | (go_at_call 6; have chk := HB2; go_must (refine (k3 _).mono ?_); rintro e w3 ⟨rfl, hb3⟩; have HB3 : Hid (Below _ _ _) := hb3; clear hb3; clear chk)
        | (go_at_call 5; have chk := HB1; go_must (refine (k2 _).mono ?_); rintro e w2 ⟨rfl, hb2⟩; have HB2 : Hid (Below _ _ _) := hb2; clear hb2; clear chk)
        | (go_at_call 5; go_must (refine (k1 _).mono ?_); rintro e w1 ⟨rfl, hb1⟩; have HB1 : Hid (Below _ _ _) := hb1; clear hb1)
        | (go_at_call 4; go_must (refine (kis _).mono ?_); rintro e wx ⟨rfl, hwx⟩; rw [hwx]; clear hwx wx)
        | (go_at_call_of 9 a; go_must (refine (fa _).mono ?_); rintro e w7 ⟨rfl, hb7⟩; have HB7 : Hid (Below _ _ _) := hb7; clear hb7))
      all_goals exact hQ.out _ _ ⟨by first | rfl | simp, cthen (cthen (cthen (cthen (cthen (cthen (cthen (Below.refl _ _) HB1.out) HB2.out) HB3.out) HB4.out) HB5.out) HB6.out) HB7.out⟩
    · have ea : ((((a % 2 ^ m : Nat) : Int)) == ((2 ^ (m - 1) : Nat) : Int)) = false := beq_eq_false_iff_ne.2 (fun z => (hna a).2 na (Int.ofNat.inj z))
      have fa2 : (a % 2 ^ m == 2 ^ (m - 1)) = false := beq_eq_false_iff_ne.2 ((hna a).2 na)
      by_cases nb : vK m b = 2
      · have eb : ((((b % 2 ^ m : Nat) : Int)) == ((2 ^ (m - 1) : Nat) : Int)) = true := beq_iff_eq.2 (by rw [(hna b).1 nb])
        have fb2 : (b % 2 ^ m == 2 ^ (m - 1)) = true := beq_iff_eq.2 ((hna b).1 nb)
        clear rs one two three way by' hna g1 g2 g3 g4 g5 hisw hm ha hb hc hd hw fc fd
        generalize patF m a b c = VP at *
        generalize patF m d b c = VQ at *
        generalize patQ m a b = VR at *
        generalize patQ m d b = VS at *
        generalize patS m c (negO m a) = VT at *
        generalize patS m c (negO m d) = VU at *
        generalize a % 2 ^ m = xa at *
        generalize b % 2 ^ m = xb at *
        generalize c % 2 ^ m = xc at *
        generalize d % 2 ^ m = xd at *
        generalize 2 ^ (m - 1) = nar at *
        go_enter Try.func3, Try.ntmps3
        go_wp2_with (first
          | (go_at_call 8; go_must (refine (kp _).mono ?_); rintro e wx ⟨rfl, hwx⟩; rw [hwx]; clear hwx wx)
          | (go_at_call 7; have chk := HB5; go_must (refine (k6 _).mono ?_); rintro e w6 ⟨rfl, hb6⟩; have HB6 : Hid (Below _ _ _) := hb6; clear hb6; clear chk)
          | (go_at_call 7; have chk := HB4; go_must (refine (k5 _).mono ?_); rintro e w5 ⟨rfl, hb5⟩; have HB5 : Hid (Below _ _ _) := hb5; clear hb5; clear chk)
          | (go_at_call 6; have chk := HB3; go_must (refine (k4 _).mono ?_); rintro e w4 ⟨rfl, hb4⟩; have HB4 : Hid (Below _ _ _) := hb4; clear hb4; clear chk)
          | (go_at_call 6; have chk := HB2; go_must (refine (k3 _).mono ?_); rintro e w3 ⟨rfl, hb3⟩; have HB3 : Hid (Below _ _ _) := hb3; clear hb3; clear chk)
          | (go_at_call 5; have chk := HB1; go_must (refine (k2 _).mono ?_); rintro e w2 ⟨rfl, hb2⟩; have HB2 : Hid (Below _ _ _) := hb2; clear hb2; clear chk)
          | (go_at_call 5; go_must (refine (k1 _).mono ?_); rintro e w1 ⟨rfl, hb1⟩; have HB1 : Hid (Below _ _ _) := hb1; clear hb1)
          | (go_at_call 4; go_must (refine (kis _).mono ?_); rintro e wx ⟨rfl, hwx⟩; rw [hwx]; clear hwx wx)
          | (go_at_call_of 9 a; go_must (refine (fa _).mono ?_); rintro e w7 ⟨rfl, hb7⟩; have HB7 : Hid (Below _ _ _) := hb7; clear hb7)
          | (go_at_call_of 9 b; go_must (refine (fb _).mono ?_); rintro e w8 ⟨rfl, hb8⟩; have HB8 : Hid (Below _ _ _) := hb8; clear hb8))
        all_goals exact hQ.out _ _ ⟨by first | rfl | simp, cthen (cthen (cthen (cthen (cthen (cthen (cthen (cthen (Below.refl _ _) HB1.out) HB2.out) HB3.out) HB4.out) HB5.out) HB6.out) HB7.out) HB8.out⟩
      · have eb : ((((b % 2 ^ m : Nat) : Int)) == ((2 ^ (m - 1) : Nat) : Int)) = false := beq_eq_false_iff_ne.2 (fun z => (hna b).2 nb (Int.ofNat.inj z))
        have fb2 : (b % 2 ^ m == 2 ^ (m - 1)) = false := beq_eq_false_iff_ne.2 ((hna b).2 nb)
        by_cases nc : vK m c = 2
        · have ec : ((((c % 2 ^ m : Nat) : Int)) == ((2 ^ (m - 1) : Nat) : Int)) = true := beq_iff_eq.2 (by rw [(hna c).1 nc])
          have fc2 : (c % 2 ^ m == 2 ^ (m - 1)) = true := beq_iff_eq.2 ((hna c).1 nc)
          clear rs one two three way by' hna g1 g2 g3 g4 g5 hisw hm ha hb hc hd hw fd
          generalize patF m a b c = VP at *
          generalize patF m d b c = VQ at *
          generalize patQ m a b = VR at *
          generalize patQ m d b = VS at *
          generalize patS m c (negO m a) = VT at *
          generalize patS m c (negO m d) = VU at *
          generalize a % 2 ^ m = xa at *
          generalize b % 2 ^ m = xb at *
          generalize c % 2 ^ m = xc at *
          generalize d % 2 ^ m = xd at *
          generalize 2 ^ (m - 1) = nar at *
          go_enter Try.func3, Try.ntmps3
          go_wp2_with (first
            | (go_at_call 8; go_must (refine (kp _).mono ?_); rintro e wx ⟨rfl, hwx⟩; rw [hwx]; clear hwx wx)
            | (go_at_call 7; have chk := HB5; go_must (refine (k6 _).mono ?_); rintro e w6 ⟨rfl, hb6⟩; have HB6 : Hid (Below _ _ _) := hb6; clear hb6; clear chk)
            | (go_at_call 7; have chk := HB4; go_must (refine (k5 _).mono ?_); rintro e w5 ⟨rfl, hb5⟩; have HB5 : Hid (Below _ _ _) := hb5; clear hb5; clear chk)
            | (go_at_call 6; have chk := HB3; go_must (refine (k4 _).mono ?_); rintro e w4 ⟨rfl, hb4⟩; have HB4 : Hid (Below _ _ _) := hb4; clear hb4; clear chk)
            | (go_at_call 6; have chk := HB2; go_must (refine (k3 _).mono ?_); rintro e w3 ⟨rfl, hb3⟩; have HB3 : Hid (Below _ _ _) := hb3; clear hb3; clear chk)
            | (go_at_call 5; have chk := HB1; go_must (refine (k2 _).mono ?_); rintro e w2 ⟨rfl, hb2⟩; have HB2 : Hid (Below _ _ _) := hb2; clear hb2; clear chk)
            | (go_at_call 5; go_must (refine (k1 _).mono ?_); rintro e w1 ⟨rfl, hb1⟩; have HB1 : Hid (Below _ _ _) := hb1; clear hb1)
            | (go_at_call 4; go_must (refine (kis _).mono ?_); rintro e wx ⟨rfl, hwx⟩; rw [hwx]; clear hwx wx)
            | (go_at_call_of 9 a; go_must (refine (fa _).mono ?_); rintro e w7 ⟨rfl, hb7⟩; have HB7 : Hid (Below _ _ _) := hb7; clear hb7)
            | (go_at_call_of 9 b; go_must (refine (fb _).mono ?_); rintro e w8 ⟨rfl, hb8⟩; have HB8 : Hid (Below _ _ _) := hb8; clear hb8)
            | (go_at_call_of 9 c; go_must (refine (fc _).mono ?_); rintro e w9 ⟨rfl, hb9⟩; have HB9 : Hid (Below _ _ _) := hb9; clear hb9))
          all_goals exact hQ.out _ _ ⟨by first | rfl | simp, cthen (cthen (cthen (cthen (cthen (cthen (cthen (cthen (cthen (Below.refl _ _) HB1.out) HB2.out) HB3.out) HB4.out) HB5.out) HB6.out) HB7.out) HB8.out) HB9.out⟩
        · have ec : ((((c % 2 ^ m : Nat) : Int)) == ((2 ^ (m - 1) : Nat) : Int)) = false := beq_eq_false_iff_ne.2 (fun z => (hna c).2 nc (Int.ofNat.inj z))
          have fc2 : (c % 2 ^ m == 2 ^ (m - 1)) = false := beq_eq_false_iff_ne.2 ((hna c).2 nc)
          by_cases nd : vK m d = 2
          · have ed : ((((d % 2 ^ m : Nat) : Int)) == ((2 ^ (m - 1) : Nat) : Int)) = true := beq_iff_eq.2 (by rw [(hna d).1 nd])
            have fd2 : (d % 2 ^ m == 2 ^ (m - 1)) = true := beq_iff_eq.2 ((hna d).1 nd)
            clear rs one two three way by' hna g1 g2 g3 g4 g5 hisw hm ha hb hc hd hw
            generalize patF m a b c = VP at *
            generalize patF m d b c = VQ at *
            generalize patQ m a b = VR at *
            generalize patQ m d b = VS at *
            generalize patS m c (negO m a) = VT at *
            generalize patS m c (negO m d) = VU at *
            generalize a % 2 ^ m = xa at *
            generalize b % 2 ^ m = xb at *
            generalize c % 2 ^ m = xc at *
            generalize d % 2 ^ m = xd at *
            generalize 2 ^ (m - 1) = nar at *
            go_enter Try.func3, Try.ntmps3
            go_wp2_with (first
              | (go_at_call 8; go_must (refine (kp _).mono ?_); rintro e wx ⟨rfl, hwx⟩; rw [hwx]; clear hwx wx)
              | (go_at_call 7; have chk := HB5; go_must (refine (k6 _).mono ?_); rintro e w6 ⟨rfl, hb6⟩; have HB6 : Hid (Below _ _ _) := hb6; clear hb6; clear chk)
              | (go_at_call 7; have chk := HB4; go_must (refine (k5 _).mono ?_); rintro e w5 ⟨rfl, hb5⟩; have HB5 : Hid (Below _ _ _) := hb5; clear hb5; clear chk)
              | (go_at_call 6; have chk := HB3; go_must (refine (k4 _).mono ?_); rintro e w4 ⟨rfl, hb4⟩; have HB4 : Hid (Below _ _ _) := hb4; clear hb4; clear chk)
              | (go_at_call 6; have chk := HB2; go_must (refine (k3 _).mono ?_); rintro e w3 ⟨rfl, hb3⟩; have HB3 : Hid (Below _ _ _) := hb3; clear hb3; clear chk)
              | (go_at_call 5; have chk := HB1; go_must (refine (k2 _).mono ?_); rintro e w2 ⟨rfl, hb2⟩; have HB2 : Hid (Below _ _ _) := hb2; clear hb2; clear chk)
              | (go_at_call 5; go_must (refine (k1 _).mono ?_); rintro e w1 ⟨rfl, hb1⟩; have HB1 : Hid (Below _ _ _) := hb1; clear hb1)
              | (go_at_call 4; go_must (refine (kis _).mono ?_); rintro e wx ⟨rfl, hwx⟩; rw [hwx]; clear hwx wx)
              | (go_at_call_of 9 a; go_must (refine (fa _).mono ?_); rintro e w7 ⟨rfl, hb7⟩; have HB7 : Hid (Below _ _ _) := hb7; clear hb7)
              | (go_at_call_of 9 b; go_must (refine (fb _).mono ?_); rintro e w8 ⟨rfl, hb8⟩; have HB8 : Hid (Below _ _ _) := hb8; clear hb8)
              | (go_at_call_of 9 c; go_must (refine (fc _).mono ?_); rintro e w9 ⟨rfl, hb9⟩; have HB9 : Hid (Below _ _ _) := hb9; clear hb9)
              | (go_at_call_of 9 d; go_must (refine (fd _).mono ?_); rintro e w10 ⟨rfl, hb10⟩; have HB10 : Hid (Below _ _ _) := hb10; clear hb10))
            all_goals exact hQ.out _ _ ⟨by first | rfl | simp, cthen (cthen (cthen (cthen (cthen (cthen (cthen (cthen (cthen (cthen (Below.refl _ _) HB1.out) HB2.out) HB3.out) HB4.out) HB5.out) HB6.out) HB7.out) HB8.out) HB9.out) HB10.out⟩
          · have ed : ((((d % 2 ^ m : Nat) : Int)) == ((2 ^ (m - 1) : Nat) : Int)) = false := beq_eq_false_iff_ne.2 (fun z => (hna d).2 nd (Int.ofNat.inj z))
            have fd2 : (d % 2 ^ m == 2 ^ (m - 1)) = false := beq_eq_false_iff_ne.2 ((hna d).2 nd)
            obtain ⟨z1, z2, z3⟩ := rs na nd nb nc
            clear rs hna
            generalize cmpR m (patF m a b c) (patF m d b c) = vone at *
            generalize cmpR m (patQ m a b) (patQ m d b) = vtwo at *
            generalize cmpR m (patS m c (negO m a)) (patS m c (negO m d)) = vthree at *
            generalize cmpR m a d = vway at *
            generalize cmpR m b 0 = vby at *
            have o1 : -1 ≤ vone ∧ vone ≤ 1 := by omega
            have o2 : -1 ≤ vtwo ∧ vtwo ≤ 1 := by omega
            have o3 : -1 ≤ vthree ∧ vthree ≤ 1 := by omega
            have o4 : vway = -1 ∨ vway = 1 ∨ vway = 0 := by omega
            have o5 : vby = -1 ∨ vby = 1 ∨ vby = 0 := by omega
            clear one two three way by'
            have m1 : ∃ y, y = vthree * vway ∧ IntKind.i64.wrap y = y ∧ decide (0 < y) = false := ⟨_, rfl, by rcases o4 with rfl | rfl | rfl <;> exact wrapI (by omega), decide_eq_false (by omega)⟩
            have m2 : ∃ y, y = vone * vway ∧ IntKind.i64.wrap y = y ∧ -1 ≤ y ∧ y ≤ 1 := ⟨_, rfl, by rcases o4 with rfl | rfl | rfl <;> exact wrapI (by omega), by rcases o4 with rfl | rfl | rfl <;> omega, by rcases o4 with rfl | rfl | rfl <;> omega⟩
            have m3 : ∃ y, y = vtwo * vway ∧ IntKind.i64.wrap y = y ∧ -1 ≤ y ∧ y ≤ 1 := ⟨_, rfl, by rcases o4 with rfl | rfl | rfl <;> exact wrapI (by omega), by rcases o4 with rfl | rfl | rfl <;> omega, by rcases o4 with rfl | rfl | rfl <;> omega⟩
            obtain ⟨y1, h1, w1, d1⟩ := m1
            obtain ⟨y2, h2, w2, l2, u2⟩ := m2
            obtain ⟨y3, h3, w3, l3, u3⟩ := m3
            have h1' := h1.symm
            have h2' := h2.symm
            have h3' := h3.symm
            rw [h2', h3'] at z3
            clear h1 h2 h3 z1 o1 o2 o3 o4
            by_cases hb0 : vby = 0
            · obtain ⟨p1, p2, p3⟩ := z2 hb0
              subst hb0
              subst p1
              rw [p2] at k3
              rw [p3] at k4
              rw [p2, p3] at g4
              clear z2 z3 o5 p2 p3 hisw hm ha hb hc hd hw
              generalize patF m a b c = VP at *
              generalize patF m d b c = VQ at *
              generalize patS m c (negO m a) = VT at *
              generalize patS m c (negO m d) = VU at *
              generalize a % 2 ^ m = xa at *
              generalize b % 2 ^ m = xb at *
              generalize c % 2 ^ m = xc at *
              generalize d % 2 ^ m = xd at *
              generalize 2 ^ (m - 1) = nar at *
              go_enter Try.func3, Try.ntmps3
              go_wp2_with (first
                | (go_at_call 10; have chk := HB14; go_must (refine (g5 _).mono ?_); rintro e w15 ⟨rfl, hb15⟩; have HB15 : Hid (Below _ _ _) := hb15; clear hb15; clear chk)
                | (go_at_call 10; have chk := HB13; go_must (refine (g4 _).mono ?_); rintro e w14 ⟨rfl, hb14⟩; have HB14 : Hid (Below _ _ _) := hb14; clear hb14; clear chk)
                | (go_at_call 10; have chk := HB12; go_must (refine (g3 _).mono ?_); rintro e w13 ⟨rfl, hb13⟩; have HB13 : Hid (Below _ _ _) := hb13; clear hb13; clear chk)
                | (go_at_call 10; have chk := HB11; go_must (refine (g2 _).mono ?_); rintro e w12 ⟨rfl, hb12⟩; have HB12 : Hid (Below _ _ _) := hb12; clear hb12; clear chk)
                | (go_at_call 10; have chk := HB10; go_must (refine (g1 _).mono ?_); rintro e w11 ⟨rfl, hb11⟩; have HB11 : Hid (Below _ _ _) := hb11; clear hb11; clear chk)
                | (go_at_call 8; go_must (refine (kp _).mono ?_); rintro e wx ⟨rfl, hwx⟩; rw [hwx]; clear hwx wx)
                | (go_at_call 7; have chk := HB5; go_must (refine (k6 _).mono ?_); rintro e w6 ⟨rfl, hb6⟩; have HB6 : Hid (Below _ _ _) := hb6; clear hb6; clear chk)
                | (go_at_call 7; have chk := HB4; go_must (refine (k5 _).mono ?_); rintro e w5 ⟨rfl, hb5⟩; have HB5 : Hid (Below _ _ _) := hb5; clear hb5; clear chk)
                | (go_at_call 6; have chk := HB3; go_must (refine (k4 _).mono ?_); rintro e w4 ⟨rfl, hb4⟩; have HB4 : Hid (Below _ _ _) := hb4; clear hb4; clear chk)
                | (go_at_call 6; have chk := HB2; go_must (refine (k3 _).mono ?_); rintro e w3 ⟨rfl, hb3⟩; have HB3 : Hid (Below _ _ _) := hb3; clear hb3; clear chk)
                | (go_at_call 5; have chk := HB1; go_must (refine (k2 _).mono ?_); rintro e w2 ⟨rfl, hb2⟩; have HB2 : Hid (Below _ _ _) := hb2; clear hb2; clear chk)
                | (go_at_call 5; go_must (refine (k1 _).mono ?_); rintro e w1 ⟨rfl, hb1⟩; have HB1 : Hid (Below _ _ _) := hb1; clear hb1)
                | (go_at_call 4; go_must (refine (kis _).mono ?_); rintro e wx ⟨rfl, hwx⟩; rw [hwx]; clear hwx wx)
                | (go_at_call_of 9 a; go_must (refine (fa _).mono ?_); rintro e w7 ⟨rfl, hb7⟩; have HB7 : Hid (Below _ _ _) := hb7; clear hb7)
                | (go_at_call_of 9 b; go_must (refine (fb _).mono ?_); rintro e w8 ⟨rfl, hb8⟩; have HB8 : Hid (Below _ _ _) := hb8; clear hb8)
                | (go_at_call_of 9 c; go_must (refine (fc _).mono ?_); rintro e w9 ⟨rfl, hb9⟩; have HB9 : Hid (Below _ _ _) := hb9; clear hb9)
                | (go_at_call_of 9 d; go_must (refine (fd _).mono ?_); rintro e w10 ⟨rfl, hb10⟩; have HB10 : Hid (Below _ _ _) := hb10; clear hb10))
              all_goals exact hQ.out _ _ ⟨by first | rfl | simp, cthen (cthen (cthen (cthen (cthen (cthen (cthen (cthen (cthen (cthen (cthen (cthen (cthen (cthen (cthen (Below.refl _ _) HB1.out) HB2.out) HB3.out) HB4.out) HB5.out) HB6.out) HB7.out) HB8.out) HB9.out) HB10.out) HB11.out) HB12.out) HB13.out) HB14.out) HB15.out⟩
            · obtain ⟨p1, p2⟩ := z3 hb0
              have b0 : (vby == 0) = false := beq_eq_false_iff_ne.2 hb0
              have m4 : ∃ y, y = y2 * vby ∧ IntKind.i64.wrap y = y ∧ decide (0 ≤ y) = true := ⟨_, rfl, by rcases o5 with rfl | rfl | rfl <;> exact wrapI (by omega), decide_eq_true p1⟩
              have m5 : ∃ y, y = y3 * vby ∧ IntKind.i64.wrap y = y ∧ decide (0 ≤ y) = true := ⟨_, rfl, by rcases o5 with rfl | rfl | rfl <;> exact wrapI (by omega), decide_eq_true p2⟩
              obtain ⟨y4, h4, w4', d4⟩ := m4
              obtain ⟨y5, h5, w5', d5⟩ := m5
              have h4' := h4.symm
              have h5' := h5.symm
              clear h4 h5 z2 z3 o5 hb0 p1 p2 hisw hm ha hb hc hd hw l2 u2 l3 u3
              generalize patF m a b c = VP at *
              generalize patF m d b c = VQ at *
              generalize patQ m a b = VR at *
              generalize patQ m d b = VS at *
              generalize patS m c (negO m a) = VT at *
              generalize patS m c (negO m d) = VU at *
              generalize a % 2 ^ m = xa at *
              generalize b % 2 ^ m = xb at *
              generalize c % 2 ^ m = xc at *
              generalize d % 2 ^ m = xd at *
              generalize 2 ^ (m - 1) = nar at *
              go_enter Try.func3, Try.ntmps3
              go_wp2_with (first
                | (go_at_call 10; have chk := HB14; go_must (refine (g5 _).mono ?_); rintro e w15 ⟨rfl, hb15⟩; have HB15 : Hid (Below _ _ _) := hb15; clear hb15; clear chk)
                | (go_at_call 10; have chk := HB13; go_must (refine (g4 _).mono ?_); rintro e w14 ⟨rfl, hb14⟩; have HB14 : Hid (Below _ _ _) := hb14; clear hb14; clear chk)
                | (go_at_call 10; have chk := HB12; go_must (refine (g3 _).mono ?_); rintro e w13 ⟨rfl, hb13⟩; have HB13 : Hid (Below _ _ _) := hb13; clear hb13; clear chk)
                | (go_at_call 10; have chk := HB11; go_must (refine (g2 _).mono ?_); rintro e w12 ⟨rfl, hb12⟩; have HB12 : Hid (Below _ _ _) := hb12; clear hb12; clear chk)
                | (go_at_call 10; have chk := HB10; go_must (refine (g1 _).mono ?_); rintro e w11 ⟨rfl, hb11⟩; have HB11 : Hid (Below _ _ _) := hb11; clear hb11; clear chk)
                | (go_at_call 8; go_must (refine (kp _).mono ?_); rintro e wx ⟨rfl, hwx⟩; rw [hwx]; clear hwx wx)
                | (go_at_call 7; have chk := HB5; go_must (refine (k6 _).mono ?_); rintro e w6 ⟨rfl, hb6⟩; have HB6 : Hid (Below _ _ _) := hb6; clear hb6; clear chk)
                | (go_at_call 7; have chk := HB4; go_must (refine (k5 _).mono ?_); rintro e w5 ⟨rfl, hb5⟩; have HB5 : Hid (Below _ _ _) := hb5; clear hb5; clear chk)
                | (go_at_call 6; have chk := HB3; go_must (refine (k4 _).mono ?_); rintro e w4 ⟨rfl, hb4⟩; have HB4 : Hid (Below _ _ _) := hb4; clear hb4; clear chk)
                | (go_at_call 6; have chk := HB2; go_must (refine (k3 _).mono ?_); rintro e w3 ⟨rfl, hb3⟩; have HB3 : Hid (Below _ _ _) := hb3; clear hb3; clear chk)
                | (go_at_call 5; have chk := HB1; go_must (refine (k2 _).mono ?_); rintro e w2 ⟨rfl, hb2⟩; have HB2 : Hid (Below _ _ _) := hb2; clear hb2; clear chk)
                | (go_at_call 5; go_must (refine (k1 _).mono ?_); rintro e w1 ⟨rfl, hb1⟩; have HB1 : Hid (Below _ _ _) := hb1; clear hb1)
                | (go_at_call 4; go_must (refine (kis _).mono ?_); rintro e wx ⟨rfl, hwx⟩; rw [hwx]; clear hwx wx)
                | (go_at_call_of 9 a; go_must (refine (fa _).mono ?_); rintro e w7 ⟨rfl, hb7⟩; have HB7 : Hid (Below _ _ _) := hb7; clear hb7)
                | (go_at_call_of 9 b; go_must (refine (fb _).mono ?_); rintro e w8 ⟨rfl, hb8⟩; have HB8 : Hid (Below _ _ _) := hb8; clear hb8)
                | (go_at_call_of 9 c; go_must (refine (fc _).mono ?_); rintro e w9 ⟨rfl, hb9⟩; have HB9 : Hid (Below _ _ _) := hb9; clear hb9)
                | (go_at_call_of 9 d; go_must (refine (fd _).mono ?_); rintro e w10 ⟨rfl, hb10⟩; have HB10 : Hid (Below _ _ _) := hb10; clear hb10))
              all_goals exact hQ.out _ _ ⟨by first | rfl | simp, cthen (cthen (cthen (cthen (cthen (cthen (cthen (cthen (cthen (cthen (cthen (cthen (cthen (cthen (cthen (Below.refl _ _) HB1.out) HB2.out) HB3.out) HB4.out) HB5.out) HB6.out) HB7.out) HB8.out) HB9.out) HB10.out) HB11.out) HB12.out) HB13.out) HB14.out) HB15.out⟩
end Go.Proofs.Ytheliihkkoohnab
