import Derived.Test.YtfmhhcmjcmechabJoin2
namespace Go.Proofs.Ytfmhhcmjcmechab
open Go.ChangeShapes Go.WideShapes Go.ChangeAt Go.RowKit
set_option linter.unusedVariables false
set_option linter.unusedSimpArgs false
set_option maxRecDepth 100000

theorem mod_lt64 (n x : Nat) (hn : Wd n) : x % 2 ^ n < 2 ^ 64 := by
  have hw := wd_le hn
  exact Nat.lt_of_lt_of_le (Nat.mod_lt _ (Nat.pow_pos (by decide))) (Nat.pow_le_pow_right (by decide) hw.2)
theorem stepO_lt (n p b l : Nat) (hn : Wd n) : stepO n p b l < 2 ^ 64 := by unfold stepO; split <;> exact mod_lt64 n _ hn
theorem minO_lt (n a b : Nat) (hn : Wd n) : minO n a b < 2 ^ 64 := by unfold minO; split <;> exact mod_lt64 n _ hn
theorem maxO_lt (n a b : Nat) (hn : Wd n) : maxO n a b < 2 ^ 64 := by unfold maxO; split <;> exact mod_lt64 n _ hn
theorem clampV_lt (n p a b : Nat) (hn : Wd n) : (clampV n p a b).2 < 2 ^ 64 := by
  unfold clampV
  split
  · show (0 : Nat) < _; decide
  · split
    · show (0 : Nat) < _; decide
    · exact minO_lt n _ _ hn
theorem nil_is_no (w : World) (c : Int) : (binOp BinOp.eql 25 .nilIface (.iface 29 (.int .i64 c))).run Try.prog w = .ok (.bool false) w := by kernel_rfl
set_option maxHeartbeats 1000000 in
theorem orderChain_walk (n ip iq : Int) (wn : (Lit.int .i64 n).wf = true) (wp : (Lit.int .u64 ip).wf = true) (wq : (Lit.int .u64 iq).wf = true) (w : World) :
    Calls Try.prog 4 #[.int .i64 n, .int .u64 ip, .int .u64 iq] w fun e w' => e = .returned (.bool true) ∧ Below w.heap.size w w' := by
  have he := fun w a b => Lib.run_eql_iface_int (P := Try.prog) w (t := 25) (tx := 29) (k := .i64) a b Try.underlying25 (by kernel_rfl) Try.underlying29
  have hnl := nil_is_no
  obtain ⟨p, rfl, hp⟩ := nat_of_u64 wp
  obtain ⟨q, rfl, hq⟩ := nat_of_u64 wq
  clear wn wp wq
  refine cps fun Q hQ => ?_
  cases hisw : isW n
  · have k1 := onext_no n p hisw
    have k2 := oprev_no n 0 hisw
    have k3 := osteps_no n p 0 hisw
    rw [show ((0 : Nat) : Int) = 0 from rfl] at *
    unfold codeO at *
    clear hisw hp hq
    go_enter Try.func4, Try.ntmps4
    go_wp2_with (first
      | (go_at_call 5; go_must (refine (oup_any _).mono ?_); rintro e w1 ⟨rfl, hb1⟩; have HB1 : Hid (Below _ _ _) := hb1; clear hb1)
      | (go_at_call 12; go_must (refine (k1 _).mono ?_); rintro e w2 ⟨rfl, hb2⟩; have HB2 : Hid (Below _ _ _) := hb2; clear hb2)
      | (go_at_call 13; go_must (refine (k2 _).mono ?_); rintro e w3 ⟨rfl, hb3⟩; have HB3 : Hid (Below _ _ _) := hb3; clear hb3)
      | (go_at_call 14; go_must (refine (k3 _).mono ?_); rintro e w4 ⟨rfl, hb4⟩; have HB4 : Hid (Below _ _ _) := hb4; clear hb4))
    all_goals exact hQ.out _ _ ⟨by first | rfl | simp, cthen (cthen (cthen (cthen (Below.refl _ _) HB1.out) HB2.out) HB3.out) HB4.out⟩
  · obtain ⟨m, rfl, hm⟩ := isW_yes hisw
    obtain ⟨⟨f1, f2, f3⟩, f4, f5, f6⟩ := chain_facts m p q hm
    replace f6 := f6 (nextO m p)
    have hA : nextO m p < 2 ^ 64 := stepO_lt m _ _ _ hm
    have hB : prevO m (nextO m p) < 2 ^ 64 := stepO_lt m _ _ _ hm
    have hL := minO_lt m p q hm
    have hG := maxO_lt m p q hm
    have hD := clampV_lt m (nextO m p) (minO m p q) (maxO m p q) hm
    have k1 := onext_ok m p hm hp
    have k2 := oprev_ok m (nextO m p) hm hA
    have k3 := osteps_ok m p (nextO m p) hm hp hA
    have k4 := ocmp_ok m p (nextO m p) hm hp hA
    have k5 := ocmp_ok m p (prevO m (nextO m p)) hm hp hB
    have k6 := omin_ok m p q hm hp hq
    have k7 := omax_ok m p q hm hp hq
    have k8 := osteps_ok m (minO m p q) (maxO m p q) hm hL hG
    have k9 := osteps_ok m q p hm hq hp
    rw [f5] at k8
    have ka := oclamp_ok m (nextO m p) (minO m p q) (maxO m p q) hm hA hL hG
    have kb := ocmp_ok m (clampV m (nextO m p) (minO m p q) (maxO m p q)).2 (minO m p q) hm hD hL
    have kd := ocmp_ok m (maxO m p q) (clampV m (nextO m p) (minO m p q) (maxO m p q)).2 hm hG hD
    clear hisw hp hq hm hA hB hL hG hD f5
    generalize cmpR m p (nextO m p) = c at *
    generalize cmpR m p (prevO m (nextO m p)) = bk at *
    generalize stepsO m p (nextO m p) = s at *
    generalize stepsO m q p = tw at *
    generalize cmpR m (clampV m (nextO m p) (minO m p q) (maxO m p q)).2 (minO m p q) = ci at *
    generalize cmpR m (maxO m p q) (clampV m (nextO m p) (minO m p q) (maxO m p q)).2 = co at *
    generalize clampV m (nextO m p) (minO m p q) (maxO m p q) = v at *
    obtain ⟨v1, Hd⟩ := v
    simp only at f6 ka kb kd
    generalize prevO m (nextO m p) = B at *
    generalize nextO m p = A at *
    generalize minO m p q = Lw at *
    generalize maxO m p q = Hg at *
    have hs : (s = 0 ∧ c = 0) ∨ (s = 1 ∧ decide (0 < c) = false ∧ (c == 0) = false ∧ bk = 0) := by
      rcases Nat.lt_or_ge s 1 with h | h
      · exact .inl ⟨by omega, f3.2 (by omega)⟩
      · have h1 : s = 1 := by omega
        refine .inr ⟨h1, decide_eq_false (by omega), beq_eq_false_iff_ne.2 (fun e => by have := f3.1 e; omega), f4 h1⟩
    have hv : (v1 = 9 ∧ Hd = 0) ∨ (v1 = 0 ∧ decide (0 ≤ ci) = true ∧ decide (0 ≤ co) = true) := by
      rcases f6 with ⟨a, b⟩ | ⟨a, b, c⟩
      · exact .inl ⟨a, b⟩
      · exact .inr ⟨a, decide_eq_true b, decide_eq_true c⟩
    clear f1 f2 f3 f4 f6
    rcases hs with ⟨rfl, rfl⟩ | ⟨rfl, d1, d2, rfl⟩
    · rw [show ((0 : Nat) : Int) = 0 from rfl] at k3
      rcases hv with ⟨rfl, rfl⟩ | ⟨rfl, d3, d4⟩
      · rw [if_neg (by decide), show ((0 : Nat) : Int) = 0 from rfl] at ka
        rw [show ((0 : Nat) : Int) = 0 from rfl] at kb kd
        unfold codeO at *
        go_enter Try.func4, Try.ntmps4
        go_wp2_with (first
          | (go_at_call 5; go_must (refine (oup_any _).mono ?_); rintro e w1 ⟨rfl, hb1⟩; have HB1 : Hid (Below _ _ _) := hb1; clear hb1)
          | (go_at_call 12; go_must (refine (k1 _).mono ?_); rintro e w2 ⟨rfl, hb2⟩; have HB2 : Hid (Below _ _ _) := hb2; clear hb2)
          | (go_at_call 13; go_must (refine (k2 _).mono ?_); rintro e w3 ⟨rfl, hb3⟩; have HB3 : Hid (Below _ _ _) := hb3; clear hb3)
          | (go_at_call_of 14 A; go_must (refine (k3 _).mono ?_); rintro e w4 ⟨rfl, hb4⟩; have HB4 : Hid (Below _ _ _) := hb4; clear hb4)
          | (go_at_call_of 6 A; go_must (refine (k4 _).mono ?_); rintro e w5 ⟨rfl, hb5⟩; have HB5 : Hid (Below _ _ _) := hb5; clear hb5)
          | (go_at_call_of 6 B; go_must (refine (k5 _).mono ?_); rintro e w6 ⟨rfl, hb6⟩; have HB6 : Hid (Below _ _ _) := hb6; clear hb6)
          | (go_at_call 15; go_must (refine (k6 _).mono ?_); rintro e w7 ⟨rfl, hb7⟩; have HB7 : Hid (Below _ _ _) := hb7; clear hb7)
          | (go_at_call 16; go_must (refine (k7 _).mono ?_); rintro e w8 ⟨rfl, hb8⟩; have HB8 : Hid (Below _ _ _) := hb8; clear hb8)
          | (go_at_call_of 14 Lw; go_must (refine (k8 _).mono ?_); rintro e w9 ⟨rfl, hb9⟩; have HB9 : Hid (Below _ _ _) := hb9; clear hb9)
          | (go_at_call_of 14 q; go_must (refine (k9 _).mono ?_); rintro e w10 ⟨rfl, hb10⟩; have HB10 : Hid (Below _ _ _) := hb10; clear hb10)
          | (go_at_call 17; go_must (refine (ka _).mono ?_); rintro e w11 ⟨rfl, hb11⟩; have HB11 : Hid (Below _ _ _) := hb11; clear hb11)
          | (go_at_call_of 6 Lw; go_must (refine (kb _).mono ?_); rintro e w12 ⟨rfl, hb12⟩; have HB12 : Hid (Below _ _ _) := hb12; clear hb12)
          | (go_at_call_of 6 Hg; go_must (refine (kd _).mono ?_); rintro e w13 ⟨rfl, hb13⟩; have HB13 : Hid (Below _ _ _) := hb13; clear hb13))
        all_goals exact hQ.out _ _ ⟨by first | rfl | simp, cthen (cthen (cthen (cthen (cthen (cthen (cthen (cthen (cthen (cthen (cthen (cthen (cthen (Below.refl _ _) HB1.out) HB2.out) HB3.out) HB4.out) HB5.out) HB6.out) HB7.out) HB8.out) HB9.out) HB10.out) HB11.out) HB12.out) HB13.out⟩
      · rw [if_pos rfl] at ka
        go_enter Try.func4, Try.ntmps4
        go_wp2_with (first
          | (go_at_call 5; go_must (refine (oup_any _).mono ?_); rintro e w1 ⟨rfl, hb1⟩; have HB1 : Hid (Below _ _ _) := hb1; clear hb1)
          | (go_at_call 12; go_must (refine (k1 _).mono ?_); rintro e w2 ⟨rfl, hb2⟩; have HB2 : Hid (Below _ _ _) := hb2; clear hb2)
          | (go_at_call 13; go_must (refine (k2 _).mono ?_); rintro e w3 ⟨rfl, hb3⟩; have HB3 : Hid (Below _ _ _) := hb3; clear hb3)
          | (go_at_call_of 14 A; go_must (refine (k3 _).mono ?_); rintro e w4 ⟨rfl, hb4⟩; have HB4 : Hid (Below _ _ _) := hb4; clear hb4)
          | (go_at_call_of 6 A; go_must (refine (k4 _).mono ?_); rintro e w5 ⟨rfl, hb5⟩; have HB5 : Hid (Below _ _ _) := hb5; clear hb5)
          | (go_at_call_of 6 B; go_must (refine (k5 _).mono ?_); rintro e w6 ⟨rfl, hb6⟩; have HB6 : Hid (Below _ _ _) := hb6; clear hb6)
          | (go_at_call 15; go_must (refine (k6 _).mono ?_); rintro e w7 ⟨rfl, hb7⟩; have HB7 : Hid (Below _ _ _) := hb7; clear hb7)
          | (go_at_call 16; go_must (refine (k7 _).mono ?_); rintro e w8 ⟨rfl, hb8⟩; have HB8 : Hid (Below _ _ _) := hb8; clear hb8)
          | (go_at_call_of 14 Lw; go_must (refine (k8 _).mono ?_); rintro e w9 ⟨rfl, hb9⟩; have HB9 : Hid (Below _ _ _) := hb9; clear hb9)
          | (go_at_call_of 14 q; go_must (refine (k9 _).mono ?_); rintro e w10 ⟨rfl, hb10⟩; have HB10 : Hid (Below _ _ _) := hb10; clear hb10)
          | (go_at_call 17; go_must (refine (ka _).mono ?_); rintro e w11 ⟨rfl, hb11⟩; have HB11 : Hid (Below _ _ _) := hb11; clear hb11)
          | (go_at_call_of 6 Lw; go_must (refine (kb _).mono ?_); rintro e w12 ⟨rfl, hb12⟩; have HB12 : Hid (Below _ _ _) := hb12; clear hb12)
          | (go_at_call_of 6 Hg; go_must (refine (kd _).mono ?_); rintro e w13 ⟨rfl, hb13⟩; have HB13 : Hid (Below _ _ _) := hb13; clear hb13))
        all_goals exact hQ.out _ _ ⟨by first | rfl | simp, cthen (cthen (cthen (cthen (cthen (cthen (cthen (cthen (cthen (cthen (cthen (cthen (cthen (Below.refl _ _) HB1.out) HB2.out) HB3.out) HB4.out) HB5.out) HB6.out) HB7.out) HB8.out) HB9.out) HB10.out) HB11.out) HB12.out) HB13.out⟩
    · rw [show ((1 : Nat) : Int) = 1 from rfl] at k3
      rcases hv with ⟨rfl, rfl⟩ | ⟨rfl, d3, d4⟩
      · rw [if_neg (by decide), show ((0 : Nat) : Int) = 0 from rfl] at ka
        rw [show ((0 : Nat) : Int) = 0 from rfl] at kb kd
        unfold codeO at *
        go_enter Try.func4, Try.ntmps4
        go_wp2_with (first
          | (go_at_call 5; go_must (refine (oup_any _).mono ?_); rintro e w1 ⟨rfl, hb1⟩; have HB1 : Hid (Below _ _ _) := hb1; clear hb1)
          | (go_at_call 12; go_must (refine (k1 _).mono ?_); rintro e w2 ⟨rfl, hb2⟩; have HB2 : Hid (Below _ _ _) := hb2; clear hb2)
          | (go_at_call 13; go_must (refine (k2 _).mono ?_); rintro e w3 ⟨rfl, hb3⟩; have HB3 : Hid (Below _ _ _) := hb3; clear hb3)
          | (go_at_call_of 14 A; go_must (refine (k3 _).mono ?_); rintro e w4 ⟨rfl, hb4⟩; have HB4 : Hid (Below _ _ _) := hb4; clear hb4)
          | (go_at_call_of 6 A; go_must (refine (k4 _).mono ?_); rintro e w5 ⟨rfl, hb5⟩; have HB5 : Hid (Below _ _ _) := hb5; clear hb5)
          | (go_at_call_of 6 B; go_must (refine (k5 _).mono ?_); rintro e w6 ⟨rfl, hb6⟩; have HB6 : Hid (Below _ _ _) := hb6; clear hb6)
          | (go_at_call 15; go_must (refine (k6 _).mono ?_); rintro e w7 ⟨rfl, hb7⟩; have HB7 : Hid (Below _ _ _) := hb7; clear hb7)
          | (go_at_call 16; go_must (refine (k7 _).mono ?_); rintro e w8 ⟨rfl, hb8⟩; have HB8 : Hid (Below _ _ _) := hb8; clear hb8)
          | (go_at_call_of 14 Lw; go_must (refine (k8 _).mono ?_); rintro e w9 ⟨rfl, hb9⟩; have HB9 : Hid (Below _ _ _) := hb9; clear hb9)
          | (go_at_call_of 14 q; go_must (refine (k9 _).mono ?_); rintro e w10 ⟨rfl, hb10⟩; have HB10 : Hid (Below _ _ _) := hb10; clear hb10)
          | (go_at_call 17; go_must (refine (ka _).mono ?_); rintro e w11 ⟨rfl, hb11⟩; have HB11 : Hid (Below _ _ _) := hb11; clear hb11)
          | (go_at_call_of 6 Lw; go_must (refine (kb _).mono ?_); rintro e w12 ⟨rfl, hb12⟩; have HB12 : Hid (Below _ _ _) := hb12; clear hb12)
          | (go_at_call_of 6 Hg; go_must (refine (kd _).mono ?_); rintro e w13 ⟨rfl, hb13⟩; have HB13 : Hid (Below _ _ _) := hb13; clear hb13))
        all_goals exact hQ.out _ _ ⟨by first | rfl | simp, cthen (cthen (cthen (cthen (cthen (cthen (cthen (cthen (cthen (cthen (cthen (cthen (cthen (Below.refl _ _) HB1.out) HB2.out) HB3.out) HB4.out) HB5.out) HB6.out) HB7.out) HB8.out) HB9.out) HB10.out) HB11.out) HB12.out) HB13.out⟩
      · rw [if_pos rfl] at ka
        go_enter Try.func4, Try.ntmps4
        go_wp2_with (first
          | (go_at_call 5; go_must (refine (oup_any _).mono ?_); rintro e w1 ⟨rfl, hb1⟩; have HB1 : Hid (Below _ _ _) := hb1; clear hb1)
          | (go_at_call 12; go_must (refine (k1 _).mono ?_); rintro e w2 ⟨rfl, hb2⟩; have HB2 : Hid (Below _ _ _) := hb2; clear hb2)
          | (go_at_call 13; go_must (refine (k2 _).mono ?_); rintro e w3 ⟨rfl, hb3⟩; have HB3 : Hid (Below _ _ _) := hb3; clear hb3)
          | (go_at_call_of 14 A; go_must (refine (k3 _).mono ?_); rintro e w4 ⟨rfl, hb4⟩; have HB4 : Hid (Below _ _ _) := hb4; clear hb4)
          | (go_at_call_of 6 A; go_must (refine (k4 _).mono ?_); rintro e w5 ⟨rfl, hb5⟩; have HB5 : Hid (Below _ _ _) := hb5; clear hb5)
          | (go_at_call_of 6 B; go_must (refine (k5 _).mono ?_); rintro e w6 ⟨rfl, hb6⟩; have HB6 : Hid (Below _ _ _) := hb6; clear hb6)
          | (go_at_call 15; go_must (refine (k6 _).mono ?_); rintro e w7 ⟨rfl, hb7⟩; have HB7 : Hid (Below _ _ _) := hb7; clear hb7)
          | (go_at_call 16; go_must (refine (k7 _).mono ?_); rintro e w8 ⟨rfl, hb8⟩; have HB8 : Hid (Below _ _ _) := hb8; clear hb8)
          | (go_at_call_of 14 Lw; go_must (refine (k8 _).mono ?_); rintro e w9 ⟨rfl, hb9⟩; have HB9 : Hid (Below _ _ _) := hb9; clear hb9)
          | (go_at_call_of 14 q; go_must (refine (k9 _).mono ?_); rintro e w10 ⟨rfl, hb10⟩; have HB10 : Hid (Below _ _ _) := hb10; clear hb10)
          | (go_at_call 17; go_must (refine (ka _).mono ?_); rintro e w11 ⟨rfl, hb11⟩; have HB11 : Hid (Below _ _ _) := hb11; clear hb11)
          | (go_at_call_of 6 Lw; go_must (refine (kb _).mono ?_); rintro e w12 ⟨rfl, hb12⟩; have HB12 : Hid (Below _ _ _) := hb12; clear hb12)
          | (go_at_call_of 6 Hg; go_must (refine (kd _).mono ?_); rintro e w13 ⟨rfl, hb13⟩; have HB13 : Hid (Below _ _ _) := hb13; clear hb13))
        all_goals exact hQ.out _ _ ⟨by first | rfl | simp, cthen (cthen (cthen (cthen (cthen (cthen (cthen (cthen (cthen (cthen (cthen (cthen (cthen (Below.refl _ _) HB1.out) HB2.out) HB3.out) HB4.out) HB5.out) HB6.out) HB7.out) HB8.out) HB9.out) HB10.out) HB11.out) HB12.out) HB13.out⟩
end Go.Proofs.Ytfmhhcmjcmechab
