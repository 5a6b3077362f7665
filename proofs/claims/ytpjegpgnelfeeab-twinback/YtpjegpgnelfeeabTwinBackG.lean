import Derived.Test.YtpjegpgnelfeeabJoin2
namespace Go.Proofs.Ytpjegpgnelfeeab
open Go.ChangeShapes Go.WideShapes Go.ChangeAt Go.RowKit
set_option linter.unusedVariables false

theorem tw_all (n : Nat) (h : n < 340282366920938463463374607431768211456) : ∃ h l, Tw n h l := ⟨n / 18446744073709551616, n % 18446744073709551616, by omega, by omega, by omega⟩
theorem down_up (a k : Nat) (ha : a < 340282366920938463463374607431768211456) : (a * 2 ^ k) % 340282366920938463463374607431768211456 % 2 ^ k = 0 := by
  have e : (340282366920938463463374607431768211456 : Nat) = 2 ^ 128 := by decide
  by_cases h : k ≤ 128
  · rw [e, Nat.mod_mod_of_dvd _ (Nat.pow_dvd_pow 2 h), Nat.mul_mod_left]
  · rw [e, show 2 ^ k = 2 ^ (k - 128) * 2 ^ 128 by rw [← Nat.pow_add]; congr 1; omega, ← Nat.mul_assoc, Nat.mul_mod_left, Nat.zero_mod]
set_option maxHeartbeats 4000000 in
theorem back_at (a h1 l1 k : Nat) (ta : Tw a h1 l1) (hk : k ≤ 9223372036854775807) (K : Int) (hK : (K = k) ∨ (K < 0 ∧ (k : Int) = -K - 1)) (hK2 : -9223372036854775808 ≤ K ∧ K ≤ 9223372036854775807) (w : World) :
    Calls Try.prog 4 #[.agg #[.int .u64 h1, .int .u64 l1], .int .i64 K] w fun e w' => e = .returned (.bool true) ∧ Below w.heap.size w w' := by
  refine cps fun Q hQ => ?_
  have la := ta.lt
  have hp : 0 < 2 ^ k := Nat.pow_pos (by decide)
  obtain ⟨hu, lu, tU⟩ := tw_all ((a * 2 ^ k) % 340282366920938463463374607431768211456) (Nat.mod_lt _ (by decide))
  obtain ⟨c, hc⟩ : ∃ c, c = decide (340282366920938463463374607431768211456 ≤ a * 2 ^ k) := ⟨_, rfl⟩
  have k2 := fun w => tshl_any k hk ta tU hc w
  obtain ⟨hv, lv, tV⟩ := tw_all ((a * 2 ^ k) % 340282366920938463463374607431768211456 / 2 ^ k) (Nat.lt_of_le_of_lt (Nat.div_le_self _ _) (Nat.mod_lt _ (by decide)))
  have k3 := fun w => tshr_any (c := false) k hk tU tV (by rw [down_up a k la]; rfl) w
  obtain ⟨hw, lw, tW⟩ := tw_all (a / 2 ^ k) (Nat.lt_of_le_of_lt (Nat.div_le_self _ _) la)
  obtain ⟨r, hr⟩ : ∃ r, r = decide (a % 2 ^ k ≠ 0) := ⟨_, rfl⟩
  have k4 := fun w => tshr_any k hk ta tW hr w
  have hxa := Nat.div_mul_le_self a (2 ^ k)
  obtain ⟨hx, lx, tX⟩ := tw_all ((a / 2 ^ k * 2 ^ k) % 340282366920938463463374607431768211456) (Nat.mod_lt _ (by decide))
  have k5 := fun w => tshl_any (c := false) k hk tW tX (decide_eq_false (by omega)).symm w
  have hxe : (a / 2 ^ k * 2 ^ k) % 340282366920938463463374607431768211456 = a / 2 ^ k * 2 ^ k := Nat.mod_eq_of_lt (by omega)
  rw [hxe] at tX
  have hdm := Nat.div_add_mod a (2 ^ k)
  rw [Nat.mul_comm] at hdm
  have hye : (a + 340282366920938463463374607431768211456 - a / 2 ^ k * 2 ^ k) % 340282366920938463463374607431768211456 = a % 2 ^ k := by omega
  obtain ⟨hy, ly, tY⟩ := tw_all (a % 2 ^ k) (by omega)
  have k6 := fun w => tsub_any (c := false) ta tX (by rw [hye]; exact tY) (decide_eq_false (by omega)).symm w
  have hze : a % 2 ^ k / 2 ^ k = 0 := Nat.div_eq_of_lt (Nat.mod_lt _ hp)
  have k7 := fun w => tshr_any (h := 0) (l := 0) (c := !(decide (a % 2 ^ k = 0))) k hk tY (by rw [hze]; exact ⟨by decide, by decide, by decide⟩) (by rw [Nat.mod_mod]; simp) w
  have hcase : (c = true ∨ (c = false ∧ hv = h1 ∧ lv = l1)) := by
    by_cases h0 : 340282366920938463463374607431768211456 ≤ a * 2 ^ k
    · exact .inl (by rw [hc]; exact decide_eq_true h0)
    · refine .inr ⟨by rw [hc]; exact decide_eq_false h0, ?_⟩
      have e : (a * 2 ^ k) % 340282366920938463463374607431768211456 / 2 ^ k = a := by rw [Nat.mod_eq_of_lt (by omega), Nat.mul_div_cancel _ hp]
      rw [e] at tV
      exact tV.one ta
  have hrc : (r = true ∧ (¬ (hy : Int) = 0 ∨ ((hy : Int) = 0 ∧ ¬ (ly : Int) = 0))) ∨ (r = false ∧ (hy : Int) = 0 ∧ (ly : Int) = 0) := by
    have := tY.eq
    by_cases h0 : a % 2 ^ k = 0
    · exact .inr ⟨by rw [hr]; simp [h0], by omega, by omega⟩
    · exact .inl ⟨by rw [hr]; simp [h0], by omega⟩
  generalize (!(decide (a % 2 ^ k = 0))) = d at *
  have HR : Hid _ := hrc
  clear hrc hr hc tU tV tW tX tY hxa hxe hdm hye hze la hp
  rcases hK with rfl | ⟨hneg, hKK⟩
  · rcases hcase with rfl | ⟨rfl, rfl, rfl⟩
    all_goals
      go_enter Try.func4, Try.ntmps4
      go_wp2_with (first
        | (have chk := hb6; clear chk; go_at_call 14; refine (k7 _).mono ?_; rintro e w7 ⟨rfl, hb7⟩; have b0_7 := bthen (bmore b0_6 _) hb7; obtain ⟨hc0_7, hf0_7⟩ := bcell b0_7; have z0_0_7 : w.heap.size < w7.heap.size := (by have := b0_7.size; simp at this; omega); clear hc0_6 hf0_6; have b2_7 := bthen (bmore b2_6 _) hb7; obtain ⟨hc2_7, hf2_7⟩ := bcell b2_7; have z2_0_7 : w2.heap.size < w7.heap.size := (by have := b2_7.size; simp at this; omega); clear hc2_6 hf2_6; have b3_7 := bthen (bmore b3_6 _) hb7; obtain ⟨hc3_7, hf3_7⟩ := bcell b3_7; have z3_0_7 : w3.heap.size < w7.heap.size := (by have := b3_7.size; simp at this; omega); clear hc3_6 hf3_6; have b4_7 := bthen (bmore b4_6 _) hb7; obtain ⟨hc4_7, hf4_7⟩ := bcell b4_7; have z4_0_7 : w4.heap.size < w7.heap.size := (by have := b4_7.size; simp at this; omega); clear hc4_6 hf4_6; have b5_7 := bthen (bmore b5_6 _) hb7; obtain ⟨hc5_7, hf5_7⟩ := bcell b5_7; have z5_0_7 : w5.heap.size < w7.heap.size := (by have := b5_7.size; simp at this; omega); clear hc5_6 hf5_6; have b6_7 := hb7; obtain ⟨hc6_7, hf6_7⟩ := bcell b6_7; have z6_0_7 : w6.heap.size < w7.heap.size := (by have := b6_7.size; simp at this; omega))
        | (have chk := hb5; clear chk; go_at_call 11; refine (k6 _).mono ?_; rintro e w6 ⟨rfl, hb6⟩; have b0_6 := bthen (bmore b0_5 _) hb6; obtain ⟨hc0_6, hf0_6⟩ := bcell b0_6; have z0_0_6 : w.heap.size < w6.heap.size := (by have := b0_6.size; simp at this; omega); clear hc0_5 hf0_5; have b2_6 := bthen (bmore b2_5 _) hb6; obtain ⟨hc2_6, hf2_6⟩ := bcell b2_6; have z2_0_6 : w2.heap.size < w6.heap.size := (by have := b2_6.size; simp at this; omega); clear hc2_5 hf2_5; have b3_6 := bthen (bmore b3_5 _) hb6; obtain ⟨hc3_6, hf3_6⟩ := bcell b3_6; have z3_0_6 : w3.heap.size < w6.heap.size := (by have := b3_6.size; simp at this; omega); clear hc3_5 hf3_5; have b4_6 := bthen (bmore b4_5 _) hb6; obtain ⟨hc4_6, hf4_6⟩ := bcell b4_6; have z4_0_6 : w4.heap.size < w6.heap.size := (by have := b4_6.size; simp at this; omega); clear hc4_5 hf4_5; have b5_6 := hb6; obtain ⟨hc5_6, hf5_6⟩ := bcell b5_6; have z5_0_6 : w5.heap.size < w6.heap.size := (by have := b5_6.size; simp at this; omega))
        | (have chk := hb4; clear chk; go_at_call 13; refine (k5 _).mono ?_; rintro e w5 ⟨rfl, hb5⟩; have b0_5 := bthen (bmore b0_4 _) hb5; obtain ⟨hc0_5, hf0_5⟩ := bcell b0_5; have z0_0_5 : w.heap.size < w5.heap.size := (by have := b0_5.size; simp at this; omega); clear hc0_4 hf0_4; have b2_5 := bthen (bmore b2_4 _) hb5; obtain ⟨hc2_5, hf2_5⟩ := bcell b2_5; have z2_0_5 : w2.heap.size < w5.heap.size := (by have := b2_5.size; simp at this; omega); clear hc2_4 hf2_4; have b3_5 := bthen (bmore b3_4 _) hb5; obtain ⟨hc3_5, hf3_5⟩ := bcell b3_5; have z3_0_5 : w3.heap.size < w5.heap.size := (by have := b3_5.size; simp at this; omega); clear hc3_4 hf3_4; have b4_5 := hb5; obtain ⟨hc4_5, hf4_5⟩ := bcell b4_5; have z4_0_5 : w4.heap.size < w5.heap.size := (by have := b4_5.size; simp at this; omega))
        | (have chk := hb3; clear chk; go_at_call 14; refine (k4 _).mono ?_; rintro e w4 ⟨rfl, hb4⟩; have b0_4 := bthen (bmore b0_3 _) hb4; obtain ⟨hc0_4, hf0_4⟩ := bcell b0_4; have z0_0_4 : w.heap.size < w4.heap.size := (by have := b0_4.size; simp at this; omega); clear hc0_3 hf0_3; have b2_4 := bthen (bmore b2_3 _) hb4; obtain ⟨hc2_4, hf2_4⟩ := bcell b2_4; have z2_0_4 : w2.heap.size < w4.heap.size := (by have := b2_4.size; simp at this; omega); clear hc2_3 hf2_3; have b3_4 := hb4; obtain ⟨hc3_4, hf3_4⟩ := bcell b3_4; have z3_0_4 : w3.heap.size < w4.heap.size := (by have := b3_4.size; simp at this; omega))
        | (have chk := hb2; clear chk; go_at_call 14; refine (k3 _).mono ?_; rintro e w3 ⟨rfl, hb3⟩; have b0_3 := bthen (bmore b0_2 _) hb3; obtain ⟨hc0_3, hf0_3⟩ := bcell b0_3; have z0_0_3 : w.heap.size < w3.heap.size := (by have := b0_3.size; simp at this; omega); clear hc0_2 hf0_2; have b2_3 := hb3; obtain ⟨hc2_3, hf2_3⟩ := bcell b2_3; have z2_0_3 : w2.heap.size < w3.heap.size := (by have := b2_3.size; simp at this; omega))
        | (have chk := hb1; clear chk; go_at_call 13; refine (k2 _).mono ?_; rintro e w2 ⟨rfl, hb2⟩; have b0_2 := bthen (b0_1) hb2; obtain ⟨hc0_2, hf0_2⟩ := bcell b0_2; have z0_0_2 : w.heap.size < w2.heap.size := (by have := b0_2.size; simp at this; omega); clear hc0_1 hf0_1)
        | (go_at_call 9; refine (hup_any _).mono ?_; rintro e w1 ⟨rfl, hb1⟩; have b0_1 := hb1; obtain ⟨hc0_1, hf0_1⟩ := bcell b0_1; have z0_0_1 : w.heap.size < w1.heap.size := (by have := b0_1.size; simp at this; omega)))
      all_goals
        rcases HR.out with ⟨rfl, h | ⟨h, h'⟩⟩ | ⟨rfl, h, h'⟩
      all_goals first
        | (exfalso; omega)
        | (refine hQ.out _ _ ⟨by simp, ?_⟩; exact bmore (bthen (bmore (Below.refl _ _) _) b0_7) _)
  · have hkk : -(K + 1) = (k : Int) := by omega
    clear hKK
    rcases hcase with rfl | ⟨rfl, rfl, rfl⟩
    all_goals
      go_enter Try.func4, Try.ntmps4
      go_wp2_with (first
        | (have chk := hb6; clear chk; go_at_call 14; refine (k7 _).mono ?_; rintro e w7 ⟨rfl, hb7⟩; have b0_7 := bthen (bmore b0_6 _) hb7; obtain ⟨hc0_7, hf0_7⟩ := bcell b0_7; have z0_0_7 : w.heap.size < w7.heap.size := (by have := b0_7.size; simp at this; omega); clear hc0_6 hf0_6; have b2_7 := bthen (bmore b2_6 _) hb7; obtain ⟨hc2_7, hf2_7⟩ := bcell b2_7; have z2_0_7 : w2.heap.size < w7.heap.size := (by have := b2_7.size; simp at this; omega); clear hc2_6 hf2_6; have b3_7 := bthen (bmore b3_6 _) hb7; obtain ⟨hc3_7, hf3_7⟩ := bcell b3_7; have z3_0_7 : w3.heap.size < w7.heap.size := (by have := b3_7.size; simp at this; omega); clear hc3_6 hf3_6; have b4_7 := bthen (bmore b4_6 _) hb7; obtain ⟨hc4_7, hf4_7⟩ := bcell b4_7; have z4_0_7 : w4.heap.size < w7.heap.size := (by have := b4_7.size; simp at this; omega); clear hc4_6 hf4_6; have b5_7 := bthen (bmore b5_6 _) hb7; obtain ⟨hc5_7, hf5_7⟩ := bcell b5_7; have z5_0_7 : w5.heap.size < w7.heap.size := (by have := b5_7.size; simp at this; omega); clear hc5_6 hf5_6; have b6_7 := hb7; obtain ⟨hc6_7, hf6_7⟩ := bcell b6_7; have z6_0_7 : w6.heap.size < w7.heap.size := (by have := b6_7.size; simp at this; omega))
        | (have chk := hb5; clear chk; go_at_call 11; refine (k6 _).mono ?_; rintro e w6 ⟨rfl, hb6⟩; have b0_6 := bthen (bmore b0_5 _) hb6; obtain ⟨hc0_6, hf0_6⟩ := bcell b0_6; have z0_0_6 : w.heap.size < w6.heap.size := (by have := b0_6.size; simp at this; omega); clear hc0_5 hf0_5; have b2_6 := bthen (bmore b2_5 _) hb6; obtain ⟨hc2_6, hf2_6⟩ := bcell b2_6; have z2_0_6 : w2.heap.size < w6.heap.size := (by have := b2_6.size; simp at this; omega); clear hc2_5 hf2_5; have b3_6 := bthen (bmore b3_5 _) hb6; obtain ⟨hc3_6, hf3_6⟩ := bcell b3_6; have z3_0_6 : w3.heap.size < w6.heap.size := (by have := b3_6.size; simp at this; omega); clear hc3_5 hf3_5; have b4_6 := bthen (bmore b4_5 _) hb6; obtain ⟨hc4_6, hf4_6⟩ := bcell b4_6; have z4_0_6 : w4.heap.size < w6.heap.size := (by have := b4_6.size; simp at this; omega); clear hc4_5 hf4_5; have b5_6 := hb6; obtain ⟨hc5_6, hf5_6⟩ := bcell b5_6; have z5_0_6 : w5.heap.size < w6.heap.size := (by have := b5_6.size; simp at this; omega))
        | (have chk := hb4; clear chk; go_at_call 13; refine (k5 _).mono ?_; rintro e w5 ⟨rfl, hb5⟩; have b0_5 := bthen (bmore b0_4 _) hb5; obtain ⟨hc0_5, hf0_5⟩ := bcell b0_5; have z0_0_5 : w.heap.size < w5.heap.size := (by have := b0_5.size; simp at this; omega); clear hc0_4 hf0_4; have b2_5 := bthen (bmore b2_4 _) hb5; obtain ⟨hc2_5, hf2_5⟩ := bcell b2_5; have z2_0_5 : w2.heap.size < w5.heap.size := (by have := b2_5.size; simp at this; omega); clear hc2_4 hf2_4; have b3_5 := bthen (bmore b3_4 _) hb5; obtain ⟨hc3_5, hf3_5⟩ := bcell b3_5; have z3_0_5 : w3.heap.size < w5.heap.size := (by have := b3_5.size; simp at this; omega); clear hc3_4 hf3_4; have b4_5 := hb5; obtain ⟨hc4_5, hf4_5⟩ := bcell b4_5; have z4_0_5 : w4.heap.size < w5.heap.size := (by have := b4_5.size; simp at this; omega))
        | (have chk := hb3; clear chk; go_at_call 14; refine (k4 _).mono ?_; rintro e w4 ⟨rfl, hb4⟩; have b0_4 := bthen (bmore b0_3 _) hb4; obtain ⟨hc0_4, hf0_4⟩ := bcell b0_4; have z0_0_4 : w.heap.size < w4.heap.size := (by have := b0_4.size; simp at this; omega); clear hc0_3 hf0_3; have b2_4 := bthen (bmore b2_3 _) hb4; obtain ⟨hc2_4, hf2_4⟩ := bcell b2_4; have z2_0_4 : w2.heap.size < w4.heap.size := (by have := b2_4.size; simp at this; omega); clear hc2_3 hf2_3; have b3_4 := hb4; obtain ⟨hc3_4, hf3_4⟩ := bcell b3_4; have z3_0_4 : w3.heap.size < w4.heap.size := (by have := b3_4.size; simp at this; omega))
        | (have chk := hb2; clear chk; go_at_call 14; refine (k3 _).mono ?_; rintro e w3 ⟨rfl, hb3⟩; have b0_3 := bthen (bmore b0_2 _) hb3; obtain ⟨hc0_3, hf0_3⟩ := bcell b0_3; have z0_0_3 : w.heap.size < w3.heap.size := (by have := b0_3.size; simp at this; omega); clear hc0_2 hf0_2; have b2_3 := hb3; obtain ⟨hc2_3, hf2_3⟩ := bcell b2_3; have z2_0_3 : w2.heap.size < w3.heap.size := (by have := b2_3.size; simp at this; omega))
        | (have chk := hb1; clear chk; go_at_call 13; refine (k2 _).mono ?_; rintro e w2 ⟨rfl, hb2⟩; have b0_2 := bthen (b0_1) hb2; obtain ⟨hc0_2, hf0_2⟩ := bcell b0_2; have z0_0_2 : w.heap.size < w2.heap.size := (by have := b0_2.size; simp at this; omega); clear hc0_1 hf0_1)
        | (go_at_call 9; refine (hup_any _).mono ?_; rintro e w1 ⟨rfl, hb1⟩; have b0_1 := hb1; obtain ⟨hc0_1, hf0_1⟩ := bcell b0_1; have z0_0_1 : w.heap.size < w1.heap.size := (by have := b0_1.size; simp at this; omega)))
      all_goals
        rcases HR.out with ⟨rfl, h | ⟨h, h'⟩⟩ | ⟨rfl, h, h'⟩
      all_goals first
        | (exfalso; omega)
        | (refine hQ.out _ _ ⟨by simp, ?_⟩; exact bmore (bthen (bmore (Below.refl _ _) _) b0_7) _)
theorem twinBack_walk (p1 p2 p3 : Int) (wp1 : (Lit.int .u64 p1).wf = true) (wp2 : (Lit.int .u64 p2).wf = true) (wp3 : (Lit.int .i64 p3).wf = true) (w : World) :
    Calls Try.prog 4 #[.agg #[.int .u64 p1, .int .u64 p2], .int .i64 p3] w fun e w' => e = .returned (.bool true) ∧ Below w.heap.size w w' := by
  obtain ⟨h, rfl, g1⟩ := nat_of_u64 wp1
  obtain ⟨l, rfl, g2⟩ := nat_of_u64 wp2
  have b3 := bounds_i64 wp3
  have t : Tw (h * 18446744073709551616 + l) h l := ⟨rfl, by omega, by omega⟩
  by_cases hk : p3 < 0
  · exact back_at _ h l (-p3 - 1).toNat t (by omega) p3 (.inr ⟨hk, by omega⟩) (by omega) w
  · exact back_at _ h l p3.toNat t (by omega) p3 (.inl (by omega)) (by omega) w
end Go.Proofs.Ytpjegpgnelfeeab
