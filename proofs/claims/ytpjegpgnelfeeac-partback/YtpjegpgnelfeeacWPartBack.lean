import Derived.Test.YtpjegpgnelfeeacJoin2
import Derived.Lib.IfaceNeq
namespace Go.Proofs.Ytpjegpgnelfeeac
open Go.ChangeShapes Go.WideShapes Go.ChangeAt Go.RowKit
set_option linter.unusedVariables false

set_option maxHeartbeats 4000000 in
set_option maxRecDepth 100000 in
theorem partBack_walk (p1 p2 p3 : Int) (wp1 : (Lit.int .u64 p1).wf = true) (wp2 : (Lit.int .u64 p2).wf = true) (wp3 : (Lit.int .u64 p3).wf = true) (w : World) :
    Calls Try.prog 3 #[.agg #[.int .u64 p1, .int .u64 p2], .int .u64 p3] w fun e w' => e = .returned (.bool true) ∧ Below w.heap.size w w' := by
  refine cps fun Q hQ => ?_
  obtain ⟨p1, rfl, bp1⟩ := nat_of_u64 wp1
  obtain ⟨p2, rfl, bp2⟩ := nat_of_u64 wp2
  obtain ⟨a, ea⟩ : ∃ n, n = p1 * 18446744073709551616 + p2 := ⟨_, rfl⟩
  have ta : Tw a p1 p2 := ⟨ea, by omega, by omega⟩
  obtain ⟨d, rfl, bd⟩ := nat_of_u64 wp3
  have he := fun w a b => Lib.run_eql_iface_int (P := Try.prog) w (t := 27) (tx := 34) (k := .i64) a b Try.underlying27 (by kernel_rfl) Try.underlying34
  have hn := fun w a b => Lib.run_neq_iface_int (P := Try.prog) w (t := 27) (tx := 34) (k := .i64) a b Try.underlying27 (by kernel_rfl) Try.underlying34
  by_cases h0 : d = 0
  · subst h0
    have k2 := fun w => plong_zero p1 p2 w
    have k3 := fun w => pdiv_zero p1 p2 w
    have k4 := fun w => pwide_zero p1 p2 w
    clear ta ea hn
    go_enter Try.func3, Try.ntmps3
    go_wp2_with (first
      | (have chk := hb3; clear chk; go_at_call 8; refine (k4 _).mono ?_; rintro e w4 ⟨rfl, hb4⟩; have b0_4 := bthen b0_3 hb4; obtain ⟨hc0_4, hf0_4⟩ := bcell b0_4; have z0_0_4 : w.heap.size < w4.heap.size := (by have := b0_4.size; simp at this; omega); clear hc0_3 hf0_3; have b2_4 := bthen b2_3 hb4; obtain ⟨hc2_4, hf2_4⟩ := bcell b2_4; have z2_0_4 : w2.heap.size < w4.heap.size := (by have := b2_4.size; simp at this; omega); clear hc2_3 hf2_3)
      | (have chk := hb2; clear chk; go_at_call 7; refine (k3 _).mono ?_; rintro e w3 ⟨rfl, hb3⟩; have b0_3 := bthen (bmore b0_2 _) hb3; obtain ⟨hc0_3, hf0_3⟩ := bcell b0_3; have z0_0_3 : w.heap.size < w3.heap.size := (by have := b0_3.size; simp at this; omega); clear hc0_2 hf0_2; have b2_3 := hb3; obtain ⟨hc2_3, hf2_3⟩ := bcell b2_3; have z2_0_3 : w2.heap.size < w3.heap.size := (by have := b2_3.size; simp at this; omega))
      | (have chk := hb1; clear chk; go_at_call 6; refine (k2 _).mono ?_; rintro e w2 ⟨rfl, hb2⟩; have b0_2 := bthen b0_1 hb2; obtain ⟨hc0_2, hf0_2⟩ := bcell b0_2; have z0_0_2 : w.heap.size < w2.heap.size := (by have := b0_2.size; simp at this; omega); clear hc0_1 hf0_1)
      | (go_at_call 5; refine (hup3_any _).mono ?_; rintro e w1 ⟨rfl, hb1⟩; have b0_1 := hb1; obtain ⟨hc0_1, hf0_1⟩ := bcell b0_1; have z0_0_1 : w.heap.size < w1.heap.size := (by have := b0_1.size; simp at this; omega)))
    refine hQ.out _ _ ⟨by simp, ?_⟩
    exact bmore (bmore (bthen (bmore (Below.refl _ _) _) b0_4) _) _
  · have hd : 0 < d := by omega
    obtain ⟨h3, l3, t3⟩ := tw_some (n := a / d) (Nat.lt_of_le_of_lt (Nat.div_le_self _ _) ta.lt)
    obtain ⟨r, hr⟩ : ∃ r, r = a % d := ⟨_, rfl⟩
    have hrd : r < d := by rw [hr]; exact Nat.mod_lt _ hd
    have k2 := fun w => plong_any ta (by omega) hd t3 hr w
    have k4 := fun w => pwide_low ta (by omega) hd t3 hr w
    have hsum : a / d * d + r = a := by rw [hr]; exact Nat.div_add_mod' a d
    have la := ta.lt
    rw [t3.eq, Nat.add_mul, Nat.mul_right_comm] at hsum
    obtain ⟨X, hX⟩ : ∃ X, X = h3 * d := ⟨_, rfl⟩
    obtain ⟨Y, hY⟩ : ∃ Y, Y = l3 * d := ⟨_, rfl⟩
    rw [← hX, ← hY] at hsum
    obtain ⟨h4, l4, t4⟩ := tw_some (n := X) (by omega)
    obtain ⟨h5, l5, t5⟩ := tw_some (n := Y) (by omega)
    obtain ⟨h6, l6, t6⟩ := tw_some (n := X * 2 ^ 64) (by omega)
    obtain ⟨h7, l7, t7⟩ := tw_some (n := X * 2 ^ 64 + Y) (by omega)
    have k5 := fun w => tmul_any t3.hi (show d ≤ 18446744073709551615 by omega) (hX ▸ t4) w
    have k6 := fun w => tmul_any t3.lo (show d ≤ 18446744073709551615 by omega) (hY ▸ t5) w
    have k7 := fun w => tshl_any (c := false) 64 (by decide) t4 (h := h6) (l := l6) (by rw [Nat.mod_eq_of_lt (by omega)]; exact t6) (decide_eq_false (by omega)).symm w
    have k8 := fun w => tadd_any (c := false) t6 t5 (h := h7) (l := l7) (by rw [Nat.mod_eq_of_lt (by omega)]; exact t7) (decide_eq_false (by omega)).symm w
    have k9 := fun w => tadd_any (c := false) t7 (b := r) (h2 := 0) (l2 := r) ⟨by omega, by decide, by omega⟩ (h := p1) (l := p2) (by rw [show X * 2 ^ 64 + Y + r = a by omega, Nat.mod_eq_of_lt la]; exact ta) (decide_eq_false (by omega)).symm w
    by_cases hb : d ≤ p1
    · have h3p : 0 < h3 := by
        have h1 : 18446744073709551616 ≤ a / d := by
          rw [Nat.le_div_iff_mul_le hd]
          have := Nat.mul_le_mul_left 18446744073709551616 hb
          omega
        have := t3.eq
        have := t3.lo
        omega
      have k3 := fun w => pdiv_big p1 p2 d hd hb w
      clear ta ea t3 t4 t5 t6 t7 hX hY hsum la hr he
      go_enter Try.func3, Try.ntmps3
      go_wp2_with (first
        | (have chk := hb8; clear chk; go_at_call 11; refine (k9 _).mono ?_; rintro e w9 ⟨rfl, hb9⟩; have b0_9 := bthen (bmore b0_8 _) hb9; obtain ⟨hc0_9, hf0_9⟩ := bcell b0_9; have z0_0_9 : w.heap.size < w9.heap.size := (by have := b0_9.size; simp at this; omega); clear hc0_8 hf0_8; have b2_9 := bthen (bmore b2_8 _) hb9; obtain ⟨hc2_9, hf2_9⟩ := bcell b2_9; have z2_0_9 : w2.heap.size < w9.heap.size := (by have := b2_9.size; simp at this; omega); clear hc2_8 hf2_8; have b4_9 := bthen (bmore b4_8 _) hb9; obtain ⟨hc4_9, hf4_9⟩ := bcell b4_9; have z4_0_9 : w4.heap.size < w9.heap.size := (by have := b4_9.size; simp at this; omega); have z4_1_9 : w4.heap.size + 1 < w9.heap.size := (by have := b4_9.size; simp at this; omega); clear hc4_8 hf4_8; have b5_9 := bthen (bmore b5_8 _) hb9; obtain ⟨hc5_9, hf5_9⟩ := bcell b5_9; have z5_0_9 : w5.heap.size < w9.heap.size := (by have := b5_9.size; simp at this; omega); clear hc5_8 hf5_8; have b6_9 := bthen (bmore b6_8 _) hb9; obtain ⟨hc6_9, hf6_9⟩ := bcell b6_9; have z6_0_9 : w6.heap.size < w9.heap.size := (by have := b6_9.size; simp at this; omega); clear hc6_8 hf6_8; have b7_9 := bthen (bmore b7_8 _) hb9; obtain ⟨hc7_9, hf7_9⟩ := bcell b7_9; have z7_0_9 : w7.heap.size < w9.heap.size := (by have := b7_9.size; simp at this; omega); clear hc7_8 hf7_8; have b8_9 := hb9; obtain ⟨hc8_9, hf8_9⟩ := bcell b8_9; have z8_0_9 : w8.heap.size < w9.heap.size := (by have := b8_9.size; simp at this; omega))
        | (have chk := hb7; clear chk; go_at_call 11; refine (k8 _).mono ?_; rintro e w8 ⟨rfl, hb8⟩; have b0_8 := bthen (bmore b0_7 _) hb8; obtain ⟨hc0_8, hf0_8⟩ := bcell b0_8; have z0_0_8 : w.heap.size < w8.heap.size := (by have := b0_8.size; simp at this; omega); clear hc0_7 hf0_7; have b2_8 := bthen (bmore b2_7 _) hb8; obtain ⟨hc2_8, hf2_8⟩ := bcell b2_8; have z2_0_8 : w2.heap.size < w8.heap.size := (by have := b2_8.size; simp at this; omega); clear hc2_7 hf2_7; have b4_8 := bthen (bmore b4_7 _) hb8; obtain ⟨hc4_8, hf4_8⟩ := bcell b4_8; have z4_0_8 : w4.heap.size < w8.heap.size := (by have := b4_8.size; simp at this; omega); have z4_1_8 : w4.heap.size + 1 < w8.heap.size := (by have := b4_8.size; simp at this; omega); clear hc4_7 hf4_7; have b5_8 := bthen (bmore b5_7 _) hb8; obtain ⟨hc5_8, hf5_8⟩ := bcell b5_8; have z5_0_8 : w5.heap.size < w8.heap.size := (by have := b5_8.size; simp at this; omega); clear hc5_7 hf5_7; have b6_8 := bthen (bmore b6_7 _) hb8; obtain ⟨hc6_8, hf6_8⟩ := bcell b6_8; have z6_0_8 : w6.heap.size < w8.heap.size := (by have := b6_8.size; simp at this; omega); clear hc6_7 hf6_7; have b7_8 := hb8; obtain ⟨hc7_8, hf7_8⟩ := bcell b7_8; have z7_0_8 : w7.heap.size < w8.heap.size := (by have := b7_8.size; simp at this; omega))
        | (have chk := hb6; clear chk; go_at_call 10; refine (k7 _).mono ?_; rintro e w7 ⟨rfl, hb7⟩; have b0_7 := bthen (bmore b0_6 _) hb7; obtain ⟨hc0_7, hf0_7⟩ := bcell b0_7; have z0_0_7 : w.heap.size < w7.heap.size := (by have := b0_7.size; simp at this; omega); clear hc0_6 hf0_6; have b2_7 := bthen (bmore b2_6 _) hb7; obtain ⟨hc2_7, hf2_7⟩ := bcell b2_7; have z2_0_7 : w2.heap.size < w7.heap.size := (by have := b2_7.size; simp at this; omega); clear hc2_6 hf2_6; have b4_7 := bthen (bmore b4_6 _) hb7; obtain ⟨hc4_7, hf4_7⟩ := bcell b4_7; have z4_0_7 : w4.heap.size < w7.heap.size := (by have := b4_7.size; simp at this; omega); have z4_1_7 : w4.heap.size + 1 < w7.heap.size := (by have := b4_7.size; simp at this; omega); clear hc4_6 hf4_6; have b5_7 := bthen (bmore b5_6 _) hb7; obtain ⟨hc5_7, hf5_7⟩ := bcell b5_7; have z5_0_7 : w5.heap.size < w7.heap.size := (by have := b5_7.size; simp at this; omega); clear hc5_6 hf5_6; have b6_7 := hb7; obtain ⟨hc6_7, hf6_7⟩ := bcell b6_7; have z6_0_7 : w6.heap.size < w7.heap.size := (by have := b6_7.size; simp at this; omega))
        | (have chk := hb5; clear chk; go_at_call 9; refine (k6 _).mono ?_; rintro e w6 ⟨rfl, hb6⟩; have b0_6 := bthen (bmore b0_5 _) hb6; obtain ⟨hc0_6, hf0_6⟩ := bcell b0_6; have z0_0_6 : w.heap.size < w6.heap.size := (by have := b0_6.size; simp at this; omega); clear hc0_5 hf0_5; have b2_6 := bthen (bmore b2_5 _) hb6; obtain ⟨hc2_6, hf2_6⟩ := bcell b2_6; have z2_0_6 : w2.heap.size < w6.heap.size := (by have := b2_6.size; simp at this; omega); clear hc2_5 hf2_5; have b4_6 := bthen (bmore b4_5 _) hb6; obtain ⟨hc4_6, hf4_6⟩ := bcell b4_6; have z4_0_6 : w4.heap.size < w6.heap.size := (by have := b4_6.size; simp at this; omega); have z4_1_6 : w4.heap.size + 1 < w6.heap.size := (by have := b4_6.size; simp at this; omega); clear hc4_5 hf4_5; have b5_6 := hb6; obtain ⟨hc5_6, hf5_6⟩ := bcell b5_6; have z5_0_6 : w5.heap.size < w6.heap.size := (by have := b5_6.size; simp at this; omega))
        | (have chk := hb4; clear chk; go_at_call 9; refine (k5 _).mono ?_; rintro e w5 ⟨rfl, hb5⟩; have b0_5 := bthen (bmore (bmore b0_4 _) _) hb5; obtain ⟨hc0_5, hf0_5⟩ := bcell b0_5; have z0_0_5 : w.heap.size < w5.heap.size := (by have := b0_5.size; simp at this; omega); clear hc0_4 hf0_4; have b2_5 := bthen (bmore (bmore b2_4 _) _) hb5; obtain ⟨hc2_5, hf2_5⟩ := bcell b2_5; have z2_0_5 : w2.heap.size < w5.heap.size := (by have := b2_5.size; simp at this; omega); clear hc2_4 hf2_4; have b4_5 := hb5; obtain ⟨hc4_5, hf4_5⟩ := bcell b4_5; have z4_0_5 : w4.heap.size < w5.heap.size := (by have := b4_5.size; simp at this; omega); have z4_1_5 : w4.heap.size + 1 < w5.heap.size := (by have := b4_5.size; simp at this; omega))
        | (have chk := hb3; clear chk; go_at_call 8; refine (k4 _).mono ?_; rintro e w4 ⟨rfl, hb4⟩; have b0_4 := bthen b0_3 hb4; obtain ⟨hc0_4, hf0_4⟩ := bcell b0_4; have z0_0_4 : w.heap.size < w4.heap.size := (by have := b0_4.size; simp at this; omega); clear hc0_3 hf0_3; have b2_4 := bthen b2_3 hb4; obtain ⟨hc2_4, hf2_4⟩ := bcell b2_4; have z2_0_4 : w2.heap.size < w4.heap.size := (by have := b2_4.size; simp at this; omega); clear hc2_3 hf2_3)
        | (have chk := hb2; clear chk; go_at_call 7; refine (k3 _).mono ?_; rintro e w3 ⟨rfl, hb3⟩; have b0_3 := bthen (bmore b0_2 _) hb3; obtain ⟨hc0_3, hf0_3⟩ := bcell b0_3; have z0_0_3 : w.heap.size < w3.heap.size := (by have := b0_3.size; simp at this; omega); clear hc0_2 hf0_2; have b2_3 := hb3; obtain ⟨hc2_3, hf2_3⟩ := bcell b2_3; have z2_0_3 : w2.heap.size < w3.heap.size := (by have := b2_3.size; simp at this; omega))
        | (have chk := hb1; clear chk; go_at_call 6; refine (k2 _).mono ?_; rintro e w2 ⟨rfl, hb2⟩; have b0_2 := bthen b0_1 hb2; obtain ⟨hc0_2, hf0_2⟩ := bcell b0_2; have z0_0_2 : w.heap.size < w2.heap.size := (by have := b0_2.size; simp at this; omega); clear hc0_1 hf0_1)
        | (go_at_call 5; refine (hup3_any _).mono ?_; rintro e w1 ⟨rfl, hb1⟩; have b0_1 := hb1; obtain ⟨hc0_1, hf0_1⟩ := bcell b0_1; have z0_0_1 : w.heap.size < w1.heap.size := (by have := b0_1.size; simp at this; omega)))
      refine hQ.out _ _ ⟨by simp, ?_⟩
      exact bmore (bthen (bmore (Below.refl _ _) _) b0_9) _
    · have h1 : a / d < 18446744073709551616 := by
        refine Nat.div_lt_of_lt_mul ?_
        have := Nat.mul_le_mul (show p1 + 1 ≤ d by omega) (Nat.le_refl 18446744073709551616)
        omega
      have h3z : h3 = 0 := by
        have := t3.eq
        omega
      subst h3z
      have k3 := fun w => pdiv_any ta (by omega) (by omega) (show l3 = a / d by have := t3.eq; omega) hr w
      clear ta ea t3 t4 t5 t6 t7 hX hY hsum la hr h1 he hn
      go_enter Try.func3, Try.ntmps3
      go_wp2_with (first
        | (have chk := hb8; clear chk; go_at_call 11; refine (k9 _).mono ?_; rintro e w9 ⟨rfl, hb9⟩; have b0_9 := bthen (bmore b0_8 _) hb9; obtain ⟨hc0_9, hf0_9⟩ := bcell b0_9; have z0_0_9 : w.heap.size < w9.heap.size := (by have := b0_9.size; simp at this; omega); clear hc0_8 hf0_8; have b2_9 := bthen (bmore b2_8 _) hb9; obtain ⟨hc2_9, hf2_9⟩ := bcell b2_9; have z2_0_9 : w2.heap.size < w9.heap.size := (by have := b2_9.size; simp at this; omega); clear hc2_8 hf2_8; have b4_9 := bthen (bmore b4_8 _) hb9; obtain ⟨hc4_9, hf4_9⟩ := bcell b4_9; have z4_0_9 : w4.heap.size < w9.heap.size := (by have := b4_9.size; simp at this; omega); have z4_1_9 : w4.heap.size + 1 < w9.heap.size := (by have := b4_9.size; simp at this; omega); clear hc4_8 hf4_8; have b5_9 := bthen (bmore b5_8 _) hb9; obtain ⟨hc5_9, hf5_9⟩ := bcell b5_9; have z5_0_9 : w5.heap.size < w9.heap.size := (by have := b5_9.size; simp at this; omega); clear hc5_8 hf5_8; have b6_9 := bthen (bmore b6_8 _) hb9; obtain ⟨hc6_9, hf6_9⟩ := bcell b6_9; have z6_0_9 : w6.heap.size < w9.heap.size := (by have := b6_9.size; simp at this; omega); clear hc6_8 hf6_8; have b7_9 := bthen (bmore b7_8 _) hb9; obtain ⟨hc7_9, hf7_9⟩ := bcell b7_9; have z7_0_9 : w7.heap.size < w9.heap.size := (by have := b7_9.size; simp at this; omega); clear hc7_8 hf7_8; have b8_9 := hb9; obtain ⟨hc8_9, hf8_9⟩ := bcell b8_9; have z8_0_9 : w8.heap.size < w9.heap.size := (by have := b8_9.size; simp at this; omega))
        | (have chk := hb7; clear chk; go_at_call 11; refine (k8 _).mono ?_; rintro e w8 ⟨rfl, hb8⟩; have b0_8 := bthen (bmore b0_7 _) hb8; obtain ⟨hc0_8, hf0_8⟩ := bcell b0_8; have z0_0_8 : w.heap.size < w8.heap.size := (by have := b0_8.size; simp at this; omega); clear hc0_7 hf0_7; have b2_8 := bthen (bmore b2_7 _) hb8; obtain ⟨hc2_8, hf2_8⟩ := bcell b2_8; have z2_0_8 : w2.heap.size < w8.heap.size := (by have := b2_8.size; simp at this; omega); clear hc2_7 hf2_7; have b4_8 := bthen (bmore b4_7 _) hb8; obtain ⟨hc4_8, hf4_8⟩ := bcell b4_8; have z4_0_8 : w4.heap.size < w8.heap.size := (by have := b4_8.size; simp at this; omega); have z4_1_8 : w4.heap.size + 1 < w8.heap.size := (by have := b4_8.size; simp at this; omega); clear hc4_7 hf4_7; have b5_8 := bthen (bmore b5_7 _) hb8; obtain ⟨hc5_8, hf5_8⟩ := bcell b5_8; have z5_0_8 : w5.heap.size < w8.heap.size := (by have := b5_8.size; simp at this; omega); clear hc5_7 hf5_7; have b6_8 := bthen (bmore b6_7 _) hb8; obtain ⟨hc6_8, hf6_8⟩ := bcell b6_8; have z6_0_8 : w6.heap.size < w8.heap.size := (by have := b6_8.size; simp at this; omega); clear hc6_7 hf6_7; have b7_8 := hb8; obtain ⟨hc7_8, hf7_8⟩ := bcell b7_8; have z7_0_8 : w7.heap.size < w8.heap.size := (by have := b7_8.size; simp at this; omega))
        | (have chk := hb6; clear chk; go_at_call 10; refine (k7 _).mono ?_; rintro e w7 ⟨rfl, hb7⟩; have b0_7 := bthen (bmore b0_6 _) hb7; obtain ⟨hc0_7, hf0_7⟩ := bcell b0_7; have z0_0_7 : w.heap.size < w7.heap.size := (by have := b0_7.size; simp at this; omega); clear hc0_6 hf0_6; have b2_7 := bthen (bmore b2_6 _) hb7; obtain ⟨hc2_7, hf2_7⟩ := bcell b2_7; have z2_0_7 : w2.heap.size < w7.heap.size := (by have := b2_7.size; simp at this; omega); clear hc2_6 hf2_6; have b4_7 := bthen (bmore b4_6 _) hb7; obtain ⟨hc4_7, hf4_7⟩ := bcell b4_7; have z4_0_7 : w4.heap.size < w7.heap.size := (by have := b4_7.size; simp at this; omega); have z4_1_7 : w4.heap.size + 1 < w7.heap.size := (by have := b4_7.size; simp at this; omega); clear hc4_6 hf4_6; have b5_7 := bthen (bmore b5_6 _) hb7; obtain ⟨hc5_7, hf5_7⟩ := bcell b5_7; have z5_0_7 : w5.heap.size < w7.heap.size := (by have := b5_7.size; simp at this; omega); clear hc5_6 hf5_6; have b6_7 := hb7; obtain ⟨hc6_7, hf6_7⟩ := bcell b6_7; have z6_0_7 : w6.heap.size < w7.heap.size := (by have := b6_7.size; simp at this; omega))
        | (have chk := hb5; clear chk; go_at_call 9; refine (k6 _).mono ?_; rintro e w6 ⟨rfl, hb6⟩; have b0_6 := bthen (bmore b0_5 _) hb6; obtain ⟨hc0_6, hf0_6⟩ := bcell b0_6; have z0_0_6 : w.heap.size < w6.heap.size := (by have := b0_6.size; simp at this; omega); clear hc0_5 hf0_5; have b2_6 := bthen (bmore b2_5 _) hb6; obtain ⟨hc2_6, hf2_6⟩ := bcell b2_6; have z2_0_6 : w2.heap.size < w6.heap.size := (by have := b2_6.size; simp at this; omega); clear hc2_5 hf2_5; have b4_6 := bthen (bmore b4_5 _) hb6; obtain ⟨hc4_6, hf4_6⟩ := bcell b4_6; have z4_0_6 : w4.heap.size < w6.heap.size := (by have := b4_6.size; simp at this; omega); have z4_1_6 : w4.heap.size + 1 < w6.heap.size := (by have := b4_6.size; simp at this; omega); clear hc4_5 hf4_5; have b5_6 := hb6; obtain ⟨hc5_6, hf5_6⟩ := bcell b5_6; have z5_0_6 : w5.heap.size < w6.heap.size := (by have := b5_6.size; simp at this; omega))
        | (have chk := hb4; clear chk; go_at_call 9; refine (k5 _).mono ?_; rintro e w5 ⟨rfl, hb5⟩; have b0_5 := bthen (bmore (bmore b0_4 _) _) hb5; obtain ⟨hc0_5, hf0_5⟩ := bcell b0_5; have z0_0_5 : w.heap.size < w5.heap.size := (by have := b0_5.size; simp at this; omega); clear hc0_4 hf0_4; have b2_5 := bthen (bmore (bmore b2_4 _) _) hb5; obtain ⟨hc2_5, hf2_5⟩ := bcell b2_5; have z2_0_5 : w2.heap.size < w5.heap.size := (by have := b2_5.size; simp at this; omega); clear hc2_4 hf2_4; have b4_5 := hb5; obtain ⟨hc4_5, hf4_5⟩ := bcell b4_5; have z4_0_5 : w4.heap.size < w5.heap.size := (by have := b4_5.size; simp at this; omega); have z4_1_5 : w4.heap.size + 1 < w5.heap.size := (by have := b4_5.size; simp at this; omega))
        | (have chk := hb3; clear chk; go_at_call 8; refine (k4 _).mono ?_; rintro e w4 ⟨rfl, hb4⟩; have b0_4 := bthen b0_3 hb4; obtain ⟨hc0_4, hf0_4⟩ := bcell b0_4; have z0_0_4 : w.heap.size < w4.heap.size := (by have := b0_4.size; simp at this; omega); clear hc0_3 hf0_3; have b2_4 := bthen b2_3 hb4; obtain ⟨hc2_4, hf2_4⟩ := bcell b2_4; have z2_0_4 : w2.heap.size < w4.heap.size := (by have := b2_4.size; simp at this; omega); clear hc2_3 hf2_3)
        | (have chk := hb2; clear chk; go_at_call 7; refine (k3 _).mono ?_; rintro e w3 ⟨rfl, hb3⟩; have b0_3 := bthen (bmore b0_2 _) hb3; obtain ⟨hc0_3, hf0_3⟩ := bcell b0_3; have z0_0_3 : w.heap.size < w3.heap.size := (by have := b0_3.size; simp at this; omega); clear hc0_2 hf0_2; have b2_3 := hb3; obtain ⟨hc2_3, hf2_3⟩ := bcell b2_3; have z2_0_3 : w2.heap.size < w3.heap.size := (by have := b2_3.size; simp at this; omega))
        | (have chk := hb1; clear chk; go_at_call 6; refine (k2 _).mono ?_; rintro e w2 ⟨rfl, hb2⟩; have b0_2 := bthen b0_1 hb2; obtain ⟨hc0_2, hf0_2⟩ := bcell b0_2; have z0_0_2 : w.heap.size < w2.heap.size := (by have := b0_2.size; simp at this; omega); clear hc0_1 hf0_1)
        | (go_at_call 5; refine (hup3_any _).mono ?_; rintro e w1 ⟨rfl, hb1⟩; have b0_1 := hb1; obtain ⟨hc0_1, hf0_1⟩ := bcell b0_1; have z0_0_1 : w.heap.size < w1.heap.size := (by have := b0_1.size; simp at this; omega)))
      refine hQ.out _ _ ⟨by simp, ?_⟩
      exact bmore (bthen (bmore (Below.refl _ _) _) b0_9) _
end Go.Proofs.Ytpjegpgnelfeeac
