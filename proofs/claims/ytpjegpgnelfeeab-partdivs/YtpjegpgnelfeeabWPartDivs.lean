import Derived.Test.YtpjegpgnelfeeabJoin2
namespace Go.Proofs.Ytpjegpgnelfeeab
open Go.ChangeShapes Go.WideShapes Go.ChangeAt Go.RowKit
set_option linter.unusedVariables false

set_option maxHeartbeats 4000000 in
theorem partDivs_walk (p1 p2 p3 : Int) (wp1 : (Lit.int .u64 p1).wf = true) (wp2 : (Lit.int .u64 p2).wf = true) (wp3 : (Lit.int .u64 p3).wf = true) (w : World) :
    Calls Try.prog 5 #[.agg #[.int .u64 p1, .int .u64 p2], .int .u64 p3] w fun e w' => e = .returned (.bool true) ∧ Below w.heap.size w w' := by
  refine cps fun Q hQ => ?_
  obtain ⟨p1, rfl, bp1⟩ := nat_of_u64 wp1
  obtain ⟨p2, rfl, bp2⟩ := nat_of_u64 wp2
  obtain ⟨a, ea⟩ : ∃ n, n = p1 * 18446744073709551616 + p2 := ⟨_, rfl⟩
  have ta : Tw a p1 p2 := ⟨ea, by omega, by omega⟩
  obtain ⟨d, rfl, bd⟩ := nat_of_u64 wp3
  by_cases h0 : d = 0
  · subst h0
    have k2 := fun w => pdiv_zero p1 p2 w
    have k3 := fun w => rdiv_zero p1 p2 (by omega) (by omega) w
    have k4 := fun w => code_any 4 w
    rw [show codeOf 4 = 4 from rfl] at k4
    clear ta ea
    go_enter Try.func5, Try.ntmps5
    go_wp2_with (first
      | (go_at_call 15; refine (hup3_any _).mono ?_; rintro e w1 ⟨rfl, hb1⟩; have b0_1 := hb1; obtain ⟨hc0_1, hf0_1⟩ := bcell b0_1; have z0_0_1 : w.heap.size < w1.heap.size := (by have := b0_1.size; simp at this; omega))
      | (go_at_call 16; refine (k2 _).mono ?_; rintro e w2 ⟨rfl, hb2⟩; have b0_2 := bthen b0_1 hb2; obtain ⟨hc0_2, hf0_2⟩ := bcell b0_2; have z0_0_2 : w.heap.size < w2.heap.size := (by have := b0_2.size; simp at this; omega); clear hc0_1 hf0_1)
      | (go_at_call 17; refine (k3 _).mono ?_; rintro e w3 ⟨rfl, hb3⟩; have b0_3 := bthen b0_2 hb3; obtain ⟨hc0_3, hf0_3⟩ := bcell b0_3; have z0_0_3 : w.heap.size < w3.heap.size := (by have := b0_3.size; simp at this; omega); clear hc0_2 hf0_2)
      | (go_at_call 18; refine (k4 _).mono ?_; rintro e w' ⟨rfl, hw⟩; rw [hw]; clear hw w'))
    refine hQ.out _ _ ⟨by simp, ?_⟩
    exact bthen (bmore (Below.refl _ _) _) b0_3
  · have hd : 0 < d := by omega
    obtain ⟨h3, l3, t3⟩ := tw_some (n := a / d) (Nat.lt_of_le_of_lt (Nat.div_le_self _ _) ta.lt)
    by_cases hb : d ≤ p1
    · have h3p : 0 < h3 := by
        have h1 : 18446744073709551616 ≤ a / d := by
          rw [Nat.le_div_iff_mul_le hd]
          have := Nat.mul_le_mul_left 18446744073709551616 hb
          omega
        have := t3.eq
        have := t3.lo
        omega
      have k2 := fun w => pdiv_big p1 p2 d hd hb w
      have k3 := fun w => rdiv_big ta (by omega) hd t3 h3p w
      have k4 := fun w => code_any 5 w
      rw [show codeOf 5 = 5 from rfl] at k4
      clear ta ea t3 h3p
      go_enter Try.func5, Try.ntmps5
      go_wp2_with (first
        | (go_at_call 15; refine (hup3_any _).mono ?_; rintro e w1 ⟨rfl, hb1⟩; have b0_1 := hb1; obtain ⟨hc0_1, hf0_1⟩ := bcell b0_1; have z0_0_1 : w.heap.size < w1.heap.size := (by have := b0_1.size; simp at this; omega))
        | (go_at_call 16; refine (k2 _).mono ?_; rintro e w2 ⟨rfl, hb2⟩; have b0_2 := bthen b0_1 hb2; obtain ⟨hc0_2, hf0_2⟩ := bcell b0_2; have z0_0_2 : w.heap.size < w2.heap.size := (by have := b0_2.size; simp at this; omega); clear hc0_1 hf0_1)
        | (go_at_call 17; refine (k3 _).mono ?_; rintro e w3 ⟨rfl, hb3⟩; have b0_3 := bthen b0_2 hb3; obtain ⟨hc0_3, hf0_3⟩ := bcell b0_3; have z0_0_3 : w.heap.size < w3.heap.size := (by have := b0_3.size; simp at this; omega); clear hc0_2 hf0_2)
        | (go_at_call 18; refine (k4 _).mono ?_; rintro e w' ⟨rfl, hw⟩; rw [hw]; clear hw w'))
      refine hQ.out _ _ ⟨by simp, ?_⟩
      exact bthen (bmore (Below.refl _ _) _) b0_3
    · have h1 : a / d < 18446744073709551616 := by
        refine Nat.div_lt_of_lt_mul ?_
        have := Nat.mul_le_mul (show p1 + 1 ≤ d by omega) (Nat.le_refl 18446744073709551616)
        omega
      have h3z : h3 = 0 := by
        have := t3.eq
        omega
      subst h3z
      have k2 := fun w => pdiv_any ta (by omega) (by omega) (show l3 = a / d by have := t3.eq; omega) rfl w
      have k3 := fun w => rdiv_any ta (by omega) hd t3 rfl w
      have k4 := fun w => code_nil w
      generalize a % d = r at *
      clear ta ea t3 h1
      go_enter Try.func5, Try.ntmps5
      go_wp2_with (first
        | (go_at_call 15; refine (hup3_any _).mono ?_; rintro e w1 ⟨rfl, hb1⟩; have b0_1 := hb1; obtain ⟨hc0_1, hf0_1⟩ := bcell b0_1; have z0_0_1 : w.heap.size < w1.heap.size := (by have := b0_1.size; simp at this; omega))
        | (go_at_call 16; refine (k2 _).mono ?_; rintro e w2 ⟨rfl, hb2⟩; have b0_2 := bthen b0_1 hb2; obtain ⟨hc0_2, hf0_2⟩ := bcell b0_2; have z0_0_2 : w.heap.size < w2.heap.size := (by have := b0_2.size; simp at this; omega); clear hc0_1 hf0_1)
        | (go_at_call 17; refine (k3 _).mono ?_; rintro e w3 ⟨rfl, hb3⟩; have b0_3 := bthen b0_2 hb3; obtain ⟨hc0_3, hf0_3⟩ := bcell b0_3; have z0_0_3 : w.heap.size < w3.heap.size := (by have := b0_3.size; simp at this; omega); clear hc0_2 hf0_2)
        | (go_at_call 18; refine (k4 _).mono ?_; rintro e w' ⟨rfl, hw⟩; rw [hw]; clear hw w'))
      refine hQ.out _ _ ⟨by simp, ?_⟩
      exact bthen (bmore (Below.refl _ _) _) b0_3
end Go.Proofs.Ytpjegpgnelfeeab
