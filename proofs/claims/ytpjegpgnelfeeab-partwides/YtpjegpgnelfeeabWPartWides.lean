import Derived.Test.YtpjegpgnelfeeabJoin2
namespace Go.Proofs.Ytpjegpgnelfeeab
open Go.ChangeShapes Go.WideShapes Go.ChangeAt Go.RowKit
set_option linter.unusedVariables false

set_option maxHeartbeats 4000000 in
theorem partWides_walk (p1 p2 p3 p4 : Int) (wp1 : (Lit.int .u64 p1).wf = true) (wp2 : (Lit.int .u64 p2).wf = true) (wp3 : (Lit.int .u64 p3).wf = true) (wp4 : (Lit.int .u64 p4).wf = true) (w : World) :
    Calls Try.prog 7 #[.agg #[.int .u64 p1, .int .u64 p2], .agg #[.int .u64 p3, .int .u64 p4]] w fun e w' => e = .returned (.bool true) ∧ Below w.heap.size w w' := by
  refine cps fun Q hQ => ?_
  obtain ⟨p1, rfl, bp1⟩ := nat_of_u64 wp1
  obtain ⟨p2, rfl, bp2⟩ := nat_of_u64 wp2
  obtain ⟨a, ea⟩ : ∃ n, n = p1 * 18446744073709551616 + p2 := ⟨_, rfl⟩
  have ta : Tw a p1 p2 := ⟨ea, by omega, by omega⟩
  obtain ⟨p3, rfl, bp3⟩ := nat_of_u64 wp3
  obtain ⟨p4, rfl, bp4⟩ := nat_of_u64 wp4
  obtain ⟨d, ed⟩ : ∃ n, n = p3 * 18446744073709551616 + p4 := ⟨_, rfl⟩
  have td : Tw d p3 p4 := ⟨ed, by omega, by omega⟩
  by_cases h0 : d = 0
  · have e1 : p3 = 0 := by omega
    have e2 : p4 = 0 := by omega
    subst e1 e2
    have k2 := fun w => pwide_zero p1 p2 w
    have k3 := fun w => rwide_zero p1 p2 (by omega) (by omega) w
    have k4 := fun w => code_any 4 w
    rw [show codeOf 4 = 4 from rfl] at k4
    clear ta ea td ed h0
    go_enter Try.func7, Try.ntmps7
    go_wp2_with (first
      | (go_at_call 15; refine (hup3_any _).mono ?_; rintro e w1 ⟨rfl, hb1⟩; have b0_1 := hb1; obtain ⟨hc0_1, hf0_1⟩ := bcell b0_1; have z0_0_1 : w.heap.size < w1.heap.size := (by have := b0_1.size; simp at this; omega); have z0_1_1 : w.heap.size + 1 < w1.heap.size := (by have := b0_1.size; simp at this; omega))
      | (go_at_call 21; refine (k2 _).mono ?_; rintro e w2 ⟨rfl, hb2⟩; have b0_2 := bthen b0_1 hb2; obtain ⟨hc0_2, hf0_2⟩ := bcell b0_2; have z0_0_2 : w.heap.size < w2.heap.size := (by have := b0_2.size; simp at this; omega); have z0_1_2 : w.heap.size + 1 < w2.heap.size := (by have := b0_2.size; simp at this; omega); clear hc0_1 hf0_1)
      | (go_at_call 22; refine (k3 _).mono ?_; rintro e w3 ⟨rfl, hb3⟩; have b0_3 := bthen (bmore (bmore b0_2 _) _) hb3; obtain ⟨hc0_3, hf0_3⟩ := bcell b0_3; have z0_0_3 : w.heap.size < w3.heap.size := (by have := b0_3.size; simp at this; omega); have z0_1_3 : w.heap.size + 1 < w3.heap.size := (by have := b0_3.size; simp at this; omega); clear hc0_2 hf0_2; have b2_3 := hb3; obtain ⟨hc2_3, hf2_3⟩ := bcell b2_3; have z2_0_3 : w2.heap.size < w3.heap.size := (by have := b2_3.size; simp at this; omega); have z2_1_3 : w2.heap.size + 1 < w3.heap.size := (by have := b2_3.size; simp at this; omega))
      | (go_at_call 18; refine (k4 _).mono ?_; rintro e w' ⟨rfl, hw⟩; rw [hw]; clear hw w'))
    refine hQ.out _ _ ⟨by simp, ?_⟩
    exact bmore (bmore (bthen (bmore (bmore (Below.refl _ _) _) _) b0_3) _) _
  · have hd : 0 < d := by omega
    obtain ⟨h3, l3, t3⟩ := tw_some (n := a / d) (Nat.lt_of_le_of_lt (Nat.div_le_self _ _) ta.lt)
    obtain ⟨h4, l4, t4⟩ := tw_some (n := a % d) (Nat.lt_of_le_of_lt (Nat.mod_le _ _) ta.lt)
    have k2 : ∀ w, Calls Try.prog 21 #[.agg #[.int .u64 p1, .int .u64 p2], .agg #[.int .u64 p3, .int .u64 p4]] w fun e w' => e = .returned (.tuple #[.agg #[.int .u64 h3, .int .u64 l3], .agg #[.int .u64 h4, .int .u64 l4], .nilIface]) ∧ Below w.heap.size w w' := fun w => by
      by_cases h2 : p3 = 0
      · subst h2
        have e4 : d = p4 := by omega
        have := Nat.mod_lt a hd
        have := t4.eq
        have e5 : h4 = 0 := by omega
        subst e5
        subst e4
        exact pwide_low ta (by omega) hd t3 (by omega) w
      · have e5 : h3 = 0 := by
          have : a / d < 18446744073709551616 := by
            refine Nat.div_lt_of_lt_mul ?_
            have := Nat.mul_le_mul (show 18446744073709551616 ≤ d by omega) (Nat.le_refl 18446744073709551616)
            have := ta.lt
            omega
          have := t3.eq
          omega
        subst e5
        exact pwide_any ta td (by omega) (by have := t3.eq; omega) t4 w
    have k3 := fun w => rwide_any ta td hd t3 t4 w
    have k4 := fun w => code_nil w
    clear ta ea td ed t3 t4
    go_enter Try.func7, Try.ntmps7
    go_wp2_with (first
      | (go_at_call 15; refine (hup3_any _).mono ?_; rintro e w1 ⟨rfl, hb1⟩; have b0_1 := hb1; obtain ⟨hc0_1, hf0_1⟩ := bcell b0_1; have z0_0_1 : w.heap.size < w1.heap.size := (by have := b0_1.size; simp at this; omega); have z0_1_1 : w.heap.size + 1 < w1.heap.size := (by have := b0_1.size; simp at this; omega))
      | (go_at_call 21; refine (k2 _).mono ?_; rintro e w2 ⟨rfl, hb2⟩; have b0_2 := bthen b0_1 hb2; obtain ⟨hc0_2, hf0_2⟩ := bcell b0_2; have z0_0_2 : w.heap.size < w2.heap.size := (by have := b0_2.size; simp at this; omega); have z0_1_2 : w.heap.size + 1 < w2.heap.size := (by have := b0_2.size; simp at this; omega); clear hc0_1 hf0_1)
      | (go_at_call 22; refine (k3 _).mono ?_; rintro e w3 ⟨rfl, hb3⟩; have b0_3 := bthen (bmore (bmore b0_2 _) _) hb3; obtain ⟨hc0_3, hf0_3⟩ := bcell b0_3; have z0_0_3 : w.heap.size < w3.heap.size := (by have := b0_3.size; simp at this; omega); have z0_1_3 : w.heap.size + 1 < w3.heap.size := (by have := b0_3.size; simp at this; omega); clear hc0_2 hf0_2; have b2_3 := hb3; obtain ⟨hc2_3, hf2_3⟩ := bcell b2_3; have z2_0_3 : w2.heap.size < w3.heap.size := (by have := b2_3.size; simp at this; omega); have z2_1_3 : w2.heap.size + 1 < w3.heap.size := (by have := b2_3.size; simp at this; omega))
      | (go_at_call 18; refine (k4 _).mono ?_; rintro e w' ⟨rfl, hw⟩; rw [hw]; clear hw w'))
    refine hQ.out _ _ ⟨by simp, ?_⟩
    exact bmore (bmore (bthen (bmore (bmore (Below.refl _ _) _) _) b0_3) _) _
end Go.Proofs.Ytpjegpgnelfeeab
