import Derived.Test.YtpjegpgnelfeeaaJoin2
namespace Go.Proofs.Ytpjegpgnelfeeaa
open Go.ChangeShapes Go.WideShapes Go.ChangeAt Go.RowKit
set_option linter.unusedVariables false

theorem tw_any (n : Nat) (h : n < 340282366920938463463374607431768211456) : ∃ h l, Tw n h l := ⟨n / 18446744073709551616, n % 18446744073709551616, by omega, by omega, by omega⟩
set_option maxHeartbeats 4000000 in
theorem twinShls_walk (p1 p2 p3 : Int) (wp1 : (Lit.int .u64 p1).wf = true) (wp2 : (Lit.int .u64 p2).wf = true) (wp3 : (Lit.int .i64 p3).wf = true) (w : World) :
    Calls Try.prog 6 #[.agg #[.int .u64 p1, .int .u64 p2], .int .i64 p3] w fun e w' => e = .returned (.bool true) ∧ Below w.heap.size w w' := by
  refine cps fun Q hQ => ?_
  obtain ⟨p1, rfl, bp1⟩ := nat_of_u64 wp1
  obtain ⟨p2, rfl, bp2⟩ := nat_of_u64 wp2
  obtain ⟨a, ea⟩ : ∃ n, n = p1 * 18446744073709551616 + p2 := ⟨_, rfl⟩
  have ta : Tw a p1 p2 := ⟨ea, by omega, by omega⟩
  have b3 := bounds_i64 wp3
  by_cases hk : p3 < 0
  · have k2 := fun w => tshl_no p3 hk p1 p2 w
    have k3 := fun w => rshl_no p3 hk p1 p2 w
    have k4 := fun w => code_any 1 w
    rw [show codeOf 1 = 1 from rfl] at k4
    clear ta ea b3
    go_enter Try.func6, Try.ntmps6
    go_wp2_with (first
      | (go_at_call 9; refine (hup_any _).mono ?_; rintro e w1 ⟨rfl, hb1⟩; have b0_1 := hb1; obtain ⟨hc0_1, hf0_1⟩ := bcell b0_1; have z0_0_1 : w.heap.size < w1.heap.size := (by have := b0_1.size; simp at this; omega))
      | (go_at_call 18; refine (k2 _).mono ?_; rintro e w2 ⟨rfl, hb2⟩; have b0_2 := bthen (b0_1) hb2; obtain ⟨hc0_2, hf0_2⟩ := bcell b0_2; have z0_0_2 : w.heap.size < w2.heap.size := (by have := b0_2.size; simp at this; omega); clear hc0_1 hf0_1)
      | (go_at_call 19; refine (k3 _).mono ?_; rintro e w3 ⟨rfl, hb3⟩; have b0_3 := bthen (bmore b0_2 _) hb3; obtain ⟨hc0_3, hf0_3⟩ := bcell b0_3; have z0_0_3 : w.heap.size < w3.heap.size := (by have := b0_3.size; simp at this; omega); clear hc0_2 hf0_2; have b2_3 := hb3; obtain ⟨hc2_3, hf2_3⟩ := bcell b2_3; have z2_0_3 : w2.heap.size < w3.heap.size := (by have := b2_3.size; simp at this; omega))
      | (go_at_call 20; refine (k4 _).mono ?_; rintro e w' ⟨rfl, hw⟩; rw [hw]; clear hw w'))
    refine hQ.out _ _ ⟨by simp, ?_⟩
    exact bmore (bthen (bmore (Below.refl _ _) _) b0_3) _
  · obtain ⟨k, rfl⟩ : ∃ k : Nat, p3 = k := ⟨p3.toNat, by omega⟩
    obtain ⟨h1, l1, s1⟩ := tw_any ((a * 2 ^ k) % 340282366920938463463374607431768211456) (Nat.mod_lt _ (by decide))
    have k2 := fun w => tshl_any k (by omega) ta s1 rfl w
    have k3 := fun w => rshl_any k (by omega) ta s1 rfl w
    have k4 := fun w => code_nil w
    generalize decide (340282366920938463463374607431768211456 ≤ a * 2 ^ k) = c at *
    clear ta s1 ea b3
    go_enter Try.func6, Try.ntmps6
    go_wp2_with (first
      | (go_at_call 9; refine (hup_any _).mono ?_; rintro e w1 ⟨rfl, hb1⟩; have b0_1 := hb1; obtain ⟨hc0_1, hf0_1⟩ := bcell b0_1; have z0_0_1 : w.heap.size < w1.heap.size := (by have := b0_1.size; simp at this; omega))
      | (go_at_call 18; refine (k2 _).mono ?_; rintro e w2 ⟨rfl, hb2⟩; have b0_2 := bthen (b0_1) hb2; obtain ⟨hc0_2, hf0_2⟩ := bcell b0_2; have z0_0_2 : w.heap.size < w2.heap.size := (by have := b0_2.size; simp at this; omega); clear hc0_1 hf0_1)
      | (go_at_call 19; refine (k3 _).mono ?_; rintro e w3 ⟨rfl, hb3⟩; have b0_3 := bthen (bmore b0_2 _) hb3; obtain ⟨hc0_3, hf0_3⟩ := bcell b0_3; have z0_0_3 : w.heap.size < w3.heap.size := (by have := b0_3.size; simp at this; omega); clear hc0_2 hf0_2; have b2_3 := hb3; obtain ⟨hc2_3, hf2_3⟩ := bcell b2_3; have z2_0_3 : w2.heap.size < w3.heap.size := (by have := b2_3.size; simp at this; omega))
      | (go_at_call 20; refine (k4 _).mono ?_; rintro e w' ⟨rfl, hw⟩; rw [hw]; clear hw w'))
    refine hQ.out _ _ ⟨by simp, ?_⟩
    exact bmore (bthen (bmore (Below.refl _ _) _) b0_3) _
end Go.Proofs.Ytpjegpgnelfeeaa
