import Derived.Test.YtpjegpgnelfeeaaJoin2
namespace Go.Proofs.Ytpjegpgnelfeeaa
open Go.ChangeShapes Go.WideShapes Go.ChangeAt Go.RowKit
set_option linter.unusedVariables false

theorem tw_any (n : Nat) (h : n < 340282366920938463463374607431768211456) : ∃ h l, Tw n h l := ⟨n / 18446744073709551616, n % 18446744073709551616, by omega, by omega, by omega⟩
set_option maxHeartbeats 4000000 in
theorem twinAdds_walk (p1 p2 p3 p4 : Int) (wp1 : (Lit.int .u64 p1).wf = true) (wp2 : (Lit.int .u64 p2).wf = true) (wp3 : (Lit.int .u64 p3).wf = true) (wp4 : (Lit.int .u64 p4).wf = true) (w : World) :
    Calls Try.prog 3 #[.agg #[.int .u64 p1, .int .u64 p2], .agg #[.int .u64 p3, .int .u64 p4]] w fun e w' => e = .returned (.bool true) ∧ Below w.heap.size w w' := by
  refine cps fun Q hQ => ?_
  obtain ⟨p1, rfl, bp1⟩ := nat_of_u64 wp1
  obtain ⟨p2, rfl, bp2⟩ := nat_of_u64 wp2
  obtain ⟨a, ea⟩ : ∃ n, n = p1 * 18446744073709551616 + p2 := ⟨_, rfl⟩
  have ta : Tw a p1 p2 := ⟨ea, by omega, by omega⟩
  obtain ⟨p3, rfl, bp3⟩ := nat_of_u64 wp3
  obtain ⟨p4, rfl, bp4⟩ := nat_of_u64 wp4
  obtain ⟨b, eb⟩ : ∃ n, n = p3 * 18446744073709551616 + p4 := ⟨_, rfl⟩
  have tb : Tw b p3 p4 := ⟨eb, by omega, by omega⟩
  obtain ⟨h1, l1, s1⟩ := tw_any ((a + b) % 340282366920938463463374607431768211456) (Nat.mod_lt _ (by decide))
  obtain ⟨h2, l2, s2⟩ := tw_any ((a + 340282366920938463463374607431768211456 - b) % 340282366920938463463374607431768211456) (Nat.mod_lt _ (by decide))
  have k2 := fun w => tadd_any ta tb s1 rfl w
  have k3 := fun w => tsub_any ta tb s2 rfl w
  have k4 := fun w => radd_any ta tb s1 rfl w
  have k5 := fun w => rsub_any ta tb s2 rfl w
  generalize decide (340282366920938463463374607431768211456 ≤ a + b) = c at *
  generalize decide (a < b) = d at *
  clear ta tb s1 s2 ea eb
  go_enter Try.func3, Try.ntmps3
  go_wp2_with (first
    | (go_at_call 9; refine (hup_any _).mono ?_; rintro e w1 ⟨rfl, hb1⟩; have b0_1 := hb1; obtain ⟨hc0_1, hf0_1⟩ := bcell b0_1; have z0_0_1 : w.heap.size < w1.heap.size := (by have := b0_1.size; simp at this; omega); have z0_1_1 : w.heap.size + 1 < w1.heap.size := (by have := b0_1.size; simp at this; omega))
    | (go_at_call 10; refine (k2 _).mono ?_; rintro e w2 ⟨rfl, hb2⟩; have b0_2 := bthen (b0_1) hb2; obtain ⟨hc0_2, hf0_2⟩ := bcell b0_2; have z0_0_2 : w.heap.size < w2.heap.size := (by have := b0_2.size; simp at this; omega); have z0_1_2 : w.heap.size + 1 < w2.heap.size := (by have := b0_2.size; simp at this; omega); clear hc0_1 hf0_1)
    | (go_at_call 11; refine (k3 _).mono ?_; rintro e w3 ⟨rfl, hb3⟩; have b0_3 := bthen (bmore b0_2 _) hb3; obtain ⟨hc0_3, hf0_3⟩ := bcell b0_3; have z0_0_3 : w.heap.size < w3.heap.size := (by have := b0_3.size; simp at this; omega); have z0_1_3 : w.heap.size + 1 < w3.heap.size := (by have := b0_3.size; simp at this; omega); clear hc0_2 hf0_2; have b2_3 := hb3; obtain ⟨hc2_3, hf2_3⟩ := bcell b2_3; have z2_0_3 : w2.heap.size < w3.heap.size := (by have := b2_3.size; simp at this; omega))
    | (go_at_call 12; refine (k4 _).mono ?_; rintro e w4 ⟨rfl, hb4⟩; have b0_4 := bthen (bmore b0_3 _) hb4; obtain ⟨hc0_4, hf0_4⟩ := bcell b0_4; have z0_0_4 : w.heap.size < w4.heap.size := (by have := b0_4.size; simp at this; omega); have z0_1_4 : w.heap.size + 1 < w4.heap.size := (by have := b0_4.size; simp at this; omega); clear hc0_3 hf0_3; have b2_4 := bthen (bmore b2_3 _) hb4; obtain ⟨hc2_4, hf2_4⟩ := bcell b2_4; have z2_0_4 : w2.heap.size < w4.heap.size := (by have := b2_4.size; simp at this; omega); clear hc2_3 hf2_3; have b3_4 := hb4; obtain ⟨hc3_4, hf3_4⟩ := bcell b3_4; have z3_0_4 : w3.heap.size < w4.heap.size := (by have := b3_4.size; simp at this; omega))
    | (go_at_call 13; refine (k5 _).mono ?_; rintro e w5 ⟨rfl, hb5⟩; have b0_5 := bthen (bmore b0_4 _) hb5; obtain ⟨hc0_5, hf0_5⟩ := bcell b0_5; have z0_0_5 : w.heap.size < w5.heap.size := (by have := b0_5.size; simp at this; omega); have z0_1_5 : w.heap.size + 1 < w5.heap.size := (by have := b0_5.size; simp at this; omega); clear hc0_4 hf0_4; have b2_5 := bthen (bmore b2_4 _) hb5; obtain ⟨hc2_5, hf2_5⟩ := bcell b2_5; have z2_0_5 : w2.heap.size < w5.heap.size := (by have := b2_5.size; simp at this; omega); clear hc2_4 hf2_4; have b3_5 := bthen (bmore b3_4 _) hb5; obtain ⟨hc3_5, hf3_5⟩ := bcell b3_5; have z3_0_5 : w3.heap.size < w5.heap.size := (by have := b3_5.size; simp at this; omega); clear hc3_4 hf3_4; have b4_5 := hb5; obtain ⟨hc4_5, hf4_5⟩ := bcell b4_5; have z4_0_5 : w4.heap.size < w5.heap.size := (by have := b4_5.size; simp at this; omega)))
  refine hQ.out _ _ ⟨by simp, ?_⟩
  exact bmore (bthen (bmore (bmore (Below.refl _ _) _) _) b0_5) _
end Go.Proofs.Ytpjegpgnelfeeaa
