import Derived.Test.YtpjegpgnelfeeaaJoin2
namespace Go.Proofs.Ytpjegpgnelfeeaa
open Go.ChangeShapes Go.WideShapes Go.ChangeAt Go.RowKit
set_option linter.unusedVariables false

theorem tw_any (n : Nat) (h : n < 340282366920938463463374607431768211456) : ∃ h l, Tw n h l := ⟨n / 18446744073709551616, n % 18446744073709551616, by omega, by omega, by omega⟩
set_option maxHeartbeats 4000000 in
theorem twinLens_walk (p1 p2 : Int) (wp1 : (Lit.int .u64 p1).wf = true) (wp2 : (Lit.int .u64 p2).wf = true) (w : World) :
    Calls Try.prog 8 #[.agg #[.int .u64 p1, .int .u64 p2]] w fun e w' => e = .returned (.bool true) ∧ Below w.heap.size w w' := by
  refine cps fun Q hQ => ?_
  obtain ⟨p1, rfl, bp1⟩ := nat_of_u64 wp1
  obtain ⟨p2, rfl, bp2⟩ := nat_of_u64 wp2
  obtain ⟨a, ea⟩ : ∃ n, n = p1 * 18446744073709551616 + p2 := ⟨_, rfl⟩
  have ta : Tw a p1 p2 := ⟨ea, by omega, by omega⟩
  have k5 := fun w => tlen_any ta w
  have k6 := fun w => rlen_any ta w
  have hn : ∃ h1 l1 k : Nat, (∀ w, Calls Try.prog 23 #[.agg #[.int .u64 p1, .int .u64 p2]] w fun e w' => e = .returned (.tuple #[.agg #[.int .u64 h1, .int .u64 l1], .int .i64 k]) ∧ Below w.heap.size w w') ∧
      (∀ w, Calls Try.prog 24 #[.agg #[.int .u64 p1, .int .u64 p2]] w fun e w' => e = .returned (.tuple #[.agg #[.int .u64 h1, .int .u64 l1], .int .i64 k]) ∧ Below w.heap.size w w') := by
    by_cases h0 : a = 0
    · have e1 : p1 = 0 := by omega
      have e2 : p2 = 0 := by omega
      subst e1 e2
      exact ⟨0, 0, 0, tnorm_zero, rnorm_zero⟩
    · have hb : blen a ≤ 128 := blen_le.2 ta.lt
      obtain ⟨h1, l1, s1⟩ := tw_any ((a * 2 ^ (128 - blen a)) % 340282366920938463463374607431768211456) (Nat.mod_lt _ (by decide))
      exact ⟨h1, l1, 128 - blen a, fun w => tnorm_any ta h0 (by omega) s1 w, fun w => rnorm_any ta h0 (by omega) s1 w⟩
  obtain ⟨h1, l1, k, k2, k3⟩ := hn
  generalize blen a = L at *
  clear ta ea
  go_enter Try.func8, Try.ntmps8
  go_wp2_with (first
    | (go_at_call 9; refine (hup_any _).mono ?_; rintro e w1 ⟨rfl, hb1⟩; have b0_1 := hb1; obtain ⟨hc0_1, hf0_1⟩ := bcell b0_1; have z0_0_1 : w.heap.size < w1.heap.size := (by have := b0_1.size; simp at this; omega))
    | (go_at_call 23; refine (k2 _).mono ?_; rintro e w2 ⟨rfl, hb2⟩; have b0_2 := bthen (b0_1) hb2; obtain ⟨hc0_2, hf0_2⟩ := bcell b0_2; have z0_0_2 : w.heap.size < w2.heap.size := (by have := b0_2.size; simp at this; omega); clear hc0_1 hf0_1)
    | (go_at_call 24; refine (k3 _).mono ?_; rintro e w3 ⟨rfl, hb3⟩; have b0_3 := bthen (bmore b0_2 _) hb3; obtain ⟨hc0_3, hf0_3⟩ := bcell b0_3; have z0_0_3 : w.heap.size < w3.heap.size := (by have := b0_3.size; simp at this; omega); clear hc0_2 hf0_2; have b2_3 := hb3; obtain ⟨hc2_3, hf2_3⟩ := bcell b2_3; have z2_0_3 : w2.heap.size < w3.heap.size := (by have := b2_3.size; simp at this; omega)))
  refine wpC_region (fun W => W.cell? ⟨w.heap.size, 0, none⟩ = some (.int .u64 p1) ∧ W.cell? ⟨w.heap.size, 1, none⟩ = some (.int .u64 p2) ∧ W.cell? ⟨w2.heap.size, 0, none⟩ = some (.int .u64 h1) ∧ W.cell? ⟨w2.heap.size, 1, none⟩ = some (.int .u64 l1) ∧ W.cell? ⟨w3.heap.size, 0, none⟩ = some (.int .u64 h1) ∧ W.cell? ⟨w3.heap.size, 1, none⟩ = some (.int .u64 l1)) (by kernel_rfl) ?_
  refine wpC_take 0 (v := ?_) rfl (by kernel_rfl) (fun _ _ _ h => h) (by kernel_rfl) ?_ ?_; rotate_left; · (intro wC hC; obtain ⟨c1, c2, c3, c4, c5, c6⟩ := hC; go_simp <;> with_reducible rfl)
  refine wpC_take 1 (v := ?_) rfl (by kernel_rfl) (fun _ _ _ h => h) (by kernel_rfl) ?_ ?_; rotate_left; · (intro wC hC; obtain ⟨c1, c2, c3, c4, c5, c6⟩ := hC; go_simp <;> with_reducible rfl)
  refine wpC_take 2 (v := ?_) rfl (by kernel_rfl) (fun _ _ _ h => h) (by kernel_rfl) ?_ ?_; rotate_left; · (intro wC hC; obtain ⟨c1, c2, c3, c4, c5, c6⟩ := hC; go_simp <;> with_reducible rfl)
  refine wpC_take 4 (v := ?_) rfl (by kernel_rfl) (fun _ _ _ h => h) (by kernel_rfl) ?_ ?_; rotate_left; · (intro wC hC; obtain ⟨c1, c2, c3, c4, c5, c6⟩ := hC; go_simp <;> with_reducible rfl)
  refine wpC_step 3 rfl (by kernel_rfl) (by kernel_rfl) (by simp [go_sem, hc0_3, hc2_3, z0_0_3, z2_0_3]) (fun K hK => ?_)
  go_simp
  go_wp2_with ((go_at_call 25; refine (k5 _).mono ?_; rintro e w4 ⟨rfl, hb4⟩; obtain ⟨hc4, hf4⟩ := bcell hb4))
  try (refine hK _ _ ?_; clear hK K)
  refine wpC_step 5 rfl (by kernel_rfl) (by kernel_rfl) (by simp [go_sem, hc4, hc0_3, hc2_3, z0_0_3, z2_0_3]) (fun K hK => ?_)
  go_simp
  go_wp2_with ((go_at_call 26; refine (k6 _).mono ?_; rintro e w5 ⟨rfl, hb5⟩; have hb45 := bthen hb4 hb5; obtain ⟨hc5, hf5⟩ := bcell hb45))
  try (refine hK _ _ ?_; clear hK K)
  refine wpC_step 6 rfl (by kernel_rfl) (by kernel_rfl) (by simp [go_sem, hc5, hc0_3, hc2_3, z0_0_3, z2_0_3]) (fun K hK => ?_)
  go_simp
  try (refine hK _ _ ?_; clear hK K)
  refine wpC_step 7 rfl (by kernel_rfl) (by kernel_rfl) (by simp [go_sem, hc5, hc0_3, hc2_3, z0_0_3, z2_0_3]) (fun K hK => ?_)
  go_simp
  try (refine hK _ _ ?_; clear hK K)
  refine wpC_step 8 rfl (by kernel_rfl) (by kernel_rfl) (by simp [go_sem, hc5, hc0_3, hc2_3, z0_0_3, z2_0_3]) (fun K hK => ?_)
  go_simp
  try (refine hK _ _ ?_; clear hK K)
  refine wpC_take 9 (v := ?_) rfl (by kernel_rfl) (fun _ _ _ h => h) (by kernel_rfl) ?_ ?_; rotate_left; · (intro wC hC; obtain ⟨c1, c2, c3, c4, c5, c6⟩ := hC; go_simp <;> with_reducible rfl)
  refine wpC_step 10 rfl (by kernel_rfl) (by kernel_rfl) (by simp [go_sem, hc5, hc0_3, hc2_3, z0_0_3, z2_0_3]) (fun K hK => ?_)
  go_simp
  try (refine hK _ _ ?_; clear hK K)
  refine wpC_step 11 rfl (by kernel_rfl) (by kernel_rfl) (by simp [go_sem, hc5, hc0_3, hc2_3, z0_0_3, z2_0_3]) (fun K hK => ?_)
  go_simp
  try (refine hK _ _ ?_; clear hK K)
  refine wpC_step 12 rfl (by kernel_rfl) (by kernel_rfl) (by simp [go_sem, hc5, hc0_3, hc2_3, z0_0_3, z2_0_3]) (fun K hK => ?_)
  go_simp
  try (refine hK _ _ ?_; clear hK K)
  refine wpC_step 13 rfl (by kernel_rfl) (by kernel_rfl) (by simp [go_sem, hc5, hc0_3, hc2_3, z0_0_3, z2_0_3]) (fun K hK => ?_)
  go_simp
  try (refine hK _ _ ?_; clear hK K)
  refine wpC_take 14 (v := ?_) rfl (by kernel_rfl) (fun _ _ _ h => h) (by kernel_rfl) ?_ ?_; rotate_left; · (intro wC hC; obtain ⟨c1, c2, c3, c4, c5, c6⟩ := hC; go_simp <;> with_reducible rfl)
  refine wpC_step 15 rfl (by kernel_rfl) (by kernel_rfl) (by simp [go_sem, hc5, hc0_3, hc2_3, z0_0_3, z2_0_3]) (fun K hK => ?_)
  go_simp
  try (refine hK _ _ ?_; clear hK K)
  refine wpC_step 16 rfl (by kernel_rfl) (by kernel_rfl) (by simp [go_sem, hc5, hc0_3, hc2_3, z0_0_3, z2_0_3]) (fun K hK => ?_)
  go_simp
  try (refine hK _ _ ?_; clear hK K)
  refine wpC_step 17 rfl (by kernel_rfl) (by kernel_rfl) (by simp [go_sem, hc5, hc0_3, hc2_3, z0_0_3, z2_0_3]) (fun K hK => ?_)
  go_simp
  try (refine hK _ _ ?_; clear hK K)
  refine wpC_step 18 rfl (by kernel_rfl) (by kernel_rfl) (by simp [go_sem, hc5, hc0_3, hc2_3, z0_0_3, z2_0_3]) (fun K hK => ?_)
  go_simp
  try (refine hK _ _ ?_; clear hK K)
  refine wpC_done (by kernel_rfl) (by simp [go_sem, hc5, hc0_3, hc2_3, z0_0_3, z2_0_3]) ?_
  go_wp2
  refine hQ.out _ _ ⟨by simp, ?_⟩
  exact bthen (bdrew (bmore (bthen (bmore (Below.refl _ _) _) b0_3) _)) hb45
end Go.Proofs.Ytpjegpgnelfeeaa
