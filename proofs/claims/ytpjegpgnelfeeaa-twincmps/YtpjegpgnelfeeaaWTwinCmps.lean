import Derived.Test.YtpjegpgnelfeeaaJoin2
namespace Go.Proofs.Ytpjegpgnelfeeaa
open Go.ChangeShapes Go.WideShapes Go.ChangeAt Go.RowKit
set_option linter.unusedVariables false

theorem tw_any (n : Nat) (h : n < 340282366920938463463374607431768211456) : ∃ h l, Tw n h l := ⟨n / 18446744073709551616, n % 18446744073709551616, by omega, by omega, by omega⟩
set_option maxHeartbeats 4000000 in
theorem twinCmps_walk (p1 p2 p3 p4 : Int) (wp1 : (Lit.int .u64 p1).wf = true) (wp2 : (Lit.int .u64 p2).wf = true) (wp3 : (Lit.int .u64 p3).wf = true) (wp4 : (Lit.int .u64 p4).wf = true) (w : World) :
    Calls Try.prog 4 #[.agg #[.int .u64 p1, .int .u64 p2], .agg #[.int .u64 p3, .int .u64 p4]] w fun e w' => e = .returned (.bool true) ∧ Below w.heap.size w w' := by
  refine cps fun Q hQ => ?_
  obtain ⟨p1, rfl, bp1⟩ := nat_of_u64 wp1
  obtain ⟨p2, rfl, bp2⟩ := nat_of_u64 wp2
  obtain ⟨a, ea⟩ : ∃ n, n = p1 * 18446744073709551616 + p2 := ⟨_, rfl⟩
  have ta : Tw a p1 p2 := ⟨ea, by omega, by omega⟩
  obtain ⟨p3, rfl, bp3⟩ := nat_of_u64 wp3
  obtain ⟨p4, rfl, bp4⟩ := nat_of_u64 wp4
  obtain ⟨b, eb⟩ : ∃ n, n = p3 * 18446744073709551616 + p4 := ⟨_, rfl⟩
  have tb : Tw b p3 p4 := ⟨eb, by omega, by omega⟩
  have k1 := fun w => tcmp_any ta tb w
  have k2 := fun w => rcmp_any ta tb w
  have k3 := fun w => tcmp_any ta ta w
  rw [cmpN_eq] at k3
  generalize cmpN a b = x at *
  clear ta tb ea eb
  go_enter Try.func4, Try.ntmps4
  go_wp2_with (go_at_call 9; refine (hup_any _).mono ?_; rintro e w1 ⟨rfl, hb1⟩; obtain ⟨hc1, hf1⟩ := bcell hb1)
  refine wpC_region (fun W => W.cell? ⟨w.heap.size, 0, none⟩ = some (.int .u64 p1) ∧ W.cell? ⟨w.heap.size, 1, none⟩ = some (.int .u64 p2) ∧ W.cell? ⟨w.heap.size + 1, 0, none⟩ = some (.int .u64 p3) ∧ W.cell? ⟨w.heap.size + 1, 1, none⟩ = some (.int .u64 p4)) (by kernel_rfl) ?_
  refine wpC_take 0 (v := ?_) rfl (by kernel_rfl) (fun _ _ _ h => h) (by kernel_rfl) ?_ ?_; rotate_left; · (intro wC hC; obtain ⟨c1, c2, c3, c4⟩ := hC; go_simp <;> with_reducible rfl)
  refine wpC_take 1 (v := ?_) rfl (by kernel_rfl) (fun _ _ _ h => h) (by kernel_rfl) ?_ ?_; rotate_left; · (intro wC hC; obtain ⟨c1, c2, c3, c4⟩ := hC; go_simp <;> with_reducible rfl)
  refine wpC_take 2 (v := ?_) rfl (by kernel_rfl) (fun _ _ _ h => h) (by kernel_rfl) ?_ ?_; rotate_left; · (intro wC hC; obtain ⟨c1, c2, c3, c4⟩ := hC; go_simp <;> with_reducible rfl)
  refine wpC_take 3 (v := ?_) rfl (by kernel_rfl) (fun _ _ _ h => h) (by kernel_rfl) ?_ ?_; rotate_left; · (intro wC hC; obtain ⟨c1, c2, c3, c4⟩ := hC; go_simp <;> with_reducible rfl)
  refine wpC_take 5 (v := ?_) rfl (by kernel_rfl) (fun _ _ _ h => h) (by kernel_rfl) ?_ ?_; rotate_left; · (intro wC hC; obtain ⟨c1, c2, c3, c4⟩ := hC; go_simp <;> with_reducible rfl)
  refine wpC_take 6 (v := ?_) rfl (by kernel_rfl) (fun _ _ _ h => h) (by kernel_rfl) ?_ ?_; rotate_left; · (intro wC hC; obtain ⟨c1, c2, c3, c4⟩ := hC; go_simp <;> with_reducible rfl)
  refine wpC_step 4 rfl (by kernel_rfl) (by kernel_rfl) (by simp [go_sem, hc1]) (fun K hK => ?_)
  go_simp
  go_wp2_with ((go_at_call 14; refine (k1 _).mono ?_; rintro e w2 ⟨rfl, hb2⟩; have hb12 := bthen (bdrew hb1) hb2; obtain ⟨hc2, hf2⟩ := bcell hb12))
  try (refine hK _ _ ?_; clear hK K)
  refine wpC_step 7 rfl (by kernel_rfl) (by kernel_rfl) (by simp [go_sem, hc2]) (fun K hK => ?_)
  go_simp
  go_wp2_with ((go_at_call 15; refine (k2 _).mono ?_; rintro e w3 ⟨rfl, hb3⟩; have hb13 := bthen hb12 hb3; obtain ⟨hc3, hf3⟩ := bcell hb13))
  try (refine hK _ _ ?_; clear hK K)
  refine wpC_take 8 (v := ?_) rfl (by kernel_rfl) (fun _ _ _ h => h) (by kernel_rfl) ?_ ?_; rotate_left; · (intro wC hC; obtain ⟨c1, c2, c3, c4⟩ := hC; go_simp <;> with_reducible rfl)
  refine wpC_take 9 (v := ?_) rfl (by kernel_rfl) (fun _ _ _ h => h) (by kernel_rfl) ?_ ?_; rotate_left; · (intro wC hC; obtain ⟨c1, c2, c3, c4⟩ := hC; go_simp <;> with_reducible rfl)
  refine wpC_take 10 (v := ?_) rfl (by kernel_rfl) (fun _ _ _ h => h) (by kernel_rfl) ?_ ?_; rotate_left; · (intro wC hC; obtain ⟨c1, c2, c3, c4⟩ := hC; go_simp <;> with_reducible rfl)
  refine wpC_take 11 (v := ?_) rfl (by kernel_rfl) (fun _ _ _ h => h) (by kernel_rfl) ?_ ?_; rotate_left; · (intro wC hC; obtain ⟨c1, c2, c3, c4⟩ := hC; go_simp <;> with_reducible rfl)
  refine wpC_take 12 (v := ?_) rfl (by kernel_rfl) (fun _ _ _ h => h) (by kernel_rfl) ?_ ?_; rotate_left; · (intro wC hC; obtain ⟨c1, c2, c3, c4⟩ := hC; go_simp <;> with_reducible rfl)
  refine wpC_step 13 rfl (by kernel_rfl) (by kernel_rfl) (by simp [go_sem, hc3]) (fun K hK => ?_)
  go_simp
  go_wp2_with ((go_at_call 14; refine (k3 _).mono ?_; rintro e w4 ⟨rfl, hb4⟩; have hb14 := bthen hb13 hb4; obtain ⟨hc4, hf4⟩ := bcell hb14))
  try (refine hK _ _ ?_; clear hK K)
  refine wpC_take 14 (v := ?_) rfl (by kernel_rfl) (fun _ _ _ h => h) (by kernel_rfl) ?_ ?_; rotate_left; · (intro wC hC; obtain ⟨c1, c2, c3, c4⟩ := hC; go_simp <;> with_reducible rfl)
  refine wpC_take 15 (v := ?_) rfl (by kernel_rfl) (fun _ _ _ h => h) (by kernel_rfl) ?_ ?_; rotate_left; · (intro wC hC; obtain ⟨c1, c2, c3, c4⟩ := hC; go_simp <;> with_reducible rfl)
  refine wpC_step 16 rfl (by kernel_rfl) (by kernel_rfl) (by simp [go_sem, hc4]) (fun K hK => ?_)
  go_simp
  try (refine hK _ _ ?_; clear hK K)
  refine wpC_done (by kernel_rfl) (by simp [go_sem, hc4]) ?_
  go_wp2
  refine hQ.out _ _ ⟨by simp, ?_⟩
  exact bthen (bmore (bmore (Below.refl _ _) _) _) hb14
end Go.Proofs.Ytpjegpgnelfeeaa
