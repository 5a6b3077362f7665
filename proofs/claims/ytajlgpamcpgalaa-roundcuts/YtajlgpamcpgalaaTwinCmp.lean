import Derived.Test.YtajlgpamcpgalaaTwinB
import Derived.Test.YtajlgpamcpgalaaRegC
namespace Go.Proofs.Ytajlgpamcpgalaa
open Go.ChangeShapes Go.WideShapes Go.ChangeAt Go.RowKit
set_option linter.unusedVariables false

set_option maxHeartbeats 2000000 in
theorem tcmp_any {a b h1 l1 h2 l2 : Nat} (ha : Tw a h1 l1) (hb : Tw b h2 l2) (w : World) :
    Calls Try.prog 77 #[.agg #[.int .u64 h1, .int .u64 l1], .agg #[.int .u64 h2, .int .u64 l2]] w fun e w' => e = .returned (.int .i64 (cmpN a b)) ∧ Below w.heap.size w w' := by
  refine cps fun Q hQ => ?_
  rw [← cmp_words ha hb] at hQ
  clear ha hb
  obtain ⟨x, hx⟩ : ∃ x, x = cmpN h1 h2 := ⟨_, rfl⟩
  obtain ⟨y, hy⟩ : ∃ x, x = cmpN l1 l2 := ⟨_, rfl⟩
  have r1 := compare_any h1 h2
  have r2 := compare_any l1 l2
  rw [← hx] at r1 hQ
  rw [← hy] at r2 hQ
  obtain ⟨z, hz⟩ : ∃ z, z = if x = 0 then y else x := ⟨_, rfl⟩
  rw [← hz] at hQ
  have HZ : Hid (z = if x = 0 then y else x) := hz
  clear hx hy hz
  go_enter Try.func77, Try.ntmps77
  go_wp2
  refine wpC_region (fun W => W.cell? ⟨w.heap.size, 0, none⟩ = some (.int .u64 h1) ∧ W.cell? ⟨w.heap.size, 1, none⟩ = some (.int .u64 l1) ∧ W.cell? ⟨w.heap.size + 1, 0, none⟩ = some (.int .u64 h2) ∧ W.cell? ⟨w.heap.size + 1, 1, none⟩ = some (.int .u64 l2)) (by kernel_rfl) ?_
  refine wpC_take 0 (v := ?_) rfl (by kernel_rfl) (fun _ _ _ h => h) (by kernel_rfl) ?_ ?_; rotate_left; · (intro wC hC; obtain ⟨c1, c2, c3, c4⟩ := hC; go_simp <;> with_reducible rfl)
  refine wpC_take 1 (v := ?_) rfl (by kernel_rfl) (fun _ _ _ h => h) (by kernel_rfl) ?_ ?_; rotate_left; · (intro wC hC; obtain ⟨c1, c2, c3, c4⟩ := hC; go_simp <;> with_reducible rfl)
  refine wpC_take 2 (v := ?_) rfl (by kernel_rfl) (fun _ _ _ h => h) (by kernel_rfl) ?_ ?_; rotate_left; · (intro wC hC; obtain ⟨c1, c2, c3, c4⟩ := hC; go_simp <;> with_reducible rfl)
  refine wpC_take 3 (v := ?_) rfl (by kernel_rfl) (fun _ _ _ h => h) (by kernel_rfl) ?_ ?_; rotate_left; · (intro wC hC; obtain ⟨c1, c2, c3, c4⟩ := hC; go_simp <;> with_reducible rfl)
  refine wpC_take 5 (v := ?_) rfl (by kernel_rfl) (fun _ _ _ h => h) (by kernel_rfl) ?_ ?_; rotate_left; · (intro wC hC; obtain ⟨c1, c2, c3, c4⟩ := hC; go_simp <;> with_reducible rfl)
  refine wpC_take 6 (v := ?_) rfl (by kernel_rfl) (fun _ _ _ h => h) (by kernel_rfl) ?_ ?_; rotate_left; · (intro wC hC; obtain ⟨c1, c2, c3, c4⟩ := hC; go_simp <;> with_reducible rfl)
  refine wpC_take 7 (v := ?_) rfl (by kernel_rfl) (fun _ _ _ h => h) (by kernel_rfl) ?_ ?_; rotate_left; · (intro wC hC; obtain ⟨c1, c2, c3, c4⟩ := hC; go_simp <;> with_reducible rfl)
  refine wpC_take 8 (v := ?_) rfl (by kernel_rfl) (fun _ _ _ h => h) (by kernel_rfl) ?_ ?_; rotate_left; · (intro wC hC; obtain ⟨c1, c2, c3, c4⟩ := hC; go_simp <;> with_reducible rfl)
  refine wpC_step 4 rfl (by kernel_rfl) (by kernel_rfl) (by simp [go_sem]) (fun K hK => ?_)
  go_simp
  go_wp2_with ((go_at_call_of 84 h1; refine (r1 _).mono ?_; rintro e w' ⟨rfl, hw⟩; rw [hw]; clear hw w'))
  try (refine hK _ _ ?_; clear hK K)
  refine wpC_step 9 rfl (by kernel_rfl) (by kernel_rfl) (by simp [go_sem]) (fun K hK => ?_)
  go_simp
  go_wp2_with ((go_at_call_of 84 l1; refine (r2 _).mono ?_; rintro e w' ⟨rfl, hw⟩; rw [hw]; clear hw w'))
  try (refine hK _ _ ?_; clear hK K)
  refine wpC_step 10 rfl (by kernel_rfl) (by kernel_rfl) (by simp [go_sem]) (fun K hK => ?_)
  go_simp
  try (refine hK _ _ ?_; clear hK K)
  refine wpC_step 11 rfl (by kernel_rfl) (by kernel_rfl) (by simp [go_sem]) (fun K hK => ?_)
  go_simp
  go_wp2_with ((go_at_call 83; refine (or_any' x y z HZ.out _ _ (drew_at _ _ _ _ 0 (by simp)) (drew_at _ _ _ _ 1 (by simp))).mono ?_; rintro e w' ⟨rfl, hw⟩; rw [hw]; clear hw w'))
  try (refine hK _ _ ?_; clear hK K)
  refine wpC_step 12 rfl (by kernel_rfl) (by kernel_rfl) (by simp [go_sem]) (fun K hK => ?_)
  go_simp
  try (refine hK _ _ ?_; clear hK K)
  refine wpC_done (by kernel_rfl) (by simp [go_sem]) ?_
  go_wp2
  refine hQ.out _ _ ⟨rfl, ?_⟩
  exact (bmore (bmore (bmore (Below.refl _ _) _) _) _).drew
end Go.Proofs.Ytajlgpamcpgalaa
