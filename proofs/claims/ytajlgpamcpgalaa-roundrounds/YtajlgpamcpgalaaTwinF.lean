import Derived.Test.YtajlgpamcpgalaaTwinE
namespace Go.Proofs.Ytajlgpamcpgalaa
open Go.ChangeShapes Go.WideShapes Go.ChangeAt Go.RowKit
set_option linter.unusedVariables false

theorem tshl_no (k : Int) (hk : k < 0) (h1 l1 : Nat) (w : World) :
    Calls Try.prog 63 #[.agg #[.int .u64 h1, .int .u64 l1], .int .i64 k] w fun e w' => e = .returned (.tuple #[.agg #[.int .u64 0, .int .u64 0], .bool false, .iface 51 (.int .i64 1)]) ∧ Below w.heap.size w w' := by
  refine cps fun Q hQ => ?_
  go_enter Try.func63, Try.ntmps63
  go_wp2
  refine bodyPost_ret (v := .tuple #[.agg #[.int .u64 0, .int .u64 0], .bool false, .iface 51 (.int .i64 1)]) (by simp [results, Try.results63, go_sem]) rfl (hQ.out _ _ ⟨rfl, ?_⟩)
  exact bmore (bmore (Below.refl _ _) _) _
set_option maxHeartbeats 1000000 in
theorem tshl_any {a h1 l1 h l : Nat} {c : Bool} (k : Nat) (hk : k ≤ 9223372036854775807) (ha : Tw a h1 l1) (hs : Tw ((a * 2 ^ k) % 340282366920938463463374607431768211456) h l) (hc : c = decide (340282366920938463463374607431768211456 ≤ a * 2 ^ k)) (w : World) :
    Calls Try.prog 63 #[.agg #[.int .u64 h1, .int .u64 l1], .int .i64 k] w fun e w' => e = .returned (.tuple #[.agg #[.int .u64 h, .int .u64 l], .bool c, .nilIface]) ∧ Below w.heap.size w w' := by
  refine cps fun Q hQ => ?_
  have k1 := fun w => up_any k hk ha hs w
  obtain ⟨T, hT⟩ : ∃ T, T = (a * 2 ^ k) % 340282366920938463463374607431768211456 / 2 ^ k := ⟨_, rfl⟩
  have hTlt : T < 340282366920938463463374607431768211456 := by rw [hT]; exact Nat.lt_of_le_of_lt (Nat.div_le_self _ _) (Nat.mod_lt _ (by decide))
  have hq : (!decide (T = a)) = decide (340282366920938463463374607431768211456 ≤ a * 2 ^ k) := by
    have hp : 0 < 2 ^ k := Nat.pow_pos (by decide)
    by_cases h0 : 340282366920938463463374607431768211456 ≤ a * 2 ^ k
    · have : T ≠ a := by
        intro h1
        rw [hT] at h1
        have h2 := Nat.div_mul_le_self ((a * 2 ^ k) % 340282366920938463463374607431768211456) (2 ^ k)
        rw [h1] at h2
        have h3 := Nat.mod_lt (a * 2 ^ k) (show 0 < 340282366920938463463374607431768211456 by decide)
        omega
      simp [this, h0]
    · have : T = a := by rw [hT, Nat.mod_eq_of_lt (by omega), Nat.mul_div_cancel _ hp]
      simp [this, h0]
  obtain ⟨h3, l3, ht⟩ : ∃ h3 l3, Tw T h3 l3 := ⟨T / 18446744073709551616, T % 18446744073709551616, by omega, by omega, by omega⟩
  have hTT : Tw ((a * 2 ^ k) % 340282366920938463463374607431768211456 / 2 ^ k) h3 l3 := hT ▸ ht
  have k2 := fun w => down_any k hk hs hTT w
  have hc2 : c = !(decide (h3 = h1) && decide (l3 = l1)) := by
    rw [hc, ← hq]
    by_cases hh : h3 = h1 ∧ l3 = l1
    · rw [hh.1, hh.2] at ht ⊢
      simp
      have := ht.eq.trans ha.eq.symm
      exact this
    · have : ¬ T = a := fun h => hh (by rw [h] at ht; exact ht.one ha)
      rw [decide_eq_false this]
      by_cases h5 : h3 = h1
      · have : l3 ≠ l1 := fun h6 => hh ⟨h5, h6⟩
        simp [this]
      · simp [h5]
  have hcase : (h1 = h3 ∧ l1 = l3 ∧ c = false) ∨ (h1 = h3 ∧ ¬ (l3 : Int) = l1 ∧ c = true) ∨ (¬ (h3 : Int) = h1 ∧ c = true) := by
    by_cases g1 : h3 = h1
    · by_cases g2 : l3 = l1
      · exact .inl ⟨g1.symm, g2.symm, by rw [hc2]; simp [g1, g2]⟩
      · exact .inr (.inl ⟨g1.symm, by omega, by rw [hc2]; simp [g2]⟩)
    · exact .inr (.inr ⟨by omega, by rw [hc2]; simp [g1]⟩)
  clear hc hc2 ht hs ha hq hTT hT hTlt
  rcases hcase with ⟨rfl, rfl, rfl⟩ | ⟨rfl, g2, rfl⟩ | ⟨g1, rfl⟩
  all_goals
    go_enter Try.func63, Try.ntmps63
    go_wp2_with (go_at_call 49; refine (k1 _).mono ?_; rintro e w1 ⟨rfl, hb1⟩; obtain ⟨hc1, hf1⟩ := bcell hb1; have hz : w.heap.size + 1 < w1.heap.size := by have := hb1.size; simp at this; omega)
    have hz0 : w.heap.size < w1.heap.size := by omega
    refine wpC_region (fun W => W.cell? ⟨w.heap.size, 0, none⟩ = some (.int .u64 h1) ∧ W.cell? ⟨w.heap.size, 1, none⟩ = some (.int .u64 l1) ∧ W.cell? ⟨w1.heap.size, 0, none⟩ = some (.int .u64 h) ∧ W.cell? ⟨w1.heap.size, 1, none⟩ = some (.int .u64 l)) (by kernel_rfl) ?_
    refine wpC_take 0 (v := ?_) rfl (by kernel_rfl) (fun _ _ _ h => h) (by kernel_rfl) ?_ ?_; rotate_left; · (intro wC hC; obtain ⟨c1, c2, c3, c4⟩ := hC; go_simp <;> with_reducible rfl)
    refine wpC_take 1 (v := ?_) rfl (by kernel_rfl) (fun _ _ _ h => h) (by kernel_rfl) ?_ ?_; rotate_left; · (intro wC hC; obtain ⟨c1, c2, c3, c4⟩ := hC; go_simp <;> with_reducible rfl)
    refine wpC_take 2 (v := ?_) rfl (by kernel_rfl) (fun _ _ _ h => h) (by kernel_rfl) ?_ ?_; rotate_left; · (intro wC hC; obtain ⟨c1, c2, c3, c4⟩ := hC; go_simp <;> with_reducible rfl)
    refine wpC_take 4 (v := ?_) rfl (by kernel_rfl) (fun _ _ _ h => h) (by kernel_rfl) ?_ ?_; rotate_left; · (intro wC hC; obtain ⟨c1, c2, c3, c4⟩ := hC; go_simp <;> with_reducible rfl)
    refine wpC_step 3 rfl (by kernel_rfl) (by kernel_rfl) (by simp [go_sem, hc1, hz0]) (fun K hK => ?_)
    go_simp
    go_wp2_with ((go_at_call 76; refine (k2 _).mono ?_; rintro e w2 ⟨rfl, hb2⟩; obtain ⟨hc2, hf2⟩ := bcell hb2; have hz2 : w1.heap.size < w2.heap.size := by have := hb2.size; simp at this; omega))
    try (refine hK _ _ ?_; clear hK K)
    refine wpC_take 5 (v := ?_) rfl (by kernel_rfl) (fun _ _ _ h => h) (by kernel_rfl) ?_ ?_; rotate_left; · (intro wC hC; obtain ⟨c1, c2, c3, c4⟩ := hC; go_simp <;> with_reducible rfl)
    refine wpC_step 6 rfl (by kernel_rfl) (by kernel_rfl) (by simp [go_sem, hc1, hc2, hz0]) (fun K hK => ?_)
    go_simp
    try (refine hK _ _ ?_; clear hK K)
    refine wpC_step 7 rfl (by kernel_rfl) (by kernel_rfl) (by simp [go_sem, hc1, hc2, hz0]) (fun K hK => ?_)
    go_simp
    try (refine hK _ _ ?_; clear hK K)
    refine wpC_step 8 rfl (by kernel_rfl) (by kernel_rfl) (by simp [go_sem, hc1, hc2, hz0]) (fun K hK => ?_)
    go_simp
    try (refine hK _ _ ?_; clear hK K)
    refine wpC_done (by kernel_rfl) (by simp [go_sem, hc1, hc2, hz0]) ?_
    go_wp2
    refine bodyPost_ret (v := .tuple #[.agg #[.int .u64 h, .int .u64 l], .bool _, .nilIface]) (by simp [results, Try.results63, go_sem, hc1, hc2, hz, hz0]) rfl (hQ.out _ _ ⟨rfl, ?_⟩)
    exact bset (bset (bthen (bdrew (bmore (bthen (bmore (bmore (Below.refl _ _) _) _) hb1) _)) hb2) (by omega) _ _) (by omega) _ _

theorem tshr_no (k : Int) (hk : k < 0) (h1 l1 : Nat) (w : World) :
    Calls Try.prog 62 #[.agg #[.int .u64 h1, .int .u64 l1], .int .i64 k] w fun e w' => e = .returned (.tuple #[.agg #[.int .u64 0, .int .u64 0], .bool false, .iface 51 (.int .i64 1)]) ∧ Below w.heap.size w w' := by
  refine cps fun Q hQ => ?_
  go_enter Try.func62, Try.ntmps62
  go_wp2
  refine bodyPost_ret (v := .tuple #[.agg #[.int .u64 0, .int .u64 0], .bool false, .iface 51 (.int .i64 1)]) (by simp [results, Try.results62, go_sem]) rfl (hQ.out _ _ ⟨rfl, ?_⟩)
  exact bmore (bmore (Below.refl _ _) _) _
set_option maxHeartbeats 1000000 in
theorem tshr_any {a h1 l1 h l : Nat} {c : Bool} (k : Nat) (hk : k ≤ 9223372036854775807) (ha : Tw a h1 l1) (hs : Tw (a / 2 ^ k) h l) (hc : c = decide (a % 2 ^ k ≠ 0)) (w : World) :
    Calls Try.prog 62 #[.agg #[.int .u64 h1, .int .u64 l1], .int .i64 k] w fun e w' => e = .returned (.tuple #[.agg #[.int .u64 h, .int .u64 l], .bool c, .nilIface]) ∧ Below w.heap.size w w' := by
  refine cps fun Q hQ => ?_
  have k1 := fun w => down_any k hk ha hs w
  obtain ⟨T, hT⟩ : ∃ T, T = (a / 2 ^ k * 2 ^ k) % 340282366920938463463374607431768211456 := ⟨_, rfl⟩
  have hTlt : T < 340282366920938463463374607431768211456 := by rw [hT]; exact Nat.mod_lt _ (by decide)
  have hq : (!decide (T = a)) = decide (a % 2 ^ k ≠ 0) := by
    have h1 := Nat.div_add_mod a (2 ^ k)
    have h2 := ha.lt
    rw [Nat.mul_comm] at h1
    have h3 : T = a / 2 ^ k * 2 ^ k := by rw [hT, Nat.mod_eq_of_lt (by omega)]
    rw [← h3] at h1
    by_cases h0 : a % 2 ^ k = 0
    · have : T = a := by omega
      simp [this, h0]
    · have : T ≠ a := by omega
      simp [this, h0]
  obtain ⟨h3, l3, ht⟩ : ∃ h3 l3, Tw T h3 l3 := ⟨T / 18446744073709551616, T % 18446744073709551616, by omega, by omega, by omega⟩
  have hTT : Tw ((a / 2 ^ k * 2 ^ k) % 340282366920938463463374607431768211456) h3 l3 := hT ▸ ht
  have k2 := fun w => up_any k hk hs hTT w
  have hc2 : c = !(decide (h3 = h1) && decide (l3 = l1)) := by
    rw [hc, ← hq]
    by_cases hh : h3 = h1 ∧ l3 = l1
    · rw [hh.1, hh.2] at ht ⊢
      simp
      have := ht.eq.trans ha.eq.symm
      exact this
    · have : ¬ T = a := fun h => hh (by rw [h] at ht; exact ht.one ha)
      rw [decide_eq_false this]
      by_cases h5 : h3 = h1
      · have : l3 ≠ l1 := fun h6 => hh ⟨h5, h6⟩
        simp [this]
      · simp [h5]
  have hcase : (h1 = h3 ∧ l1 = l3 ∧ c = false) ∨ (h1 = h3 ∧ ¬ (l3 : Int) = l1 ∧ c = true) ∨ (¬ (h3 : Int) = h1 ∧ c = true) := by
    by_cases g1 : h3 = h1
    · by_cases g2 : l3 = l1
      · exact .inl ⟨g1.symm, g2.symm, by rw [hc2]; simp [g1, g2]⟩
      · exact .inr (.inl ⟨g1.symm, by omega, by rw [hc2]; simp [g2]⟩)
    · exact .inr (.inr ⟨by omega, by rw [hc2]; simp [g1]⟩)
  clear hc hc2 ht hs ha hq hTT hT hTlt
  rcases hcase with ⟨rfl, rfl, rfl⟩ | ⟨rfl, g2, rfl⟩ | ⟨g1, rfl⟩
  all_goals
    go_enter Try.func62, Try.ntmps62
    go_wp2_with (go_at_call 76; refine (k1 _).mono ?_; rintro e w1 ⟨rfl, hb1⟩; obtain ⟨hc1, hf1⟩ := bcell hb1; have hz : w.heap.size + 1 < w1.heap.size := by have := hb1.size; simp at this; omega)
    have hz0 : w.heap.size < w1.heap.size := by omega
    refine wpC_region (fun W => W.cell? ⟨w.heap.size, 0, none⟩ = some (.int .u64 h1) ∧ W.cell? ⟨w.heap.size, 1, none⟩ = some (.int .u64 l1) ∧ W.cell? ⟨w1.heap.size, 0, none⟩ = some (.int .u64 h) ∧ W.cell? ⟨w1.heap.size, 1, none⟩ = some (.int .u64 l)) (by kernel_rfl) ?_
    refine wpC_take 0 (v := ?_) rfl (by kernel_rfl) (fun _ _ _ h => h) (by kernel_rfl) ?_ ?_; rotate_left; · (intro wC hC; obtain ⟨c1, c2, c3, c4⟩ := hC; go_simp <;> with_reducible rfl)
    refine wpC_take 1 (v := ?_) rfl (by kernel_rfl) (fun _ _ _ h => h) (by kernel_rfl) ?_ ?_; rotate_left; · (intro wC hC; obtain ⟨c1, c2, c3, c4⟩ := hC; go_simp <;> with_reducible rfl)
    refine wpC_take 2 (v := ?_) rfl (by kernel_rfl) (fun _ _ _ h => h) (by kernel_rfl) ?_ ?_; rotate_left; · (intro wC hC; obtain ⟨c1, c2, c3, c4⟩ := hC; go_simp <;> with_reducible rfl)
    refine wpC_take 4 (v := ?_) rfl (by kernel_rfl) (fun _ _ _ h => h) (by kernel_rfl) ?_ ?_; rotate_left; · (intro wC hC; obtain ⟨c1, c2, c3, c4⟩ := hC; go_simp <;> with_reducible rfl)
    refine wpC_step 3 rfl (by kernel_rfl) (by kernel_rfl) (by simp [go_sem, hc1, hz0]) (fun K hK => ?_)
    go_simp
    go_wp2_with ((go_at_call 49; refine (k2 _).mono ?_; rintro e w2 ⟨rfl, hb2⟩; obtain ⟨hc2, hf2⟩ := bcell hb2; have hz2 : w1.heap.size < w2.heap.size := by have := hb2.size; simp at this; omega))
    try (refine hK _ _ ?_; clear hK K)
    refine wpC_take 5 (v := ?_) rfl (by kernel_rfl) (fun _ _ _ h => h) (by kernel_rfl) ?_ ?_; rotate_left; · (intro wC hC; obtain ⟨c1, c2, c3, c4⟩ := hC; go_simp <;> with_reducible rfl)
    refine wpC_step 6 rfl (by kernel_rfl) (by kernel_rfl) (by simp [go_sem, hc1, hc2, hz0]) (fun K hK => ?_)
    go_simp
    try (refine hK _ _ ?_; clear hK K)
    refine wpC_step 7 rfl (by kernel_rfl) (by kernel_rfl) (by simp [go_sem, hc1, hc2, hz0]) (fun K hK => ?_)
    go_simp
    try (refine hK _ _ ?_; clear hK K)
    refine wpC_step 8 rfl (by kernel_rfl) (by kernel_rfl) (by simp [go_sem, hc1, hc2, hz0]) (fun K hK => ?_)
    go_simp
    try (refine hK _ _ ?_; clear hK K)
    refine wpC_done (by kernel_rfl) (by simp [go_sem, hc1, hc2, hz0]) ?_
    go_wp2
    refine bodyPost_ret (v := .tuple #[.agg #[.int .u64 h, .int .u64 l], .bool _, .nilIface]) (by simp [results, Try.results62, go_sem, hc1, hc2, hz, hz0]) rfl (hQ.out _ _ ⟨rfl, ?_⟩)
    exact bset (bset (bthen (bdrew (bmore (bthen (bmore (bmore (Below.refl _ _) _) _) hb1) _)) hb2) (by omega) _ _) (by omega) _ _
end Go.Proofs.Ytajlgpamcpgalaa
