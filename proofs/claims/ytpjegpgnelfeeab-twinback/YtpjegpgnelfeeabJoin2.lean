import Derived.Test.YtpjegpgnelfeeabJoin1
import Derived.Deep.CutRange
import Derived.Laws.AppendOwnNone
import Derived.Test.YtpjegpgnelfeeabRows
import Derived.Lib.IfaceEq
namespace Go.Proofs.Ytpjegpgnelfeeab
open Go.ChangeShapes Go.WideShapes Go.ChangeAt Go.RowKit
set_option linter.unusedVariables false

theorem tshl_no (k : Int) (hk : k < 0) (h1 l1 : Nat) (w : World) :
    Calls Try.prog 13 #[.agg #[.int .u64 h1, .int .u64 l1], .int .i64 k] w fun e w' => e = .returned (.tuple #[.agg #[.int .u64 0, .int .u64 0], .bool false, .iface 56 (.int .i64 1)]) ∧ Below w.heap.size w w' := by
  refine cps fun Q hQ => ?_
  go_enter Try.func13, Try.ntmps13
  go_wp2
  refine bodyPost_ret (v := .tuple #[.agg #[.int .u64 0, .int .u64 0], .bool false, .iface 56 (.int .i64 1)]) (by simp [results, Try.results13, go_sem]) rfl (hQ.out _ _ ⟨rfl, ?_⟩)
  exact bmore (bmore (Below.refl _ _) _) _
set_option maxHeartbeats 1000000 in
theorem tshl_any {a h1 l1 h l : Nat} {c : Bool} (k : Nat) (hk : k ≤ 9223372036854775807) (ha : Tw a h1 l1) (hs : Tw ((a * 2 ^ k) % 340282366920938463463374607431768211456) h l) (hc : c = decide (340282366920938463463374607431768211456 ≤ a * 2 ^ k)) (w : World) :
    Calls Try.prog 13 #[.agg #[.int .u64 h1, .int .u64 l1], .int .i64 k] w fun e w' => e = .returned (.tuple #[.agg #[.int .u64 h, .int .u64 l], .bool c, .nilIface]) ∧ Below w.heap.size w w' := by
  refine cps fun Q hQ => ?_
  have k1 := fun w => up_any k hk ha hs w
  obtain ⟨T, hT⟩ : ∃ T, T = (a * 2 ^ k) % 340282366920938463463374607431768211456 / 2 ^ k := ⟨_, rfl⟩
  have hTlt : T < 340282366920938463463374607431768211456 := by rw [hT]; exact Nat.lt_of_le_of_lt (Nat.div_le_self _ _) (Nat.mod_lt _ (by decide))
  have hq : (!decide (T = a)) = decide (340282366920938463463374607431768211456 ≤ a * 2 ^ k) := by
    have hp : 0 < 2 ^ k := Nat.pow_pos (by decide)
    by_cases h0 : 340282366920938463463374607431768211456 ≤ a * 2 ^ k
    · have : T ≠ a := by
        intro h1
        rw [hT] at h1
        have h2 := Nat.div_mul_le_self ((a * 2 ^ k) % 340282366920938463463374607431768211456) (2 ^ k)
        rw [h1] at h2
        have h3 := Nat.mod_lt (a * 2 ^ k) (show 0 < 340282366920938463463374607431768211456 by decide)
        omega
      simp [this, h0]
    · have : T = a := by rw [hT, Nat.mod_eq_of_lt (by omega), Nat.mul_div_cancel _ hp]
      simp [this, h0]
  obtain ⟨h3, l3, ht⟩ : ∃ h3 l3, Tw T h3 l3 := ⟨T / 18446744073709551616, T % 18446744073709551616, by omega, by omega, by omega⟩
  have hTT : Tw ((a * 2 ^ k) % 340282366920938463463374607431768211456 / 2 ^ k) h3 l3 := hT ▸ ht
  have k2 := fun w => down_any k hk hs hTT w
  have hc2 : c = !(decide (h3 = h1) && decide (l3 = l1)) := by
    rw [hc, ← hq]
    by_cases hh : h3 = h1 ∧ l3 = l1
    · rw [hh.1, hh.2] at ht ⊢
      simp
      have := ht.eq.trans ha.eq.symm
      exact this
    · have : ¬ T = a := fun h => hh (by rw [h] at ht; exact ht.one ha)
      rw [decide_eq_false this]
      by_cases h5 : h3 = h1
      · have : l3 ≠ l1 := fun h6 => hh ⟨h5, h6⟩
        simp [this]
      · simp [h5]
  have hcase : (h1 = h3 ∧ l1 = l3 ∧ c = false) ∨ (h1 = h3 ∧ ¬ (l3 : Int) = l1 ∧ c = true) ∨ (¬ (h3 : Int) = h1 ∧ c = true) := by
    by_cases g1 : h3 = h1
    · by_cases g2 : l3 = l1
      · exact .inl ⟨g1.symm, g2.symm, by rw [hc2]; simp [g1, g2]⟩
      · exact .inr (.inl ⟨g1.symm, by omega, by rw [hc2]; simp [g2]⟩)
    · exact .inr (.inr ⟨by omega, by rw [hc2]; simp [g1]⟩)
  clear hc hc2 ht hs ha hq hTT hT hTlt
  rcases hcase with ⟨rfl, rfl, rfl⟩ | ⟨rfl, g2, rfl⟩ | ⟨g1, rfl⟩
  all_goals
    go_enter Try.func13, Try.ntmps13
    go_wp2_with (go_at_call 28; refine (k1 _).mono ?_; rintro e w1 ⟨rfl, hb1⟩; obtain ⟨hc1, hf1⟩ := bcell hb1; have hz : w.heap.size + 1 < w1.heap.size := by have := hb1.size; simp at this; omega)
    have hz0 : w.heap.size < w1.heap.size := by omega
    refine wpC_region (fun W => W.cell? ⟨w.heap.size, 0, none⟩ = some (.int .u64 h1) ∧ W.cell? ⟨w.heap.size, 1, none⟩ = some (.int .u64 l1) ∧ W.cell? ⟨w1.heap.size, 0, none⟩ = some (.int .u64 h) ∧ W.cell? ⟨w1.heap.size, 1, none⟩ = some (.int .u64 l)) (by kernel_rfl) ?_
    refine wpC_take 0 (v := ?_) rfl (by kernel_rfl) (fun _ _ _ h => h) (by kernel_rfl) ?_ ?_; rotate_left; · (intro wC hC; obtain ⟨c1, c2, c3, c4⟩ := hC; go_simp <;> with_reducible rfl)
    refine wpC_take 1 (v := ?_) rfl (by kernel_rfl) (fun _ _ _ h => h) (by kernel_rfl) ?_ ?_; rotate_left; · (intro wC hC; obtain ⟨c1, c2, c3, c4⟩ := hC; go_simp <;> with_reducible rfl)
    refine wpC_take 2 (v := ?_) rfl (by kernel_rfl) (fun _ _ _ h => h) (by kernel_rfl) ?_ ?_; rotate_left; · (intro wC hC; obtain ⟨c1, c2, c3, c4⟩ := hC; go_simp <;> with_reducible rfl)
    refine wpC_take 4 (v := ?_) rfl (by kernel_rfl) (fun _ _ _ h => h) (by kernel_rfl) ?_ ?_; rotate_left; · (intro wC hC; obtain ⟨c1, c2, c3, c4⟩ := hC; go_simp <;> with_reducible rfl)
    refine wpC_step 3 rfl (by kernel_rfl) (by kernel_rfl) (by simp [go_sem, hc1, hz0]) (fun K hK => ?_)
    go_simp
    go_wp2_with ((go_at_call 29; refine (k2 _).mono ?_; rintro e w2 ⟨rfl, hb2⟩; obtain ⟨hc2, hf2⟩ := bcell hb2; have hz2 : w1.heap.size < w2.heap.size := by have := hb2.size; simp at this; omega))
    try (refine hK _ _ ?_; clear hK K)
    refine wpC_take 5 (v := ?_) rfl (by kernel_rfl) (fun _ _ _ h => h) (by kernel_rfl) ?_ ?_; rotate_left; · (intro wC hC; obtain ⟨c1, c2, c3, c4⟩ := hC; go_simp <;> with_reducible rfl)
    refine wpC_step 6 rfl (by kernel_rfl) (by kernel_rfl) (by simp [go_sem, hc1, hc2, hz0]) (fun K hK => ?_)
    go_simp
    try (refine hK _ _ ?_; clear hK K)
    refine wpC_step 7 rfl (by kernel_rfl) (by kernel_rfl) (by simp [go_sem, hc1, hc2, hz0]) (fun K hK => ?_)
    go_simp
    try (refine hK _ _ ?_; clear hK K)
    refine wpC_step 8 rfl (by kernel_rfl) (by kernel_rfl) (by simp [go_sem, hc1, hc2, hz0]) (fun K hK => ?_)
    go_simp
    try (refine hK _ _ ?_; clear hK K)
    refine wpC_done (by kernel_rfl) (by simp [go_sem, hc1, hc2, hz0]) ?_
    go_wp2
    refine bodyPost_ret (v := .tuple #[.agg #[.int .u64 h, .int .u64 l], .bool _, .nilIface]) (by simp [results, Try.results13, go_sem, hc1, hc2, hz, hz0]) rfl (hQ.out _ _ ⟨rfl, ?_⟩)
    exact bset (bset (bthen (bdrew (bmore (bthen (bmore (bmore (Below.refl _ _) _) _) hb1) _)) hb2) (by omega) _ _) (by omega) _ _

theorem tshr_no (k : Int) (hk : k < 0) (h1 l1 : Nat) (w : World) :
    Calls Try.prog 14 #[.agg #[.int .u64 h1, .int .u64 l1], .int .i64 k] w fun e w' => e = .returned (.tuple #[.agg #[.int .u64 0, .int .u64 0], .bool false, .iface 56 (.int .i64 1)]) ∧ Below w.heap.size w w' := by
  refine cps fun Q hQ => ?_
  go_enter Try.func14, Try.ntmps14
  go_wp2
  refine bodyPost_ret (v := .tuple #[.agg #[.int .u64 0, .int .u64 0], .bool false, .iface 56 (.int .i64 1)]) (by simp [results, Try.results14, go_sem]) rfl (hQ.out _ _ ⟨rfl, ?_⟩)
  exact bmore (bmore (Below.refl _ _) _) _
set_option maxHeartbeats 1000000 in
theorem tshr_any {a h1 l1 h l : Nat} {c : Bool} (k : Nat) (hk : k ≤ 9223372036854775807) (ha : Tw a h1 l1) (hs : Tw (a / 2 ^ k) h l) (hc : c = decide (a % 2 ^ k ≠ 0)) (w : World) :
    Calls Try.prog 14 #[.agg #[.int .u64 h1, .int .u64 l1], .int .i64 k] w fun e w' => e = .returned (.tuple #[.agg #[.int .u64 h, .int .u64 l], .bool c, .nilIface]) ∧ Below w.heap.size w w' := by
  refine cps fun Q hQ => ?_
  have k1 := fun w => down_any k hk ha hs w
  obtain ⟨T, hT⟩ : ∃ T, T = (a / 2 ^ k * 2 ^ k) % 340282366920938463463374607431768211456 := ⟨_, rfl⟩
  have hTlt : T < 340282366920938463463374607431768211456 := by rw [hT]; exact Nat.mod_lt _ (by decide)
  have hq : (!decide (T = a)) = decide (a % 2 ^ k ≠ 0) := by
    have h1 := Nat.div_add_mod a (2 ^ k)
    have h2 := ha.lt
    rw [Nat.mul_comm] at h1
    have h3 : T = a / 2 ^ k * 2 ^ k := by rw [hT, Nat.mod_eq_of_lt (by omega)]
    rw [← h3] at h1
    by_cases h0 : a % 2 ^ k = 0
    · have : T = a := by omega
      simp [this, h0]
    · have : T ≠ a := by omega
      simp [this, h0]
  obtain ⟨h3, l3, ht⟩ : ∃ h3 l3, Tw T h3 l3 := ⟨T / 18446744073709551616, T % 18446744073709551616, by omega, by omega, by omega⟩
  have hTT : Tw ((a / 2 ^ k * 2 ^ k) % 340282366920938463463374607431768211456) h3 l3 := hT ▸ ht
  have k2 := fun w => up_any k hk hs hTT w
  have hc2 : c = !(decide (h3 = h1) && decide (l3 = l1)) := by
    rw [hc, ← hq]
    by_cases hh : h3 = h1 ∧ l3 = l1
    · rw [hh.1, hh.2] at ht ⊢
      simp
      have := ht.eq.trans ha.eq.symm
      exact this
    · have : ¬ T = a := fun h => hh (by rw [h] at ht; exact ht.one ha)
      rw [decide_eq_false this]
      by_cases h5 : h3 = h1
      · have : l3 ≠ l1 := fun h6 => hh ⟨h5, h6⟩
        simp [this]
      · simp [h5]
  have hcase : (h1 = h3 ∧ l1 = l3 ∧ c = false) ∨ (h1 = h3 ∧ ¬ (l3 : Int) = l1 ∧ c = true) ∨ (¬ (h3 : Int) = h1 ∧ c = true) := by
    by_cases g1 : h3 = h1
    · by_cases g2 : l3 = l1
      · exact .inl ⟨g1.symm, g2.symm, by rw [hc2]; simp [g1, g2]⟩
      · exact .inr (.inl ⟨g1.symm, by omega, by rw [hc2]; simp [g2]⟩)
    · exact .inr (.inr ⟨by omega, by rw [hc2]; simp [g1]⟩)
  clear hc hc2 ht hs ha hq hTT hT hTlt
  rcases hcase with ⟨rfl, rfl, rfl⟩ | ⟨rfl, g2, rfl⟩ | ⟨g1, rfl⟩
  all_goals
    go_enter Try.func14, Try.ntmps14
    go_wp2_with (go_at_call 29; refine (k1 _).mono ?_; rintro e w1 ⟨rfl, hb1⟩; obtain ⟨hc1, hf1⟩ := bcell hb1; have hz : w.heap.size + 1 < w1.heap.size := by have := hb1.size; simp at this; omega)
    have hz0 : w.heap.size < w1.heap.size := by omega
    refine wpC_region (fun W => W.cell? ⟨w.heap.size, 0, none⟩ = some (.int .u64 h1) ∧ W.cell? ⟨w.heap.size, 1, none⟩ = some (.int .u64 l1) ∧ W.cell? ⟨w1.heap.size, 0, none⟩ = some (.int .u64 h) ∧ W.cell? ⟨w1.heap.size, 1, none⟩ = some (.int .u64 l)) (by kernel_rfl) ?_
    refine wpC_take 0 (v := ?_) rfl (by kernel_rfl) (fun _ _ _ h => h) (by kernel_rfl) ?_ ?_; rotate_left; · (intro wC hC; obtain ⟨c1, c2, c3, c4⟩ := hC; go_simp <;> with_reducible rfl)
    refine wpC_take 1 (v := ?_) rfl (by kernel_rfl) (fun _ _ _ h => h) (by kernel_rfl) ?_ ?_; rotate_left; · (intro wC hC; obtain ⟨c1, c2, c3, c4⟩ := hC; go_simp <;> with_reducible rfl)
    refine wpC_take 2 (v := ?_) rfl (by kernel_rfl) (fun _ _ _ h => h) (by kernel_rfl) ?_ ?_; rotate_left; · (intro wC hC; obtain ⟨c1, c2, c3, c4⟩ := hC; go_simp <;> with_reducible rfl)
    refine wpC_take 4 (v := ?_) rfl (by kernel_rfl) (fun _ _ _ h => h) (by kernel_rfl) ?_ ?_; rotate_left; · (intro wC hC; obtain ⟨c1, c2, c3, c4⟩ := hC; go_simp <;> with_reducible rfl)
    refine wpC_step 3 rfl (by kernel_rfl) (by kernel_rfl) (by simp [go_sem, hc1, hz0]) (fun K hK => ?_)
    go_simp
    go_wp2_with ((go_at_call 28; refine (k2 _).mono ?_; rintro e w2 ⟨rfl, hb2⟩; obtain ⟨hc2, hf2⟩ := bcell hb2; have hz2 : w1.heap.size < w2.heap.size := by have := hb2.size; simp at this; omega))
    try (refine hK _ _ ?_; clear hK K)
    refine wpC_take 5 (v := ?_) rfl (by kernel_rfl) (fun _ _ _ h => h) (by kernel_rfl) ?_ ?_; rotate_left; · (intro wC hC; obtain ⟨c1, c2, c3, c4⟩ := hC; go_simp <;> with_reducible rfl)
    refine wpC_step 6 rfl (by kernel_rfl) (by kernel_rfl) (by simp [go_sem, hc1, hc2, hz0]) (fun K hK => ?_)
    go_simp
    try (refine hK _ _ ?_; clear hK K)
    refine wpC_step 7 rfl (by kernel_rfl) (by kernel_rfl) (by simp [go_sem, hc1, hc2, hz0]) (fun K hK => ?_)
    go_simp
    try (refine hK _ _ ?_; clear hK K)
    refine wpC_step 8 rfl (by kernel_rfl) (by kernel_rfl) (by simp [go_sem, hc1, hc2, hz0]) (fun K hK => ?_)
    go_simp
    try (refine hK _ _ ?_; clear hK K)
    refine wpC_done (by kernel_rfl) (by simp [go_sem, hc1, hc2, hz0]) ?_
    go_wp2
    refine bodyPost_ret (v := .tuple #[.agg #[.int .u64 h, .int .u64 l], .bool _, .nilIface]) (by simp [results, Try.results14, go_sem, hc1, hc2, hz, hz0]) rfl (hQ.out _ _ ⟨rfl, ?_⟩)
    exact bset (bset (bthen (bdrew (bmore (bthen (bmore (bmore (Below.refl _ _) _) _) hb1) _)) hb2) (by omega) _ _) (by omega) _ _
end Go.Proofs.Ytpjegpgnelfeeab

namespace Go.Proofs.Ytpjegpgnelfeeab
open Go.ChangeShapes Go.WideShapes Go.ChangeAt Go.RowKit
set_option linter.unusedVariables false

theorem tnorm_zero (w : World) :
    Calls Try.prog 45 #[.agg #[.int .u64 0, .int .u64 0]] w fun e w' => e = .returned (.tuple #[.agg #[.int .u64 0, .int .u64 0], .int .i64 0]) ∧ Below w.heap.size w w' := by
  refine cps fun Q hQ => ?_
  go_enter Try.func45, Try.ntmps45
  go_wp2
  refine bodyPost_ret (v := .tuple #[.agg #[.int .u64 0, .int .u64 0], .int .i64 0]) (by simp [results, Try.results45, go_sem]) rfl (hQ.out _ _ ⟨rfl, ?_⟩)
  exact bmore (bmore (Below.refl _ _) _) _
set_option maxHeartbeats 1000000 in
theorem tnorm_any {a h1 l1 h l k : Nat} (ha : Tw a h1 l1) (h0 : a ≠ 0) (hk : k + blen a = 128) (hs : Tw ((a * 2 ^ k) % 340282366920938463463374607431768211456) h l) (w : World) :
    Calls Try.prog 45 #[.agg #[.int .u64 h1, .int .u64 l1]] w fun e w' => e = .returned (.tuple #[.agg #[.int .u64 h, .int .u64 l], .int .i64 k]) ∧ Below w.heap.size w w' := by
  refine cps fun Q hQ => ?_
  have k1 := fun w => tlen_any ha w
  have k2 := fun w => up_any k (by omega) ha hs w
  have hne : (¬ (h1 : Int) = 0) ∨ (h1 = 0 ∧ ¬ (l1 : Int) = 0) := by have := ha.eq; omega
  clear ha hs h0
  generalize blen a = L at *
  have hkk : (128 : Int) - L = k := by omega
  have hL : L ≤ 128 := by omega
  clear hk
  rcases hne with hne | ⟨rfl, hne⟩
  all_goals
    go_enter Try.func45, Try.ntmps45
    go_wp2_with (first
      | (go_at_call 55; refine (k1 _).mono ?_; rintro e w1 ⟨rfl, hb1⟩; obtain ⟨hc1, hf1⟩ := bcell hb1)
      | (go_at_call 28; refine (k2 _).mono ?_; rintro e w2 ⟨rfl, hb2⟩; have hb12 := bthen hb1 hb2; obtain ⟨hc2, hf2⟩ := bcell hb12))
    refine bodyPost_ret (v := .tuple #[.agg #[.int .u64 h, .int .u64 l], .int .i64 k]) (by simp [results, Try.results45, go_sem, hc2]) rfl (hQ.out _ _ ⟨rfl, ?_⟩)
    exact bset (bset (bthen (bmore (bmore (Below.refl _ _) _) _) hb12) (by omega) _ _) (by omega) _ _
end Go.Proofs.Ytpjegpgnelfeeab

namespace Go.Proofs.Ytpjegpgnelfeeab
open Go.ChangeShapes Go.WideShapes Go.ChangeAt Go.RowKit
set_option linter.unusedVariables false

theorem div64_q {a hi lo y q r : Nat} (ha : a = hi * 18446744073709551616 + lo) (hh : hi < y) (hl : lo ≤ 18446744073709551615) (hy : y ≤ 18446744073709551615) (hq : q = a / y) (hr : r = a % y) (w : World) :
    Calls Try.prog 30 #[.int .u64 hi, .int .u64 lo, .int .u64 y] w fun e w' => e = .returned (.tuple #[.int .u64 q, .int .u64 r]) ∧ ∃ n, w' = w.drewN n := by
  refine (div64_any hi lo y hh hl hy w).mono ?_
  rintro e w' ⟨⟨q', r', rfl, h1, h2⟩, hw⟩
  refine ⟨?_, hw⟩
  rw [h1, h2, hq, hr, ha]
theorem pdiv_zero (h1 l1 : Nat) (w : World) :
    Calls Try.prog 16 #[.agg #[.int .u64 h1, .int .u64 l1], .int .u64 0] w fun e w' => e = .returned (.tuple #[.int .u64 0, .int .u64 0, .iface 56 (.int .i64 4)]) ∧ Below w.heap.size w w' := by
  refine cps fun Q hQ => ?_
  go_enter Try.func16, Try.ntmps16
  go_wp2
  go_ret3
  exact hQ.out _ _ ⟨rfl, bmore (Below.refl _ _) _⟩
theorem pdiv_big (h1 l1 d : Nat) (hd : 0 < d) (hb : d ≤ h1) (w : World) :
    Calls Try.prog 16 #[.agg #[.int .u64 h1, .int .u64 l1], .int .u64 d] w fun e w' => e = .returned (.tuple #[.int .u64 0, .int .u64 0, .iface 56 (.int .i64 5)]) ∧ Below w.heap.size w w' := by
  refine cps fun Q hQ => ?_
  go_enter Try.func16, Try.ntmps16
  go_wp2
  go_ret3
  exact hQ.out _ _ ⟨rfl, bmore (Below.refl _ _) _⟩
theorem pdiv_any {a h1 l1 d q r : Nat} (ha : Tw a h1 l1) (hd : d ≤ 18446744073709551615) (hb : h1 < d) (hq : q = a / d) (hr : r = a % d) (w : World) :
    Calls Try.prog 16 #[.agg #[.int .u64 h1, .int .u64 l1], .int .u64 d] w fun e w' => e = .returned (.tuple #[.int .u64 q, .int .u64 r, .nilIface]) ∧ Below w.heap.size w w' := by
  refine cps fun Q hQ => ?_
  have k1 := fun w => div64_q ha.eq hb ha.lo hd hq hr w
  clear ha hq hr
  go_enter Try.func16, Try.ntmps16
  go_wp2_with (go_at_call 30; refine (k1 _).mono ?_; rintro e w' ⟨rfl, n, rfl⟩)
  go_ret3
  exact hQ.out _ _ ⟨rfl, bdrewN (bmore (Below.refl _ _) _) _⟩
theorem plong_zero (h1 l1 : Nat) (w : World) :
    Calls Try.prog 19 #[.agg #[.int .u64 h1, .int .u64 l1], .int .u64 0] w fun e w' => e = .returned (.tuple #[.agg #[.int .u64 0, .int .u64 0], .int .u64 0, .iface 56 (.int .i64 4)]) ∧ Below w.heap.size w w' := by
  refine cps fun Q hQ => ?_
  go_enter Try.func19, Try.ntmps19
  go_wp2
  refine bodyPost_ret (v := .tuple #[.agg #[.int .u64 0, .int .u64 0], .int .u64 0, .iface 56 (.int .i64 4)]) (by simp [results, Try.results19, go_sem]) rfl (hQ.out _ _ ⟨rfl, ?_⟩)
  exact bmore (bmore (Below.refl _ _) _) _
theorem plong_any {a h1 l1 d h l r : Nat} (ha : Tw a h1 l1) (hd : d ≤ 18446744073709551615) (h0 : 0 < d) (hq : Tw (a / d) h l) (hr : r = a % d) (w : World) :
    Calls Try.prog 19 #[.agg #[.int .u64 h1, .int .u64 l1], .int .u64 d] w fun e w' => e = .returned (.tuple #[.agg #[.int .u64 h, .int .u64 l], .int .u64 r, .nilIface]) ∧ Below w.heap.size w w' := by
  refine cps fun Q hQ => ?_
  obtain ⟨ea, hh, hl⟩ := ha
  obtain ⟨m, hm⟩ : ∃ m, m = h1 % d := ⟨_, rfl⟩
  obtain ⟨t, ht⟩ : ∃ t, t = h1 / d := ⟨_, rfl⟩
  have hmd : m < d := by rw [hm]; exact Nat.mod_lt _ h0
  have e1 : h1 = t * d + m := by rw [hm, ht]; exact (Nat.div_add_mod' h1 d).symm
  have e2 : a = (m * 18446744073709551616 + l1) + t * 18446744073709551616 * d := by
    rw [ea, e1, Nat.add_mul, Nat.mul_right_comm]
    omega
  have e3 : a / d = (m * 18446744073709551616 + l1) / d + t * 18446744073709551616 := by rw [e2, Nat.add_mul_div_right _ _ h0]
  have e4 : a % d = (m * 18446744073709551616 + l1) % d := by rw [e2, Nat.add_mul_mod_self_right]
  have e5 : (m * 18446744073709551616 + l1) / d < 18446744073709551616 := by
    refine Nat.div_lt_of_lt_mul ?_
    have := Nat.mul_le_mul (show m + 1 ≤ d by omega) (Nat.le_refl 18446744073709551616)
    omega
  have et : t ≤ h1 := by rw [ht]; exact Nat.div_le_self _ _
  have hq' : h = t ∧ l = (m * 18446744073709551616 + l1) / d := by
    rw [e3] at hq
    obtain ⟨q1, q2, q3⟩ := hq
    generalize (m * 18446744073709551616 + l1) / d = X at *
    omega
  have k1 := fun w => div64_q (a := m * 18446744073709551616 + l1) rfl hmd hl hd hq'.2 (hr.trans e4) w
  have v1 : (h1 : Int) % d = m := by rw [hm]; exact (Int.natCast_emod h1 d).symm
  have v2 : (h1 : Int) / d = h := by rw [hq'.1, ht]; exact (Int.natCast_ediv h1 d).symm
  have v3 : IntKind.u64.wrap (h : Int) = h := wrapU h (by omega)
  have h3 : ¬ ((d : Int) = 0) := by omega
  clear e1 e2 e3 e4 e5 hq hr hq' et ht hm ea
  go_enter Try.func19, Try.ntmps19
  go_wp2
  go_quiet ((go_at_call 30; exact Calls.quiet_of (k1 _)))
  go_wp2
  refine bodyPost_ret (v := .tuple #[.agg #[.int .u64 h, .int .u64 l], .int .u64 r, .nilIface]) (by simp [results, Try.results19, go_sem]) rfl (hQ.out _ _ ⟨rfl, ?_⟩)
  exact bset (bset (bdrewN (bmore (bmore (Below.refl _ _) _) _) _) (by omega) _ _) (by omega) _ _
theorem ptimes_any {d h2 l2 q h l : Nat} (hd : Tw d h2 l2) (hq : q ≤ 18446744073709551615) (hs : Tw (d * q) h l) (w : World) :
    Calls Try.prog 33 #[.agg #[.int .u64 h2, .int .u64 l2], .int .u64 q] w fun e w' => e = .returned (.agg #[.int .u64 h, .int .u64 l]) ∧ Below w.heap.size w w' := by
  refine cps fun Q hQ => ?_
  obtain ⟨ed, e1, e2⟩ := hd
  have lp := Nat.mul_le_mul e2 hq
  obtain ⟨hm, lm, hp⟩ : ∃ h l, Tw (l2 * q) h l := ⟨l2 * q / 18446744073709551616, l2 * q % 18446744073709551616, by omega, by omega, by omega⟩
  have k1 := fun w => tmul_any e2 hq hp w
  obtain ⟨es, s1, s2⟩ := hs
  obtain ⟨ep, p1, p2⟩ := hp
  obtain ⟨M, hM⟩ : ∃ M, M = h2 * q := ⟨_, rfl⟩
  have ex : d * q = M * 18446744073709551616 + l2 * q := by rw [ed, Nat.add_mul, hM, Nat.mul_right_comm]
  rw [ex, ep] at es
  have f1 : lm = l := by omega
  have f2 : hm + M = h := by omega
  have v1 : IntKind.u64.wrap ((h2 : Int) * q) = M := by rw [mulN, ← hM]; exact wrapU M (by omega)
  have v2 : IntKind.u64.wrap ((hm : Int) + M) = h := by rw [addN, f2]; exact wrapU h (by omega)
  clear ed lp es ep ex hM f2
  subst f1
  go_enter Try.func33, Try.ntmps33
  go_wp2_with (go_at_call 12; refine (k1 _).mono ?_; rintro e w1 ⟨rfl, hb1⟩; obtain ⟨hc1, hf1⟩ := bcell hb1; have z0 : w.heap.size + 1 < w1.heap.size := (by have := hb1.size; simp at this; omega); have z1 : w.heap.size < w1.heap.size := (by omega))
  refine bodyPost_ret (v := .agg #[.int .u64 h, .int .u64 lm]) (by simp [results, Try.results33, go_sem, hc1, z0]) rfl (hQ.out _ _ ⟨rfl, ?_⟩)
  exact bmore (bset (bset (bthen (bmore (bmore (Below.refl _ _) _) _) hb1) (by omega) _ _) (by omega) _ _) _
/-- the guess that leaves room for one more -/
theorem pguess_math {a d j T v q : Nat} (ha : a < 340282366920938463463374607431768211456) (hT : T = 2 ^ (j + 1)) (hv : v = d / T) (hv2 : 9223372036854775808 ≤ v)
    (hq : q = a / 2 / v / 2 ^ j) : (q - min q 1) * d ≤ a ∧ a < (q - min q 1 + 2) * d := by
  have hT2 : T = 2 ∨ 4 ≤ T := by
    rcases Nat.eq_zero_or_pos j with h | h
    · left; rw [hT, h]
    · right; rw [hT]; exact Nat.le_trans (show 4 ≤ 2 ^ 2 by decide) (Nat.pow_le_pow_right (by decide) (by omega))
  have hT0 : 0 < T := by omega
  have hD : v * T ≤ d := by rw [hv]; exact Nat.div_mul_le_self d T
  have hD2 : d < v * T + T := by
    have := Nat.mod_lt d hT0
    have h2 := Nat.div_add_mod' d T
    rw [← hv] at h2
    omega
  have hD3 : 9223372036854775808 * T ≤ v * T := Nat.mul_le_mul_right T hv2
  have hq2 : q = a / (v * T) := by
    rw [hq, Nat.div_div_eq_div_mul, Nat.div_div_eq_div_mul]
    congr 1
    rw [hT, Nat.pow_succ, Nat.mul_left_comm, Nat.mul_comm 2]
  obtain ⟨D, eD⟩ : ∃ D, D = v * T := ⟨_, rfl⟩
  rw [← eD] at hD hD2 hD3 hq2
  have hD0 : 0 < D := by omega
  have q1 : q * D ≤ a := by rw [hq2]; exact Nat.div_mul_le_self a D
  have q2 : a < (q + 1) * D := by
    have := Nat.lt_div_mul_add (a := a) hD0
    rw [← hq2] at this
    rw [Nat.add_mul, Nat.one_mul]
    exact this
  clear hq hq2 hv eD hT
  by_cases h0 : q = 0
  · subst h0
    simp only [Nat.zero_min, Nat.sub_self, Nat.zero_mul, Nat.zero_add]
    refine ⟨Nat.zero_le _, ?_⟩
    omega
  · obtain ⟨i, rfl⟩ : ∃ i, q = i + 1 := ⟨q - 1, by omega⟩
    rw [show min (i + 1) 1 = 1 by omega, Nat.add_sub_cancel]
    constructor
    · have h1 : (i + 1) * (9223372036854775808 * T) ≤ (i + 1) * D := Nat.mul_le_mul_left _ hD3
      have h2 : i * d ≤ i * (D + (T - 1)) := Nat.mul_le_mul_left _ (by omega)
      have h3 : i * (T - 1) ≤ D := by
        rcases hT2 with h | h
        · subst h; omega
        · have h4 : i * (T - 1) ≤ (i + 1) * T := Nat.mul_le_mul (by omega) (by omega)
          have h5 : (i + 1) * (9223372036854775808 * T) = 9223372036854775808 * ((i + 1) * T) := Nat.mul_left_comm _ _ _
          rw [h5] at h1
          generalize (i + 1) * T = X at *
          omega
      rw [Nat.mul_add] at h2
      rw [Nat.add_mul, Nat.one_mul] at q1
      generalize i * D = Y at *
      omega
    · have h1 : (i + 1 + 1) * D ≤ (i + 2) * d := Nat.mul_le_mul (by omega) hD
      omega
set_option maxHeartbeats 1000000 in
theorem pguess_any {a h1 l1 d h2 l2 : Nat} (ha : Tw a h1 l1) (hd : Tw d h2 l2) (hn : 0 < h2) (w : World) :
    Calls Try.prog 32 #[.agg #[.int .u64 h1, .int .u64 l1], .agg #[.int .u64 h2, .int .u64 l2]] w fun e w' => (∃ q : Nat, e = .returned (.int .u64 q) ∧ q ≤ 18446744073709551615 ∧ q * d ≤ a ∧ a < (q + 2) * d) ∧ Below w.heap.size w w' := by
  refine cps fun Q hQ => ?_
  have la := ha.lt
  have ld := hd.lt
  have bd : blen d ≤ 128 := blen_le.2 ld
  have bd2 : ¬ blen d ≤ 64 := fun h => by have := blen_le.1 h; have := hd.eq; omega
  obtain ⟨j, hj⟩ : ∃ j, j = blen d - 65 := ⟨_, rfl⟩
  obtain ⟨k, hk⟩ : ∃ k, k = 63 - j := ⟨_, rfl⟩
  have hkb : k + blen d = 128 := by omega
  have b1 : d < 2 ^ blen d := blen_le.1 (Nat.le_refl _)
  have b2 : 2 ^ (blen d - 1) ≤ d := Nat.le_of_not_lt fun h => by have := blen_le.2 h; omega
  have p0 : 0 < 2 ^ k := Nat.pow_pos (by decide)
  have e1 : 2 ^ blen d * 2 ^ k = 2 ^ 128 := by rw [← Nat.pow_add]; congr 1; omega
  have e2 : 2 ^ (blen d - 1) * 2 ^ k = 2 ^ 127 := by rw [← Nat.pow_add]; congr 1; omega
  have d1 : d * 2 ^ k < 2 ^ 128 := by rw [← e1]; exact Nat.mul_lt_mul_of_pos_right b1 p0
  have d2 : 2 ^ 127 ≤ d * 2 ^ k := by rw [← e2]; exact Nat.mul_le_mul_right _ b2
  have e3 : d / 2 ^ (j + 1) = d * 2 ^ k / 2 ^ 64 := by
    rw [show (64 : Nat) = (j + 1) + k by omega, Nat.pow_add 2 (j + 1) k, Nat.mul_div_mul_right _ _ p0]
  obtain ⟨D, hD⟩ : ∃ D, D = d * 2 ^ k := ⟨_, rfl⟩
  rw [← hD] at d1 d2 e3
  obtain ⟨hh, ll, th⟩ : ∃ h l, Tw D h l := ⟨D / 18446744073709551616, D % 18446744073709551616, by omega, by omega, by omega⟩
  have hne : d ≠ 0 := by have := hd.eq; omega
  have k1 := fun w => tnorm_any hd hne hkb (by rw [← hD, Nat.mod_eq_of_lt (by omega)]; exact th) w
  obtain ⟨h3, l3, t3⟩ : ∃ h l, Tw (a / 2 ^ 1) h l := ⟨a / 2 ^ 1 / 18446744073709551616, a / 2 ^ 1 % 18446744073709551616, by omega, by omega, by omega⟩
  have k2 := fun w => tshr_any 1 (by decide) ha t3 rfl w
  have hh2 : 9223372036854775808 ≤ hh := by have := th.eq; have := th.lo; omega
  have h3b : h3 < hh := by have := t3.eq; omega
  obtain ⟨q0, hq0⟩ : ∃ q, q = a / 2 / hh := ⟨_, rfl⟩
  have k3 := fun w => div64_q (a := a / 2) (q := q0) t3.eq h3b t3.lo th.hi hq0 rfl w
  obtain ⟨q1, hq1⟩ : ∃ q, q = q0 / 2 ^ j := ⟨_, rfl⟩
  have fin := pguess_math (a := a) (d := d) (j := j) (v := hh) (q := q1) la rfl (by rw [e3]; have := th.eq; have := th.lo; omega) hh2 (by rw [hq1, hq0])
  have q0b : q0 ≤ 18446744073709551615 := by
    have : q0 < 18446744073709551616 := by
      rw [hq0]
      refine Nat.div_lt_of_lt_mul ?_
      have := Nat.mul_le_mul (show h3 + 1 ≤ hh by omega) (Nat.le_refl 18446744073709551616)
      have := t3.eq
      have := t3.lo
      omega
    omega
  have q1b : q1 ≤ q0 := by rw [hq1]; exact Nat.div_le_self _ _
  have v1 : (63 : Int) - k = j := by omega
  have v2 : (q0 : Int) / 2 ^ j = q1 := by rw [hq1]; simp
  obtain ⟨q, hq⟩ : ∃ q, q = q1 - min q1 1 := ⟨_, rfl⟩
  rw [← hq] at fin
  have HF : Hid (q ≤ 18446744073709551615 ∧ q * d ≤ a ∧ a < (q + 2) * d) := ⟨by omega, fin.1, fin.2⟩
  have HM : Hid (q = q1 - min q1 1 ∧ q1 ≤ 18446744073709551615) := ⟨hq, by omega⟩
  have k63 : k ≤ 63 := by omega
  generalize decide (a % 2 ^ 1 ≠ 0) = c at *
  generalize a / 2 % hh = r3 at *
  clear la ld bd bd2 hkb b1 b2 p0 e1 e2 d1 d2 e3 hD th hne t3 hh2 h3b hq0 hq1 fin hq hj hk q0b q1b ha hd
  go_enter Try.func32, Try.ntmps32
  go_wp2_with (first
    | (go_at_call 45; refine (k1 _).mono ?_; rintro e w1 ⟨rfl, hb1⟩; obtain ⟨hc1, hf1⟩ := bcell hb1; have z0 : w.heap.size + 1 < w1.heap.size := (by have := hb1.size; simp at this; omega); have z1 : w.heap.size < w1.heap.size := (by omega))
    | (go_at_call 14; refine (k2 _).mono ?_; rintro e w2 ⟨rfl, hb2⟩; obtain ⟨hc2, hf2⟩ := bcell hb2; have z2 : w1.heap.size < w2.heap.size := (by have := hb2.size; simp at this; omega))
    | (go_at_call 30; refine (k3 _).mono ?_; rintro e w' ⟨rfl, n, rfl⟩))
  all_goals
    refine hQ.out _ _ ⟨⟨q, congrArg (fun x => Ending.returned (Value.int .u64 x)) (by have := HM.out; rw [IntKind.wrap_u64]; omega), HF.out⟩, ?_⟩
    exact bdrewN (bmore (bthen (bmore (bthen (bmore (bmore (Below.refl _ _) _) _) hb1) _) hb2) _) _
end Go.Proofs.Ytpjegpgnelfeeab

namespace Go.Proofs.Ytpjegpgnelfeeab
open Go.ChangeShapes Go.WideShapes Go.ChangeAt Go.RowKit
set_option linter.unusedVariables false

theorem pwide_zero (h1 l1 : Nat) (w : World) :
    Calls Try.prog 21 #[.agg #[.int .u64 h1, .int .u64 l1], .agg #[.int .u64 0, .int .u64 0]] w fun e w' => e = .returned (.tuple #[.agg #[.int .u64 0, .int .u64 0], .agg #[.int .u64 0, .int .u64 0], .iface 56 (.int .i64 4)]) ∧ Below w.heap.size w w' := by
  refine cps fun Q hQ => ?_
  have k1 := fun w => plong_zero h1 l1 w
  go_enter Try.func21, Try.ntmps21
  go_wp2_with (go_at_call 19; refine (k1 _).mono ?_; rintro e w1 ⟨rfl, hb1⟩; obtain ⟨hc1, hf1⟩ := bcell hb1; have z0 : w.heap.size + 1 + 1 + 1 < w1.heap.size := (by have := hb1.size; simp at this; omega); have z1 : w.heap.size + 1 + 1 < w1.heap.size := (by omega))
  refine bodyPost_ret (v := .tuple #[.agg #[.int .u64 0, .int .u64 0], .agg #[.int .u64 0, .int .u64 0], .iface 56 (.int .i64 4)]) (by simp [results, Try.results21, go_sem, hc1, z0, z1]) rfl (hQ.out _ _ ⟨rfl, ?_⟩)
  exact bmore (bset (bset (bset (bset (bthen (bmore (bmore (bmore (bmore (Below.refl _ _) _) _) _) _) hb1) (by omega) _ _) (by omega) _ _) (by omega) _ _) (by omega) _ _) _
theorem pwide_low {a h1 l1 d h l r : Nat} (ha : Tw a h1 l1) (hd : d ≤ 18446744073709551615) (h0 : 0 < d) (hq : Tw (a / d) h l) (hr : r = a % d) (w : World) :
    Calls Try.prog 21 #[.agg #[.int .u64 h1, .int .u64 l1], .agg #[.int .u64 0, .int .u64 d]] w fun e w' => e = .returned (.tuple #[.agg #[.int .u64 h, .int .u64 l], .agg #[.int .u64 0, .int .u64 r], .nilIface]) ∧ Below w.heap.size w w' := by
  refine cps fun Q hQ => ?_
  have k1 := fun w => plong_any ha hd h0 hq hr w
  clear ha hq hr
  go_enter Try.func21, Try.ntmps21
  go_wp2_with (go_at_call 19; refine (k1 _).mono ?_; rintro e w1 ⟨rfl, hb1⟩; obtain ⟨hc1, hf1⟩ := bcell hb1; have z0 : w.heap.size + 1 + 1 + 1 < w1.heap.size := (by have := hb1.size; simp at this; omega); have z1 : w.heap.size + 1 + 1 < w1.heap.size := (by omega))
  refine bodyPost_ret (v := .tuple #[.agg #[.int .u64 h, .int .u64 l], .agg #[.int .u64 0, .int .u64 r], .nilIface]) (by simp [results, Try.results21, go_sem, hc1, z0, z1]) rfl (hQ.out _ _ ⟨rfl, ?_⟩)
  exact bmore (bset (bset (bset (bset (bthen (bmore (bmore (bmore (bmore (Below.refl _ _) _) _) _) _) hb1) (by omega) _ _) (by omega) _ _) (by omega) _ _) (by omega) _ _) _
theorem tw_some {n : Nat} (h : n < 340282366920938463463374607431768211456) : ∃ h l, Tw n h l := ⟨n / 18446744073709551616, n % 18446744073709551616, by omega, by omega, by omega⟩
set_option maxHeartbeats 2000000 in
theorem pwide_any {a h1 l1 d h2 l2 q h l : Nat} (ha : Tw a h1 l1) (hd : Tw d h2 l2) (hn : 0 < h2) (hq : q = a / d) (hr : Tw (a % d) h l) (w : World) :
    Calls Try.prog 21 #[.agg #[.int .u64 h1, .int .u64 l1], .agg #[.int .u64 h2, .int .u64 l2]] w fun e w' => e = .returned (.tuple #[.agg #[.int .u64 0, .int .u64 q], .agg #[.int .u64 h, .int .u64 l], .nilIface]) ∧ Below w.heap.size w w' := by
  refine cps fun Q hQ => ?_
  have k1 := fun w => pguess_any ha hd hn w
  have hne : ¬ ((h2 : Int) = 0) := by omega
  have HA : Hid (Tw a h1 l1 ∧ Tw d h2 l2) := ⟨ha, hd⟩
  have HQ : Hid (q = a / d ∧ Tw (a % d) h l ∧ 0 < h2) := ⟨hq, hr, hn⟩
  clear ha hd hn hq hr
  go_enter Try.func21, Try.ntmps21
  go_upto_region 5 with (go_at_call 32; refine (k1 _).mono ?_; rintro e w1 ⟨⟨g, rfl, g1, g2, g3⟩, hb1⟩; obtain ⟨hc1, hf1⟩ := bcell hb1; have z0 : w.heap.size + 1 + 1 + 1 < w1.heap.size := (by have := hb1.size; simp at this; omega); have z1 : w.heap.size + 1 + 1 < w1.heap.size := (by omega))
  obtain ⟨ta, td⟩ := HA.out
  obtain ⟨hqq, hrr, hn⟩ := HQ.out
  have hgd : d * g < 340282366920938463463374607431768211456 := by have := ta.lt; rw [Nat.mul_comm]; omega
  obtain ⟨h3, l3, t3⟩ := tw_some hgd
  have g2' : d * g ≤ a := by rw [Nat.mul_comm]; exact g2
  have laa := ta.lt
  obtain ⟨L, hL⟩ : ∃ L, L = a - d * g := ⟨_, rfl⟩
  obtain ⟨h4, l4, t4⟩ := tw_some (n := L) (by omega)
  have e1 : (a + 340282366920938463463374607431768211456 - d * g) % 340282366920938463463374607431768211456 = L := by
    rw [hL, show a + 340282366920938463463374607431768211456 - d * g = (a - d * g) + 340282366920938463463374607431768211456 by omega, Nat.add_mod_right, Nat.mod_eq_of_lt (by omega)]
  have k2 := fun w => ptimes_any td g1 t3 w
  have k3 := fun w => tsub_any (c := false) ta t3 (e1 ▸ t4) (by rw [decide_eq_false (by omega)]) w
  have HL : Hid (Tw L h4 l4 ∧ L = a - d * g ∧ g * d ≤ a ∧ a < (g + 2) * d) := ⟨t4, hL, g2, g3⟩
  clear ta td hqq hrr hn hgd t3 g2' laa hL t4 e1 g2 g3
  have H1 : Below w.heap.size w w1 := bthen (bmore (bmore (bmore (bmore (Below.refl _ _) _) _) _) _) hb1
  have y0 : w.heap.size < w1.heap.size := by omega
  have y1 : w.heap.size + 1 < w1.heap.size := by omega
  have r1 : Below w1.heap.size w1 w1 := Below.refl _ _
  have cls : ∀ W, Below w1.heap.size w1 W → W.cell? ⟨w.heap.size, 0, none⟩ = some (.int .u64 h1) ∧ W.cell? ⟨w.heap.size, 1, none⟩ = some (.int .u64 l1) ∧ W.cell? ⟨w.heap.size + 1, 0, none⟩ = some (.int .u64 h2) ∧ W.cell? ⟨w.heap.size + 1, 1, none⟩ = some (.int .u64 l2) := fun W hW => by
    obtain ⟨c, _⟩ := bcell hW
    rw [c _ _ y0, c _ _ y0, c _ _ y1, c _ _ y1]
    simp [go_sem, hc1]
  go_cut [11, 12] from 34 (fun s11 s12 wx => ∃ n : Nat, s11 = .pointer (some ⟨n, 0, none⟩) ∧ s12 = .bool false ∧ Below w1.heap.size w1 wx ∧ w1.heap.size ≤ n ∧ n < wx.heap.size ∧
    wx.cell? ⟨n, 0, none⟩ = some (.int .u64 h4) ∧ wx.cell? ⟨n, 1, none⟩ = some (.int .u64 l4) ∧ wx.frozen? ⟨n, 0, none⟩ = false ∧ wx.frozen? ⟨n, 1, none⟩ = false)
  case first =>
    refine wpC_region (fun W => W.cell? ⟨w.heap.size, 0, none⟩ = some (.int .u64 h1) ∧ W.cell? ⟨w.heap.size, 1, none⟩ = some (.int .u64 l1) ∧ W.cell? ⟨w.heap.size + 1, 0, none⟩ = some (.int .u64 h2) ∧ W.cell? ⟨w.heap.size + 1, 1, none⟩ = some (.int .u64 l2)) (by kernel_rfl) ?_
    refine wpC_take 0 (v := ?_) rfl (by kernel_rfl) (fun _ _ _ h => h) (by kernel_rfl) ?_ ?_; rotate_left; · (intro wC hC; obtain ⟨c1, c2, c3, c4⟩ := hC; go_simp <;> with_reducible rfl)
    refine wpC_take 1 (v := ?_) rfl (by kernel_rfl) (fun _ _ _ h => h) (by kernel_rfl) ?_ ?_; rotate_left; · (intro wC hC; obtain ⟨c1, c2, c3, c4⟩ := hC; go_simp <;> with_reducible rfl)
    refine wpC_take 2 (v := ?_) rfl (by kernel_rfl) (fun _ _ _ h => h) (by kernel_rfl) ?_ ?_; rotate_left; · (intro wC hC; obtain ⟨c1, c2, c3, c4⟩ := hC; go_simp <;> with_reducible rfl)
    refine wpC_two 3 8 rfl rfl (by kernel_rfl) (by kernel_rfl) (by kernel_rfl) (cls _ (bdrew r1)) (fun K hK => ?_) (fun K hK => ?_)
    · skip
      go_simp
      go_wp2_with ((go_at_call 33; refine (k2 _).mono ?_; rintro e w2 ⟨rfl, hb2⟩; have B2 := bthen (bdrew r1) hb2))
      try (refine hK _ _ ?_; clear hK K)
      have y2 : w1.heap.size ≤ w2.heap.size := B2.size
      refine wpC_two 4 8 rfl rfl (by kernel_rfl) (by kernel_rfl) (by kernel_rfl) (cls _ B2) (fun K hK => ?_) (fun K hK => ?_)
      · skip
        go_simp
        go_wp2_with ((go_at_call 11; refine (k3 _).mono ?_; rintro e w3 ⟨rfl, hb3⟩; have B3 := bthen B2 hb3))
        try (refine hK _ _ ?_; clear hK K)
        have y3 : w1.heap.size ≤ w3.heap.size := B3.size
        refine wpC_take 5 (v := ?_) rfl (by kernel_rfl) (fun _ _ _ h => h) (by kernel_rfl) ?_ ?_; rotate_left; · (intro wC hC; obtain ⟨c1, c2, c3, c4⟩ := hC; go_simp <;> with_reducible rfl)
        refine wpC_take 6 (v := ?_) rfl (by kernel_rfl) (fun _ _ _ h => h) (by kernel_rfl) ?_ ?_; rotate_left; · (intro wC hC; obtain ⟨c1, c2, c3, c4⟩ := hC; go_simp <;> with_reducible rfl)
        refine wpC_take 7 (v := ?_) rfl (by kernel_rfl) (fun _ _ _ h => h) (by kernel_rfl) ?_ ?_; rotate_left; · (intro wC hC; obtain ⟨c1, c2, c3, c4⟩ := hC; go_simp <;> with_reducible rfl)
        refine wpC_step 8 rfl (by kernel_rfl) (by kernel_rfl) (cls _ B3) (fun K hK => ?_)
        go_simp
        try (refine hK _ _ ?_; clear hK K)
        refine wpC_step 9 rfl (by kernel_rfl) (by kernel_rfl) (cls _ (bmore B3 _)) (fun K hK => ?_)
        go_simp
        try (refine hK _ _ ?_; clear hK K)
        refine wpC_step 10 rfl (by kernel_rfl) (by kernel_rfl) (cls _ (bmore B3 _)) (fun K hK => ?_)
        go_simp
        try (refine hK _ _ ?_; clear hK K)
        refine wpC_done (by kernel_rfl) (cls _ (bmore B3 _)) ?_
        go_wp2_with fail
        go_meet
        case rel =>
          refine ⟨_, rfl, rfl, bmore B3 _, y3, by simp, ?_, ?_, ?_, ?_⟩ <;> simp [go_sem]
      · skip
        go_simp
        try (refine hK _ _ ?_; clear hK K)
        refine wpC_step 4 rfl (by kernel_rfl) (by kernel_rfl) (cls _ (bmore B2 _)) (fun K hK => ?_)
        go_simp
        go_wp2_with ((go_at_call 11; refine (k3 _).mono ?_; rintro e w3 ⟨rfl, hb3⟩; have B3 := bthen (bmore B2 _) hb3; obtain ⟨hc3, hf3⟩ := bcell hb3; have y4 : w2.heap.size < w3.heap.size := (by have := hb3.size; simp at this; omega)))
        try (refine hK _ _ ?_; clear hK K)
        refine wpC_step 5 rfl (by kernel_rfl) (by kernel_rfl) (cls _ B3) (fun K hK => ?_)
        go_simp
        try (refine hK _ _ ?_; clear hK K)
        refine wpC_take 6 (v := ?_) rfl (by kernel_rfl) (fun _ _ _ h => h) (by kernel_rfl) ?_ ?_; rotate_left; · (intro wC hC; obtain ⟨c1, c2, c3, c4⟩ := hC; go_simp <;> with_reducible rfl)
        refine wpC_take 7 (v := ?_) rfl (by kernel_rfl) (fun _ _ _ h => h) (by kernel_rfl) ?_ ?_; rotate_left; · (intro wC hC; obtain ⟨c1, c2, c3, c4⟩ := hC; go_simp <;> with_reducible rfl)
        refine wpC_step 9 rfl (by kernel_rfl) (by kernel_rfl) (cls _ B3) (fun K hK => ?_)
        go_simp
        try (refine hK _ _ ?_; clear hK K)
        refine wpC_step 10 rfl (by kernel_rfl) (by kernel_rfl) (cls _ (bset (bset B3 y2 _ _) y2 _ _)) (fun K hK => ?_)
        go_simp
        try (refine hK _ _ ?_; clear hK K)
        refine wpC_done (by kernel_rfl) (cls _ (bset (bset B3 y2 _ _) y2 _ _)) ?_
        go_wp2_with fail
        go_meet
        case rel =>
          refine ⟨_, rfl, rfl, bset (bset B3 y2 _ _) y2 _ _, y2, by simp [y4], ?_, ?_, ?_, ?_⟩ <;> simp [go_sem, hc3, hf3]
    · skip
      go_simp
      try (refine hK _ _ ?_; clear hK K)
      refine wpC_step 3 rfl (by kernel_rfl) (by kernel_rfl) (cls _ (bmore (bdrew r1) _)) (fun K hK => ?_)
      go_simp
      go_wp2_with ((go_at_call 33; refine (k2 _).mono ?_; rintro e w2 ⟨rfl, hb2⟩; obtain ⟨hc2, hf2⟩ := bcell hb2; have B2 := bthen (bmore (bdrew r1) _) hb2; have y4 : w1.heap.size < w2.heap.size := (by have := hb2.size; simp at this; omega)))
      try (refine hK _ _ ?_; clear hK K)
      refine wpC_step 4 rfl (by kernel_rfl) (by kernel_rfl) (cls _ B2) (fun K hK => ?_)
      go_simp
      go_wp2_with ((go_at_call 11; refine (k3 _).mono ?_; rintro e w3 ⟨rfl, hb3⟩; have B3 := bthen B2 hb3; obtain ⟨hc3, hf3⟩ := bcell hb3; have y5 : w1.heap.size < w3.heap.size := (by have := hb3.size; omega)))
      try (refine hK _ _ ?_; clear hK K)
      refine wpC_step 5 rfl (by kernel_rfl) (by kernel_rfl) (cls _ B3) (fun K hK => ?_)
      go_simp
      try (refine hK _ _ ?_; clear hK K)
      refine wpC_take 6 (v := ?_) rfl (by kernel_rfl) (fun _ _ _ h => h) (by kernel_rfl) ?_ ?_; rotate_left; · (intro wC hC; obtain ⟨c1, c2, c3, c4⟩ := hC; go_simp <;> with_reducible rfl)
      refine wpC_take 7 (v := ?_) rfl (by kernel_rfl) (fun _ _ _ h => h) (by kernel_rfl) ?_ ?_; rotate_left; · (intro wC hC; obtain ⟨c1, c2, c3, c4⟩ := hC; go_simp <;> with_reducible rfl)
      refine wpC_step 9 rfl (by kernel_rfl) (by kernel_rfl) (cls _ B3) (fun K hK => ?_)
      go_simp
      try (refine hK _ _ ?_; clear hK K)
      refine wpC_step 10 rfl (by kernel_rfl) (by kernel_rfl) (cls _ (bset (bset B3 (Nat.le_refl _) _ _) (Nat.le_refl _) _ _)) (fun K hK => ?_)
      go_simp
      try (refine hK _ _ ?_; clear hK K)
      refine wpC_done (by kernel_rfl) (cls _ (bset (bset B3 (Nat.le_refl _) _ _) (Nat.le_refl _) _ _)) ?_
      go_wp2_with fail
      go_meet
      case rel =>
        refine ⟨_, rfl, rfl, bset (bset B3 (Nat.le_refl _) _ _) (Nat.le_refl _) _ _, Nat.le_refl _, by simp [y5], ?_, ?_, ?_, ?_⟩ <;> simp [go_sem, hc2, hc3, hf2, hf3, y4]
  case rest =>
    obtain ⟨n, rfl, rfl, HB, n1, n2, c5, c6, f5, f6⟩ := hcut
    obtain ⟨hcx, hfx⟩ := bcell HB
    have x0 : w.heap.size < wc.heap.size := by omega
    have x1 : w.heap.size + 1 < wc.heap.size := by omega
    have x2 : w.heap.size + 1 + 1 < wc.heap.size := by omega
    have x3 : w.heap.size + 1 + 1 + 1 < wc.heap.size := by omega
    have H2 : Below w.heap.size w wc := bthen H1 HB
    have n3 : w.heap.size ≤ n := by omega
    obtain ⟨tl, eL, e1, e2⟩ := HL.out
    obtain ⟨ta, td⟩ := HA.out
    obtain ⟨eq, tr, hn⟩ := HQ.out
    have hd0 : 0 < d := by have := td.eq; omega
    rw [Nat.mul_comm d g] at eL
    obtain ⟨h5, l5, t5⟩ := tw_some (n := (L + 340282366920938463463374607431768211456 - d) % 340282366920938463463374607431768211456) (Nat.mod_lt _ (by decide))
    have m2 : ¬ (w.heap.size + 1 + 1 = n) := by omega
    have m3 : ¬ (w.heap.size + 1 + 1 + 1 = n) := by omega
    have m4 : ¬ (n = w.heap.size + 1 + 1) := by omega
    have m5 : ¬ (n = w.heap.size + 1 + 1 + 1) := by omega
    by_cases hc : L < d
    · have fq : a / d = g := div_at e1 (by rw [Nat.add_mul, Nat.one_mul]; omega)
      have fm : a % d = L := by
        have := Nat.div_add_mod' a d
        rw [fq] at this
        omega
      rw [fm] at tr
      obtain ⟨g1, g2⟩ := tl.one tr
      have eq2 := eq.trans fq
      clear fq fm eq
      subst g1 g2 eq2
      have k4 := fun w => tsub_any (c := true) tl td t5 (decide_eq_true hc).symm w
      clear tl ta td tr t5 e1 e2 eL hn hd0 hc k1 k2 k3 cls r1 H1 HB
      go_wp2_with (go_at_call 11; refine (k4 _).mono ?_; rintro e w4 ⟨rfl, hb4⟩; obtain ⟨hc4, hf4⟩ := bcell hb4; have y4 : wc.heap.size ≤ w4.heap.size := hb4.size; have n4 : n < w4.heap.size := (by omega); have y2 : w.heap.size + 1 + 1 < w4.heap.size := (by omega); have y3 : w.heap.size + 1 + 1 + 1 < w4.heap.size := (by omega))
      go_region
      all_goals
        go_wp2
        refine bodyPost_ret (v := .tuple #[.agg #[.int .u64 0, .int .u64 q], .agg #[.int .u64 h4, .int .u64 l4], .nilIface]) (by simp [results, Try.results21, go_sem, hc4, hcx, hc1, y2, y3, x2, x3, z0, z1]) rfl (hQ.out _ _ ⟨rfl, ?_⟩)
        exact bdrew (bmore (bset (bset (bset (bset (bthen H2 hb4) (by omega) _ _) (by omega) _ _) (by omega) _ _) (by omega) _ _) _)
    · have hLd : d ≤ L := by omega
      obtain ⟨ge, gr⟩ : a / d = g + 1 ∧ a % d = L - d := by
        have fq : a / d = g + 1 := div_at (by rw [Nat.add_mul, Nat.one_mul]; omega) (by omega)
        have := Nat.div_add_mod' a d
        rw [fq, Nat.add_mul, Nat.one_mul] at this
        exact ⟨fq, by omega⟩
      rw [gr] at tr
      have tL := tl.lt
      rw [show (L + 340282366920938463463374607431768211456 - d) % 340282366920938463463374607431768211456 = L - d by
        rw [show L + 340282366920938463463374607431768211456 - d = (L - d) + 340282366920938463463374607431768211456 by omega, Nat.add_mod_right, Nat.mod_eq_of_lt (by omega)]] at t5
      have k4 := fun w => tsub_any (c := false) tl td (h := h5) (l := l5) (by
        rw [show (L + 340282366920938463463374607431768211456 - d) % 340282366920938463463374607431768211456 = L - d by
          rw [show L + 340282366920938463463374607431768211456 - d = (L - d) + 340282366920938463463374607431768211456 by omega, Nat.add_mod_right, Nat.mod_eq_of_lt (by omega)]]
        exact t5) (decide_eq_false (by omega)).symm w
      obtain ⟨g1, g2⟩ := t5.one tr
      have eq2 := eq.trans ge
      have q64 : q ≤ 18446744073709551615 := by
        have h1 : q * d ≤ a := by rw [eq]; exact Nat.div_mul_le_self a d
        have h2 := Nat.mul_le_mul (Nat.le_refl q) (show 18446744073709551616 ≤ d by have := td.eq; omega)
        have := ta.lt
        omega
      have v1 : IntKind.u64.wrap ((g : Int) + 1) = q := by rw [eq2]; exact wrapU (g + 1) (by omega)
      clear eq ge gr eq2
      subst g1 g2
      clear tl ta td tr t5 e1 e2 eL hn hd0 hc k1 k2 k3 cls r1 H1 HB tL hLd q64
      go_wp2_with (go_at_call 11; refine (k4 _).mono ?_; rintro e w4 ⟨rfl, hb4⟩; obtain ⟨hc4, hf4⟩ := bcell hb4; have y4 : wc.heap.size ≤ w4.heap.size := hb4.size; have n4 : n < w4.heap.size := (by omega); have y2 : w.heap.size + 1 + 1 < w4.heap.size := (by omega); have y3 : w.heap.size + 1 + 1 + 1 < w4.heap.size := (by omega))
      go_region
      all_goals
        go_wp2
        go_region
        all_goals
          go_wp2
          refine bodyPost_ret (v := .tuple #[.agg #[.int .u64 0, .int .u64 q], .agg #[.int .u64 h5, .int .u64 l5], .nilIface]) (by simp [results, Try.results21, go_sem, hc4, hcx, hc1, y2, y3, x2, x3, z0, z1]) rfl (hQ.out _ _ ⟨rfl, ?_⟩)
          exact bdrew (bdrew (bmore (bset (bset (bset (bset (bset (bset (bthen H2 hb4) n3 _ _) n3 _ _) (by omega) _ _) (by omega) _ _) (by omega) _ _) (by omega) _ _) _))
end Go.Proofs.Ytpjegpgnelfeeab

namespace Go.Proofs.Ytpjegpgnelfeeab
open Go.ChangeShapes Go.WideShapes Go.ChangeAt Go.RowKit
set_option linter.unusedVariables false
set_option maxRecDepth 100000

/-- the digits from i on, noughts below -/
def hiz (n i m : Nat) : List Nat := (List.range m).map fun j => if i ≤ j then top n j % 16777216 else 0
theorem hiz_length (n i m : Nat) : (hiz n i m).length = m := by simp [hiz]
theorem hiz_start (n m : Nat) : hiz n m m = List.replicate m 0 := by
  apply List.ext_getElem
  · simp [hiz]
  · intro j h1 h2
    have : j < m := by simpa [hiz] using h1
    simp [hiz]; omega
theorem hiz_zero (n m : Nat) : hiz n 0 m = low n m := by simp [hiz, low]
theorem hiz_set (n i m : Nat) (h : i < m) : (hiz n (i + 1) m).set i (top n i % 16777216) = hiz n i m := by
  apply List.ext_getElem
  · simp [hiz]
  · intro j h1 h2
    have hj : j < m := by simpa [hiz] using h2
    rw [List.getElem_set]
    by_cases e : i = j
    · subst e; simp [hiz]
    · rw [if_neg e]
      simp only [hiz, List.getElem_map, List.getElem_range]
      by_cases g : i ≤ j
      · rw [if_pos (by omega), if_pos g]
      · rw [if_neg (by omega), if_neg g]
theorem dig_push (r d : Nat) (hd : d < 16777216) : ∃ z, d :: dig r = dig (r * 16777216 + d) ++ List.replicate z 0 := by
  by_cases h : r * 16777216 + d = 0
  · have h1 : r = 0 := by omega
    have h2 : d = 0 := by omega
    subst h1 h2
    exact ⟨1, by simp [dig_zero]⟩
  · refine ⟨0, ?_⟩
    rw [dig_pos h, show (r * 16777216 + d) % 16777216 = d by omega, show (r * 16777216 + d) / 16777216 = r by omega]
    simp
/-- one step of the division from above -/
theorem div_step (a b i : Nat) (hb : 0 < b) :
    top (a / b) i % 16777216 = (top a (i + 1) % b * 16777216 + top a i % 16777216) / b ∧
    (top a (i + 1) % b * 16777216 + top a i % 16777216) % b = top a i % b ∧ top a (i + 1) % b * 16777216 + top a i % 16777216 < b * 16777216 := by
  have e : top a i = top a (i + 1) * 16777216 + top a i % 16777216 := by rw [top_succ]; omega
  have hd : top a i % 16777216 < 16777216 := Nat.mod_lt _ (by decide)
  rw [top_div]
  generalize top a i % 16777216 = d at *
  have hr := Nat.mod_lt (top a (i + 1)) hb
  have hN : top a (i + 1) % b * 16777216 + d < b * 16777216 := by
    have h := Nat.mul_le_mul_right 16777216 (Nat.succ_le_of_lt hr)
    rw [Nat.succ_mul] at h
    exact Nat.lt_of_lt_of_le (Nat.add_lt_add_left hd _) h
  have hq : (top a (i + 1) % b * 16777216 + d) / b < 16777216 := Nat.div_lt_of_lt_mul hN
  have h0 : top a i = b * (top a (i + 1) / b * 16777216) + (top a (i + 1) % b * 16777216 + d) := by
    have h1 : top a (i + 1) * 16777216 = (b * (top a (i + 1) / b) + top a (i + 1) % b) * 16777216 := by rw [Nat.div_add_mod]
    rw [e, h1, Nat.add_mul, Nat.mul_assoc]; omega
  refine ⟨?_, ?_, hN⟩
  · rw [h0, Nat.mul_add_div hb, Nat.add_comm, Nat.add_mul_mod_self_right, Nat.mod_eq_of_lt hq]
  · rw [h0, Nat.mul_add_mod]
theorem Row.other {w : World} {v u : Value} {l : List Nat} {g j : Nat} (h : Row w v l) (hne : v.ownBlock ≠ some g) : Row (w.setCell ⟨g, j, none⟩ u) v l := by
  obtain ⟨ao, c, rfl, hc, hl, h⟩ := h
  refine ⟨ao, c, rfl, hc, hl, ?_⟩
  rcases h with h | ⟨b, off, rfl, hlt, h⟩
  · exact .inl h
  · have hb : b ≠ g := fun e => hne (by rw [e]; rfl)
    refine .inr ⟨b, off, rfl, by simpa using hlt, fun i hi => ?_⟩
    rw [World.cell?_setCell_other w ⟨g, j, none⟩ ⟨b, off + i, none⟩ u (by intro e; exact hb (by injection e with e1; exact e1.symm)), h i hi]
theorem times_int (va : Value) (a q : Nat) (qq : Int) (hqq : qq = (q : Int)) (hq : q ≤ 16777216) (hS : dlen a ≤ 1099511627776) (w : World) (ha : Row w va (dig a)) :
    Calls Try.prog 48 #[va, .int .i64 qq] w fun e w' => ∃ v, e = .returned v ∧ Row w' v (dig (a * q)) ∧ Below w.heap.size w w' := by
  rw [hqq]; exact times_any va a q hq hS w ha
theorem owns_alloc {w : World} {base n sz : Nat} {e : TypeId} {v : Value} {xs : List Value} (h : w.ownsRow base e sz v n xs) (o : Obj) : (w.alloc o).ownsRow base e sz v n xs := h.alloc o
theorem bmore0 {a w : World} (h : Below a.heap.size a w) (o : Obj) : Below a.heap.size a (w.alloc o) := h.alloc h.size o
theorem bthen0 {a W w : World} (h : Below a.heap.size a W) (hb : Below W.heap.size W w) : Below a.heap.size a w := h.trans (hb.mono h.size)

theorem bdrewN' {B : Nat} {a W : World} (h : Below B a W) (q : Nat) : Below B a (W.drewN q) := below_drewN h q

set_option maxHeartbeats 4000000 in
theorem ndivmod_any (va vb : Value) (a b : Nat) (hb0 : 0 < b) (hA : dlen a ≤ 549755813888) (hB : dlen b ≤ 549755813888) (w : World) (ha : Row w va (dig a)) (hb : Row w vb (dig b)) :
    Calls Try.prog 35 #[va, vb] w fun e w' => ∃ v1 v2, e = .returned (.tuple #[v1, v2]) ∧ Row w' v1 (dig (a / b)) ∧ Row w' v2 (dig (a % b)) ∧ Below w.heap.size w w' := by
  refine cps fun Q hQ => ?_
  obtain ⟨aa, ca, rfl, h1, h2, hra⟩ := ha.reads
  have HB : Hid (Row w vb (dig b)) := hb
  clear ha hb
  obtain ⟨i0, hi, hz0, hz1, hz2⟩ := info_parts infoInt
  have hdn : ∀ n, n < b * 16777216 → dlen n ≤ 549755813889 := by
    intro n hn
    refine Nat.le_trans (dlen_le_of_lt (k := dlen b + 1) (Nat.lt_of_lt_of_le hn ?_)) (by omega)
    rw [Nat.pow_succ]
    exact Nat.mul_le_mul_right _ (Nat.le_of_lt (lt_of_dlen_le (Nat.le_refl _)))
  have HDN : Hid _ := hdn
  have HST : Hid (∀ i, _) := fun i => div_step a b i hb0
  clear hdn
  go_enter Try.func35, Try.ntmps35
  go_wp2_with (at_make; go_must (refine wpList_make_full _ rfl _ _ 60 rfl w.heap.size 3 i0 (.int .i64 0) 1 Try.underlying60 hi hz0 hz1 .i64 .i64 _ _ (dlen a) rfl rfl (by omega) (by omega) (by rw [hz2]; omega) (by unfold maxLen; omega) (Nat.le_refl _) ?_); intro w1 hown hg)
  rw [made_ints, ← hiz_start (a / b)] at hown
  have hb0' := (Below.refl w.heap.size w).grown hg (Nat.le_refl _) (fun k hk => by cases hk)
  have hs0 : w.heap.size < w1.heap.size := by have := hown.lt w.heap.size rfl; omega
  clear hg
  go_loopw [7, 8] (fun rv iv wr => ∃ (k r : Nat), k ≤ dlen a ∧ iv = .int .i64 ((k : Int) - 1) ∧ Hid (r = top a k % b) ∧ Row wr rv (dig r) ∧ wr.ownsRow w.heap.size 3 1 (.slice (some ⟨w.heap.size, 0, none⟩) (dlen a) (dlen a)) (dlen a) ((hiz (a / b) k (dlen a)).map enc) ∧ Below w.heap.size w wr) (fun _ iv _ => (intOf iv + 1).toNat)
  case atStart => exact ⟨dlen a, 0, Nat.le_refl _, by go_num, by show _ = _; rw [top_eq_zero (Nat.le_refl _), Nat.zero_mod], by rw [dig_zero]; exact row_nil _, hown, hb0'⟩
  case round =>
    obtain ⟨k, r, hk, rfl, hr, hrow, hown, hbel⟩ := hrel
    by_cases h0 : 0 < k
    · obtain ⟨i, rfl⟩ : ∃ i, k = i + 1 := ⟨k - 1, by omega⟩
      rw [show ((i + 1 : Nat) : Int) - 1 = (i : Int) by omega]
      obtain ⟨ba, oa, rfl, hba, hra⟩ := hra.resolve_left (by omega)
      have hcell := (hbel.cell (p := ⟨ba, oa + i, none⟩) hba).trans (hra i (by omega))
      obtain ⟨s1, s2, s3⟩ := HST.out i
      rw [← hr.out] at s1 s2 s3
      obtain ⟨d, hd⟩ : ∃ d, d = top a i % 16777216 := ⟨_, rfl⟩
      rw [← hd] at s1 s2 s3 hcell
      have bd : d ≤ 16777215 := by omega
      obtain ⟨N, hN⟩ : ∃ N, N = r * 16777216 + d := ⟨_, rfl⟩
      obtain ⟨z, hz⟩ := dig_push r d (by omega)
      rw [← hN] at s1 s2 s3 hz
      have hdN := HDN.out N s3
      have HS : Hid (top (a / b) i % 16777216 = N / b ∧ N % b = top a i % b ∧ N < b * 16777216) := ⟨s1, s2, s3⟩
      have HZ : Hid (d :: dig r = dig N ++ List.replicate z 0) := hz
      have HROW : Hid (Row wr _ (dig r)) := hrow
      have HOWN : Hid (wr.ownsRow _ _ _ _ _ _) := hown
      have hlit : (wr.alloc (.cells #[.int .i64 (d : Int)] 3)).ownsRow wr.heap.size 3 1 (.slice (some ⟨wr.heap.size, 0, none⟩) 1 1) 1 [.int .i64 (d : Int)] := World.ownsRow_lit wr #[.int .i64 (d : Int)] 1 (Nat.le_refl _) (by decide) rfl
      have hdr : dlen r ≤ 549755813888 := by
        refine Nat.le_trans (dlen_mono ?_) hB
        rw [hr.out]; exact Nat.le_of_lt (Nat.mod_lt _ hb0)
      obtain ⟨ar, cr, rfl, q1, q2, q3⟩ := hrow
      clear s1 s2 s3 hd hN hz hown
      rcases q3 with ⟨rfl, hnil, rfl⟩ | ⟨br, or_, rfl, hbr, hcr⟩
      · have hL : (dig r).length = 0 := by rw [hnil]; rfl
        have hz1 : d :: dig r = [d] := by rw [hnil]
        have hr1 : Row (wr.alloc (.cells #[.int .i64 (d : Int)] 3)) (.slice (some ⟨wr.heap.size, 0, none⟩) 1 1) (d :: dig r) := by rw [hz1]; exact row_own (l := [d]) hlit
        rw [hL]
        clear hz1 hL hnil
        go_wp2_with (first
          | (at_builtin; go_must (refine wpList_append_own_none rfl _ _ 60 rfl wr.heap.size 3 i0 1 Try.underlying60 hi _ _ _ rfl hlit rfl ?_))
          | (go_at_call 47; refine (cut_own _ _ N z HZ.out _ hr1).mono ?_; rintro e w' ⟨v3, rfl, hr3, hw, hv3⟩; rw [hw]; clear hw w'))
        have HNE : Hid (v3.ownBlock ≠ some w.heap.size) := by
          show _ ≠ _
          have g := (HOWN.out.lt w.heap.size rfl).2
          rw [hv3]
          intro e
          have e1 : wr.heap.size = w.heap.size := by simpa [Value.ownBlock] using e
          omega
        clear hv3
        have HB3 : Hid (Row (wr.alloc (.cells #[.int .i64 (d : Int)] 3)) _ (dig b)) := HB.out.below (bmore0 hbel _)
        have HR3 : Hid (Row (wr.alloc (.cells #[.int .i64 (d : Int)] 3)) v3 (dig N)) := hr3
        have HOW : Hid ((wr.alloc (.cells #[.int .i64 (d : Int)] 3)).ownsRow _ _ _ _ _ _) := (owns_alloc HOWN.out _)
        have HBW : Hid (Below w.heap.size w (wr.alloc (.cells #[.int .i64 (d : Int)] 3))) := (bmore0 hbel _)
        have hsW := HBW.out.size
        clear hr3
        go_loopw [10, 11] (fun lv hv wr2 => ∃ (lo hi : Nat), lo < hi ∧ hi ≤ 16777216 ∧ Hid (b * lo ≤ N) ∧ Hid (N < b * hi) ∧ lv = .int .i64 lo ∧ hv = .int .i64 hi ∧ ∃ q, Below (wr.alloc (.cells #[.int .i64 (d : Int)] 3)).heap.size (wr.alloc (.cells #[.int .i64 (d : Int)] 3)) wr2) (fun lv hv _ => (intOf hv - intOf lv).toNat)
        case atStart => exact ⟨0, 16777216, by decide, by decide, (by show _ ≤ _; omega), HS.out.2.2, rfl, rfl, 0, Below.refl _ _⟩
        case round =>
          obtain ⟨lo, hi', hlt, hhi, hlo, hup, rfl, rfl, q', hbel2⟩ := hrel
          by_cases hgo : lo + 1 < hi'
          · obtain ⟨mid, hmid⟩ : ∃ m, m = (lo + hi') / 2 := ⟨_, rfl⟩
            have hmi : ((lo : Int) + hi') / 2 = (mid : Int) := by omega
            have m1 : lo < mid := by omega
            have m2 : mid < hi' := by omega
            obtain ⟨x, hx⟩ : ∃ x, x = cmpN (b * mid) N := ⟨_, rfl⟩
            have hxx : (x ≤ 0 ∧ b * mid ≤ N) ∨ (0 < x ∧ N < b * mid) := by
              rw [hx]
              rcases Nat.lt_trichotomy (b * mid) N with g | g | g
              · rw [cmpN_lt g]; exact .inl ⟨by decide, by omega⟩
              · rw [g, cmpN_eq]; exact .inl ⟨by decide, Nat.le_refl _⟩
              · rw [cmpN_gt g]; exact .inr ⟨by decide, g⟩
            have k5 := fun va vb w h1 h2 => ncmp_any va vb (b * mid) N w h1 h2
            rw [← hx] at k5
            have hS2 : dlen b ≤ 1099511627776 := by omega
            clear hmid hx
            have HR4 := HR3.out.below hbel2
            have HB4 := HB3.out.below hbel2
            rcases hxx with ⟨hx1, hx2⟩ | ⟨hx1, hx2⟩
            all_goals
              have HX2 : Hid _ := hx2
              clear hx2
              go_wp2_with (first
                | (go_at_call 48; refine (times_any _ b mid (by omega) hS2 _ HB4).mono ?_; rintro e w4 ⟨v4, rfl, hr4, hb4⟩)
                | (go_at_call 41; refine (k5 _ _ _ hr4 (HR4.below hb4)).mono ?_; rintro e w5 ⟨rfl, q5, rfl⟩))
              go_roundw
              case measure => simp [intOf]; omega
              case rel => first
                | exact ⟨mid, hi', by omega, by omega, HX2.out, hup, rfl, rfl, 0, bdrewN' (hbel2.trans (hb4.mono hbel2.size)) _⟩
                | exact ⟨lo, mid, by omega, by omega, hlo, HX2.out, rfl, rfl, 0, bdrewN' (hbel2.trans (hb4.mono hbel2.size)) _⟩
          · have hlo' : N / b = lo := by
              have g1 := hlo.out
              have g2 := hup.out
              have g3 : hi' = lo + 1 := by omega
              rw [g3, Nat.mul_comm] at g2
              rw [Nat.mul_comm] at g1
              exact Nat.div_eq_of_lt_le g1 g2
            have hS := HS.out
            rw [hlo'] at hS
            have hown2 := owns_below HOW.out hbel2
            obtain ⟨y, hy⟩ : ∃ y, ((hiz (a / b) (i + 1) (dlen a)).map enc)[i]? = some y := ⟨_, List.getElem?_eq_getElem (by simp [hiz]; omega)⟩
            have hce := hown2.cellAt i (by omega)
            rw [hy] at hce
            have hfr := hown2.frozenAt i
            have hst := (hown2.stored i (enc lo)).1
            have hset : (hiz (a / b) (i + 1) (dlen a)).set i lo = hiz (a / b) i (dlen a) := by rw [← hS.1]; exact hiz_set _ _ _ (by omega)
            rw [← List.map_set, hset] at hst
            have H2 := bthen0 HBW.out hbel2
            have H3 : Below w.heap.size w (wr.setCell ⟨w.heap.size, i, none⟩ (enc lo)) := H2.setCell (p := ⟨w.heap.size, i, none⟩) (Nat.le_refl _) _
            have HB5 := HB.out.below H3
            have HR5 : Row (wr.setCell ⟨w.heap.size, i, none⟩ (enc lo)) v3 (dig N) := (HR3.out.below hbel2).other HNE.out
            have hS2 : dlen b ≤ 1099511627776 := by omega
            have hS3 : dlen N ≤ 1099511627776 := by omega
            have HST2 : Hid _ := hst
            have hdm := Nat.div_add_mod N b
            rw [hlo'] at hdm
            have HD : Hid (N - b * lo = top a i % b) := show _ = _ by rw [← hS.2.1]; omega
            have HLO : Hid (b * lo ≤ N) := hlo
            clear hlo' hS hown2 hy hst H2 hdm
            go_wp2_with (first
              | (go_at_call 48; refine (times_any _ b lo (by omega) hS2 _ HB5).mono ?_; rintro e w6 ⟨v6, rfl, hr6, hb6⟩)
              | (go_at_call 42; refine (nsub_any _ _ N (b * lo) HLO.out hS3 _ (HR5.below hb6) hr6).mono ?_; rintro e w7 ⟨v7, rfl, hr7, hb7⟩))
            go_roundw
            case rel => exact ⟨i, N - b * lo, by omega, by go_num, HD.out, hr7, owns_below (owns_below HST2.out hb6) hb7, bthen0 (bthen0 H3 hb6) hb7⟩
            case measure => simp [intOf]
      · have g := (HOWN.out.lt w.heap.size rfl).2
        go_wp2_with (at_builtin; go_must (refine wpList_append_own _ rfl _ _ 60 rfl wr.heap.size 3 i0 (.int .i64 0) 1 8 Try.underlying60 hi hz0 hz1 hz2 rfl (by decide) _ _ _ rfl hlit ⟨br, or_, none⟩ (dig r).length cr ((dig r).map enc) rfl (by simp) ?_ (by simp [enc]; intros; rfl) (by unfold maxLen; unfold dlen at hdr; omega) (by unfold dlen at hdr; omega) (by simp) ?_))
        · intro j u hj
          rw [List.getElem?_map, Option.map_eq_some_iff] at hj
          obtain ⟨x, hx, rfl⟩ := hj
          have hlt : j < (dig r).length := (List.getElem?_eq_some_iff.1 hx).1
          have := hcr j hlt
          have this : wr.cell? ⟨br, or_ + j, none⟩ = some (.int .i64 (x : Nat)) := by rw [this, List.getD_eq_getElem?_getD, hx]; rfl
          have this : (wr.alloc (.cells #[.int .i64 (d : Int)] 3)).cell? ⟨br, or_ + j, none⟩ = some (.int .i64 (x : Nat)) := (World.cell?_alloc_past _ _ _ hbr).trans this
          unfold Addr.add
          split
          · rename_i h; have hj0 : j = 0 := by simpa using h
            subst hj0; exact this
          · exact this
        · intro v2 w2 hown2' hg2 _
          have hbw2 : Below w.heap.size w w2 := (bmore0 hbel _).grown hg2 (by simp; omega) (fun k hk => by have h : wr.heap.size = k := (by simpa [Value.ownBlock] using hk); omega)
          have how2 := (owns_alloc HOWN.out (.cells #[.int .i64 (d : Int)] 3)).kept hg2 (by right; simp [Value.ownBlock]; omega)
          have hr1 : Row w2 v2 (d :: dig r) := row_own (l := d :: dig r) hown2'
          have hv2 := hown2'.lt
          clear hg2 hown2'
          go_wp2_with (go_at_call 47; refine (cut_own _ _ N z HZ.out _ hr1).mono ?_; rintro e w' ⟨v3, rfl, hr3, hw, hv3⟩; rw [hw]; clear hw w')
          have HNE : Hid (v3.ownBlock ≠ some w.heap.size) := by
            show _ ≠ _
            rw [hv3]
            intro e
            have := (hv2 _ e).1
            omega
          clear hv3 hv2
          have HB3 : Hid (Row w2 _ (dig b)) := HB.out.below hbw2
          have HR3 : Hid (Row w2 v3 (dig N)) := hr3
          have HOW : Hid (w2.ownsRow _ _ _ _ _ _) := how2
          have HBW : Hid (Below w.heap.size w w2) := hbw2
          have hsW := HBW.out.size
          clear hr3
          go_loopw [10, 11] (fun lv hv wr2 => ∃ (lo hi : Nat), lo < hi ∧ hi ≤ 16777216 ∧ Hid (b * lo ≤ N) ∧ Hid (N < b * hi) ∧ lv = .int .i64 lo ∧ hv = .int .i64 hi ∧ ∃ q, Below w2.heap.size w2 wr2) (fun lv hv _ => (intOf hv - intOf lv).toNat)
          case atStart => exact ⟨0, 16777216, by decide, by decide, (by show _ ≤ _; omega), HS.out.2.2, rfl, rfl, 0, Below.refl _ _⟩
          case round =>
            obtain ⟨lo, hi', hlt, hhi, hlo, hup, rfl, rfl, q', hbel2⟩ := hrel
            by_cases hgo : lo + 1 < hi'
            · obtain ⟨mid, hmid⟩ : ∃ m, m = (lo + hi') / 2 := ⟨_, rfl⟩
              have hmi : ((lo : Int) + hi') / 2 = (mid : Int) := by omega
              have m1 : lo < mid := by omega
              have m2 : mid < hi' := by omega
              obtain ⟨x, hx⟩ : ∃ x, x = cmpN (b * mid) N := ⟨_, rfl⟩
              have hxx : (x ≤ 0 ∧ b * mid ≤ N) ∨ (0 < x ∧ N < b * mid) := by
                rw [hx]
                rcases Nat.lt_trichotomy (b * mid) N with g | g | g
                · rw [cmpN_lt g]; exact .inl ⟨by decide, by omega⟩
                · rw [g, cmpN_eq]; exact .inl ⟨by decide, Nat.le_refl _⟩
                · rw [cmpN_gt g]; exact .inr ⟨by decide, g⟩
              have k5 := fun va vb w h1 h2 => ncmp_any va vb (b * mid) N w h1 h2
              rw [← hx] at k5
              have hS2 : dlen b ≤ 1099511627776 := by omega
              clear hmid hx
              have HR4 := HR3.out.below hbel2
              have HB4 := HB3.out.below hbel2
              rcases hxx with ⟨hx1, hx2⟩ | ⟨hx1, hx2⟩
              all_goals
                have HX2 : Hid _ := hx2
                clear hx2
                go_wp2_with (first
                  | (go_at_call 48; refine (times_any _ b mid (by omega) hS2 _ HB4).mono ?_; rintro e w4 ⟨v4, rfl, hr4, hb4⟩)
                  | (go_at_call 41; refine (k5 _ _ _ hr4 (HR4.below hb4)).mono ?_; rintro e w5 ⟨rfl, q5, rfl⟩))
                go_roundw
                case measure => simp [intOf]; omega
                case rel => first
                  | exact ⟨mid, hi', by omega, by omega, HX2.out, hup, rfl, rfl, 0, bdrewN' (hbel2.trans (hb4.mono hbel2.size)) _⟩
                  | exact ⟨lo, mid, by omega, by omega, hlo, HX2.out, rfl, rfl, 0, bdrewN' (hbel2.trans (hb4.mono hbel2.size)) _⟩
            · have hlo' : N / b = lo := by
                have g1 := hlo.out
                have g2 := hup.out
                have g3 : hi' = lo + 1 := by omega
                rw [g3, Nat.mul_comm] at g2
                rw [Nat.mul_comm] at g1
                exact Nat.div_eq_of_lt_le g1 g2
              have hS := HS.out
              rw [hlo'] at hS
              have hown2 := owns_below HOW.out hbel2
              obtain ⟨y, hy⟩ : ∃ y, ((hiz (a / b) (i + 1) (dlen a)).map enc)[i]? = some y := ⟨_, List.getElem?_eq_getElem (by simp [hiz]; omega)⟩
              have hce := hown2.cellAt i (by omega)
              rw [hy] at hce
              have hfr := hown2.frozenAt i
              have hst := (hown2.stored i (enc lo)).1
              have hset : (hiz (a / b) (i + 1) (dlen a)).set i lo = hiz (a / b) i (dlen a) := by rw [← hS.1]; exact hiz_set _ _ _ (by omega)
              rw [← List.map_set, hset] at hst
              have H2 := bthen0 HBW.out hbel2
              have H3 : Below w.heap.size w (wr.setCell ⟨w.heap.size, i, none⟩ (enc lo)) := H2.setCell (p := ⟨w.heap.size, i, none⟩) (Nat.le_refl _) _
              have HB5 := HB.out.below H3
              have HR5 : Row (wr.setCell ⟨w.heap.size, i, none⟩ (enc lo)) v3 (dig N) := (HR3.out.below hbel2).other HNE.out
              have hS2 : dlen b ≤ 1099511627776 := by omega
              have hS3 : dlen N ≤ 1099511627776 := by omega
              have HST2 : Hid _ := hst
              have hdm := Nat.div_add_mod N b
              rw [hlo'] at hdm
              have HD : Hid (N - b * lo = top a i % b) := show _ = _ by rw [← hS.2.1]; omega
              have HLO : Hid (b * lo ≤ N) := hlo
              clear hlo' hS hown2 hy hst H2 hdm
              go_wp2_with (first
                | (go_at_call 48; refine (times_any _ b lo (by omega) hS2 _ HB5).mono ?_; rintro e w6 ⟨v6, rfl, hr6, hb6⟩)
                | (go_at_call 42; refine (nsub_any _ _ N (b * lo) HLO.out hS3 _ (HR5.below hb6) hr6).mono ?_; rintro e w7 ⟨v7, rfl, hr7, hb7⟩))
              go_roundw
              case rel => exact ⟨i, N - b * lo, by omega, by go_num, HD.out, hr7, owns_below (owns_below HST2.out hb6) hb7, bthen0 (bthen0 H3 hb6) hb7⟩
              case measure => simp [intOf]
    · have e : k = 0 := by omega
      subst e
      rw [hiz_zero] at hown
      have hle : dlen (a / b) ≤ dlen a := dlen_mono (Nat.div_le_self _ _)
      rw [low_ge hle] at hown
      have HRW : Hid (Row wr _ _) := row_own hown
      have hr' : r = a % b := hr.out
      have HROW : Hid (Row wr _ (dig (a % b))) := hr' ▸ hrow
      clear hown hrow hr' hra
      go_wp2_with (go_at_call 47; refine (cut_any _ _ (a / b) _ rfl _ HRW.out).mono ?_; rintro e w' ⟨v', rfl, hv, hw⟩; rw [hw]; clear hw w')
      try go_ret2
      exact hQ.out _ _ ⟨_, _, rfl, hv, HROW.out, hbel⟩
end Go.Proofs.Ytpjegpgnelfeeab

namespace Go.Proofs.Ytpjegpgnelfeeab
open Go.ChangeShapes Go.WideShapes Go.ChangeAt Go.RowKit
set_option linter.unusedVariables false

theorem rwide_zero (h1 l1 : Nat) (hh : h1 ≤ 18446744073709551615) (hl : l1 ≤ 18446744073709551615) (w : World) :
    Calls Try.prog 22 #[.agg #[.int .u64 h1, .int .u64 l1], .agg #[.int .u64 0, .int .u64 0]] w fun e w' => e = .returned (.tuple #[.agg #[.int .u64 0, .int .u64 0], .agg #[.int .u64 0, .int .u64 0], .int .i64 4]) ∧ Below w.heap.size w w' := by
  refine cps fun Q hQ => ?_
  have k1 : ∀ w, Calls Try.prog 34 #[.agg #[.int .u64 0, .int .u64 0]] w fun e w' => ∃ v, e = .returned v ∧ Row w' v (dig 0) ∧ Below w.heap.size w w' := fun w => rof_any (n := 0) (h := 0) (l := 0) ⟨by decide, by decide, by decide⟩ w
  go_enter Try.func22, Try.ntmps22
  go_wp2_with (go_at_call 34; refine (k1 _).mono ?_; rintro e w1 ⟨v1, rfl, hr1, hb1⟩; obtain ⟨hc1, hf1⟩ := bcell hb1; obtain ⟨a1, c1, rfl, x1, x2⟩ := hr1.num; rw [dlen_zero])
  refine bodyPost_ret (v := .tuple #[.agg #[.int .u64 0, .int .u64 0], .agg #[.int .u64 0, .int .u64 0], .int .i64 4]) (by simp [results, Try.results22, go_sem, hc1]) rfl (hQ.out _ _ ⟨rfl, ?_⟩)
  exact bset (bset (bset (bset (bthen (bmore (bmore (bmore (bmore (Below.refl _ _) _) _) _) _) hb1) (by omega) _ _) (by omega) _ _) (by omega) _ _) (by omega) _ _
set_option maxHeartbeats 1000000 in
theorem rwide_any {a d h1 l1 h2 l2 h3 l3 h4 l4 : Nat} (ha : Tw a h1 l1) (hd : Tw d h2 l2) (h0 : 0 < d) (hq : Tw (a / d) h3 l3) (hr : Tw (a % d) h4 l4) (w : World) :
    Calls Try.prog 22 #[.agg #[.int .u64 h1, .int .u64 l1], .agg #[.int .u64 h2, .int .u64 l2]] w fun e w' => e = .returned (.tuple #[.agg #[.int .u64 h3, .int .u64 l3], .agg #[.int .u64 h4, .int .u64 l4], .int .i64 0]) ∧ Below w.heap.size w w' := by
  refine cps fun Q hQ => ?_
  have k1 := fun w => rof_any hd w
  have k2 := fun w => rof_any ha w
  have sm : ∀ {n : Nat}, n < 340282366920938463463374607431768211456 → dlen n ≤ 549755813888 := fun h => Nat.le_trans (dlen_small (by omega)) (by decide)
  have k3 := fun va vb w x y => ndivmod_any va vb a d h0 (sm ha.lt) (sm hd.lt) w x y
  have lq := hq.lt
  have lr := hr.lt
  have k4 := fun v w x => told_any (n := a / d) (h := h3) (l := l3) (dlen_ok (by omega)) (by rw [Nat.mod_eq_of_lt lq]; exact hq) v w x
  have k5 := fun v w x => told_any (n := a % d) (h := h4) (l := l4) (dlen_ok (by omega)) (by rw [Nat.mod_eq_of_lt lr]; exact hr) v w x
  have e0 : dlen d ≠ 0 := fun h => by have := dlen_eq_zero.1 h; omega
  have e1 : ((dlen d : Int) == 0) = false := by simp; exact e0
  clear ha hd h0 hq hr lq lr sm e0
  go_enter Try.func22, Try.ntmps22
  go_wp2_with (first
    | (have chk := hb3; clear chk; go_at_call 36; refine (k4 _ _ hr3).mono ?_; rintro e w4 ⟨rfl, hb4⟩; have hb14 := bthen hb13 hb4; have hr4 := hr3'.below hb4; clear hb3)
    | (go_at_call 36; refine (k5 _ _ hr4).mono ?_; rintro e w5 ⟨rfl, hb5⟩; have hb15 := bthen hb14 hb5; obtain ⟨hc5, hf5⟩ := bcell hb15)
    | (go_at_call_of 34 h2; refine (k1 _).mono ?_; rintro e w1 ⟨v1, rfl, hr1, hb1⟩; obtain ⟨hc1, hf1⟩ := bcell hb1; have hr1' := hr1; obtain ⟨a1, c1, rfl, x1, x2⟩ := hr1'.num; clear hr1')
    | (go_at_call_of 34 h1; refine (k2 _).mono ?_; rintro e w2 ⟨v2, rfl, hr2, hb2⟩; have hb12 := bthen hb1 hb2)
    | (go_at_call 35; refine (k3 _ _ _ hr2 (hr1.below hb2)).mono ?_; rintro e w3 ⟨v3, v4, rfl, hr3, hr3', hb3⟩; have hb13 := bthen hb12 hb3))
  refine bodyPost_ret (v := .tuple #[.agg #[.int .u64 h3, .int .u64 l3], .agg #[.int .u64 h4, .int .u64 l4], .int .i64 0]) (by simp [results, Try.results22, go_sem, hc5]) rfl (hQ.out _ _ ⟨rfl, ?_⟩)
  exact bset (bset (bset (bset (bthen (bmore (bmore (bmore (bmore (Below.refl _ _) _) _) _) _) hb15) (by omega) _ _) (by omega) _ _) (by omega) _ _) (by omega) _ _
end Go.Proofs.Ytpjegpgnelfeeab

namespace Go.Proofs.Ytpjegpgnelfeeab
open Go.ChangeShapes Go.WideShapes Go.ChangeAt Go.RowKit
set_option linter.unusedVariables false

theorem rlong_zero (h1 l1 : Nat) (hh : h1 ≤ 18446744073709551615) (hl : l1 ≤ 18446744073709551615) (w : World) :
    Calls Try.prog 20 #[.agg #[.int .u64 h1, .int .u64 l1], .int .u64 0] w fun e w' => e = .returned (.tuple #[.agg #[.int .u64 0, .int .u64 0], .int .u64 0, .int .i64 4]) ∧ Below w.heap.size w w' := by
  refine cps fun Q hQ => ?_
  have k1 := fun w => rwide_zero h1 l1 hh hl w
  go_enter Try.func20, Try.ntmps20
  go_wp2_with (go_at_call 22; refine (k1 _).mono ?_; rintro e w1 ⟨rfl, hb1⟩; obtain ⟨hc1, hf1⟩ := bcell hb1; have z1 : w.heap.size + 1 < w1.heap.size := (by have := hb1.size; simp at this; omega); have z0 : w.heap.size < w1.heap.size := (by omega))
  go_region
  all_goals
    go_wp2
    refine bodyPost_ret (v := .tuple #[.agg #[.int .u64 0, .int .u64 0], .int .u64 0, .int .i64 4]) (by simp [results, Try.results20, go_sem, hc1, z1, z0]) rfl (hQ.out _ _ ⟨rfl, ?_⟩)
    exact bdrew (bmore (bmore (bset (bset (bthen (bmore (bmore (Below.refl _ _) _) _) hb1) (by omega) _ _) (by omega) _ _) _) _)
set_option maxHeartbeats 1000000 in
theorem rlong_any {a d h1 l1 h3 l3 r : Nat} (ha : Tw a h1 l1) (hd : d ≤ 18446744073709551615) (h0 : 0 < d) (hq : Tw (a / d) h3 l3) (hr : r = a % d) (w : World) :
    Calls Try.prog 20 #[.agg #[.int .u64 h1, .int .u64 l1], .int .u64 d] w fun e w' => e = .returned (.tuple #[.agg #[.int .u64 h3, .int .u64 l3], .int .u64 r, .int .i64 0]) ∧ Below w.heap.size w w' := by
  refine cps fun Q hQ => ?_
  have hrd : a % d < d := Nat.mod_lt _ h0
  have k1 := fun w => rwide_any (d := d) (h2 := 0) (l2 := d) (h4 := 0) (l4 := r) ha ⟨by omega, by decide, hd⟩ h0 hq ⟨by omega, by decide, by omega⟩ w
  clear ha hq hr hrd
  go_enter Try.func20, Try.ntmps20
  go_wp2_with (go_at_call 22; refine (k1 _).mono ?_; rintro e w1 ⟨rfl, hb1⟩; obtain ⟨hc1, hf1⟩ := bcell hb1; have z1 : w.heap.size + 1 < w1.heap.size := (by have := hb1.size; simp at this; omega); have z0 : w.heap.size < w1.heap.size := (by omega))
  go_region
  all_goals
    go_wp2
    refine bodyPost_ret (v := .tuple #[.agg #[.int .u64 h3, .int .u64 l3], .int .u64 r, .int .i64 0]) (by simp [results, Try.results20, go_sem, hc1, z1, z0]) rfl (hQ.out _ _ ⟨rfl, ?_⟩)
    exact bdrew (bmore (bmore (bset (bset (bthen (bmore (bmore (Below.refl _ _) _) _) hb1) (by omega) _ _) (by omega) _ _) _) _)
theorem rdiv_zero (h1 l1 : Nat) (hh : h1 ≤ 18446744073709551615) (hl : l1 ≤ 18446744073709551615) (w : World) :
    Calls Try.prog 17 #[.agg #[.int .u64 h1, .int .u64 l1], .int .u64 0] w fun e w' => e = .returned (.tuple #[.int .u64 0, .int .u64 0, .int .i64 4]) ∧ Below w.heap.size w w' := by
  refine cps fun Q hQ => ?_
  have k1 := fun w => rlong_zero h1 l1 hh hl w
  go_enter Try.func17, Try.ntmps17
  go_wp2_with (go_at_call 20; refine (k1 _).mono ?_; rintro e w1 ⟨rfl, hb1⟩)
  go_ret3
  exact hQ.out _ _ ⟨rfl, bmore (bthen (bmore (Below.refl _ _) _) hb1) _⟩
theorem rdiv_big {a d h1 l1 h3 l3 : Nat} (ha : Tw a h1 l1) (hd : d ≤ 18446744073709551615) (h0 : 0 < d) (hq : Tw (a / d) h3 l3) (hb : 0 < h3) (w : World) :
    Calls Try.prog 17 #[.agg #[.int .u64 h1, .int .u64 l1], .int .u64 d] w fun e w' => e = .returned (.tuple #[.int .u64 0, .int .u64 0, .int .i64 5]) ∧ Below w.heap.size w w' := by
  refine cps fun Q hQ => ?_
  have k1 := fun w => rlong_any ha hd h0 hq rfl w
  generalize a % d = r at *
  go_enter Try.func17, Try.ntmps17
  go_wp2_with (go_at_call 20; refine (k1 _).mono ?_; rintro e w1 ⟨rfl, hb1⟩)
  go_ret3
  exact hQ.out _ _ ⟨rfl, bmore (bthen (bmore (Below.refl _ _) _) hb1) _⟩
theorem rdiv_any {a d h1 l1 q r : Nat} (ha : Tw a h1 l1) (hd : d ≤ 18446744073709551615) (h0 : 0 < d) (hq : Tw (a / d) 0 q) (hr : r = a % d) (w : World) :
    Calls Try.prog 17 #[.agg #[.int .u64 h1, .int .u64 l1], .int .u64 d] w fun e w' => e = .returned (.tuple #[.int .u64 q, .int .u64 r, .int .i64 0]) ∧ Below w.heap.size w w' := by
  refine cps fun Q hQ => ?_
  have k1 := fun w => rlong_any ha hd h0 hq hr w
  clear hr
  go_enter Try.func17, Try.ntmps17
  go_wp2_with (go_at_call 20; refine (k1 _).mono ?_; rintro e w1 ⟨rfl, hb1⟩)
  go_ret3
  exact hQ.out _ _ ⟨rfl, bmore (bthen (bmore (Below.refl _ _) _) hb1) _⟩

theorem sq_lt {r a : Nat} (h : r * r ≤ a) (ha : a < 340282366920938463463374607431768211456) : r < 18446744073709551616 := by
  by_cases g : r < 18446744073709551616
  · exact g
  · have := Nat.mul_le_mul (show 18446744073709551616 ≤ r by omega) (show 18446744073709551616 ≤ r by omega)
    omega
theorem sq_one {r s a : Nat} (h1 : r * r ≤ a) (h2 : a < (r + 1) * (r + 1)) (h3 : s * s ≤ a) (h4 : a < (s + 1) * (s + 1)) : r = s := by
  rcases Nat.lt_trichotomy r s with g | g | g
  · have := Nat.mul_le_mul (show r + 1 ≤ s by omega) (show r + 1 ≤ s by omega); omega
  · exact g
  · have := Nat.mul_le_mul (show s + 1 ≤ r by omega) (show s + 1 ≤ r by omega); omega
set_option maxHeartbeats 4000000 in
theorem rroot_any {a h1 l1 r h l : Nat} (ha : Tw a h1 l1) (hr1 : r * r ≤ a) (hr2 : a < (r + 1) * (r + 1)) (hl : Tw (a - r * r) h l) (w : World) :
    Calls Try.prog 24 #[.agg #[.int .u64 h1, .int .u64 l1]] w fun e w' => e = .returned (.tuple #[.int .u64 r, .agg #[.int .u64 h, .int .u64 l]]) ∧ Below w.heap.size w w' := by
  refine cps fun Q hQ => ?_
  have la := ha.lt
  have k1 := fun w => rof_any ha w
  have lr := sq_lt hr1 la
  have lrr : r * r < 340282366920938463463374607431768211456 := by omega
  have k2 := fun v1 v2 w x y => nmul_any v1 v2 r r (dlen_ok (by omega)) (dlen_ok (by omega)) w x y
  have k3 := fun v1 v2 w x y => nsub_any v1 v2 a (r * r) hr1 (dlen_ok (by omega)) w x y
  have k4 := fun v w x => nword_any v r w x
  rw [Nat.mod_eq_of_lt (show r < 2 ^ 64 by omega)] at k4
  have ll := hl.lt
  have k5 := fun v w x => told_any (n := a - r * r) (h := h) (l := l) (dlen_ok (by omega)) (by rw [Nat.mod_eq_of_lt ll]; exact hl) v w x
  have HR : Hid (∀ R, R * R ≤ a → a < (R + 1) * (R + 1) → R = r) := fun R x y => sq_one x y hr1 hr2
  have HA : Hid (a < 340282366920938463463374607431768211456) := la
  have HS : Hid (a < (0 + 2 ^ 64) * (0 + 2 ^ 64)) := show _ < _ by omega
  clear ha hr1 hr2 hl la ll lr lrr
  go_enter Try.func24, Try.ntmps24
  go_wp2_with (go_at_call 34; refine (k1 _).mono ?_; rintro e w1 ⟨v1, rfl, hr1, hb1⟩)
  have HV : Hid (Row w1 v1 (dig a)) := hr1
  have H1 : Below w.heap.size w w1 := bthen (bmore (bmore (Below.refl _ _) _) _) hb1
  have hz1 : w.heap.size + 1 < w1.heap.size := by have := hb1.size; simp at this; omega
  have HC1 : Hid (∀ o, w1.cell? ⟨w.heap.size + 1, o, none⟩ = (#[Value.int .u64 0, .int .u64 0] : Array Value)[o]?) := fun o => by
    rw [(bcell hb1).1 _ _ (by simp)]; exact World.cell?_alloc_at _ _ _ _ (by simp)
  have HF1 : Hid (∀ o, w1.frozen? ⟨w.heap.size + 1, o, none⟩ = false) := fun o => by
    rw [(bcell hb1).2 _ _ (by simp)]; exact World.frozen?_alloc_at _ _ _ _ (by simp)
  clear hr1 hb1
  go_loopw [5, 6] (fun rv kv wr => ∃ R j : Nat, j ≤ 64 ∧ kv = .int .i64 ((j : Int) - 1) ∧ Hid (R * R ≤ a) ∧ Hid (a < (R + 2 ^ j) * (R + 2 ^ j)) ∧ Row wr rv (dig R) ∧ Below w1.heap.size w1 wr) (fun _ kv _ => (intOf kv + 1).toNat)
  case atStart => exact ⟨0, 64, by decide, rfl, Nat.zero_le _, HS.out, by rw [dig_zero]; exact row_nil _, Below.refl _ _⟩
  case round =>
    obtain ⟨R, j, hj, rfl, hlo, hup, hrow, hbel⟩ := hrel
    by_cases h0 : 0 < j
    · obtain ⟨i, rfl⟩ : ∃ i, j = i + 1 := ⟨j - 1, by omega⟩
      rw [show ((i + 1 : Nat) : Int) - 1 = (i : Int) by omega]
      have lR := sq_lt hlo.out HA.out
      have lp : 2 ^ i ≤ 2 ^ 63 := Nat.pow_le_pow_right (by decide) (by omega)
      have hup' : a < (R + 2 ^ i + 2 ^ i) * (R + 2 ^ i + 2 ^ i) := by
        have := hup.out
        rw [Nat.pow_succ, show R + 2 ^ i * 2 = R + 2 ^ i + 2 ^ i by omega] at this
        exact this
      have d0 : dlen (R + 2 ^ i) ≤ 1099511627776 := dlen_ok (by omega)
      have g1 := fun v1 w x => nshl_any v1 1 i (by omega) (dlen_ok (by decide)) w x
      simp only [Nat.one_mul] at g1
      have g2 := fun v1 v2 w x y => nadd_any v1 v2 R (2 ^ i) d0 w x y
      have g3 := fun v1 v2 w x y => nmul_any v1 v2 (R + 2 ^ i) (R + 2 ^ i) d0 d0 w x y
      generalize hp : 2 ^ i = p at *
      have HP : Hid (2 ^ i = p) := hp
      clear hp
      obtain ⟨x, hx⟩ : ∃ x, x = cmpN ((R + p) * (R + p)) a := ⟨_, rfl⟩
      have g4 := fun v1 v2 w x y => ncmp_any v1 v2 ((R + p) * (R + p)) a w x y
      rw [← hx] at g4
      have hxx : (x ≤ 0 ∧ (R + p) * (R + p) ≤ a) ∨ (0 < x ∧ a < (R + p) * (R + p)) := by
        rw [hx]
        rcases Nat.lt_trichotomy ((R + p) * (R + p)) a with g | g | g
        · rw [cmpN_lt g]; exact .inl ⟨by decide, by omega⟩
        · rw [g, cmpN_eq]; exact .inl ⟨by decide, Nat.le_refl _⟩
        · rw [cmpN_gt g]; exact .inr ⟨by decide, g⟩
      have HU : Hid _ := hup'
      have HROW : Hid (Row wr _ (dig R)) := hrow
      have hr0 : Row (wr.alloc (.cells #[.int .i64 1] 3)) _ (dig 1) := row_lit wr 3 1 (by decide) (by decide)
      clear hup' d0 lp lR hx hrow
      generalize hM : (R + p) * (R + p) = M at *
      have HM : Hid ((R + p) * (R + p) = M) := hM
      clear hM
      rcases hxx with ⟨x1, x2⟩ | ⟨x1, x2⟩
      all_goals
        have HX : Hid _ := x2
        clear x2
        go_wp2_with (first
          | (go_at_call 39; refine (g1 _ _ hr0).mono ?_; rintro e w2 ⟨v2, rfl, hr2, hb2⟩; have b2 := bthen (bmore (Below.refl _ _) _) hb2)
          | (go_at_call 38; refine (g2 _ _ _ (HROW.out.below b2) hr2).mono ?_; rintro e w3 ⟨v3, rfl, hr3, hb3⟩; have b3 := bthen b2 hb3)
          | (go_at_call 40; refine (g3 _ _ _ hr3 hr3).mono ?_; rintro e w4 ⟨v4, rfl, hr4, hb4⟩; have b4 := bthen b3 hb4)
          | (go_at_call 41; refine (g4 _ _ _ hr4 (HV.out.below (bthen hbel b4))).mono ?_; rintro e w5 ⟨rfl, q, rfl⟩))
        go_roundw
        case measure => simp [intOf]
        case rel =>
          have hB : Below w1.heap.size w1 (w4.drewN q) := bdrewN (bthen hbel b4) q
          first
            | exact ⟨R + p, i, by omega, by go_num, (by show _ ≤ _; rw [HM.out]; exact HX.out), (by show _ < _; rw [HP.out]; exact HU.out), ((hr3.below hb4).below (bdrewN (Below.refl _ _) q)), hB⟩
            | exact ⟨R, i, by omega, by go_num, hlo.out, (by show _ < _; rw [HP.out, HM.out]; exact HX.out), HROW.out.below (bdrewN b4 q), hB⟩
    · have e : j = 0 := by omega
      subst e
      have hR : R = r := HR.out R hlo.out hup.out
      subst hR
      have HROW : Hid (Row wr _ (dig R)) := hrow
      have c1 := HC1.out
      have f1 := HF1.out
      clear hrow
      go_wp2_with (first
        | (go_at_call 40; refine (k2 _ _ _ HROW.out HROW.out).mono ?_; rintro e w2 ⟨v2, rfl, hr2, hb2⟩)
        | (go_at_call 42; refine (k3 _ _ _ (HV.out.below (bthen hbel hb2)) hr2).mono ?_; rintro e w3 ⟨v3, rfl, hr3, hb3⟩; have b3 := bthen hb2 hb3)
        | (go_at_call 43; refine (k4 _ _ (HROW.out.below b3)).mono ?_; rintro e w' ⟨rfl, hw⟩; rw [hw]; clear hw w')
        | (go_at_call 36; refine (k5 _ _ hr3).mono ?_; rintro e w4 ⟨rfl, hb4⟩; have b4 := bthen (bthen hbel b3) hb4; obtain ⟨hc4, hf4⟩ := bcell b4))
      refine bodyPost_ret (v := .tuple #[.int .u64 R, .agg #[.int .u64 h, .int .u64 l]]) (by simp [results, Try.results24, go_sem, hc4, hz1, c1]) rfl (hQ.out _ _ ⟨rfl, ?_⟩)
      exact bset (bset (bthen H1 b4) (by omega) _ _) (by omega) _ _
end Go.Proofs.Ytpjegpgnelfeeab

namespace Go.Proofs.Ytpjegpgnelfeeab
open Go.ChangeShapes Go.WideShapes Go.ChangeAt Go.RowKit
set_option linter.unusedVariables false

set_option maxHeartbeats 2000000 in
theorem tcmp_any {a b h1 l1 h2 l2 : Nat} (ha : Tw a h1 l1) (hb : Tw b h2 l2) (w : World) :
    Calls Try.prog 37 #[.agg #[.int .u64 h1, .int .u64 l1], .agg #[.int .u64 h2, .int .u64 l2]] w fun e w' => e = .returned (.int .i64 (cmpN a b)) ∧ Below w.heap.size w w' := by
  refine cps fun Q hQ => ?_
  rw [← cmp_words ha hb] at hQ
  clear ha hb
  obtain ⟨x, hx⟩ : ∃ x, x = cmpN h1 h2 := ⟨_, rfl⟩
  obtain ⟨y, hy⟩ : ∃ x, x = cmpN l1 l2 := ⟨_, rfl⟩
  have r1 := compare_any h1 h2
  have r2 := compare_any l1 l2
  rw [← hx] at r1 hQ
  rw [← hy] at r2 hQ
  obtain ⟨z, hz⟩ : ∃ z, z = if x = 0 then y else x := ⟨_, rfl⟩
  rw [← hz] at hQ
  have HZ : Hid (z = if x = 0 then y else x) := hz
  clear hx hy hz
  go_enter Try.func37, Try.ntmps37
  go_wp2
  refine wpC_region (fun W => W.cell? ⟨w.heap.size, 0, none⟩ = some (.int .u64 h1) ∧ W.cell? ⟨w.heap.size, 1, none⟩ = some (.int .u64 l1) ∧ W.cell? ⟨w.heap.size + 1, 0, none⟩ = some (.int .u64 h2) ∧ W.cell? ⟨w.heap.size + 1, 1, none⟩ = some (.int .u64 l2)) (by kernel_rfl) ?_
  refine wpC_take 0 (v := ?_) rfl (by kernel_rfl) (fun _ _ _ h => h) (by kernel_rfl) ?_ ?_; rotate_left; · (intro wC hC; obtain ⟨c1, c2, c3, c4⟩ := hC; go_simp <;> with_reducible rfl)
  refine wpC_take 1 (v := ?_) rfl (by kernel_rfl) (fun _ _ _ h => h) (by kernel_rfl) ?_ ?_; rotate_left; · (intro wC hC; obtain ⟨c1, c2, c3, c4⟩ := hC; go_simp <;> with_reducible rfl)
  refine wpC_take 2 (v := ?_) rfl (by kernel_rfl) (fun _ _ _ h => h) (by kernel_rfl) ?_ ?_; rotate_left; · (intro wC hC; obtain ⟨c1, c2, c3, c4⟩ := hC; go_simp <;> with_reducible rfl)
  refine wpC_take 3 (v := ?_) rfl (by kernel_rfl) (fun _ _ _ h => h) (by kernel_rfl) ?_ ?_; rotate_left; · (intro wC hC; obtain ⟨c1, c2, c3, c4⟩ := hC; go_simp <;> with_reducible rfl)
  refine wpC_take 5 (v := ?_) rfl (by kernel_rfl) (fun _ _ _ h => h) (by kernel_rfl) ?_ ?_; rotate_left; · (intro wC hC; obtain ⟨c1, c2, c3, c4⟩ := hC; go_simp <;> with_reducible rfl)
  refine wpC_take 6 (v := ?_) rfl (by kernel_rfl) (fun _ _ _ h => h) (by kernel_rfl) ?_ ?_; rotate_left; · (intro wC hC; obtain ⟨c1, c2, c3, c4⟩ := hC; go_simp <;> with_reducible rfl)
  refine wpC_take 7 (v := ?_) rfl (by kernel_rfl) (fun _ _ _ h => h) (by kernel_rfl) ?_ ?_; rotate_left; · (intro wC hC; obtain ⟨c1, c2, c3, c4⟩ := hC; go_simp <;> with_reducible rfl)
  refine wpC_take 8 (v := ?_) rfl (by kernel_rfl) (fun _ _ _ h => h) (by kernel_rfl) ?_ ?_; rotate_left; · (intro wC hC; obtain ⟨c1, c2, c3, c4⟩ := hC; go_simp <;> with_reducible rfl)
  refine wpC_step 4 rfl (by kernel_rfl) (by kernel_rfl) (by simp [go_sem]) (fun K hK => ?_)
  go_simp
  go_wp2_with ((go_at_call_of 51 h1; refine (r1 _).mono ?_; rintro e w' ⟨rfl, hw⟩; rw [hw]; clear hw w'))
  try (refine hK _ _ ?_; clear hK K)
  refine wpC_step 9 rfl (by kernel_rfl) (by kernel_rfl) (by simp [go_sem]) (fun K hK => ?_)
  go_simp
  go_wp2_with ((go_at_call_of 51 l1; refine (r2 _).mono ?_; rintro e w' ⟨rfl, hw⟩; rw [hw]; clear hw w'))
  try (refine hK _ _ ?_; clear hK K)
  refine wpC_step 10 rfl (by kernel_rfl) (by kernel_rfl) (by simp [go_sem]) (fun K hK => ?_)
  go_simp
  try (refine hK _ _ ?_; clear hK K)
  refine wpC_step 11 rfl (by kernel_rfl) (by kernel_rfl) (by simp [go_sem]) (fun K hK => ?_)
  go_simp
  go_wp2_with ((go_at_call 50; refine (or_any' x y z HZ.out _ _ (drew_at _ _ _ _ 0 (by simp)) (drew_at _ _ _ _ 1 (by simp))).mono ?_; rintro e w' ⟨rfl, hw⟩; rw [hw]; clear hw w'))
  try (refine hK _ _ ?_; clear hK K)
  refine wpC_step 12 rfl (by kernel_rfl) (by kernel_rfl) (by simp [go_sem]) (fun K hK => ?_)
  go_simp
  try (refine hK _ _ ?_; clear hK K)
  refine wpC_done (by kernel_rfl) (by simp [go_sem]) ?_
  go_wp2
  refine hQ.out _ _ ⟨rfl, ?_⟩
  exact (bmore (bmore (bmore (Below.refl _ _) _) _) _).drew
end Go.Proofs.Ytpjegpgnelfeeab

namespace Go.Proofs.Ytpjegpgnelfeeab
open Go.ChangeShapes Go.WideShapes Go.ChangeAt Go.RowKit
set_option linter.unusedVariables false

theorem or_bit (m i : Nat) : m * 2 ^ (i + 1) ||| 2 ^ i = m * 2 ^ (i + 1) + 2 ^ i := by
  have h := Nat.shiftLeft_add_eq_or_of_lt (a := m) (b := 2 ^ i) (i := i + 1) (Nat.pow_lt_pow_right (by decide) (by omega))
  rw [Nat.shiftLeft_eq] at h
  exact h.symm
theorem or_room {m i : Nat} (hi : i < 64) (h : m * 2 ^ (i + 1) < 18446744073709551616) : m * 2 ^ (i + 1) + 2 ^ i < 18446744073709551616 := by
  have e : 2 ^ (63 - i) * 2 ^ (i + 1) = 18446744073709551616 := by rw [← Nat.pow_add, show 63 - i + (i + 1) = 64 by omega]
  have h1 : m < 2 ^ (63 - i) := by
    by_cases g : m < 2 ^ (63 - i)
    · exact g
    · have := Nat.mul_le_mul_right (2 ^ (i + 1)) (Nat.le_of_not_lt g)
      omega
  have h2 := Nat.mul_le_mul_right (2 ^ (i + 1)) h1
  rw [Nat.succ_mul] at h2
  have h3 : 2 ^ (i + 1) = 2 ^ i * 2 := Nat.pow_succ 2 i
  have h4 : 0 < 2 ^ i := Nat.pow_pos (by decide)
  generalize 2 ^ i = p at *
  generalize 2 ^ (i + 1) = p2 at *
  generalize m * p2 = x at *
  omega
set_option maxHeartbeats 4000000 in
theorem proot_any {a h1 l1 r h l : Nat} (ha : Tw a h1 l1) (hr1 : r * r ≤ a) (hr2 : a < (r + 1) * (r + 1)) (hl : Tw (a - r * r) h l) (w : World) :
    Calls Try.prog 23 #[.agg #[.int .u64 h1, .int .u64 l1]] w fun e w' => e = .returned (.tuple #[.int .u64 r, .agg #[.int .u64 h, .int .u64 l]]) ∧ Below w.heap.size w w' := by
  refine cps fun Q hQ => ?_
  have la := ha.lt
  have lr := sq_lt hr1 la
  obtain ⟨h2, l2, t2⟩ := tw_some (n := r * r) (by omega)
  have k1 := fun w => tmul_any (show r ≤ 18446744073709551615 by omega) (show r ≤ 18446744073709551615 by omega) t2 w
  have k2 := fun w => tsub_any (c := false) ha t2 (h := h) (l := l) (by
    rw [show a + 340282366920938463463374607431768211456 - r * r = (a - r * r) + 340282366920938463463374607431768211456 by omega, Nat.add_mod_right, Nat.mod_eq_of_lt (by omega)]
    exact hl) (decide_eq_false (by omega)).symm w
  have HR : Hid (∀ R, R * R ≤ a → a < (R + 1) * (R + 1) → R = r) := fun R x y => sq_one x y hr1 hr2
  have HA : Hid (Tw a h1 l1 ∧ a < 340282366920938463463374607431768211456) := ⟨ha, la⟩
  have HS : Hid (a < (0 + 2 ^ 64) * (0 + 2 ^ 64)) := show _ < _ by omega
  clear ha hr1 hr2 hl la lr t2
  obtain ⟨W, hW⟩ : ∃ W, W = (w.alloc (.cells #[.int .u64 h1, .int .u64 l1] 24)).alloc (.cells #[.int .u64 0, .int .u64 0] 24) := ⟨_, rfl⟩
  have H0 : Below w.heap.size w W := by rw [hW]; exact bmore (bmore (Below.refl _ _) _) _
  have z0 : w.heap.size + 1 < W.heap.size := by rw [hW]; simp
  have z1 : w.heap.size < W.heap.size := by omega
  have cls : ∀ V, Below W.heap.size W V → V.cell? ⟨w.heap.size, 0, none⟩ = some (.int .u64 h1) ∧ V.cell? ⟨w.heap.size, 1, none⟩ = some (.int .u64 l1) := fun V hV => by
    obtain ⟨c, _⟩ := bcell hV
    rw [c _ _ z1, c _ _ z1, hW]
    simp [go_sem]
  have box : ∀ V, Below W.heap.size W V → V.cell? ⟨w.heap.size + 1, 0, none⟩ = some (.int .u64 0) ∧ V.cell? ⟨w.heap.size + 1, 1, none⟩ = some (.int .u64 0) ∧ V.frozen? ⟨w.heap.size + 1, 0, none⟩ = false ∧ V.frozen? ⟨w.heap.size + 1, 1, none⟩ = false := fun V hV => by
    obtain ⟨c, f⟩ := bcell hV
    rw [c _ _ z0, c _ _ z0, f _ _ z0, f _ _ z0, hW]
    simp [go_sem]
  go_enter Try.func23, Try.ntmps23
  go_wp2
  rw [← hW]
  clear hW
  go_loopw [4, 5] (fun rv kv wr => ∃ R j m : Nat, j ≤ 64 ∧ rv = .int .u64 R ∧ kv = .int .u64 ((2 ^ j / 2 : Nat) : Int) ∧ Hid (R = m * 2 ^ j) ∧ Hid (R * R ≤ a) ∧ Hid (a < (R + 2 ^ j) * (R + 2 ^ j)) ∧ Below W.heap.size W wr) (fun _ kv _ => (intOf kv).toNat)
  case atStart => exact ⟨0, 64, 0, by decide, rfl, rfl, (Nat.zero_mul _).symm, Nat.zero_le _, HS.out, Below.refl _ _⟩
  case round =>
    obtain ⟨R, j, m, hj, rfl, rfl, hmul, hlo, hup, hbel⟩ := hrel
    by_cases h0 : 0 < j
    · obtain ⟨i, rfl⟩ : ∃ i, j = i + 1 := ⟨j - 1, by omega⟩
      have lR := sq_lt hlo.out HA.out.2
      have pp : 2 ^ (i + 1) / 2 = 2 ^ i := by rw [Nat.pow_succ]; omega
      have p0 : 0 < 2 ^ i := Nat.pow_pos (by decide)
      have room : R + 2 ^ i < 18446744073709551616 := by rw [hmul.out]; exact or_room (by omega) (by rw [← hmul.out]; exact lR)
      have v1 : bits .or .u64 (R : Int) ((2 ^ i : Nat) : Int) = ((R + 2 ^ i : Nat) : Int) := by
        rw [u64_or_nat R (2 ^ i) lR (by omega), hmul.out, or_bit]
      have hup' : a < (R + 2 ^ i + 2 ^ i) * (R + 2 ^ i + 2 ^ i) := by
        have := hup.out
        rw [Nat.pow_succ, show R + 2 ^ i * 2 = R + 2 ^ i + 2 ^ i by omega] at this
        exact this
      have m1 : R = (m * 2) * 2 ^ i := by rw [hmul.out, Nat.pow_succ, Nat.mul_assoc, Nat.mul_comm 2]
      have m2 : R + 2 ^ i = (m * 2 + 1) * 2 ^ i := by rw [Nat.add_mul, Nat.one_mul, ← m1]
      have HM : Hid (R = (m * 2) * 2 ^ i ∧ R + 2 ^ i = (m * 2 + 1) * 2 ^ i) := ⟨m1, m2⟩
      clear m1 m2
      rw [pp]
      have v2 : ((2 ^ i : Nat) : Int) / 2 = ((2 ^ i / 2 : Nat) : Int) := by omega
      obtain ⟨p, hp⟩ : ∃ p, p = 2 ^ i := ⟨_, rfl⟩
      obtain ⟨s, hs⟩ : ∃ s, s = R + 2 ^ i := ⟨_, rfl⟩
      obtain ⟨n, hn⟩ : ∃ n, n = 2 ^ i / 2 := ⟨_, rfl⟩
      rw [← hs] at v1 hup' room
      rw [← hn] at v2
      rw [← hp] at v1 v2 p0 hup' ⊢
      have HP : Hid (p = 2 ^ i ∧ s = R + 2 ^ i ∧ n = 2 ^ i / 2) := ⟨hp, hs, hn⟩
      clear hp hs hn pp
      obtain ⟨h3, l3, t3⟩ := tw_some (n := s * s) (by have := Nat.mul_le_mul (show s ≤ 18446744073709551615 by omega) (show s ≤ 18446744073709551615 by omega); omega)
      have g1 := fun w => tmul_any (show s ≤ 18446744073709551615 by omega) (show s ≤ 18446744073709551615 by omega) t3 w
      have g2 := fun w => tcmp_any t3 HA.out.1 w
      obtain ⟨x, hx⟩ : ∃ x, x = cmpN (s * s) a := ⟨_, rfl⟩
      rw [← hx] at g2
      have hxx : (x ≤ 0 ∧ s * s ≤ a) ∨ (0 < x ∧ a < s * s) := by
        rw [hx]
        rcases Nat.lt_trichotomy (s * s) a with g | g | g
        · rw [cmpN_lt g]; exact .inl ⟨by decide, by omega⟩
        · rw [g, cmpN_eq]; exact .inl ⟨by decide, Nat.le_refl _⟩
        · rw [cmpN_gt g]; exact .inr ⟨by decide, g⟩
      have HU : Hid _ := hup'
      have px : ((p : Int) > 0) = True := by simp; omega
      clear hup' hx t3 room lR
      go_upto_region 5 with fail
      refine wpC_region (fun W => W.cell? ⟨w.heap.size, 0, none⟩ = some (.int .u64 h1) ∧ W.cell? ⟨w.heap.size, 1, none⟩ = some (.int .u64 l1)) (by kernel_rfl) ?_
      refine wpC_take 0 (v := ?_) rfl (by kernel_rfl) (fun _ _ _ h => h) (by kernel_rfl) ?_ ?_; rotate_left; · (intro wC hC; obtain ⟨c1, c2⟩ := hC; go_simp <;> with_reducible rfl)
      refine wpC_take 1 (v := ?_) rfl (by kernel_rfl) (fun _ _ _ h => h) (by kernel_rfl) ?_ ?_; rotate_left; · (intro wC hC; obtain ⟨c1, c2⟩ := hC; go_simp <;> with_reducible rfl)
      refine wpC_take 2 (v := ?_) rfl (by kernel_rfl) (fun _ _ _ h => h) (by kernel_rfl) ?_ ?_; rotate_left; · (intro wC hC; obtain ⟨c1, c2⟩ := hC; go_simp <;> with_reducible rfl)
      refine wpC_take 3 (v := ?_) rfl (by kernel_rfl) (fun _ _ _ h => h) (by kernel_rfl) ?_ ?_; rotate_left; · (intro wC hC; obtain ⟨c1, c2⟩ := hC; go_simp <;> with_reducible rfl)
      refine wpC_take 4 (v := ?_) rfl (by kernel_rfl) (fun _ _ _ h => h) (by kernel_rfl) ?_ ?_; rotate_left; · (intro wC hC; obtain ⟨c1, c2⟩ := hC; go_simp <;> with_reducible rfl)
      refine wpC_take 5 (v := ?_) rfl (by kernel_rfl) (fun _ _ _ h => h) (by kernel_rfl) ?_ ?_; rotate_left; · (intro wC hC; obtain ⟨c1, c2⟩ := hC; go_simp <;> with_reducible rfl)
      refine wpC_take 7 (v := ?_) rfl (by kernel_rfl) (fun _ _ _ h => h) (by kernel_rfl) ?_ ?_; rotate_left; · (intro wC hC; obtain ⟨c1, c2⟩ := hC; go_simp <;> with_reducible rfl)
      refine wpC_step 6 rfl (by kernel_rfl) (by kernel_rfl) (cls _ (bdrew hbel)) (fun K hK => ?_)
      go_simp
      go_wp2_with ((go_at_call 12; refine (g1 _).mono ?_; rintro e w1 ⟨rfl, hb1⟩; have B1 := bthen (bdrew hbel) hb1))
      try (refine hK _ _ ?_; clear hK K)
      refine wpC_step 8 rfl (by kernel_rfl) (by kernel_rfl) (cls _ B1) (fun K hK => ?_)
      go_simp
      go_wp2_with ((go_at_call 37; refine (g2 _).mono ?_; rintro e w2 ⟨rfl, hb2⟩; have B2 := bthen B1 hb2))
      try (refine hK _ _ ?_; clear hK K)
      refine wpC_step 9 rfl (by kernel_rfl) (by kernel_rfl) (cls _ B2) (fun K hK => ?_)
      go_simp
      try (refine hK _ _ ?_; clear hK K)
      refine wpC_done (by kernel_rfl) (cls _ B2) ?_
      rcases hxx with ⟨x1, x2⟩ | ⟨x1, x2⟩
      all_goals
        have HX : Hid _ := x2
        clear x2
        go_wp2
        go_roundw
        case measure => have := HP.out; simp [intOf]; omega
        case rel =>
          obtain ⟨e1, e2, e3⟩ := HP.out
          obtain ⟨m1, m2⟩ := HM.out
          first
            | exact ⟨s, i, m * 2 + 1, by omega, rfl, by rw [← e3], (by show _ = _; rw [e2]; exact m2), HX.out, (by show _ < _; rw [← e1]; exact HU.out), B2⟩
            | exact ⟨R, i, m * 2, by omega, rfl, by rw [← e3], m1, hlo.out, (by show _ < _; rw [← e2]; exact HX.out), B2⟩
    · have e : j = 0 := by omega
      subst e
      have hR : R = r := HR.out R hlo.out hup.out
      subst hR
      rw [show 2 ^ 0 / 2 = 0 from rfl]
      clear hmul hlo hup HS HR HA
      have y0 : W.heap.size ≤ wr.heap.size := hbel.size
      have r1 : Below wr.heap.size wr wr := Below.refl _ _
      go_upto_region 7 with fail
      go_cut [6, 7] from 25 (fun s11 s12 wx => ∃ n : Nat, s11 = .pointer (some ⟨n, 0, none⟩) ∧ Below wr.heap.size wr wx ∧ wr.heap.size ≤ n ∧ n < wx.heap.size ∧
        wx.cell? ⟨n, 0, none⟩ = some (.int .u64 h) ∧ wx.cell? ⟨n, 1, none⟩ = some (.int .u64 l))
      case first =>
        refine wpC_region (fun W => W.cell? ⟨w.heap.size, 0, none⟩ = some (.int .u64 h1) ∧ W.cell? ⟨w.heap.size, 1, none⟩ = some (.int .u64 l1)) (by kernel_rfl) ?_
        refine wpC_take 0 (v := ?_) rfl (by kernel_rfl) (fun _ _ _ h => h) (by kernel_rfl) ?_ ?_; rotate_left; · (intro wC hC; obtain ⟨c1, c2⟩ := hC; go_simp <;> with_reducible rfl)
        refine wpC_take 1 (v := ?_) rfl (by kernel_rfl) (fun _ _ _ h => h) (by kernel_rfl) ?_ ?_; rotate_left; · (intro wC hC; obtain ⟨c1, c2⟩ := hC; go_simp <;> with_reducible rfl)
        refine wpC_take 2 (v := ?_) rfl (by kernel_rfl) (fun _ _ _ h => h) (by kernel_rfl) ?_ ?_; rotate_left; · (intro wC hC; obtain ⟨c1, c2⟩ := hC; go_simp <;> with_reducible rfl)
        refine wpC_two 3 8 rfl rfl (by kernel_rfl) (by kernel_rfl) (by kernel_rfl) (cls _ (bdrew hbel)) (fun K hK => ?_) (fun K hK => ?_)
        · skip
          go_simp
          go_wp2_with ((go_at_call 12; refine (k1 _).mono ?_; rintro e w2 ⟨rfl, hb2⟩; have B2 := bthen (bdrew r1) hb2))
          try (refine hK _ _ ?_; clear hK K)
          have y2 : wr.heap.size ≤ w2.heap.size := B2.size
          refine wpC_two 4 8 rfl rfl (by kernel_rfl) (by kernel_rfl) (by kernel_rfl) (cls _ (bthen hbel B2)) (fun K hK => ?_) (fun K hK => ?_)
          · skip
            go_simp
            go_wp2_with ((go_at_call 11; refine (k2 _).mono ?_; rintro e w3 ⟨rfl, hb3⟩; have B3 := bthen B2 hb3))
            try (refine hK _ _ ?_; clear hK K)
            have y3 : wr.heap.size ≤ w3.heap.size := B3.size
            refine wpC_take 5 (v := ?_) rfl (by kernel_rfl) (fun _ _ _ h => h) (by kernel_rfl) ?_ ?_; rotate_left; · (intro wC hC; obtain ⟨c1, c2⟩ := hC; go_simp <;> with_reducible rfl)
            refine wpC_take 6 (v := ?_) rfl (by kernel_rfl) (fun _ _ _ h => h) (by kernel_rfl) ?_ ?_; rotate_left; · (intro wC hC; obtain ⟨c1, c2⟩ := hC; go_simp <;> with_reducible rfl)
            refine wpC_take 7 (v := ?_) rfl (by kernel_rfl) (fun _ _ _ h => h) (by kernel_rfl) ?_ ?_; rotate_left; · (intro wC hC; obtain ⟨c1, c2⟩ := hC; go_simp <;> with_reducible rfl)
            refine wpC_step 8 rfl (by kernel_rfl) (by kernel_rfl) (cls _ (bthen hbel B3)) (fun K hK => ?_)
            go_simp
            try (refine hK _ _ ?_; clear hK K)
            refine wpC_step 9 rfl (by kernel_rfl) (by kernel_rfl) (cls _ (bthen hbel (bmore B3 _))) (fun K hK => ?_)
            go_simp
            try (refine hK _ _ ?_; clear hK K)
            refine wpC_step 10 rfl (by kernel_rfl) (by kernel_rfl) (cls _ (bthen hbel (bmore B3 _))) (fun K hK => ?_)
            go_simp
            try (refine hK _ _ ?_; clear hK K)
            refine wpC_done (by kernel_rfl) (cls _ (bthen hbel (bmore B3 _))) ?_
            go_wp2_with fail
            go_meet
            case rel =>
              refine ⟨_, rfl, bmore B3 _, y3, by simp, ?_, ?_⟩ <;> simp [go_sem]
          · skip
            go_simp
            try (refine hK _ _ ?_; clear hK K)
            refine wpC_step 4 rfl (by kernel_rfl) (by kernel_rfl) (cls _ (bthen hbel (bmore B2 _))) (fun K hK => ?_)
            go_simp
            go_wp2_with ((go_at_call 11; refine (k2 _).mono ?_; rintro e w3 ⟨rfl, hb3⟩; have B3 := bthen (bmore B2 _) hb3; obtain ⟨hc3, hf3⟩ := bcell hb3; have y4 : w2.heap.size < w3.heap.size := (by have := hb3.size; simp at this; omega)))
            try (refine hK _ _ ?_; clear hK K)
            refine wpC_step 5 rfl (by kernel_rfl) (by kernel_rfl) (cls _ (bthen hbel B3)) (fun K hK => ?_)
            go_simp
            try (refine hK _ _ ?_; clear hK K)
            refine wpC_take 6 (v := ?_) rfl (by kernel_rfl) (fun _ _ _ h => h) (by kernel_rfl) ?_ ?_; rotate_left; · (intro wC hC; obtain ⟨c1, c2⟩ := hC; go_simp <;> with_reducible rfl)
            refine wpC_take 7 (v := ?_) rfl (by kernel_rfl) (fun _ _ _ h => h) (by kernel_rfl) ?_ ?_; rotate_left; · (intro wC hC; obtain ⟨c1, c2⟩ := hC; go_simp <;> with_reducible rfl)
            refine wpC_step 9 rfl (by kernel_rfl) (by kernel_rfl) (cls _ (bthen hbel B3)) (fun K hK => ?_)
            go_simp
            try (refine hK _ _ ?_; clear hK K)
            refine wpC_step 10 rfl (by kernel_rfl) (by kernel_rfl) (cls _ (bthen hbel (bset (bset B3 y2 _ _) y2 _ _))) (fun K hK => ?_)
            go_simp
            try (refine hK _ _ ?_; clear hK K)
            refine wpC_done (by kernel_rfl) (cls _ (bthen hbel (bset (bset B3 y2 _ _) y2 _ _))) ?_
            go_wp2_with fail
            go_meet
            case rel =>
              refine ⟨_, rfl, bset (bset B3 y2 _ _) y2 _ _, y2, by simp [y4], ?_, ?_⟩ <;> simp [go_sem, hc3]
        · skip
          go_simp
          try (refine hK _ _ ?_; clear hK K)
          refine wpC_step 3 rfl (by kernel_rfl) (by kernel_rfl) (cls _ (bthen hbel (bmore (bdrew r1) _))) (fun K hK => ?_)
          go_simp
          go_wp2_with ((go_at_call 12; refine (k1 _).mono ?_; rintro e w2 ⟨rfl, hb2⟩; obtain ⟨hc2, hf2⟩ := bcell hb2; have B2 := bthen (bmore (bdrew r1) _) hb2; have y4 : wr.heap.size < w2.heap.size := (by have := hb2.size; simp at this; omega)))
          try (refine hK _ _ ?_; clear hK K)
          refine wpC_step 4 rfl (by kernel_rfl) (by kernel_rfl) (cls _ (bthen hbel B2)) (fun K hK => ?_)
          go_simp
          go_wp2_with ((go_at_call 11; refine (k2 _).mono ?_; rintro e w3 ⟨rfl, hb3⟩; have B3 := bthen B2 hb3; obtain ⟨hc3, hf3⟩ := bcell hb3; have y5 : wr.heap.size < w3.heap.size := (by have := hb3.size; omega)))
          try (refine hK _ _ ?_; clear hK K)
          refine wpC_step 5 rfl (by kernel_rfl) (by kernel_rfl) (cls _ (bthen hbel B3)) (fun K hK => ?_)
          go_simp
          try (refine hK _ _ ?_; clear hK K)
          refine wpC_take 6 (v := ?_) rfl (by kernel_rfl) (fun _ _ _ h => h) (by kernel_rfl) ?_ ?_; rotate_left; · (intro wC hC; obtain ⟨c1, c2⟩ := hC; go_simp <;> with_reducible rfl)
          refine wpC_take 7 (v := ?_) rfl (by kernel_rfl) (fun _ _ _ h => h) (by kernel_rfl) ?_ ?_; rotate_left; · (intro wC hC; obtain ⟨c1, c2⟩ := hC; go_simp <;> with_reducible rfl)
          refine wpC_step 9 rfl (by kernel_rfl) (by kernel_rfl) (cls _ (bthen hbel B3)) (fun K hK => ?_)
          go_simp
          try (refine hK _ _ ?_; clear hK K)
          refine wpC_step 10 rfl (by kernel_rfl) (by kernel_rfl) (cls _ (bthen hbel (bset (bset B3 (Nat.le_refl _) _ _) (Nat.le_refl _) _ _))) (fun K hK => ?_)
          go_simp
          try (refine hK _ _ ?_; clear hK K)
          refine wpC_done (by kernel_rfl) (cls _ (bthen hbel (bset (bset B3 (Nat.le_refl _) _ _) (Nat.le_refl _) _ _))) ?_
          go_wp2_with fail
          go_meet
          case rel =>
            refine ⟨_, rfl, bset (bset B3 (Nat.le_refl _) _ _) (Nat.le_refl _) _ _, Nat.le_refl _, by simp [y5], ?_, ?_⟩ <;> simp [go_sem, hc2, hc3, y4]
      case rest =>
        obtain ⟨n, rfl, HB, n1, n2, c5, c6⟩ := hcut
        have H2 := bthen hbel HB
        obtain ⟨b1, b2, b3, b4⟩ := box _ H2
        have m1 : ¬ (w.heap.size + 1 = n) := by omega
        have m2 : ¬ (n = w.heap.size + 1) := by omega
        go_wp2
        go_region
        all_goals
          go_wp2
          refine bodyPost_ret (v := .tuple #[.int .u64 R, .agg #[.int .u64 h, .int .u64 l]]) (by simp [results, Try.results23, go_sem, b1, b2]) rfl (hQ.out _ _ ⟨rfl, ?_⟩)
          exact bdrew (bset (bset (bthen H0 H2) (by omega) _ _) (by omega) _ _)
end Go.Proofs.Ytpjegpgnelfeeab

namespace Go.Proofs.Ytpjegpgnelfeeab
open Go.ChangeShapes Go.WideShapes Go.ChangeAt Go.RowKit
set_option linter.unusedVariables false

theorem hup3_any (w : World) :
    Calls Try.prog 15 #[] w fun e w' => e = .returned (.bool true) ∧ Below w.heap.size w w' := by
  refine cps fun Q hQ => ?_
  have k1 : ∀ w, Calls Try.prog 16 #[.agg #[.int .u64 0, .int .u64 7], .int .u64 2] w fun e w' => e = .returned (.tuple #[.int .u64 3, .int .u64 1, .nilIface]) ∧ Below w.heap.size w w' :=
    fun w => pdiv_any (a := 7) (h1 := 0) (l1 := 7) (d := 2) (q := 3) (r := 1) ⟨by decide, by decide, by decide⟩ (by decide) (by decide) (by decide) (by decide) w
  have k2 : ∀ w, Calls Try.prog 23 #[.agg #[.int .u64 0, .int .u64 15]] w fun e w' => e = .returned (.tuple #[.int .u64 3, .agg #[.int .u64 0, .int .u64 6]]) ∧ Below w.heap.size w w' :=
    fun w => proot_any (a := 15) (h1 := 0) (l1 := 15) (r := 3) (h := 0) (l := 6) ⟨by decide, by decide, by decide⟩ (by decide) (by decide) ⟨by decide, by decide, by decide⟩ w
  go_enter Try.func15, Try.ntmps15
  go_wp2_with (first
    | (go_at_call 16; refine (k1 _).mono ?_; rintro e w1 ⟨rfl, hb1⟩)
    | (go_at_call 23; refine (k2 _).mono ?_; rintro e w2 ⟨rfl, hb2⟩; obtain ⟨hc2, hf2⟩ := bcell hb2))
  refine hQ.out _ _ ⟨rfl, ?_⟩
  exact bmore (bthen (bthen (Below.refl _ _) hb1) hb2) _
end Go.Proofs.Ytpjegpgnelfeeab

namespace Go.Proofs.Ytpjegpgnelfeeab
open Go.ChangeShapes Go.WideShapes Go.ChangeAt Go.RowKit

/-! ### which of api's Codes an error is -/
def codeOf (c : Int) : Int := if 1 ≤ c ∧ c ≤ 24 then c else -1
theorem further_any (c : Int) (w : World) : Calls Try.prog 31 #[.iface 56 (.int .i64 c)] w fun e w' => e = .returned (.int .i64 (if 13 ≤ c ∧ c ≤ 24 then c else -1)) ∧ w' = w := by
  have he := fun w a b => Lib.run_eql_iface_int (P := Try.prog) w (t := 31) (tx := 56) (k := .i64) a b Try.underlying31 (by kernel_rfl) Try.underlying56
  refine cps fun Q hQ => ?_
  go_enter Try.func31, Try.ntmps31
  go_wp2
  all_goals exact hQ.out _ _ ⟨ret_i (by simp only [beq_iff_eq, beq_eq_false_iff_ne] at *; split <;> omega), rfl⟩
theorem code_nil (w : World) : Calls Try.prog 18 #[.nilIface] w fun e w' => e = .returned (.int .i64 0) ∧ w' = w := by
  refine cps fun Q hQ => ?_
  go_enter Try.func18, Try.ntmps18
  go_wp2
  exact hQ.out _ _ ⟨rfl, rfl⟩
theorem code_any (c : Int) (w : World) : Calls Try.prog 18 #[.iface 56 (.int .i64 c)] w fun e w' => e = .returned (.int .i64 (codeOf c)) ∧ w' = w := by
  have he := fun w a b => Lib.run_eql_iface_int (P := Try.prog) w (t := 31) (tx := 56) (k := .i64) a b Try.underlying31 (by kernel_rfl) Try.underlying56
  refine cps fun Q hQ => ?_
  go_enter Try.func18, Try.ntmps18
  go_wp2_with (go_at_call 31; refine (further_any c _).mono ?_; rintro e w' ⟨rfl, rfl⟩)
  all_goals exact hQ.out _ _ ⟨ret_i (by simp only [beq_iff_eq, beq_eq_false_iff_ne] at *; unfold codeOf; repeat' split <;> omega), rfl⟩
end Go.Proofs.Ytpjegpgnelfeeab

namespace Go.Proofs.Ytpjegpgnelfeeab
open Go.ChangeShapes Go.WideShapes Go.ChangeAt Go.RowKit
set_option linter.unusedVariables false

theorem hup_any (w : World) :
    Calls Try.prog 9 #[] w fun e w' => e = .returned (.bool true) ∧ Below w.heap.size w w' := by
  refine cps fun Q hQ => ?_
  have k1 : ∀ w, Calls Try.prog 12 #[.int .u64 9223372036854775808, .int .u64 6] w fun e w' => e = .returned (.agg #[.int .u64 3, .int .u64 0]) ∧ Below w.heap.size w w' :=
    fun w => tmul_any (x := 9223372036854775808) (y := 6) (h := 3) (l := 0) (by decide) (by decide) ⟨by decide, by decide, by decide⟩ w
  have k2 : ∀ w, Calls Try.prog 10 #[.agg #[.int .u64 0, .int .u64 18446744073709551615], .agg #[.int .u64 0, .int .u64 1]] w fun e w' => e = .returned (.tuple #[.agg #[.int .u64 1, .int .u64 0], .bool false]) ∧ Below w.heap.size w w' :=
    fun w => tadd_any (a := 18446744073709551615) (b := 1) (h1 := 0) (l1 := 18446744073709551615) (h2 := 0) (l2 := 1) (h := 1) (l := 0) (c := false) ⟨by decide, by decide, by decide⟩ ⟨by decide, by decide, by decide⟩ ⟨by decide, by decide, by decide⟩ (by decide) w
  go_enter Try.func9, Try.ntmps9
  go_wp2_with (first
    | (go_at_call 12; refine (k1 _).mono ?_; rintro e w1 ⟨rfl, hb1⟩)
    | (go_at_call 10; refine (k2 _).mono ?_; rintro e w2 ⟨rfl, hb2⟩; obtain ⟨hc2, hf2⟩ := bcell hb2; have hz2 : w1.heap.size < w2.heap.size := by have := hb2.size; simp at this; omega))
  refine hQ.out _ _ ⟨rfl, ?_⟩
  exact bmore (bthen (bmore (bthen (Below.refl _ _) hb1) _) hb2) _
end Go.Proofs.Ytpjegpgnelfeeab
