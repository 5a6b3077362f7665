import Derived.Test.YtilamolgfkooaaaTwinC
namespace Go.Proofs.Ytilamolgfkooaaa
open Go.ChangeShapes Go.WideShapes Go.ChangeAt Go.RowKit
set_option linter.unusedVariables false

set_option maxHeartbeats 2000000 in
theorem rsub_any {a b h1 l1 h2 l2 h l : Nat} {c : Bool} (ha : Tw a h1 l1) (hb : Tw b h2 l2) (hs : Tw ((a + 340282366920938463463374607431768211456 - b) % 340282366920938463463374607431768211456) h l) (hc : c = decide (a < b)) (w : World) :
    Calls Try.prog 13 #[.agg #[.int .u64 h1, .int .u64 l1], .agg #[.int .u64 h2, .int .u64 l2]] w fun e w' => e = .returned (.tuple #[.agg #[.int .u64 h, .int .u64 l], .bool c]) ∧ Below w.heap.size w w' := by
  refine cps fun Q hQ => ?_
  have k1 := fun w => rof_any ha w
  have k2 := fun w => rof_any hb w
  have la := ha.lt
  have lb := hb.lt
  have k3 := fun va vb w h1 h2 => nadd_any va vb a 340282366920938463463374607431768211456 (dlen_ok (by omega)) w h1 h2
  have k6 := fun va vb w h1 h2 => nsub_any va vb (a + 340282366920938463463374607431768211456) b (by omega) (dlen_ok (by omega)) w h1 h2
  have k4 := fun v w hr => told_any (dlen_ok (by omega)) hs v w hr
  have k5 := fun va vb w h1 h2 => ncmp_any va vb a b w h1 h2
  rw [cmpN_less] at hc
  obtain ⟨x, hx⟩ : ∃ x, x = cmpN a b := ⟨_, rfl⟩
  rw [← hx] at k5 hc
  clear hx ha hb hs la lb
  have HX : Hid (c = decide (x < 0)) := hc
  clear hc
  generalize a + 340282366920938463463374607431768211456 - b = s at *
  generalize a + 340282366920938463463374607431768211456 = t at *
  go_enter Try.func13, Try.ntmps13
  go_wp2
  refine wpC_region (fun W => W.cell? ⟨w.heap.size, 0, none⟩ = some (.int .u64 h1) ∧ W.cell? ⟨w.heap.size, 1, none⟩ = some (.int .u64 l1) ∧ W.cell? ⟨w.heap.size + 1, 0, none⟩ = some (.int .u64 h2) ∧ W.cell? ⟨w.heap.size + 1, 1, none⟩ = some (.int .u64 l2)) (by kernel_rfl) ?_
  refine wpC_take 0 (v := ?_) rfl (by kernel_rfl) (fun _ _ _ h => h) (by rfl) ?_ ?_; rotate_left; · (intro wC hC; obtain ⟨c1, c2, c3, c4⟩ := hC; go_simp <;> with_reducible rfl)
  refine wpC_take 4 (v := ?_) rfl (by kernel_rfl) (fun _ _ _ h => h) (by rfl) ?_ ?_; rotate_left; · (intro wC hC; obtain ⟨c1, c2, c3, c4⟩ := hC; go_simp <;> with_reducible rfl)
  refine wpC_step 1 rfl (by kernel_rfl) (by rfl) (by simp [go_sem]) (fun K hK => ?_)
  go_simp
  go_wp2_with ((go_at_call_of 30 h1; refine (k1 _).mono ?_; rintro e w1 ⟨v1, rfl, hr1, hb1⟩; obtain ⟨hc1, hf1⟩ := bcell hb1))
  try (refine hK _ _ ?_; clear hK K)
  refine wpC_step 2 rfl (by kernel_rfl) (by rfl) (by simp [go_sem, hc1]) (fun K hK => ?_)
  go_simp
  go_wp2_with ((go_at_call 33; refine (all_any _).mono ?_; rintro e w2 ⟨v2, rfl, hr2, hb2⟩; have hb12 := bthen hb1 hb2; obtain ⟨hc2, hf2⟩ := bcell hb12))
  try (refine hK _ _ ?_; clear hK K)
  refine wpC_step 3 rfl (by kernel_rfl) (by rfl) (by simp [go_sem, hc2]) (fun K hK => ?_)
  go_simp
  go_wp2_with ((go_at_call 29; refine (k3 _ _ _ (hr1.below hb2) hr2).mono ?_; rintro e w3 ⟨v3, rfl, hr3, hb3⟩; have hb13 := bthen hb12 hb3; obtain ⟨hc3, hf3⟩ := bcell hb13))
  try (refine hK _ _ ?_; clear hK K)
  refine wpC_step 5 rfl (by kernel_rfl) (by rfl) (by simp [go_sem, hc3]) (fun K hK => ?_)
  go_simp
  go_wp2_with ((go_at_call_of 30 h2; refine (k2 _).mono ?_; rintro e w4 ⟨v4, rfl, hr4, hb4⟩; have hb14 := bthen hb13 hb4; obtain ⟨hc4, hf4⟩ := bcell hb14))
  try (refine hK _ _ ?_; clear hK K)
  refine wpC_step 6 rfl (by kernel_rfl) (by rfl) (by simp [go_sem, hc4]) (fun K hK => ?_)
  go_simp
  go_wp2_with ((go_at_call 34; refine (k6 _ _ _ (hr3.below hb4) hr4).mono ?_; rintro e w5 ⟨v5, rfl, hr5, hb5⟩; have hb15 := bthen hb14 hb5; obtain ⟨hc5, hf5⟩ := bcell hb15))
  try (refine hK _ _ ?_; clear hK K)
  refine wpC_step 7 rfl (by kernel_rfl) (by rfl) (by simp [go_sem, hc5]) (fun K hK => ?_)
  go_simp
  try (refine hK _ _ ?_; clear hK K)
  refine wpC_done (by kernel_rfl) (by simp [go_sem, hc5]) ?_
  clear hc1 hf1 hc2 hf2 hc3 hf3 hc4 hf4
  go_wp2
  refine wpC_region (fun W => W.cell? ⟨w.heap.size, 0, none⟩ = some (.int .u64 h1) ∧ W.cell? ⟨w.heap.size, 1, none⟩ = some (.int .u64 l1) ∧ W.cell? ⟨w.heap.size + 1, 0, none⟩ = some (.int .u64 h2) ∧ W.cell? ⟨w.heap.size + 1, 1, none⟩ = some (.int .u64 l2)) (by kernel_rfl) ?_
  refine wpC_take 0 (v := ?_) rfl (by kernel_rfl) (fun _ _ _ h => h) (by rfl) ?_ ?_; rotate_left; · (intro wC hC; obtain ⟨c1, c2, c3, c4⟩ := hC; go_simp <;> with_reducible rfl)
  refine wpC_take 2 (v := ?_) rfl (by kernel_rfl) (fun _ _ _ h => h) (by rfl) ?_ ?_; rotate_left; · (intro wC hC; obtain ⟨c1, c2, c3, c4⟩ := hC; go_simp <;> with_reducible rfl)
  refine wpC_take 4 (v := ?_) rfl (by kernel_rfl) (fun _ _ _ h => h) (by rfl) ?_ ?_; rotate_left; · (intro wC hC; obtain ⟨c1, c2, c3, c4⟩ := hC; go_simp <;> with_reducible rfl)
  refine wpC_step 1 rfl (by kernel_rfl) (by rfl) (by simp [go_sem, hc5]) (fun K hK => ?_)
  go_simp
  go_wp2_with ((go_at_call 31; refine (k4 _ _ hr5.drew).mono ?_; rintro e w6 ⟨rfl, hb6⟩; have hb16 := bthen (bdrew hb15) hb6; obtain ⟨hc6, hf6⟩ := bcell hb16))
  try (refine hK _ _ ?_; clear hK K)
  refine wpC_step 3 rfl (by kernel_rfl) (by rfl) (by simp [go_sem, hc6]) (fun K hK => ?_)
  go_simp
  go_wp2_with ((go_at_call_of 30 h1; refine (k1 _).mono ?_; rintro e w7 ⟨v7, rfl, hr7, hb7⟩; have hb17 := bthen hb16 hb7; obtain ⟨hc7, hf7⟩ := bcell hb17))
  try (refine hK _ _ ?_; clear hK K)
  refine wpC_step 5 rfl (by kernel_rfl) (by rfl) (by simp [go_sem, hc7]) (fun K hK => ?_)
  go_simp
  go_wp2_with ((go_at_call_of 30 h2; refine (k2 _).mono ?_; rintro e w8 ⟨v8, rfl, hr8, hb8⟩; have hb18 := bthen hb17 hb8; obtain ⟨hc8, hf8⟩ := bcell hb18))
  try (refine hK _ _ ?_; clear hK K)
  refine wpC_step 6 rfl (by kernel_rfl) (by rfl) (by simp [go_sem, hc8]) (fun K hK => ?_)
  go_simp
  go_wp2_with ((go_at_call 32; refine (k5 _ _ _ (hr7.below hb8) hr8).mono ?_; rintro e w9 ⟨rfl, q, rfl⟩))
  try (refine hK _ _ ?_; clear hK K)
  refine wpC_take 7 (v := ?_) rfl (by kernel_rfl) (fun _ _ _ h => h) (by rfl) ?_ ?_; rotate_left; · (intro wC hC; obtain ⟨c1, c2, c3, c4⟩ := hC; go_simp <;> with_reducible rfl)
  refine wpC_step 8 rfl (by kernel_rfl) (by rfl) (by simp [go_sem, hc8]) (fun K hK => ?_)
  go_simp
  try (refine hK _ _ ?_; clear hK K)
  refine wpC_step 9 rfl (by kernel_rfl) (by rfl) (by simp [go_sem, hc8]) (fun K hK => ?_)
  go_simp
  try (refine hK _ _ ?_; clear hK K)
  refine wpC_done (by kernel_rfl) (by simp [go_sem, hc8]) ?_
  go_wp2
  refine bodyPost_ret (v := .tuple #[.agg #[.int .u64 h, .int .u64 l], .bool c]) (by simp [results, Try.results13, go_sem, hc8, HX.out]) rfl (hQ.out _ _ ⟨rfl, ?_⟩)
  exact bset (bset (bdrewN (bthen (bdrew (bmore (bmore (bmore (Below.refl _ _) _) _) _)) hb18) _) (by omega) _ _) (by omega) _ _

set_option maxHeartbeats 1000000 in
theorem rcmp_any {a b h1 l1 h2 l2 : Nat} (ha : Tw a h1 l1) (hb : Tw b h2 l2) (w : World) :
    Calls Try.prog 15 #[.agg #[.int .u64 h1, .int .u64 l1], .agg #[.int .u64 h2, .int .u64 l2]] w fun e w' => e = .returned (.int .i64 (cmpN a b)) ∧ Below w.heap.size w w' := by
  refine cps fun Q hQ => ?_
  have k1 := fun w => rof_any ha w
  have k2 := fun w => rof_any hb w
  have k5 := fun va vb w h1 h2 => ncmp_any va vb a b w h1 h2
  obtain ⟨x, hx⟩ : ∃ x, x = cmpN a b := ⟨_, rfl⟩
  rw [← hx] at k5 hQ
  clear hx ha hb
  go_enter Try.func15, Try.ntmps15
  go_wp2
  refine wpC_region (fun W => W.cell? ⟨w.heap.size, 0, none⟩ = some (.int .u64 h1) ∧ W.cell? ⟨w.heap.size, 1, none⟩ = some (.int .u64 l1) ∧ W.cell? ⟨w.heap.size + 1, 0, none⟩ = some (.int .u64 h2) ∧ W.cell? ⟨w.heap.size + 1, 1, none⟩ = some (.int .u64 l2)) (by kernel_rfl) ?_
  refine wpC_take 0 (v := ?_) rfl (by kernel_rfl) (fun _ _ _ h => h) (by rfl) ?_ ?_; rotate_left; · (intro wC hC; obtain ⟨c1, c2, c3, c4⟩ := hC; go_simp <;> with_reducible rfl)
  refine wpC_take 2 (v := ?_) rfl (by kernel_rfl) (fun _ _ _ h => h) (by rfl) ?_ ?_; rotate_left; · (intro wC hC; obtain ⟨c1, c2, c3, c4⟩ := hC; go_simp <;> with_reducible rfl)
  refine wpC_step 1 rfl (by kernel_rfl) (by rfl) (by simp [go_sem]) (fun K hK => ?_)
  go_simp
  go_wp2_with ((go_at_call_of 30 h1; refine (k1 _).mono ?_; rintro e w1 ⟨v1, rfl, hr1, hb1⟩; obtain ⟨hc1, hf1⟩ := bcell hb1))
  try (refine hK _ _ ?_; clear hK K)
  refine wpC_step 3 rfl (by kernel_rfl) (by rfl) (by simp [go_sem, hc1]) (fun K hK => ?_)
  go_simp
  go_wp2_with ((go_at_call_of 30 h2; refine (k2 _).mono ?_; rintro e w2 ⟨v2, rfl, hr2, hb2⟩; have hb12 := bthen hb1 hb2; obtain ⟨hc2, hf2⟩ := bcell hb12))
  try (refine hK _ _ ?_; clear hK K)
  refine wpC_step 4 rfl (by kernel_rfl) (by rfl) (by simp [go_sem, hc2]) (fun K hK => ?_)
  go_simp
  go_wp2_with ((go_at_call 32; refine (k5 _ _ _ (hr1.below hb2) hr2).mono ?_; rintro e w3 ⟨rfl, q, rfl⟩))
  try (refine hK _ _ ?_; clear hK K)
  refine wpC_step 5 rfl (by kernel_rfl) (by rfl) (by simp [go_sem, hc2]) (fun K hK => ?_)
  go_simp
  try (refine hK _ _ ?_; clear hK K)
  refine wpC_done (by kernel_rfl) (by simp [go_sem, hc2]) ?_
  go_wp2
  refine hQ.out _ _ ⟨rfl, ?_⟩
  exact bdrewN (bthen (bdrew (bmore (bmore (Below.refl _ _) _) _)) hb12) _

theorem rmul_any {x y h l : Nat} (hx : x ≤ 18446744073709551615) (hy : y ≤ 18446744073709551615) (hs : Tw (x * y) h l) (w : World) :
    Calls Try.prog 17 #[.int .u64 x, .int .u64 y] w fun e w' => e = .returned (.agg #[.int .u64 h, .int .u64 l]) ∧ Below w.heap.size w w' := by
  refine cps fun Q hQ => ?_
  have k1 := of_any x (by omega)
  have k2 := of_any y (by omega)
  have k3 := fun va vb w h1 h2 => nmul_any va vb x y (dlen_ok (by omega)) (dlen_ok (by omega)) w h1 h2
  have hl := hs.lt
  have k4 := fun v w hr => told_any (n := x * y) (h := h) (l := l) (dlen_ok (by omega)) (by rw [Nat.mod_eq_of_lt hl]; exact hs) v w hr
  generalize x * y = s at *
  clear hx hy hs hl
  go_enter Try.func17, Try.ntmps17
  go_wp2_with (first
    | (go_at_call_of 39 x; refine (k1 _).mono ?_; rintro e w1 ⟨v1, rfl, hr1, hb1⟩)
    | (go_at_call_of 39 y; refine (k2 _).mono ?_; rintro e w2 ⟨v2, rfl, hr2, hb2⟩; have hb12 := bthen hb1 hb2)
    | (go_at_call 38; refine (k3 _ _ _ (hr1.below hb2) hr2).mono ?_; rintro e w3 ⟨v3, rfl, hr3, hb3⟩; have hb13 := bthen hb12 hb3)
    | (go_at_call 31; refine (k4 _ _ hr3).mono ?_; rintro e w4 ⟨rfl, hb4⟩; have hb14 := bthen hb13 hb4; obtain ⟨hc4, hf4⟩ := bcell hb14))
  refine bodyPost_ret (v := .agg #[.int .u64 h, .int .u64 l]) (by simp [results, Try.results17, go_sem, hc4]) rfl (hQ.out _ _ ⟨rfl, ?_⟩)
  exact bset (bset (bthen (bmore (Below.refl _ _) _) hb14) (by omega) _ _) (by omega) _ _

theorem rlen_any {a h1 l1 : Nat} (ha : Tw a h1 l1) (w : World) :
    Calls Try.prog 26 #[.agg #[.int .u64 h1, .int .u64 l1]] w fun e w' => e = .returned (.int .i64 (blen a)) ∧ Below w.heap.size w w' := by
  refine cps fun Q hQ => ?_
  have k1 := fun w => rof_any ha w
  have k2 := fun v w hr => nbits_any v a (dlen_ok (by have := ha.lt; omega)) w hr
  clear ha
  go_enter Try.func26, Try.ntmps26
  go_wp2_with (first
    | (go_at_call 30; refine (k1 _).mono ?_; rintro e w1 ⟨v1, rfl, hr1, hb1⟩)
    | (go_at_call 47; refine (k2 _ _ hr1).mono ?_; rintro e w' ⟨rfl, hw⟩; rw [hw]; clear hw w'))
  exact hQ.out _ _ ⟨rfl, bthen (bmore (Below.refl _ _) _) hb1⟩

/-! ### shifts -/
theorem clamp_shl (a k : Nat) (ha : a < 340282366920938463463374607431768211456) : (a * 2 ^ k) % 340282366920938463463374607431768211456 = (a * 2 ^ (min k 128)) % 340282366920938463463374607431768211456 ∧
    decide (340282366920938463463374607431768211456 ≤ a * 2 ^ k) = decide (340282366920938463463374607431768211456 ≤ a * 2 ^ (min k 128)) := by
  have h128 : (340282366920938463463374607431768211456 : Nat) = 2 ^ 128 := by decide
  by_cases h : k ≤ 128
  · rw [Nat.min_eq_left h]; exact ⟨rfl, rfl⟩
  · rw [Nat.min_eq_right (by omega)]
    have e : 2 ^ k = 2 ^ (k - 128) * 2 ^ 128 := by rw [← Nat.pow_add]; congr 1; omega
    rw [e, ← Nat.mul_assoc, ← h128]
    have hp : 0 < 2 ^ (k - 128) := Nat.pow_pos (by decide)
    have hX : 0 < a * 2 ^ (k - 128) ↔ 0 < a := ⟨fun h => Nat.pos_of_mul_pos_right h, fun h => Nat.mul_pos h hp⟩
    generalize a * 2 ^ (k - 128) = X at *
    clear e hp
    refine ⟨by omega, decide_eq_decide.2 (by omega)⟩
theorem clamp_shr (a k : Nat) (ha : a < 340282366920938463463374607431768211456) : a / 2 ^ k = a / 2 ^ (min k 128) ∧ decide (a % 2 ^ k ≠ 0) = decide (a % 2 ^ (min k 128) ≠ 0) := by
  by_cases h : k ≤ 128
  · rw [Nat.min_eq_left h]; exact ⟨rfl, rfl⟩
  · rw [Nat.min_eq_right (by omega)]
    have h1 : a < 2 ^ 128 := ha
    have h2 : 2 ^ 128 ≤ 2 ^ k := Nat.pow_le_pow_right (by decide) (by omega)
    have h3 : a < 2 ^ k := by omega
    rw [Nat.div_eq_of_lt h1, Nat.div_eq_of_lt h3, Nat.mod_eq_of_lt h1, Nat.mod_eq_of_lt h3]
    exact ⟨rfl, rfl⟩
theorem shl_dlen (a k : Nat) (ha : a < 340282366920938463463374607431768211456) (hk : k ≤ 128) : dlen (a * 2 ^ k) ≤ 1099511627776 := by
  refine Nat.le_trans (dlen_le_of_lt (k := 12) ?_) (by decide)
  have h1 : 2 ^ k ≤ 2 ^ 128 := Nat.pow_le_pow_right (by decide) hk
  exact Nat.lt_of_lt_of_le (Nat.mul_lt_mul_of_lt_of_le ha h1 (Nat.pow_pos (by decide))) (by decide)

theorem rshl_no (k : Int) (hk : k < 0) (h1 l1 : Nat) (w : World) :
    Calls Try.prog 19 #[.agg #[.int .u64 h1, .int .u64 l1], .int .i64 k] w fun e w' => e = .returned (.tuple #[.agg #[.int .u64 0, .int .u64 0], .bool false, .int .i64 1]) ∧ Below w.heap.size w w' := by
  refine cps fun Q hQ => ?_
  go_enter Try.func19, Try.ntmps19
  go_wp2
  refine bodyPost_ret (v := .tuple #[.agg #[.int .u64 0, .int .u64 0], .bool false, .int .i64 1]) (by simp [results, Try.results19, go_sem]) rfl (hQ.out _ _ ⟨rfl, ?_⟩)
  exact bmore (bmore (Below.refl _ _) _) _
theorem rshr_no (k : Int) (hk : k < 0) (h1 l1 : Nat) (w : World) :
    Calls Try.prog 22 #[.agg #[.int .u64 h1, .int .u64 l1], .int .i64 k] w fun e w' => e = .returned (.tuple #[.agg #[.int .u64 0, .int .u64 0], .bool false, .int .i64 1]) ∧ Below w.heap.size w w' := by
  refine cps fun Q hQ => ?_
  go_enter Try.func22, Try.ntmps22
  go_wp2
  refine bodyPost_ret (v := .tuple #[.agg #[.int .u64 0, .int .u64 0], .bool false, .int .i64 1]) (by simp [results, Try.results22, go_sem]) rfl (hQ.out _ _ ⟨rfl, ?_⟩)
  exact bmore (bmore (Below.refl _ _) _) _
set_option maxHeartbeats 1000000 in
theorem rshl_any {a h1 l1 h l : Nat} {c : Bool} (k : Nat) (hk : k ≤ 9223372036854775807) (ha : Tw a h1 l1) (hs : Tw ((a * 2 ^ k) % 340282366920938463463374607431768211456) h l) (hc : c = decide (340282366920938463463374607431768211456 ≤ a * 2 ^ k)) (w : World) :
    Calls Try.prog 19 #[.agg #[.int .u64 h1, .int .u64 l1], .int .i64 k] w fun e w' => e = .returned (.tuple #[.agg #[.int .u64 h, .int .u64 l], .bool c, .int .i64 0]) ∧ Below w.heap.size w w' := by
  refine cps fun Q hQ => ?_
  obtain ⟨e1, e2⟩ := clamp_shl a k ha.lt
  rw [e1] at hs
  rw [e2] at hc
  have k1 := fun w => rof_any ha w
  have hm : min k 128 ≤ 128 := by omega
  have k2 := fun v w hr => nshl_any v a (min k 128) (by omega) (dlen_ok (by have := ha.lt; omega)) w hr
  have k4 := fun v w hr => told_any (shl_dlen a (min k 128) ha.lt hm) hs v w hr
  have k5 := fun va vb w h1 h2 => ncmp_any va vb (a * 2 ^ (min k 128)) 340282366920938463463374607431768211456 w h1 h2
  rw [cmpN_ge] at hc
  obtain ⟨x, hx⟩ : ∃ x, x = cmpN (a * 2 ^ (min k 128)) 340282366920938463463374607431768211456 := ⟨_, rfl⟩
  rw [← hx] at k5 hc
  have HX : Hid (c = decide (0 ≤ x)) := hc
  generalize a * 2 ^ (min k 128) = s at *
  clear hx hc hs e1 e2 ha
  have hmk : (k ≤ 128 ∧ min k 128 = k) ∨ (128 < k ∧ min k 128 = 128) := by omega
  generalize min k 128 = m at *
  rcases hmk with ⟨hk1, hk2⟩ | ⟨hk1, hk2⟩
  all_goals
    subst hk2
    go_enter Try.func19, Try.ntmps19
    go_wp2_with (first
      | (go_at_call 30; refine (k1 _).mono ?_; rintro e w1 ⟨v1, rfl, hr1, hb1⟩)
      | (go_at_call 42; refine (k2 _ _ hr1).mono ?_; rintro e w3 ⟨v3, rfl, hr3, hb3⟩; have hb13 := bthen hb1 hb3)
      | (go_at_call 31; refine (k4 _ _ hr3).mono ?_; rintro e w4 ⟨rfl, hb4⟩; have hb14 := bthen hb13 hb4)
      | (go_at_call 33; refine (all_any _).mono ?_; rintro e w5 ⟨v5, rfl, hr5, hb5⟩; have hb15 := bthen hb14 hb5; obtain ⟨hc5, hf5⟩ := bcell hb15)
      | (go_at_call 32; refine (k5 _ _ _ ((hr3.below hb4).below hb5) hr5).mono ?_; rintro e w6 ⟨rfl, q, rfl⟩))
    refine bodyPost_ret (v := .tuple #[.agg #[.int .u64 h, .int .u64 l], .bool c, .int .i64 0]) (by simp [results, Try.results19, go_sem, hc5, HX.out]) rfl (hQ.out _ _ ⟨rfl, ?_⟩)
    exact bset (bset (bdrewN (bthen (bmore (bmore (Below.refl _ _) _) _) hb15) _) (by omega) _ _) (by omega) _ _
set_option maxHeartbeats 1000000 in
theorem rshr_any {a h1 l1 h l : Nat} {c : Bool} (k : Nat) (hk : k ≤ 9223372036854775807) (ha : Tw a h1 l1) (hs : Tw (a / 2 ^ k) h l) (hc : c = decide (a % 2 ^ k ≠ 0)) (w : World) :
    Calls Try.prog 22 #[.agg #[.int .u64 h1, .int .u64 l1], .int .i64 k] w fun e w' => e = .returned (.tuple #[.agg #[.int .u64 h, .int .u64 l], .bool c, .int .i64 0]) ∧ Below w.heap.size w w' := by
  refine cps fun Q hQ => ?_
  obtain ⟨e1, e2⟩ := clamp_shr a k ha.lt
  rw [e1] at hs
  rw [e2] at hc
  have k1 := fun w => rof_any ha w
  have hm : min k 128 ≤ 128 := by omega
  have hd := dlen_ok (n := a) (by have := ha.lt; omega)
  have k2 := fun v w hr => nshr_any v a (min k 128) (by omega) hd w hr
  have hlt := hs.lt
  have k4 := fun v w hr => told_any (n := a / 2 ^ (min k 128)) (h := h) (l := l) (dlen_ok (by omega)) (by rw [Nat.mod_eq_of_lt hlt]; exact hs) v w hr
  have k5 := fun v w hr => nlow_any v a (min k 128) (by omega) hd w hr
  rw [← hc] at k5
  generalize a / 2 ^ (min k 128) = s at *
  clear hc hs e1 e2 ha hd hlt
  have hmk : (k ≤ 128 ∧ min k 128 = k) ∨ (128 < k ∧ min k 128 = 128) := by omega
  generalize min k 128 = m at *
  rcases hmk with ⟨hk1, hk2⟩ | ⟨hk1, hk2⟩
  all_goals
    subst hk2
    go_enter Try.func22, Try.ntmps22
    go_wp2_with (first
      | (go_at_call 30; refine (k1 _).mono ?_; rintro e w1 ⟨v1, rfl, hr1, hb1⟩)
      | (go_at_call 44; refine (k2 _ _ hr1).mono ?_; rintro e w3 ⟨v3, rfl, hr3, hb3⟩; have hb13 := bthen hb1 hb3)
      | (go_at_call 31; refine (k4 _ _ hr3).mono ?_; rintro e w4 ⟨rfl, hb4⟩; have hb14 := bthen hb13 hb4; obtain ⟨hc5, hf5⟩ := bcell hb14)
      | (go_at_call 45; refine (k5 _ _ ((hr1.below hb3).below hb4)).mono ?_; rintro e w' ⟨rfl, hw⟩; rw [hw]; clear hw w'))
    refine bodyPost_ret (v := .tuple #[.agg #[.int .u64 h, .int .u64 l], .bool c, .int .i64 0]) (by simp [results, Try.results22, go_sem, hc5]) rfl (hQ.out _ _ ⟨rfl, ?_⟩)
    exact bset (bset (bthen (bmore (bmore (Below.refl _ _) _) _) hb14) (by omega) _ _) (by omega) _ _
end Go.Proofs.Ytilamolgfkooaaa
