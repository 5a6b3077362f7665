import Derived.Test.YtajlgpamcpgalaaTwinB
import Derived.Test.YtajlgpamcpgalaaRegC
namespace Go.Proofs.Ytajlgpamcpgalaa
open Go.ChangeShapes Go.WideShapes Go.ChangeAt Go.RowKit
set_option linter.unusedVariables false

theorem up_near (h1 l1 k : Nat) (hh : h1 ≤ 18446744073709551615) (hl : l1 ≤ 18446744073709551615) (hk : k < 64) :
    Tw ((h1 * 18446744073709551616 + l1) * 2 ^ k % 340282366920938463463374607431768211456) (((h1 <<< k) % 2 ^ 64) ||| (l1 >>> (64 - k))) ((l1 <<< k) % 2 ^ 64) := by
  have e : 2 ^ 64 = 2 ^ k * 2 ^ (64 - k) := by rw [← Nat.pow_add]; congr 1; omega
  have hp : 0 < 2 ^ k := Nat.pow_pos (by decide)
  have hq : 0 < 2 ^ (64 - k) := Nat.pow_pos (by decide)
  have h3 : l1 >>> (64 - k) < 2 ^ k := by
    rw [Nat.shiftRight_eq_div_pow]; exact Nat.div_lt_of_lt_mul (by rw [Nat.mul_comm, ← e]; omega)
  have h4 : (h1 <<< k) % 2 ^ 64 = (h1 % 2 ^ (64 - k)) <<< k := by
    rw [Nat.shiftLeft_eq, Nat.shiftLeft_eq, e, Nat.mul_comm h1, Nat.mul_mod_mul_left, Nat.mul_comm]
  have h5 : ((h1 <<< k) % 2 ^ 64) ||| (l1 >>> (64 - k)) = (h1 <<< k) % 2 ^ 64 + l1 >>> (64 - k) := by
    rw [h4, Nat.shiftLeft_add_eq_or_of_lt h3]
  rw [h5]
  have h6 : l1 * 2 ^ k = (l1 >>> (64 - k)) * 2 ^ 64 + (l1 <<< k) % 2 ^ 64 := by
    rw [Nat.shiftRight_eq_div_pow, Nat.shiftLeft_eq]
    have h7 : l1 / 2 ^ (64 - k) = l1 * 2 ^ k / 2 ^ 64 := by rw [e, Nat.mul_comm (2 ^ k) (2 ^ (64 - k)), Nat.mul_div_mul_right _ _ hp]
    rw [h7]; omega
  have h8 : (h1 * 18446744073709551616 + l1) * 2 ^ k = h1 * 2 ^ k * 18446744073709551616 + l1 * 2 ^ k := by rw [Nat.add_mul, Nat.mul_right_comm]
  have h9 : (h1 <<< k) = h1 * 2 ^ k := Nat.shiftLeft_eq _ _
  have h10 : h1 * 2 ^ k % 2 ^ 64 + l1 >>> (64 - k) < 2 ^ 64 := by
    rw [← h9, h4, Nat.shiftLeft_eq]
    have := Nat.mod_lt h1 hq
    have h11 : (h1 % 2 ^ (64 - k) + 1) * 2 ^ k ≤ 2 ^ (64 - k) * 2 ^ k := Nat.mul_le_mul this (Nat.le_refl _)
    rw [Nat.add_mul, Nat.one_mul, Nat.mul_comm (2 ^ (64 - k)), ← e] at h11
    omega
  rw [h8, h6, h9]
  generalize h1 * 2 ^ k = X at *
  generalize l1 >>> (64 - k) = Y at *
  have hz : l1 <<< k % 2 ^ 64 < 2 ^ 64 := Nat.mod_lt _ (by decide)
  generalize l1 <<< k % 2 ^ 64 = Z at *
  clear h3 h4 h5 h6 h8 h9 e hp hq
  refine ⟨by omega, by omega, by omega⟩
theorem up_far (h1 l1 k : Nat) (hk : 64 ≤ k) : Tw ((h1 * 18446744073709551616 + l1) * 2 ^ k % 340282366920938463463374607431768211456) ((l1 <<< (k - 64)) % 2 ^ 64) 0 := by
  have e : 2 ^ k = 2 ^ (k - 64) * 2 ^ 64 := by rw [← Nat.pow_add]; congr 1; omega
  have h8 : (h1 * 18446744073709551616 + l1) * 2 ^ k = h1 * 2 ^ (k - 64) * 340282366920938463463374607431768211456 + l1 * 2 ^ (k - 64) * 18446744073709551616 := by
    rw [e, Nat.add_mul, show (340282366920938463463374607431768211456 : Nat) = 2 ^ 64 * 2 ^ 64 by decide, show (18446744073709551616 : Nat) = 2 ^ 64 by decide]
    rw [← Nat.mul_assoc l1, ← Nat.mul_assoc (h1 * 2 ^ (k - 64)), Nat.mul_assoc h1 (2 ^ 64), Nat.mul_comm (2 ^ 64) (2 ^ (k - 64) * 2 ^ 64), ← Nat.mul_assoc h1, ← Nat.mul_assoc h1]
  rw [h8, Nat.shiftLeft_eq]
  generalize h1 * 2 ^ (k - 64) = X
  generalize l1 * 2 ^ (k - 64) = Y
  refine ⟨by omega, by omega, by omega⟩
theorem down_near (h1 l1 k : Nat) (hh : h1 ≤ 18446744073709551615) (hl : l1 ≤ 18446744073709551615) (hk : k < 64) :
    Tw ((h1 * 18446744073709551616 + l1) / 2 ^ k) (h1 >>> k) ((l1 >>> k) ||| ((h1 <<< (64 - k)) % 2 ^ 64)) := by
  have e : 2 ^ 64 = 2 ^ k * 2 ^ (64 - k) := by rw [← Nat.pow_add]; congr 1; omega
  have hp : 0 < 2 ^ k := Nat.pow_pos (by decide)
  have hq : 0 < 2 ^ (64 - k) := Nat.pow_pos (by decide)
  have h3 : l1 >>> k < 2 ^ (64 - k) := by
    rw [Nat.shiftRight_eq_div_pow]; exact Nat.div_lt_of_lt_mul (by rw [← e]; omega)
  have h4 : (h1 <<< (64 - k)) % 2 ^ 64 = (h1 % 2 ^ k) <<< (64 - k) := by
    rw [Nat.shiftLeft_eq, Nat.shiftLeft_eq, e, Nat.mul_mod_mul_right]
  have h5 : (l1 >>> k) ||| ((h1 <<< (64 - k)) % 2 ^ 64) = (h1 % 2 ^ k) * 2 ^ (64 - k) + l1 >>> k := by
    rw [h4, Nat.or_comm, ← Nat.shiftLeft_add_eq_or_of_lt h3, Nat.shiftLeft_eq]
  rw [h5]
  have h7 : h1 * 18446744073709551616 + l1 = (h1 / 2 ^ k * 18446744073709551616 + h1 % 2 ^ k * 2 ^ (64 - k)) * 2 ^ k + l1 := by
    have a1 : h1 * 18446744073709551616 = (2 ^ k * (h1 / 2 ^ k) + h1 % 2 ^ k) * 18446744073709551616 := by rw [Nat.div_add_mod]
    have a2 : h1 % 2 ^ k * 18446744073709551616 = h1 % 2 ^ k * 2 ^ (64 - k) * 2 ^ k := by
      rw [Nat.mul_assoc, Nat.mul_comm (2 ^ (64 - k)), ← e]
    rw [a1, Nat.add_mul, a2, Nat.add_mul, Nat.mul_comm (2 ^ k), Nat.mul_right_comm]
  rw [h7, Nat.add_comm, Nat.add_mul_div_right _ _ hp, Nat.shiftRight_eq_div_pow, Nat.shiftRight_eq_div_pow]
  rw [Nat.shiftRight_eq_div_pow] at h3
  have h8 : (h1 % 2 ^ k) * 2 ^ (64 - k) + l1 / 2 ^ k < 2 ^ 64 := by
    have := Nat.mod_lt h1 hp
    have h11 : (h1 % 2 ^ k + 1) * 2 ^ (64 - k) ≤ 2 ^ k * 2 ^ (64 - k) := Nat.mul_le_mul this (Nat.le_refl _)
    rw [Nat.add_mul, Nat.one_mul, ← e] at h11
    omega
  have h9 : h1 / 2 ^ k ≤ h1 := Nat.div_le_self _ _
  generalize (h1 % 2 ^ k) * 2 ^ (64 - k) = X at *
  generalize l1 / 2 ^ k = Y at *
  generalize h1 / 2 ^ k = Z at *
  clear h3 h4 h5 h7 e hp hq
  refine ⟨by omega, by omega, by omega⟩
theorem down_far (h1 l1 k : Nat) (hh : h1 ≤ 18446744073709551615) (hl : l1 ≤ 18446744073709551615) (hk : 64 ≤ k) :
    Tw ((h1 * 18446744073709551616 + l1) / 2 ^ k) 0 (h1 >>> (k - 64)) := by
  have e : 2 ^ k = 2 ^ 64 * 2 ^ (k - 64) := by rw [← Nat.pow_add]; congr 1; omega
  rw [e, ← Nat.div_div_eq_div_mul, Nat.shiftRight_eq_div_pow, show (h1 * 18446744073709551616 + l1) / 2 ^ 64 = h1 by omega]
  have := Nat.div_le_self h1 (2 ^ (k - 64))
  refine ⟨by omega, by omega, by omega⟩

theorem shl_min (x i : Nat) : (x <<< i) % 2 ^ 64 = (x <<< (min i 64)) % 2 ^ 64 := by
  by_cases h : i ≤ 64
  · rw [Nat.min_eq_left h]
  · rw [Nat.min_eq_right (by omega), Nat.shiftLeft_eq, Nat.shiftLeft_eq, Nat.mul_mod_left, show 2 ^ i = 2 ^ (i - 64) * 2 ^ 64 by rw [← Nat.pow_add]; congr 1; omega, ← Nat.mul_assoc, Nat.mul_mod_left]
theorem shr_min (x i : Nat) (hx : x ≤ 18446744073709551615) : x >>> i = x >>> (min i 64) := by
  by_cases h : i ≤ 64
  · rw [Nat.min_eq_left h]
  · have h1 : 2 ^ 64 ≤ 2 ^ i := Nat.pow_le_pow_right (by decide) (by omega)
    rw [Nat.min_eq_right (by omega), Nat.shiftRight_eq_div_pow, Nat.shiftRight_eq_div_pow, Nat.div_eq_of_lt (by omega), Nat.div_eq_of_lt (by omega)]
theorem Tw.one {n h l h' l' : Nat} (a : Tw n h l) (b : Tw n h' l') : h = h' ∧ l = l' := by
  obtain ⟨e, a1, a2⟩ := a
  obtain ⟨e', b1, b2⟩ := b
  omega
set_option maxHeartbeats 1000000 in
theorem up_any {a h1 l1 h l : Nat} (k : Nat) (hk : k ≤ 9223372036854775807) (ha : Tw a h1 l1) (hs : Tw ((a * 2 ^ k) % 340282366920938463463374607431768211456) h l) (w : World) :
    Calls Try.prog 49 #[.agg #[.int .u64 h1, .int .u64 l1], .int .i64 k] w fun e w' => e = .returned (.agg #[.int .u64 h, .int .u64 l]) ∧ Below w.heap.size w w' := by
  refine cps fun Q hQ => ?_
  obtain ⟨ea, hh, hl⟩ := ha
  rw [ea] at hs
  by_cases h64 : 64 ≤ k
  · obtain ⟨e1, e2⟩ := hs.one (up_far h1 l1 k h64)
    obtain ⟨i, rfl⟩ : ∃ i, k = 64 + i := ⟨k - 64, by omega⟩
    rw [show 64 + i - 64 = i by omega] at e1
    have hv := wrapShl l1 (min i 64)
    rw [← shl_min, ← e1] at hv
    subst e2
    have hki : ((64 + i : Nat) : Int) - 64 = i := by omega
    clear hs e1 ea
    have hk64 : (64 : Int) ≤ ((64 + i : Nat) : Int) := by omega
    generalize ((64 + i : Nat) : Int) = K at *
    go_enter Try.func49, Try.ntmps49
    go_wp2
    refine bodyPost_ret (v := .agg #[.int .u64 h, .int .u64 0]) (by simp [results, Try.results49, go_sem]) rfl (hQ.out _ _ ⟨rfl, ?_⟩)
    exact bmore (bmore (Below.refl _ _) _) _
  · obtain ⟨e1, e2⟩ := hs.one (up_near h1 l1 k hh hl (by omega))
    have v1 := wrapShl h1 k
    have v2 := wrapShl l1 k
    have v3 := shrN l1 (64 - k)
    have v4 := u64_or_nat ((h1 <<< k) % 2 ^ 64) (l1 >>> (64 - k)) (Nat.mod_lt _ (by decide)) (Nat.lt_of_le_of_lt (Nat.shiftRight_le _ _) (by omega))
    rw [← e1] at v4
    rw [← e2] at v2
    have hk1 : k < 64 := by omega
    have hq : (64 : Int) - k = ((64 - k : Nat) : Int) := by omega
    clear hs e1 e2 ea h64
    generalize 64 - k = j at *
    generalize l1 >>> j = x at *
    generalize h1 <<< k % 2 ^ 64 = y at *
    go_enter Try.func49, Try.ntmps49
    go_wp2
    go_region
    all_goals
      go_wp2
      refine bodyPost_ret (v := .agg #[.int .u64 h, .int .u64 l]) (by simp [results, Try.results49, go_sem]) rfl (hQ.out _ _ ⟨rfl, ?_⟩)
      exact (bmore (bmore (Below.refl _ _) _) _).drew
set_option maxHeartbeats 1000000 in
theorem down_any {a h1 l1 h l : Nat} (k : Nat) (hk : k ≤ 9223372036854775807) (ha : Tw a h1 l1) (hs : Tw (a / 2 ^ k) h l) (w : World) :
    Calls Try.prog 76 #[.agg #[.int .u64 h1, .int .u64 l1], .int .i64 k] w fun e w' => e = .returned (.agg #[.int .u64 h, .int .u64 l]) ∧ Below w.heap.size w w' := by
  refine cps fun Q hQ => ?_
  obtain ⟨ea, hh, hl⟩ := ha
  rw [ea] at hs
  by_cases h64 : 64 ≤ k
  · obtain ⟨e1, e2⟩ := hs.one (down_far h1 l1 k hh hl h64)
    obtain ⟨i, rfl⟩ : ∃ i, k = 64 + i := ⟨k - 64, by omega⟩
    rw [show 64 + i - 64 = i by omega] at e2
    have hv := shrN h1 (min i 64)
    rw [← shr_min _ _ hh, ← e2] at hv
    subst e1
    have hki : ((64 + i : Nat) : Int) - 64 = i := by omega
    clear hs e2 ea
    have hk64 : (64 : Int) ≤ ((64 + i : Nat) : Int) := by omega
    generalize ((64 + i : Nat) : Int) = K at *
    go_enter Try.func76, Try.ntmps76
    go_wp2
    refine bodyPost_ret (v := .agg #[.int .u64 0, .int .u64 l]) (by simp [results, Try.results76, go_sem]) rfl (hQ.out _ _ ⟨rfl, ?_⟩)
    exact bmore (bmore (Below.refl _ _) _) _
  · obtain ⟨e1, e2⟩ := hs.one (down_near h1 l1 k hh hl (by omega))
    have v1 := shrN h1 k
    have v2 := shrN l1 k
    have v3 := wrapShl h1 (64 - k)
    have v4 := u64_or_nat (l1 >>> k) ((h1 <<< (64 - k)) % 2 ^ 64) (Nat.lt_of_le_of_lt (Nat.shiftRight_le _ _) (by omega)) (Nat.mod_lt _ (by decide))
    rw [← e2] at v4
    rw [← e1] at v1
    have hk1 : k < 64 := by omega
    have hq : (64 : Int) - k = ((64 - k : Nat) : Int) := by omega
    clear hs e1 e2 ea h64
    generalize 64 - k = j at *
    generalize l1 >>> k = x at *
    generalize h1 <<< j % 2 ^ 64 = y at *
    go_enter Try.func76, Try.ntmps76
    go_wp2
    go_region
    all_goals
      go_wp2
      refine bodyPost_ret (v := .agg #[.int .u64 h, .int .u64 l]) (by simp [results, Try.results76, go_sem]) rfl (hQ.out _ _ ⟨rfl, ?_⟩)
      exact (bmore (bmore (Below.refl _ _) _) _).drew
end Go.Proofs.Ytajlgpamcpgalaa
