import Derived.Test.YtajlgpamcpgalaaTwinC
namespace Go.Proofs.Ytajlgpamcpgalaa
open Go.ChangeShapes Go.WideShapes Go.ChangeAt Go.RowKit
set_option linter.unusedVariables false

/-! ### shifts -/
theorem clamp_shl (a k : Nat) (ha : a < 340282366920938463463374607431768211456) : (a * 2 ^ k) % 340282366920938463463374607431768211456 = (a * 2 ^ (min k 128)) % 340282366920938463463374607431768211456 ∧
    decide (340282366920938463463374607431768211456 ≤ a * 2 ^ k) = decide (340282366920938463463374607431768211456 ≤ a * 2 ^ (min k 128)) := by
  have h128 : (340282366920938463463374607431768211456 : Nat) = 2 ^ 128 := by decide
  by_cases h : k ≤ 128
  · rw [Nat.min_eq_left h]; exact ⟨rfl, rfl⟩
  · rw [Nat.min_eq_right (by omega)]
    have e : 2 ^ k = 2 ^ (k - 128) * 2 ^ 128 := by rw [← Nat.pow_add]; congr 1; omega
    rw [e, ← Nat.mul_assoc, ← h128]
    have hp : 0 < 2 ^ (k - 128) := Nat.pow_pos (by decide)
    have hX : 0 < a * 2 ^ (k - 128) ↔ 0 < a := ⟨fun h => Nat.pos_of_mul_pos_right h, fun h => Nat.mul_pos h hp⟩
    generalize a * 2 ^ (k - 128) = X at *
    clear e hp
    refine ⟨by omega, decide_eq_decide.2 (by omega)⟩
theorem clamp_shr (a k : Nat) (ha : a < 340282366920938463463374607431768211456) : a / 2 ^ k = a / 2 ^ (min k 128) ∧ decide (a % 2 ^ k ≠ 0) = decide (a % 2 ^ (min k 128) ≠ 0) := by
  by_cases h : k ≤ 128
  · rw [Nat.min_eq_left h]; exact ⟨rfl, rfl⟩
  · rw [Nat.min_eq_right (by omega)]
    have h1 : a < 2 ^ 128 := ha
    have h2 : 2 ^ 128 ≤ 2 ^ k := Nat.pow_le_pow_right (by decide) (by omega)
    have h3 : a < 2 ^ k := by omega
    rw [Nat.div_eq_of_lt h1, Nat.div_eq_of_lt h3, Nat.mod_eq_of_lt h1, Nat.mod_eq_of_lt h3]
    exact ⟨rfl, rfl⟩
theorem shl_dlen (a k : Nat) (ha : a < 340282366920938463463374607431768211456) (hk : k ≤ 128) : dlen (a * 2 ^ k) ≤ 1099511627776 := by
  refine Nat.le_trans (dlen_le_of_lt (k := 12) ?_) (by decide)
  have h1 : 2 ^ k ≤ 2 ^ 128 := Nat.pow_le_pow_right (by decide) hk
  exact Nat.lt_of_lt_of_le (Nat.mul_lt_mul_of_lt_of_le ha h1 (Nat.pow_pos (by decide))) (by decide)

end Go.Proofs.Ytajlgpamcpgalaa
