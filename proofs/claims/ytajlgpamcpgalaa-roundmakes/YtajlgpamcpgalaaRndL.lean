import Derived.Test.YtajlgpamcpgalaaRndK
import Derived.Test.YtajlgpamcpgalaaNumsD
import Derived.Test.YtajlgpamcpgalaaNumsE
namespace Go.Proofs.Ytajlgpamcpgalaa
open Go.ChangeShapes Go.WideShapes Go.ChangeAt Go.RowKit
set_option linter.unusedVariables false
set_option linter.unusedSimpArgs false
set_option maxRecDepth 100000

/-! ### a natural number's first 128 bits, and whether something is lost -/
def normN (M : Nat) : Nat := if blen M < 128 then M * 2 ^ (128 - blen M) else M / 2 ^ (blen M - 128)
def lostN (M : Nat) : Bool := decide (128 < blen M) && decide (M % 2 ^ (blen M - 128) ≠ 0)
def exactV (neg : Bool) (M : Nat) (exp : Int) (rest : Bool) : Value :=
  if M = 0 then exV 0 false 0 0 0 false else exV 1 neg (heldX (exp + blen M - 1)) (normN M / 2 ^ 64 % 2 ^ 64) (normN M % 2 ^ 64) (rest || lostN M)
theorem blen_lo {M : Nat} (h : M ≠ 0) : 2 ^ (blen M - 1) ≤ M := by
  have := @blen_le M (blen M - 1)
  have hp : blen M ≠ 0 := by rw [blen_pos h]; omega
  refine Nat.le_of_not_lt fun hlt => ?_
  have := this.2 hlt
  omega
theorem blen_hi (M : Nat) : M < 2 ^ blen M := blen_le.1 (Nat.le_refl _)
/-- the first of the 128 bits is a 1 -/
theorem normN_mant {M : Nat} (h : M ≠ 0) : 2 ^ 127 ≤ normN M ∧ normN M < 2 ^ 128 := by
  have h1 := blen_lo h
  have h2 := blen_hi M
  have hp : 1 ≤ blen M := by rw [blen_pos h]; omega
  unfold normN
  split
  · rename_i hc
    constructor
    · have := Nat.mul_le_mul_right (2 ^ (128 - blen M)) h1
      rwa [← Nat.pow_add, show blen M - 1 + (128 - blen M) = 127 by omega] at this
    · have := Nat.mul_lt_mul_of_pos_right h2 (show 0 < 2 ^ (128 - blen M) from Nat.pow_pos (by decide))
      rwa [← Nat.pow_add, show blen M + (128 - blen M) = 128 by omega] at this
  · rename_i hc
    constructor
    · rw [Nat.le_div_iff_mul_le (Nat.pow_pos (by decide)), ← Nat.pow_add, show 127 + (blen M - 128) = blen M - 1 by omega]
      exact h1
    · rw [Nat.div_lt_iff_lt_mul (Nat.pow_pos (by decide)), ← Nat.pow_add, show 128 + (blen M - 128) = blen M by omega]
      exact h2
theorem normN_words {M : Nat} (h : M ≠ 0) : WordsX (normN M / 2 ^ 64 % 2 ^ 64) (normN M % 2 ^ 64) := by
  obtain ⟨h1, h2⟩ := normN_mant h
  have e1 : normN M / 2 ^ 64 < 2 ^ 64 := by rw [Nat.div_lt_iff_lt_mul (Nat.pow_pos (by decide)), ← Nat.pow_add]; exact h2
  have e2 : 2 ^ 63 ≤ normN M / 2 ^ 64 := by rw [Nat.le_div_iff_mul_le (Nat.pow_pos (by decide)), ← Nat.pow_add]; exact h1
  rw [Nat.mod_eq_of_lt e1]
  exact ⟨e2, e1, Nat.mod_lt _ (by decide)⟩
end Go.Proofs.Ytajlgpamcpgalaa
