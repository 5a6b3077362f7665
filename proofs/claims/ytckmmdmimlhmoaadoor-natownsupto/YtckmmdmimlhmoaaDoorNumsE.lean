import Derived.Test.YtckmmdmimlhmoaaDoorNumsC
namespace Go.Proofs.YtckmmdmimlhmoaaDoor
open Go.ChangeShapes Go.WideShapes Go.ChangeAt Go.RowKit
set_option linter.unusedVariables false
set_option maxRecDepth 100000

/-! ### how many bits -/
def blen (n : Nat) : Nat := if h : n = 0 then 0 else blen (n / 2) + 1
theorem blen_zero : blen 0 = 0 := by unfold blen; simp
theorem blen_pos {n : Nat} (h : n ≠ 0) : blen n = blen (n / 2) + 1 := by
  conv => lhs; unfold blen
  simp [h]
theorem blen_le {n m : Nat} : blen n ≤ m ↔ n < 2 ^ m := by
  induction m generalizing n with
  | zero =>
    by_cases h : n = 0
    · subst h; simp [blen_zero]
    · rw [blen_pos h]; simp; exact h
  | succ m ih =>
    by_cases h : n = 0
    · subst h; simp [blen_zero]; exact Nat.pow_pos (by decide)
    · rw [blen_pos h, Nat.add_le_add_iff_right, ih, Nat.pow_succ]; omega
theorem blen_shift {a k : Nat} (h : a / 2 ^ k ≠ 0) : blen a = blen (a / 2 ^ k) + k := by
  induction k with
  | zero => simp
  | succ k ih =>
    have e : a / 2 ^ (k + 1) = a / 2 ^ k / 2 := by rw [Nat.pow_succ, Nat.div_div_eq_div_mul]
    have h1 : a / 2 ^ k ≠ 0 := by intro h2; rw [e, h2] at h; simp at h
    rw [ih h1, blen_pos h1, e]; omega
theorem blen_top {a : Nat} (h : a ≠ 0) : blen a = blen (top a (dlen a - 1)) + 24 * (dlen a - 1) := by
  have e : top a (dlen a - 1) = a / 2 ^ (24 * (dlen a - 1)) := by
    rw [top_eq, show (16777216 : Nat) = 2 ^ 24 by decide, ← Nat.pow_mul]
  have h2 := (dig_last h).1
  have h3 : top a (dlen a - 1) ≠ 0 := by intro h4; rw [h4] at h2; simp at h2
  rw [e] at h3 ⊢
  exact blen_shift h3

/-! ### comparing -/
def cmpN (a b : Nat) : Int := if a < b then -1 else if a = b then 0 else 1
theorem cmpN_lt {a b : Nat} (h : a < b) : cmpN a b = -1 := by simp [cmpN, h]
theorem cmpN_gt {a b : Nat} (h : b < a) : cmpN a b = 1 := by unfold cmpN; rw [if_neg (by omega), if_neg (by omega)]
theorem cmpN_eq (a : Nat) : cmpN a a = 0 := by simp [cmpN]
/-! ### is one of the lowest bits 1? -/
theorem low_part (a i m : Nat) (hm : m ≤ 24) (h : 2 ^ (24 * i) ∣ a) : top a i % 16777216 % 2 ^ m = 0 ↔ 2 ^ (24 * i + m) ∣ a := by
  obtain ⟨x, rfl⟩ := h
  have e : top (2 ^ (24 * i) * x) i = x := by
    rw [top_eq, show (16777216 : Nat) = 2 ^ 24 by decide, ← Nat.pow_mul, Nat.mul_div_cancel_left _ (Nat.pow_pos (by decide))]
  have hd : 2 ^ m ∣ 16777216 := by rw [show (16777216 : Nat) = 2 ^ 24 by decide]; exact Nat.pow_dvd_pow 2 hm
  rw [e, Nat.mod_mod_of_dvd _ hd, Nat.pow_add, Nat.mul_dvd_mul_iff_left (Nat.pow_pos (by decide))]
  exact (Nat.dvd_iff_mod_eq_zero).symm
theorem low_end (a i : Nat) (h : 2 ^ (24 * i) ∣ a) (hi : dlen a ≤ i) : a = 0 := by
  have h1 := lt_of_dlen_le hi
  rw [show (16777216 : Nat) = 2 ^ 24 by decide, ← Nat.pow_mul] at h1
  exact Nat.eq_zero_of_dvd_of_lt h h1
end Go.Proofs.YtckmmdmimlhmoaaDoor
