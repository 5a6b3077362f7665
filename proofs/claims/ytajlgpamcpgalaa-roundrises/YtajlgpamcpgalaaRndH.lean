import Derived.Test.YtajlgpamcpgalaaRndC
namespace Go.Proofs.Ytajlgpamcpgalaa
set_option linter.unusedVariables false
set_option linter.unusedSimpArgs false

/-! ### what a string means, as the number of its string (plain mathematics: P7.5's ties) -/
theorem scaleL_range (t : List Bool) (hl : t.length ≤ 63) : -256 ≤ scaleL t ∧ scaleL t ≤ 255 := by
  have hex : expL t < 4 := by
    have := numOf_lt ((restL t ++ noughts 2).take 2)
    rw [show ((restL t ++ noughts 2).take 2).length = 2 by simp] at this
    exact this
  have h1 := runL_le t
  unfold scaleL regL
  split <;> omega
theorem words_of (t : List Bool) : WordsX (wordL t) 0 := ⟨(wordL_bounds t).1, (wordL_bounds t).2, by decide⟩
theorem strX_canon (s : Int) (f : Nat) : strX s f 0 = canon s f ++ noughts 64 := by
  have : bitsOf 0 64 = noughts 64 := by decide
  unfold strX canon digX
  rw [this]; simp
theorem zed_parse (t : List Bool) (ht : true ∈ t) (hl : t.length ≤ 63) : zed (scaleL t) (manX (wordL t) 0) = numOf t * 2 ^ (209 - t.length) := by
  obtain ⟨z, hz, _⟩ := canon_parse t ht (by omega)
  have hr := scaleL_range t hl
  obtain ⟨h1, h2⟩ := zed_str (scaleL t) (manX (wordL t) 0) (digX (wordL t) 0) (digX_length _ _) (digX_num (words_of t)) (by omega) (by omega)
  have e : headK (scaleL t / 4) ++ bitsOf (scaleL t % 4).toNat 2 ++ digX (wordL t) 0 = t ++ noughts (z + 64) := by
    have := strX_canon (scaleL t) (wordL t)
    rw [hz, List.append_assoc, noughts_add] at this
    exact this
  rw [e, List.length_append, List.length_replicate] at h1 h2
  rw [← h2, numOf_append, numOf_noughts, Nat.add_zero, List.length_replicate, Nat.mul_assoc, ← Nat.pow_add]
  congr 2; omega
/-- the tie behind p: p, a 1 and noughts, in the width 64 -/
def tieL (n p : Nat) : List Bool := bitsOf p (n - 1) ++ true :: noughts (63 - n)
theorem tie_zed (n p : Nat) (h1 : 1 ≤ n) (h2 : n ≤ 63) (hp : p < 2 ^ (n - 1)) :
    2 * zed (scaleL (tieL n p)) (manX (wordL (tieL n p)) 0) = p * (2 * 2 ^ (210 - n)) + 2 ^ (210 - n) := by
  have hl : (tieL n p).length = 63 := by unfold tieL; rw [List.length_append, bitsOf_length, List.length_cons, List.length_replicate]; omega
  have ht : true ∈ tieL n p := List.mem_append_right _ (List.mem_cons_self ..)
  rw [zed_parse _ ht (by omega), hl]
  have hn : numOf (tieL n p) = (2 * p + 1) * 2 ^ (63 - n) := by
    unfold tieL
    rw [numOf_append, numOf_bits, Nat.mod_eq_of_lt hp, numOf_cons, numOf_noughts, List.length_cons, List.length_replicate, Nat.pow_succ]
    simp only [Bool.toNat_true, Nat.one_mul, Nat.add_zero]
    rw [Nat.add_mul, Nat.one_mul, ← Nat.mul_assoc, Nat.mul_comm (p * 2 ^ (63 - n)) 2, ← Nat.mul_assoc]
  have e1 : 2 ^ (210 - n) = 2 * (2 ^ (63 - n) * 2 ^ (209 - 63)) := by
    rw [← Nat.pow_add, ← Nat.pow_succ']; congr 1; omega
  rw [hn, e1]
  generalize 2 ^ (209 - 63) = B
  generalize 2 ^ (63 - n) = A
  rw [Nat.mul_assoc (2 * p + 1) A B]
  generalize A * B = C
  rw [Nat.add_mul, Nat.one_mul, Nat.mul_add]
  congr 1
  simp only [Nat.mul_assoc, Nat.mul_left_comm]
end Go.Proofs.Ytajlgpamcpgalaa
