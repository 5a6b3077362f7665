import Derived.Test.YtajlgpamcpgalaaCodN
namespace Go.Proofs.Ytajlgpamcpgalaa
set_option linter.unusedVariables false
set_option linter.unusedSimpArgs false

/-! ### the string of an exact number as one natural number of 209 bits: it rises with the number (plain mathematics) -/
def hdA (k : Int) : Nat := if 0 ≤ k then 2 ^ 80 - 2 ^ (79 - k.toNat) else 2 ^ (79 - (-k).toNat)
def hdS (k : Int) : Nat := if 0 ≤ k then 2 ^ (78 - k.toNat) else 2 ^ (79 - (-k).toNat)
theorem hd_step (k : Int) (h1 : -79 ≤ k) (h2 : k ≤ 77) : hdA k + hdS k = hdA (k + 1) := by
  unfold hdA hdS
  by_cases h0 : 0 ≤ k
  · obtain ⟨j, rfl⟩ := Int.eq_ofNat_of_zero_le h0
    rw [if_pos h0, if_pos h0, if_pos (by omega), show (((j : Nat) : Int) + 1).toNat = j + 1 by omega, Int.toNat_natCast]
    have e : 2 ^ (79 - j) = 2 * 2 ^ (78 - j) := by rw [← Nat.pow_succ']; congr 1; omega
    have e2 : 79 - (j + 1) = 78 - j := by omega
    have e3 : 2 ^ (79 - j) ≤ 2 ^ 80 := Nat.pow_le_pow_right (by decide) (by omega)
    rw [e2]
    rw [e] at e3 ⊢
    generalize 2 ^ (78 - j) = x at *
    omega
  · rw [if_neg h0, if_neg h0]
    by_cases h3 : k = -1
    · subst h3; decide
    · rw [if_neg (by omega)]
      have e : 2 ^ (79 - (-(k + 1)).toNat) = 2 * 2 ^ (79 - (-k).toNat) := by rw [← Nat.pow_succ']; congr 1; omega
      rw [e]; omega
theorem hd_pos (k : Int) : 0 < hdS k := by unfold hdS; split <;> exact Nat.pow_pos (by decide)
theorem hd_rise (k : Int) (d : Nat) (h1 : -79 ≤ k) (h2 : k + d ≤ 77) : hdA k + hdS k ≤ hdA (k + 1 + d) := by
  induction d with
  | zero => rw [hd_step k h1 (by omega)]; simp
  | succ d ih =>
    have := ih (by omega)
    have h3 := hd_step (k + 1 + d) (by omega) (by omega)
    rw [show k + 1 + ((d + 1 : Nat) : Int) = k + 1 + d + 1 by omega, ← h3]
    omega
theorem hd_mono {k k' : Int} (h1 : -79 ≤ k) (h : k < k') (h2 : k' ≤ 78) : hdA k + hdS k ≤ hdA k' := by
  have := hd_rise k (k' - k - 1).toNat h1 (by omega)
  rw [show k + 1 + (((k' - k - 1).toNat : Nat) : Int) = k' by omega] at this
  exact this
/-- e and the digits behind the first -/
def tailN (s : Int) (M : Nat) : Nat := (s % 4).toNat * 2 ^ 127 + (M - 2 ^ 127)
def zed (s : Int) (M : Nat) : Nat := hdA (s / 4) * 2 ^ 129 + hdS (s / 4) * tailN s M
def Mant (M : Nat) : Prop := 2 ^ 127 ≤ M ∧ M < 2 ^ 128
theorem tail_lt (s : Int) (M : Nat) (h : Mant M) : tailN s M < 2 ^ 129 := by
  obtain ⟨h1, h2⟩ := h
  unfold tailN
  have : (s % 4).toNat < 4 := by omega
  generalize (s % 4).toNat = e at *
  omega
theorem zed_hi (s : Int) (M : Nat) (h : Mant M) : zed s M < (hdA (s / 4) + hdS (s / 4)) * 2 ^ 129 := by
  unfold zed
  rw [Nat.add_mul]
  exact Nat.add_lt_add_left (Nat.mul_lt_mul_of_pos_left (tail_lt s M h) (hd_pos _)) _
theorem zed_lo (s : Int) (M : Nat) : hdA (s / 4) * 2 ^ 129 ≤ zed s M := Nat.le_add_right _ _
/-- it rises with the scale, and with the digits -/
theorem zed_lt {s s' : Int} {M M' : Nat} (h : Mant M) (h' : Mant M') (h1 : -316 ≤ s) (h2 : s' < 312) (hlt : s < s' ∨ (s = s' ∧ M < M')) : zed s M < zed s' M' := by
  have key : s / 4 = s' / 4 → tailN s M < tailN s' M' → zed s M < zed s' M' := fun e ht => by
    unfold zed
    rw [e]
    exact Nat.add_lt_add_left (Nat.mul_lt_mul_of_pos_left ht (hd_pos _)) _
  rcases hlt with hlt | ⟨rfl, hM⟩
  · by_cases e : s / 4 = s' / 4
    · refine key e ?_
      unfold tailN
      obtain ⟨a1, a2⟩ := h
      obtain ⟨b1, b2⟩ := h'
      have : (s % 4).toNat + 1 ≤ (s' % 4).toNat := by omega
      generalize (s % 4).toNat = x at *
      generalize (s' % 4).toNat = y at *
      omega
    · have hk : s / 4 < s' / 4 := by omega
      have h3 := hd_mono (k := s / 4) (k' := s' / 4) (by omega) hk (by omega)
      exact Nat.lt_of_lt_of_le (zed_hi s M h) (Nat.le_trans (Nat.mul_le_mul_right _ h3) (zed_lo s' M'))
  · refine key rfl ?_
    unfold tailN
    have := h.1
    omega
theorem zed_le {s s' : Int} {M M' : Nat} (h : Mant M) (h' : Mant M') (h1 : -316 ≤ s) (h2 : s' < 312) (hle : s < s' ∨ (s = s' ∧ M ≤ M')) : zed s M ≤ zed s' M' := by
  rcases hle with hl | ⟨rfl, hM⟩
  · exact Nat.le_of_lt (zed_lt h h' h1 h2 (.inl hl))
  · rcases Nat.lt_or_ge M M' with hlt | hge
    · exact Nat.le_of_lt (zed_lt h h' h1 h2 (.inr ⟨rfl, hlt⟩))
    · have : M = M' := by omega
      subst this; exact Nat.le_refl _
theorem numOf_ones (k : Nat) : numOf (List.replicate k true) = 2 ^ k - 1 := by
  induction k with
  | zero => rfl
  | succ k ih =>
    rw [List.replicate_succ, numOf_cons, ih, List.length_replicate, Nat.pow_succ]
    have : 0 < 2 ^ k := Nat.pow_pos (by decide)
    simp; omega
/-- the string, written out, is that number -/
theorem zed_str (s : Int) (M : Nat) (D : List Bool) (hD : D.length = 127) (hM : numOf D = M - 2 ^ 127) (h1 : -76 * 4 ≤ s) (h2 : s < 76 * 4) :
    (headK (s / 4) ++ bitsOf (s % 4).toNat 2 ++ D).length ≤ 209 ∧ numOf (headK (s / 4) ++ bitsOf (s % 4).toNat 2 ++ D) * 2 ^ (209 - (headK (s / 4) ++ bitsOf (s % 4).toNat 2 ++ D).length) = zed s M := by
  have hl : (headK (s / 4) ++ bitsOf (s % 4).toNat 2 ++ D).length = (headK (s / 4)).length + 129 := by simp [bitsOf_length, hD]
  have hn : numOf (headK (s / 4) ++ bitsOf (s % 4).toNat 2 ++ D) = numOf (headK (s / 4)) * 2 ^ 129 + tailN s M := by
    rw [numOf_append, numOf_append, numOf_bits, hD, bitsOf_length, hM, Nat.mod_eq_of_lt (a := (s % 4).toNat) (by omega), Nat.add_mul, Nat.mul_assoc, ← Nat.pow_add]
    unfold tailN; omega
  rw [hl, hn]
  have hh : numOf (headK (s / 4)) * 2 ^ (80 - (headK (s / 4)).length) = hdA (s / 4) ∧ 2 ^ (80 - (headK (s / 4)).length) = hdS (s / 4) ∧ (headK (s / 4)).length ≤ 80 := by
    unfold headK hdA hdS
    by_cases h0 : 0 ≤ s / 4
    · rw [if_pos h0, if_pos h0, if_pos h0]
      obtain ⟨j, hj⟩ := Int.eq_ofNat_of_zero_le h0
      rw [hj, Int.toNat_natCast]
      have hj2 : j < 76 := by omega
      rw [numOf_append, numOf_ones, List.length_append, List.length_replicate]
      simp only [List.length_singleton]
      refine ⟨?_, by congr 1; omega, by omega⟩
      have e1 : numOf [false] = 0 := rfl
      rw [e1, Nat.add_zero, Nat.pow_one, show 80 - (j + 1 + 1) = 78 - j by omega, Nat.mul_assoc, ← Nat.pow_succ', show (78 - j).succ = 79 - j by omega, Nat.sub_mul, ← Nat.pow_add, show j + 1 + (79 - j) = 80 by omega, Nat.one_mul]
    · rw [if_neg h0, if_neg h0, if_neg h0]
      have hj2 : (-(s / 4)).toNat ≤ 76 := by omega
      rw [numOf_append, List.length_append, List.length_replicate]
      simp only [List.length_singleton]
      have e0 := numOf_noughts (-(s / 4)).toNat
      refine ⟨?_, by congr 1; omega, by omega⟩
      rw [show List.replicate (-(s / 4)).toNat false = noughts (-(s / 4)).toNat from rfl, e0, show 80 - ((-(s / 4)).toNat + 1) = 79 - (-(s / 4)).toNat by omega, show numOf [true] = 1 from rfl]
      simp
  obtain ⟨a, b, c⟩ := hh
  refine ⟨by omega, ?_⟩
  rw [show 209 - ((headK (s / 4)).length + 129) = 80 - (headK (s / 4)).length by omega, Nat.add_mul, Nat.mul_right_comm, a, b, Nat.mul_comm (tailN s M)]
  rfl
end Go.Proofs.Ytajlgpamcpgalaa
