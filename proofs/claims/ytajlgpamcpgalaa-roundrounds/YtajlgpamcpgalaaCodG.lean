import Derived.Test.YtajlgpamcpgalaaCodF
namespace Go.Proofs.Ytajlgpamcpgalaa
set_option linter.unusedVariables false
set_option linter.unusedSimpArgs false

/-! ### patterns and their strings -/
theorem bitsOf_mod (x n : Nat) : bitsOf x n = bitsOf (x % 2 ^ n) n := by
  refine numOf_inj (by rw [bitsOf_length, bitsOf_length]) ?_
  rw [numOf_bits, numOf_bits, Nat.mod_mod]
theorem bits_cons (t : List Bool) (n : Nat) (h : n = t.length + 1) : bitsOf (numOf t) n = false :: t := by
  subst h
  refine numOf_inj (by rw [bitsOf_length]; rfl) ?_
  rw [numOf_bits, numOf_cons]
  have := numOf_lt t
  rw [Nat.mod_eq_of_lt (by rw [Nat.pow_succ]; omega)]
  simp
theorem numOf_zero (t : List Bool) (h : numOf t = 0) : true ∉ t := by
  intro ht
  have : t = noughts t.length := numOf_inj (by simp) (by rw [h, numOf_noughts])
  rw [this, noughts, List.mem_replicate] at ht
  exact absurd ht.2 (by decide)
theorem numOf_pos (t : List Bool) (h : true ∈ t) : 0 < numOf t := Nat.pos_of_ne_zero fun e => numOf_zero t e h
theorem mem_of_pos (t : List Bool) (h : numOf t ≠ 0) : true ∈ t := by
  induction t with
  | nil => exact absurd rfl h
  | cons b t ih =>
    cases b
    · rw [numOf_cons] at h
      exact List.mem_cons_of_mem _ (ih (by simpa using h))
    · exact List.mem_cons_self ..
def patOf (n : Nat) (neg : Bool) (t : List Bool) : Nat := if neg then 2 ^ n - numOf t else numOf t
theorem wd_pows {n : Nat} (hn : Wd n) : ∃ H : Nat, 2 ^ n = 2 * H ∧ 2 ^ (n - 1) = H ∧ 128 ≤ H ∧ (∃ q, 18446744073709551616 = q * 2 ^ n ∧ 1 ≤ q) := by
  rcases hn with rfl | rfl | rfl | rfl
  · exact ⟨128, by decide, by decide, by decide, 72057594037927936, by decide, by decide⟩
  · exact ⟨32768, by decide, by decide, by decide, 281474976710656, by decide, by decide⟩
  · exact ⟨2147483648, by decide, by decide, by decide, 4294967296, by decide, by decide⟩
  · exact ⟨9223372036854775808, by decide, by decide, by decide, 1, by decide, by decide⟩
theorem minusU_mod (n x : Nat) (hn : Wd n) (hx : x < 2 ^ 64) : minusU x % 2 ^ n = (2 ^ n - x % 2 ^ n) % 2 ^ n := by
  obtain ⟨H, h1, h2, h3, q, hq, hq1⟩ := wd_pows hn
  unfold minusU
  generalize 2 ^ n = M at *
  by_cases h0 : x = 0
  · subst h0; simp
  · rw [Nat.mod_eq_of_lt (a := 18446744073709551616 - x) (by omega)]
    have hd := Nat.div_add_mod x M
    have hm := Nat.mod_lt x (show 0 < M by omega)
    generalize x % M = r at *
    generalize x / M = c at *
    have hcq : c < q := by
      refine Nat.lt_of_not_le fun hle => ?_
      have := Nat.mul_le_mul_right M hle
      rw [Nat.mul_comm c M] at this; omega
    have e : 18446744073709551616 - x = (M - r) + M * (q - 1 - c) := by
      have e1 : M * (q - 1 - c) + M * c + M = 18446744073709551616 := by
        rw [← Nat.mul_add, show q - 1 - c + c = q - 1 by omega, ← Nat.mul_succ, show (q - 1).succ = q by omega, hq, Nat.mul_comm]
      omega
    rw [e, Nat.add_mul_mod_self_left]
theorem top_of (n x : Nat) (hn : Wd n) (hx : x < 2 ^ n) : x.testBit (n - 1) = decide (2 ^ (n - 1) ≤ x) := by
  obtain ⟨H, h1, h2, h3, _⟩ := wd_pows hn
  rw [h2]
  have := top_bit x (n - 1) (by rw [h2]; omega)
  rw [this, h2]
theorem testBit_low (x n : Nat) (h : 1 ≤ n) : x.testBit (n - 1) = (x % 2 ^ n).testBit (n - 1) := by
  rw [Nat.testBit_mod_two_pow]
  have : n - 1 < n := by omega
  simp [this]
theorem patOf_facts (n : Nat) (hn : Wd n) (neg : Bool) (t : List Bool) (hl : t.length = n - 1) (ht : true ∈ t) :
    patOf n neg t < 2 ^ n ∧ kindOf n (patOf n neg t % 2 ^ n) = 1 ∧ (patOf n neg t).testBit (n - 1) = neg ∧ strS n (patOf n neg t) = t := by
  obtain ⟨H, h1, h2, h3, q, hq, hq1⟩ := wd_pows hn
  have hw := wd_le hn
  have h4 := numOf_pos t ht
  have h5 := numOf_lt t
  rw [hl, h2] at h5
  have hlt : patOf n neg t < 2 ^ n := by unfold patOf; split <;> omega
  have htop := top_of n _ hn hlt
  have hneg : (patOf n neg t).testBit (n - 1) = neg := by
    rw [htop, h2]; unfold patOf
    cases neg
    · simp; omega
    · simp; omega
  refine ⟨hlt, ?_, hneg, ?_⟩
  · rw [Nat.mod_eq_of_lt hlt]
    unfold kindOf patOf
    rw [h2]
    cases neg
    · rw [if_neg (by simp; omega), if_neg (by simp; omega)]
    · rw [if_neg (by simp; omega), if_neg (by simp; omega)]
  · unfold strS
    rw [hneg]
    have hc := bits_cons t n (by omega)
    cases neg
    · simp only [Bool.false_eq_true, if_false]
      rw [show patOf n false t = numOf t from rfl, hc]; rfl
    · simp only [if_true]
      have hp : patOf n true t = 2 ^ n - numOf t := rfl
      have hp64 : patOf n true t < 2 ^ 64 := Nat.lt_of_lt_of_le hlt (Nat.pow_le_pow_right (by decide) hw.2)
      rw [bitsOf_mod, minusU_mod n _ hn hp64, Nat.mod_eq_of_lt hlt, hp, show 2 ^ n - (2 ^ n - numOf t) = numOf t by omega, Nat.mod_eq_of_lt (by omega), hc]
      rfl
theorem strS_num (n x : Nat) (hn : Wd n) (hx : x < 2 ^ 64) : numOf (strS n x) = (if x.testBit (n - 1) then 2 ^ n - x % 2 ^ n else x % 2 ^ n) % 2 ^ (n - 1) := by
  have hw := wd_le hn
  have drop1 : ∀ y, numOf ((bitsOf y n).drop 1) = y % 2 ^ (n - 1) := fun y => by
    have hl : (bitsOf y n).length = n := bitsOf_length _ _
    have e := numOf_bits y n
    cases hc : bitsOf y n with
    | nil => rw [hc] at hl; simp at hl; omega
    | cons b l =>
      rw [hc] at hl e
      have hl2 : l.length = n - 1 := by simp at hl; omega
      have h5 := numOf_lt l
      rw [numOf_cons, hl2] at e
      rw [hl2] at h5
      show numOf l = _
      obtain ⟨H, h1, h2, h3, _⟩ := wd_pows hn
      have e2 : y % 2 ^ (n - 1) = (y % 2 ^ n) % 2 ^ (n - 1) := (Nat.mod_mod_of_dvd y (Nat.pow_dvd_pow 2 (by omega))).symm
      rw [e2, ← e, Nat.mul_comm, Nat.mul_add_mod, Nat.mod_eq_of_lt h5]
  unfold strS
  obtain ⟨H, h1, h2, h3, _⟩ := wd_pows hn
  have dv : ∀ y, (y % 2 ^ n) % 2 ^ (n - 1) = y % 2 ^ (n - 1) := fun y => Nat.mod_mod_of_dvd y (Nat.pow_dvd_pow 2 (by omega))
  cases x.testBit (n - 1)
  · simp only [Bool.false_eq_true, if_false]
    rw [drop1, dv]
  · simp only [if_true]
    rw [drop1, ← dv, minusU_mod n x hn hx, dv]
theorem patOf_str (n x : Nat) (hn : Wd n) (hx : x < 2 ^ 64) (hk : kindOf n (x % 2 ^ n) = 1) : true ∈ strS n x ∧ patOf n (x.testBit (n - 1)) (strS n x) = x % 2 ^ n := by
  have hw := wd_le hn
  obtain ⟨H, h1, h2, h3, _⟩ := wd_pows hn
  have hnum := strS_num n x hn hx
  have hm := Nat.mod_lt x (show 0 < 2 ^ n by omega)
  have htb := testBit_low x n (by omega)
  have htop := top_of n _ hn hm
  rw [← htb] at htop
  unfold kindOf at hk
  have h0 : ¬ x % 2 ^ n = 0 := fun e => by rw [if_pos e] at hk; exact absurd hk (by decide)
  rw [if_neg h0] at hk
  have h9 : ¬ x % 2 ^ n = 2 ^ (n - 1) := fun e => by rw [if_pos e] at hk; exact absurd hk (by decide)
  rw [h2] at h9 htop hnum
  rw [h1] at hm hnum
  unfold patOf
  rw [h1]
  rw [h1] at h0 h9 htop
  generalize x % (2 * H) = y at *
  by_cases hc : H ≤ y
  · rw [decide_eq_true hc] at htop
    rw [htop] at hnum ⊢
    simp only [if_true] at hnum ⊢
    rw [Nat.mod_eq_of_lt (by omega)] at hnum
    exact ⟨mem_of_pos _ (by omega), by omega⟩
  · rw [decide_eq_false hc] at htop
    rw [htop] at hnum ⊢
    simp only [Bool.false_eq_true, if_false] at hnum ⊢
    rw [Nat.mod_eq_of_lt (by omega)] at hnum
    exact ⟨mem_of_pos _ (by omega), by omega⟩
end Go.Proofs.Ytajlgpamcpgalaa
