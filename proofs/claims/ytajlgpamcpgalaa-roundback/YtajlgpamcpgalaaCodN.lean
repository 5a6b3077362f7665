import Derived.Test.YtajlgpamcpgalaaCodM
namespace Go.Proofs.Ytajlgpamcpgalaa
set_option linter.unusedVariables false
set_option linter.unusedSimpArgs false

/-! ### noughts behind a pattern (plain mathematics) -/
theorem wider_pows (n d : Nat) (hn : 1 ≤ n) : 2 ^ (n + d) = 2 ^ n * 2 ^ d ∧ 2 ^ (n + d - 1) = 2 ^ (n - 1) * 2 ^ d := by
  refine ⟨Nat.pow_add .., ?_⟩
  rw [← Nat.pow_add]; congr 1; omega
theorem wider_mod (n d x : Nat) (h : n + d ≤ 64) : (x * 2 ^ d % 2 ^ 64) % 2 ^ (n + d) = x % 2 ^ n * 2 ^ d := by
  rw [Nat.mod_mod_of_dvd _ (Nat.pow_dvd_pow 2 h), Nat.pow_add, Nat.mul_mod_mul_right]
theorem wider_kind (n d x : Nat) (hn : Wd n) (h : n + d ≤ 64) : kindOf (n + d) ((x * 2 ^ d % 2 ^ 64) % 2 ^ (n + d)) = kindOf n (x % 2 ^ n) := by
  have hw := wd_le hn
  rw [wider_mod n d x h]
  unfold kindOf
  rw [(wider_pows n d (by omega)).2]
  have hD : 0 < 2 ^ d := Nat.pow_pos (by decide)
  generalize 2 ^ d = D at *
  generalize x % 2 ^ n = y at *
  generalize 2 ^ (n - 1) = H at *
  by_cases h0 : y = 0
  · subst h0; rw [Nat.zero_mul, if_pos rfl, if_pos rfl]
  · have : ¬ y * D = 0 := by
      intro e
      rcases Nat.mul_eq_zero.1 e with e | e <;> omega
    rw [if_neg h0, if_neg this]
    by_cases h1 : y = H
    · subst h1; rw [if_pos rfl, if_pos rfl]
    · rw [if_neg h1, if_neg fun e => h1 (Nat.eq_of_mul_eq_mul_right hD e)]
theorem wider_top (n d x : Nat) (hn : Wd n) (h : n + d ≤ 64) : (x * 2 ^ d % 2 ^ 64).testBit (n + d - 1) = x.testBit (n - 1) := by
  have hw := wd_le hn
  rw [Nat.testBit_mod_two_pow, Nat.testBit_mul_two_pow]
  have h1 : n + d - 1 < 64 := by omega
  have h2 : d ≤ n + d - 1 := by omega
  rw [show n + d - 1 - d = n - 1 by omega]
  simp [h1, h2]
theorem wider_str (n d x : Nat) (hn : Wd n) (hm : Wd (n + d)) (hx : x < 2 ^ 64) : strS (n + d) (x * 2 ^ d % 2 ^ 64) = strS n x ++ noughts d := by
  have hw := wd_le hn
  have hv := wd_le hm
  refine numOf_inj (by rw [List.length_append, strS_length, strS_length]; simp; omega) ?_
  rw [strS_num _ _ hm (Nat.mod_lt _ (by decide)), numOf_append, numOf_noughts, strS_num n x hn hx, wider_top n d x hn hv.2, wider_mod n d x hv.2, (wider_pows n d (by omega)).1, (wider_pows n d (by omega)).2]
  simp only [List.length_replicate, Nat.add_zero]
  split
  · rw [← Nat.sub_mul, Nat.mul_mod_mul_right]
  · rw [Nat.mul_mod_mul_right]
/-- what a pattern means -/
def decK (n x : Nat) : Int := kindOf n (x % 2 ^ n)
def decB (n x : Nat) : Bool := if kindOf n (x % 2 ^ n) = 1 then x.testBit (n - 1) else false
def decS (n x : Nat) : Int := if kindOf n (x % 2 ^ n) = 1 then scaleL (strS n x) else 0
def decF (n x : Nat) : Nat := if kindOf n (x % 2 ^ n) = 1 then wordL (strS n x) else 0
theorem wider_all (n d x : Nat) (hn : Wd n) (hm : Wd (n + d)) (hx : x < 2 ^ 64) :
    decK (n + d) (x * 2 ^ d % 2 ^ 64) = decK n x ∧ decB (n + d) (x * 2 ^ d % 2 ^ 64) = decB n x ∧ decS (n + d) (x * 2 ^ d % 2 ^ 64) = decS n x ∧ decF (n + d) (x * 2 ^ d % 2 ^ 64) = decF n x := by
  have hv := wd_le hm
  have hk := wider_kind n d x hn hv.2
  unfold decK decB decS decF
  rw [hk]
  by_cases h1 : kindOf n (x % 2 ^ n) = 1
  · rw [h1]
    simp only [if_true]
    have ht := (patOf_str n x hn hx h1).1
    rw [wider_str n d x hn hm hx, wider_top n d x hn hv.2]
    have hs := same_pad (strS n x) d ht
    exact ⟨trivial, rfl, hs.scale, hs.word⟩
  · simp only [h1, if_false]
    exact ⟨trivial, trivial, trivial, trivial⟩
end Go.Proofs.Ytajlgpamcpgalaa
