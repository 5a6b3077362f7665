import Derived.Test.YthchcocolclpoaaGreatDoorNatX
namespace Go.Proofs.YthchcocolclpoaaGreatDoor
open Go.ChangeShapes Go.WideShapes Go.ChangeAt Go.RowKit Go.Shelf
set_option linter.unusedVariables false
set_option linter.unusedSimpArgs false
set_option maxRecDepth 100000
attribute [local go_sem] Oper.semAt_some

/-! ### quotients -/
/-- the divisor with its highest bit at the top of its limb -/
theorem norm_len {b k n : Nat} (hn : (lim b).length = n + 1) (hk : k = 64 - blen ((lim b).getD n 0)) :
    (lim (b * 2 ^ k)).length = n + 1 ∧ k ≤ 63 ∧ 18446744073709551616 ^ n ≤ b := by
  have hll := lim_limbs b
  have ht0 := (lim_tail (lim b) hll).2 (n + 1) (by rw [uval_lim]; exact hn) (by omega)
  rw [Nat.add_sub_cancel] at ht0
  have htl := limbs_getD hll n
  have e := uval_top (lim b) n
  rw [Nat.min_eq_left (by omega), uval_drop' (lim b) n (by omega), List.drop_eq_nil_of_le (by omega), uval_nil, Nat.mul_zero, Nat.add_zero, uval_lim] at e
  have hlow : uval ((lim b).take n) < 18446744073709551616 ^ n := by
    have := uval_lt' ((lim b).take n) (fun d h => hll d (List.mem_of_mem_take h))
    rwa [List.length_take, Nat.min_eq_left (by omega)] at this
  generalize (lim b).getD n 0 = t at *
  have h1 : t < 2 ^ blen t := blen_le.1 (Nat.le_refl _)
  have h2 : blen t ≤ 64 := blen_le.2 (by omega)
  have h3 : blen t ≠ 0 := fun h => by
    have := blen_le.1 (Nat.le_of_eq h)
    omega
  have hp := bpos n
  have hge : 18446744073709551616 ^ n ≤ b := by
    have := Nat.le_mul_of_pos_right (18446744073709551616 ^ n) (Nat.pos_of_ne_zero ht0)
    omega
  have hpk : 0 < 2 ^ k := Nat.pow_pos (by decide)
  have hub : b * 2 ^ k < 18446744073709551616 ^ (n + 1) := by
    have h4 : b < 18446744073709551616 ^ n * 2 ^ blen t := by
      have := Nat.mul_le_mul_left (18446744073709551616 ^ n) (show t + 1 ≤ 2 ^ blen t from h1)
      rw [Nat.mul_add, Nat.mul_one] at this
      omega
    have h5 := Nat.mul_lt_mul_of_pos_right h4 hpk
    rw [Nat.mul_assoc, ← Nat.pow_add, show blen t + k = 64 by omega] at h5
    rw [Nat.pow_succ]; exact h5
  refine ⟨?_, by omega, hge⟩
  have h6 := lim_length_le hub
  by_cases h7 : (lim (b * 2 ^ k)).length = n + 1
  · exact h7
  · exfalso
    have h8 := lim_lt_pow (b * 2 ^ k)
    have h9 : (18446744073709551616 : Nat) ^ (lim (b * 2 ^ k)).length ≤ 18446744073709551616 ^ n := Nat.pow_le_pow_right (by decide) (by omega)
    have h10 := Nat.le_mul_of_pos_right b hpk
    omega
theorem div_start {a b k n : Nat} {R m : List Nat} {N : Nat} (hR : R.length = (lim a).length + 1) (hRl : Limbs R) (hRv : uval R = a * 2 ^ k) (hm : m = lim (b * 2 ^ k)) (hml : m.length = n + 1) (hb : 18446744073709551616 ^ n ≤ b) (hN : N + (n + 1) = (lim a).length + 1) :
    DivAt (a * 2 ^ k) m N R (List.replicate N 0) := by
  refine ⟨by rw [List.length_replicate, hR, hml]; omega, by simp, hRl, fun d h => by simp at h; omega, fun j hj => getD_replicate _ _, by rw [uval_noughts, hRv]; simp, ?_⟩
  have e := uval_top R N
  rw [Nat.min_eq_left (by omega), hRv] at e
  rw [hm, uval_lim]
  have ha := lim_lt_pow a
  have hp : 0 < 2 ^ k := Nat.pow_pos (by decide)
  have h1 : a * 2 ^ k < 18446744073709551616 ^ N * (b * 2 ^ k) := by
    rw [← Nat.mul_assoc]
    refine Nat.mul_lt_mul_of_pos_right ?_ hp
    refine Nat.lt_of_lt_of_le ha ?_
    rw [show (lim a).length = N + n by omega, Nat.pow_add]
    exact Nat.mul_le_mul_left _ hb
  have h2 : 18446744073709551616 ^ N * uval (R.drop N) ≤ a * 2 ^ k := by rw [e]; exact Nat.le_add_left _ _
  exact Nat.lt_of_mul_lt_mul_left (Nat.lt_of_le_of_lt h2 h1)

/-- what Div hands out: two numbers, each in a block of its own -/
def TwoU (B : Nat) (w : World) (v1 v2 : Value) (x y : Nat) : Prop :=
  ∃ B', B ≤ B' ∧ OwnU B w v1 x ∧ (∀ g, v1.ownBlock = some g → g < B') ∧ OwnU B' w v2 y
end Go.Proofs.YthchcocolclpoaaGreatDoor
