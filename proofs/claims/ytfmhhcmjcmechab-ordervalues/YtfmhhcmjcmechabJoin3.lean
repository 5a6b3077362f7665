import Derived.Test.YtfmhhcmjcmechabJoin2
import Derived.Test.YtfmhhcmjcmechabJoin1
namespace Go.Proofs.Ytfmhhcmjcmechab
open Go.ChangeShapes Go.WideShapes Go.ChangeAt Go.RowKit
set_option linter.unusedVariables false

theorem up_near (h1 l1 k : Nat) (hh : h1 ≤ 18446744073709551615) (hl : l1 ≤ 18446744073709551615) (hk : k < 64) :
    Tw ((h1 * 18446744073709551616 + l1) * 2 ^ k % 340282366920938463463374607431768211456) (((h1 <<< k) % 2 ^ 64) ||| (l1 >>> (64 - k))) ((l1 <<< k) % 2 ^ 64) := by
  have e : 2 ^ 64 = 2 ^ k * 2 ^ (64 - k) := by rw [← Nat.pow_add]; congr 1; omega
  have hp : 0 < 2 ^ k := Nat.pow_pos (by decide)
  have hq : 0 < 2 ^ (64 - k) := Nat.pow_pos (by decide)
  have h3 : l1 >>> (64 - k) < 2 ^ k := by
    rw [Nat.shiftRight_eq_div_pow]; exact Nat.div_lt_of_lt_mul (by rw [Nat.mul_comm, ← e]; omega)
  have h4 : (h1 <<< k) % 2 ^ 64 = (h1 % 2 ^ (64 - k)) <<< k := by
    rw [Nat.shiftLeft_eq, Nat.shiftLeft_eq, e, Nat.mul_comm h1, Nat.mul_mod_mul_left, Nat.mul_comm]
  have h5 : ((h1 <<< k) % 2 ^ 64) ||| (l1 >>> (64 - k)) = (h1 <<< k) % 2 ^ 64 + l1 >>> (64 - k) := by
    rw [h4, Nat.shiftLeft_add_eq_or_of_lt h3]
  rw [h5]
  have h6 : l1 * 2 ^ k = (l1 >>> (64 - k)) * 2 ^ 64 + (l1 <<< k) % 2 ^ 64 := by
    rw [Nat.shiftRight_eq_div_pow, Nat.shiftLeft_eq]
    have h7 : l1 / 2 ^ (64 - k) = l1 * 2 ^ k / 2 ^ 64 := by rw [e, Nat.mul_comm (2 ^ k) (2 ^ (64 - k)), Nat.mul_div_mul_right _ _ hp]
    rw [h7]; omega
  have h8 : (h1 * 18446744073709551616 + l1) * 2 ^ k = h1 * 2 ^ k * 18446744073709551616 + l1 * 2 ^ k := by rw [Nat.add_mul, Nat.mul_right_comm]
  have h9 : (h1 <<< k) = h1 * 2 ^ k := Nat.shiftLeft_eq _ _
  have h10 : h1 * 2 ^ k % 2 ^ 64 + l1 >>> (64 - k) < 2 ^ 64 := by
    rw [← h9, h4, Nat.shiftLeft_eq]
    have := Nat.mod_lt h1 hq
    have h11 : (h1 % 2 ^ (64 - k) + 1) * 2 ^ k ≤ 2 ^ (64 - k) * 2 ^ k := Nat.mul_le_mul this (Nat.le_refl _)
    rw [Nat.add_mul, Nat.one_mul, Nat.mul_comm (2 ^ (64 - k)), ← e] at h11
    omega
  rw [h8, h6, h9]
  generalize h1 * 2 ^ k = X at *
  generalize l1 >>> (64 - k) = Y at *
  have hz : l1 <<< k % 2 ^ 64 < 2 ^ 64 := Nat.mod_lt _ (by decide)
  generalize l1 <<< k % 2 ^ 64 = Z at *
  clear h3 h4 h5 h6 h8 h9 e hp hq
  refine ⟨by omega, by omega, by omega⟩
theorem up_far (h1 l1 k : Nat) (hk : 64 ≤ k) : Tw ((h1 * 18446744073709551616 + l1) * 2 ^ k % 340282366920938463463374607431768211456) ((l1 <<< (k - 64)) % 2 ^ 64) 0 := by
  have e : 2 ^ k = 2 ^ (k - 64) * 2 ^ 64 := by rw [← Nat.pow_add]; congr 1; omega
  have h8 : (h1 * 18446744073709551616 + l1) * 2 ^ k = h1 * 2 ^ (k - 64) * 340282366920938463463374607431768211456 + l1 * 2 ^ (k - 64) * 18446744073709551616 := by
    rw [e, Nat.add_mul, show (340282366920938463463374607431768211456 : Nat) = 2 ^ 64 * 2 ^ 64 by decide, show (18446744073709551616 : Nat) = 2 ^ 64 by decide]
    rw [← Nat.mul_assoc l1, ← Nat.mul_assoc (h1 * 2 ^ (k - 64)), Nat.mul_assoc h1 (2 ^ 64), Nat.mul_comm (2 ^ 64) (2 ^ (k - 64) * 2 ^ 64), ← Nat.mul_assoc h1, ← Nat.mul_assoc h1]
  rw [h8, Nat.shiftLeft_eq]
  generalize h1 * 2 ^ (k - 64) = X
  generalize l1 * 2 ^ (k - 64) = Y
  refine ⟨by omega, by omega, by omega⟩
theorem down_near (h1 l1 k : Nat) (hh : h1 ≤ 18446744073709551615) (hl : l1 ≤ 18446744073709551615) (hk : k < 64) :
    Tw ((h1 * 18446744073709551616 + l1) / 2 ^ k) (h1 >>> k) ((l1 >>> k) ||| ((h1 <<< (64 - k)) % 2 ^ 64)) := by
  have e : 2 ^ 64 = 2 ^ k * 2 ^ (64 - k) := by rw [← Nat.pow_add]; congr 1; omega
  have hp : 0 < 2 ^ k := Nat.pow_pos (by decide)
  have hq : 0 < 2 ^ (64 - k) := Nat.pow_pos (by decide)
  have h3 : l1 >>> k < 2 ^ (64 - k) := by
    rw [Nat.shiftRight_eq_div_pow]; exact Nat.div_lt_of_lt_mul (by rw [← e]; omega)
  have h4 : (h1 <<< (64 - k)) % 2 ^ 64 = (h1 % 2 ^ k) <<< (64 - k) := by
    rw [Nat.shiftLeft_eq, Nat.shiftLeft_eq, e, Nat.mul_mod_mul_right]
  have h5 : (l1 >>> k) ||| ((h1 <<< (64 - k)) % 2 ^ 64) = (h1 % 2 ^ k) * 2 ^ (64 - k) + l1 >>> k := by
    rw [h4, Nat.or_comm, ← Nat.shiftLeft_add_eq_or_of_lt h3, Nat.shiftLeft_eq]
  rw [h5]
  have h7 : h1 * 18446744073709551616 + l1 = (h1 / 2 ^ k * 18446744073709551616 + h1 % 2 ^ k * 2 ^ (64 - k)) * 2 ^ k + l1 := by
    have a1 : h1 * 18446744073709551616 = (2 ^ k * (h1 / 2 ^ k) + h1 % 2 ^ k) * 18446744073709551616 := by rw [Nat.div_add_mod]
    have a2 : h1 % 2 ^ k * 18446744073709551616 = h1 % 2 ^ k * 2 ^ (64 - k) * 2 ^ k := by
      rw [Nat.mul_assoc, Nat.mul_comm (2 ^ (64 - k)), ← e]
    rw [a1, Nat.add_mul, a2, Nat.add_mul, Nat.mul_comm (2 ^ k), Nat.mul_right_comm]
  rw [h7, Nat.add_comm, Nat.add_mul_div_right _ _ hp, Nat.shiftRight_eq_div_pow, Nat.shiftRight_eq_div_pow]
  rw [Nat.shiftRight_eq_div_pow] at h3
  have h8 : (h1 % 2 ^ k) * 2 ^ (64 - k) + l1 / 2 ^ k < 2 ^ 64 := by
    have := Nat.mod_lt h1 hp
    have h11 : (h1 % 2 ^ k + 1) * 2 ^ (64 - k) ≤ 2 ^ k * 2 ^ (64 - k) := Nat.mul_le_mul this (Nat.le_refl _)
    rw [Nat.add_mul, Nat.one_mul, ← e] at h11
    omega
  have h9 : h1 / 2 ^ k ≤ h1 := Nat.div_le_self _ _
  generalize (h1 % 2 ^ k) * 2 ^ (64 - k) = X at *
  generalize l1 / 2 ^ k = Y at *
  generalize h1 / 2 ^ k = Z at *
  clear h3 h4 h5 h7 e hp hq
  refine ⟨by omega, by omega, by omega⟩
theorem down_far (h1 l1 k : Nat) (hh : h1 ≤ 18446744073709551615) (hl : l1 ≤ 18446744073709551615) (hk : 64 ≤ k) :
    Tw ((h1 * 18446744073709551616 + l1) / 2 ^ k) 0 (h1 >>> (k - 64)) := by
  have e : 2 ^ k = 2 ^ 64 * 2 ^ (k - 64) := by rw [← Nat.pow_add]; congr 1; omega
  rw [e, ← Nat.div_div_eq_div_mul, Nat.shiftRight_eq_div_pow, show (h1 * 18446744073709551616 + l1) / 2 ^ 64 = h1 by omega]
  have := Nat.div_le_self h1 (2 ^ (k - 64))
  refine ⟨by omega, by omega, by omega⟩

theorem shl_min (x i : Nat) : (x <<< i) % 2 ^ 64 = (x <<< (min i 64)) % 2 ^ 64 := by
  by_cases h : i ≤ 64
  · rw [Nat.min_eq_left h]
  · rw [Nat.min_eq_right (by omega), Nat.shiftLeft_eq, Nat.shiftLeft_eq, Nat.mul_mod_left, show 2 ^ i = 2 ^ (i - 64) * 2 ^ 64 by rw [← Nat.pow_add]; congr 1; omega, ← Nat.mul_assoc, Nat.mul_mod_left]
theorem shr_min (x i : Nat) (hx : x ≤ 18446744073709551615) : x >>> i = x >>> (min i 64) := by
  by_cases h : i ≤ 64
  · rw [Nat.min_eq_left h]
  · have h1 : 2 ^ 64 ≤ 2 ^ i := Nat.pow_le_pow_right (by decide) (by omega)
    rw [Nat.min_eq_right (by omega), Nat.shiftRight_eq_div_pow, Nat.shiftRight_eq_div_pow, Nat.div_eq_of_lt (by omega), Nat.div_eq_of_lt (by omega)]
theorem Tw.one {n h l h' l' : Nat} (a : Tw n h l) (b : Tw n h' l') : h = h' ∧ l = l' := by
  obtain ⟨e, a1, a2⟩ := a
  obtain ⟨e', b1, b2⟩ := b
  omega
end Go.Proofs.Ytfmhhcmjcmechab

namespace Go.Proofs.Ytfmhhcmjcmechab
open Go.ChangeShapes Go.WideShapes Go.ChangeAt Go.RowKit
set_option linter.unusedVariables false

end Go.Proofs.Ytfmhhcmjcmechab

namespace Go.Proofs.Ytfmhhcmjcmechab
open Go.ChangeShapes Go.WideShapes Go.ChangeAt Go.RowKit
set_option linter.unusedVariables false
set_option maxRecDepth 100000

/-- what the lowest k digits are -/
def lo (a k : Nat) : Nat := val (low a k)
theorem lo_zero (a : Nat) : lo a 0 = 0 := rfl
theorem lo_succ (a k : Nat) : lo a (k + 1) = lo a k + 16777216 ^ k * (top a k % 16777216) := by
  unfold lo; rw [low_snoc, val_append, low_length]; simp [val]
theorem lo_all (a : Nat) : lo a (dlen a) = a := by unfold lo; rw [low_dlen, val_dig]
theorem val_set (l : List Nat) (j d : Nat) (h : j < l.length) : val (l.set j d) + 16777216 ^ j * l.getD j 0 = val l + 16777216 ^ j * d := by
  induction l generalizing j with
  | nil => simp at h
  | cons x l ih =>
    cases j with
    | zero => simp [val_cons]; omega
    | succ j =>
      have := ih j (by simpa using h)
      simp only [List.set_cons_succ, val_cons, List.getD_cons_succ, Nat.pow_succ]
      have e1 : 16777216 ^ j * 16777216 * l.getD j 0 = 16777216 * (16777216 ^ j * l.getD j 0) := by rw [Nat.mul_comm (16777216 ^ j) 16777216, Nat.mul_assoc]
      have e2 : 16777216 ^ j * 16777216 * d = 16777216 * (16777216 ^ j * d) := by rw [Nat.mul_comm (16777216 ^ j) 16777216, Nat.mul_assoc]
      rw [e1, e2]; omega
theorem val_zeros (n : Nat) : val (List.replicate n 0) = 0 := by
  induction n with
  | zero => rfl
  | succ n ih => rw [List.replicate_succ, val_cons, ih]
theorem getD_set (l : List Nat) (j d i : Nat) (h : j < l.length) : (l.set j d).getD i 0 = if j = i then d else l.getD i 0 := by
  rw [List.getD_eq_getElem?_getD, List.getElem?_set]
  by_cases e : j = i
  · subst e; simp [h]
  · simp [e]
theorem mul_step {V V' O c t P p R : Nat} (h1 : V + P * c = R) (h2 : V' + P * O = V + P * (t % 16777216)) (ht : t = O + p + c) : V' + P * 16777216 * (t / 16777216) = R + P * p := by
  have e1 : P * t = P * 16777216 * (t / 16777216) + P * (t % 16777216) := by
    conv => lhs; rw [← Nat.div_add_mod t 16777216]
    rw [Nat.mul_add, Nat.mul_assoc]
  have e2 : P * t = P * O + P * p + P * c := by rw [ht, Nat.mul_add, Nat.mul_add]
  omega
/-- the row of a product under way -/
structure MulAt (a b i k c : Nat) (O : List Nat) : Prop where
  len : O.length = dlen a + dlen b
  digs : ∀ d ∈ O, d < 16777216
  sum : val O + 16777216 ^ (i + k) * c = lo a i * b + 16777216 ^ i * ((top a i % 16777216) * lo b k)
  up : ∀ j, i + dlen b ≤ j → O.getD j 0 = 0
theorem MulAt.start (a b : Nat) : MulAt a b 0 0 0 (List.replicate (dlen a + dlen b) 0) :=
  ⟨by simp, by simp, by rw [val_zeros, lo_zero, lo_zero]; simp, fun j _ => by rw [List.getD_eq_getElem?_getD, List.getElem?_replicate]; split <;> rfl⟩
theorem MulAt.step {a b i k c x t : Nat} {O : List Nat} (h : MulAt a b i k c O) (hi : i < dlen a) (hk : k < dlen b) (hx : x = O.getD (i + k) 0) (ht : t = x + (top a i % 16777216) * (top b k % 16777216) + c) :
    MulAt a b i (k + 1) (t / 16777216) (O.set (i + k) (t % 16777216)) := by
  have hl := h.len
  refine ⟨by simp [hl], ?_, ?_, ?_⟩
  · intro d hd
    rcases List.mem_or_eq_of_mem_set hd with h1 | h1
    · exact h.digs d h1
    · omega
  · have h2 := val_set O (i + k) (t % 16777216) (by omega)
    rw [← hx] at h2
    have h3 := mul_step h.sum h2 ht
    rw [show i + (k + 1) = (i + k) + 1 by omega, Nat.pow_succ, h3, lo_succ, Nat.mul_add, Nat.mul_add, Nat.add_assoc, Nat.pow_add, Nat.mul_assoc, Nat.mul_left_comm (top a i % 16777216)]
  · intro j hj
    rw [getD_set _ _ _ _ (by omega), if_neg (by omega)]
    exact h.up j hj
theorem MulAt.next {a b i c : Nat} {O : List Nat} (h : MulAt a b i (dlen b) c O) (hi : i < dlen a) (hc : c < 16777216) : MulAt a b (i + 1) 0 0 (O.set (i + dlen b) c) := by
  have hl := h.len
  refine ⟨by simp [hl], ?_, ?_, ?_⟩
  · intro d hd
    rcases List.mem_or_eq_of_mem_set hd with h1 | h1
    · exact h.digs d h1
    · omega
  · have h2 := val_set O (i + dlen b) c (by omega)
    rw [h.up _ (Nat.le_refl _), Nat.mul_zero, Nat.add_zero, h.sum, lo_all] at h2
    rw [h2, lo_zero, lo_succ, Nat.mul_zero, Nat.mul_zero, Nat.mul_zero, Nat.add_zero, Nat.add_zero, Nat.add_mul, Nat.mul_assoc]
  · intro j hj
    rw [getD_set _ _ _ _ (by omega), if_neg (by omega)]
    exact h.up j (by omega)
theorem MulAt.done {a b : Nat} {O : List Nat} (h : MulAt a b (dlen a) 0 0 O) : ∃ z, O = dig (a * b) ++ List.replicate z 0 := by
  have hs := h.sum
  rw [lo_zero, lo_all, Nat.mul_zero, Nat.mul_zero, Nat.mul_zero, Nat.add_zero, Nat.add_zero] at hs
  have hv := val_low O h.digs
  have hlt := val_lt O h.digs
  rw [hs] at hv hlt
  exact ⟨_, by rw [← low_ge (dlen_le_of_lt hlt), hv]⟩

end Go.Proofs.Ytfmhhcmjcmechab

namespace Go.Proofs.Ytfmhhcmjcmechab
open Go.ChangeShapes Go.WideShapes Go.ChangeAt Go.RowKit
set_option linter.unusedVariables false

theorem Row.alloc {w : World} {v : Value} {l : List Nat} (h : Row w v l) (o : Obj) : Row (w.alloc o) v l := h.below (bmore (Below.refl _ _) _)
theorem dlen_small {n : Nat} (h : n < 22300745198530623141535718272648361505980416) : dlen n ≤ 6 := dlen_le_of_lt (by rw [show (16777216 : Nat) ^ 6 = 22300745198530623141535718272648361505980416 by decide]; exact h)

theorem cmpN_ge {x y : Nat} : decide (y ≤ x) = decide (0 ≤ cmpN x y) := by
  refine decide_eq_decide.2 ?_
  rcases Nat.lt_trichotomy x y with h | h | h
  · rw [cmpN_lt h]; omega
  · subst h; rw [cmpN_eq]; omega
  · rw [cmpN_gt h]; omega
theorem cmpN_less {x y : Nat} : decide (x < y) = decide (cmpN x y < 0) := by
  refine decide_eq_decide.2 ?_
  rcases Nat.lt_trichotomy x y with h | h | h
  · rw [cmpN_lt h]; omega
  · subst h; rw [cmpN_eq]; omega
  · rw [cmpN_gt h]; omega
theorem dlen_ok {n : Nat} (h : n < 22300745198530623141535718272648361505980416) : dlen n ≤ 1099511627776 := Nat.le_trans (dlen_small h) (by decide)

end Go.Proofs.Ytfmhhcmjcmechab

namespace Go.Proofs.Ytfmhhcmjcmechab
open Go.ChangeShapes Go.WideShapes Go.ChangeAt Go.RowKit
set_option linter.unusedVariables false

/-! ### shifts -/
theorem clamp_shl (a k : Nat) (ha : a < 340282366920938463463374607431768211456) : (a * 2 ^ k) % 340282366920938463463374607431768211456 = (a * 2 ^ (min k 128)) % 340282366920938463463374607431768211456 ∧
    decide (340282366920938463463374607431768211456 ≤ a * 2 ^ k) = decide (340282366920938463463374607431768211456 ≤ a * 2 ^ (min k 128)) := by
  have h128 : (340282366920938463463374607431768211456 : Nat) = 2 ^ 128 := by decide
  by_cases h : k ≤ 128
  · rw [Nat.min_eq_left h]; exact ⟨rfl, rfl⟩
  · rw [Nat.min_eq_right (by omega)]
    have e : 2 ^ k = 2 ^ (k - 128) * 2 ^ 128 := by rw [← Nat.pow_add]; congr 1; omega
    rw [e, ← Nat.mul_assoc, ← h128]
    have hp : 0 < 2 ^ (k - 128) := Nat.pow_pos (by decide)
    have hX : 0 < a * 2 ^ (k - 128) ↔ 0 < a := ⟨fun h => Nat.pos_of_mul_pos_right h, fun h => Nat.mul_pos h hp⟩
    generalize a * 2 ^ (k - 128) = X at *
    clear e hp
    refine ⟨by omega, decide_eq_decide.2 (by omega)⟩
theorem clamp_shr (a k : Nat) (ha : a < 340282366920938463463374607431768211456) : a / 2 ^ k = a / 2 ^ (min k 128) ∧ decide (a % 2 ^ k ≠ 0) = decide (a % 2 ^ (min k 128) ≠ 0) := by
  by_cases h : k ≤ 128
  · rw [Nat.min_eq_left h]; exact ⟨rfl, rfl⟩
  · rw [Nat.min_eq_right (by omega)]
    have h1 : a < 2 ^ 128 := ha
    have h2 : 2 ^ 128 ≤ 2 ^ k := Nat.pow_le_pow_right (by decide) (by omega)
    have h3 : a < 2 ^ k := by omega
    rw [Nat.div_eq_of_lt h1, Nat.div_eq_of_lt h3, Nat.mod_eq_of_lt h1, Nat.mod_eq_of_lt h3]
    exact ⟨rfl, rfl⟩
theorem shl_dlen (a k : Nat) (ha : a < 340282366920938463463374607431768211456) (hk : k ≤ 128) : dlen (a * 2 ^ k) ≤ 1099511627776 := by
  refine Nat.le_trans (dlen_le_of_lt (k := 12) ?_) (by decide)
  have h1 : 2 ^ k ≤ 2 ^ 128 := Nat.pow_le_pow_right (by decide) hk
  exact Nat.lt_of_lt_of_le (Nat.mul_lt_mul_of_lt_of_le ha h1 (Nat.pow_pos (by decide))) (by decide)

end Go.Proofs.Ytfmhhcmjcmechab

namespace Go.Proofs.Ytfmhhcmjcmechab
open Go.ChangeShapes Go.WideShapes Go.ChangeAt Go.RowKit
set_option linter.unusedVariables false

end Go.Proofs.Ytfmhhcmjcmechab

namespace Go.Proofs.Ytfmhhcmjcmechab
open Go.ChangeShapes Go.WideShapes Go.ChangeAt Go.RowKit
set_option linter.unusedVariables false

end Go.Proofs.Ytfmhhcmjcmechab

namespace Go.Proofs.Ytfmhhcmjcmechab
open Go.ChangeShapes Go.WideShapes Go.ChangeAt Go.RowKit
set_option linter.unusedVariables false
set_option linter.unusedSimpArgs false
set_option maxRecDepth 100000

/-! ### sound, row, compare, tail -/
def soundF (k : Int) (neg : Bool) (s : Int) (hi lo : Nat) (rest : Bool) (far : Int) : Bool :=
  if k = 0 ∨ k = 2 then decide (neg = false ∧ s = 0 ∧ hi = 0 ∧ lo = 0 ∧ rest = false) else decide (k = 1 ∧ 9223372036854775808 ≤ hi ∧ -far ≤ s ∧ s ≤ far)
theorem soundF_X (k : Int) (neg : Bool) (s : Int) (hi lo : Nat) (rest : Bool) : soundF k neg s hi lo rest 1099511627776 = soundX k neg s hi lo rest := rfl
theorem soundF_N (k : Int) (neg : Bool) (s : Int) (f : Nat) : soundF k neg s f 0 false 1073741824 = soundN k neg s f := by unfold soundF soundN; simp
end Go.Proofs.Ytfmhhcmjcmechab

namespace Go.Proofs.Ytfmhhcmjcmechab
open Go.ChangeShapes Go.WideShapes Go.ChangeAt Go.RowKit
set_option linter.unusedVariables false
set_option linter.unusedSimpArgs false
set_option maxRecDepth 100000

/-! ### what stands behind the run -/
theorem top_off (hi : Nat) (h1 : 9223372036854775808 ≤ hi) (h2 : hi < 18446744073709551616) : bits BinOp.andNot IntKind.u64 (hi : Int) 9223372036854775808 = ((hi - 9223372036854775808 : Nat) : Int) := by
  have := u64_andNot_nat hi 9223372036854775808 h2 (by decide)
  rw [show ((9223372036854775808 : Nat) : Int) = 9223372036854775808 from rfl] at this
  rw [this, show 18446744073709551615 - 9223372036854775808 = 2 ^ 63 - 1 by decide, Nat.and_two_pow_sub_one_eq_mod]
  have e : hi % 2 ^ 63 = hi - 9223372036854775808 := by omega
  rw [e]
theorem exp_or (h1 e : Nat) (h : h1 < 4611686018427387904) (he : e < 4) : bits BinOp.or IntKind.u64 (h1 : Int) (IntKind.u64.wrap ((e : Int) * 4611686018427387904)) = ((e * 4611686018427387904 + h1 : Nat) : Int) := by
  have e1 : IntKind.u64.wrap ((e : Int) * 4611686018427387904) = ((e * 4611686018427387904 : Nat) : Int) := by rw [IntKind.wrap_u64]; omega
  rw [e1, u64_or_nat h1 (e * 4611686018427387904) (by omega) (by omega)]
  congr 1
  have := Nat.two_pow_add_eq_or_of_lt (i := 62) (b := h1) h e
  rw [show 2 ^ 62 * e = e * 4611686018427387904 by rw [Nat.mul_comm]] at this
  rw [this, Nat.or_comm]
/-- an operation that its guard leaves out, carried to the front -/
theorem wpC_skip {P : Program} {ops : Array Oper} {Q : Exit → Act → World → Prop} {md : Region.Mode} {C : World → Prop} (i : Nat) {oi : Oper} {fuel : Nat} {listed : Array Bool} {a : Act} {w : World} (hi : ops[i]? = some oi)
    (hf : (Region.noSelect ops && Region.free md ops listed i && (Region.ready md ops listed).contains i) = true)
    (hQ : ∀ c a w, Q (.panic c) (a.put oi.dst undef) w → Q (.panic c) a w) (hwant : Region.wanted oi (yielded ops a.tmps) = false)
    (h : wpAnyC C P md ops Q fuel (listed.setIfInBounds i true) (a.put oi.dst undef) w) : wpAnyC C P md ops Q (fuel + 1) listed a w := by
  simp only [Bool.and_eq_true] at hf
  exact wpC_first hi (Region.noSelect_spec hf.1.1) hQ fuel listed a w (Region.free_spec hi hf.1.2) (by simpa using hf.2) (.inr ⟨hwant, rfl⟩) h
end Go.Proofs.Ytfmhhcmjcmechab

namespace Go.Proofs.Ytfmhhcmjcmechab
open Go.ChangeShapes Go.WideShapes Go.ChangeAt Go.RowKit
set_option linter.unusedVariables false
set_option linter.unusedSimpArgs false
set_option maxRecDepth 100000

/-! ### the string, cut -/
theorem pow_join (R room n : Nat) (h : room ≤ 62) : R * 2 ^ room < 2 ^ 64 → IntKind.u64.wrap ((R : Int) * 2 ^ room) = ((R * 2 ^ room : Nat) : Int) := by
  intro h2
  have e : ((R : Int) * 2 ^ room) = ((R * 2 ^ room : Nat) : Int) := by simp
  rw [e, wrapN, Nat.mod_eq_of_lt h2]
theorem tail_half (s : Int) (M : Nat) (h : Mant M) : tailN s M / 2 < 340282366920938463463374607431768211456 := by
  have := tail_lt s M h
  rw [show (2 : Nat) ^ 129 = 340282366920938463463374607431768211456 * 2 by decide] at this
  exact Nat.div_lt_of_lt_mul (by rw [Nat.mul_comm]; exact this)
theorem half_pow (x y : Nat) : (x * (2 ^ 127) + y) / 2 = x * 2 ^ 126 + y / 2 := by
  rw [show (2 : Nat) ^ 127 = 2 * 2 ^ 126 by decide, show x * (2 * 2 ^ 126) = 2 * (x * 2 ^ 126) by rw [Nat.mul_left_comm], Nat.mul_add_div (by decide)]
theorem tw_of {x : Nat} (h : x < 340282366920938463463374607431768211456) : ∃ a b, Tw x a b := ⟨x / 18446744073709551616, x % 18446744073709551616, by omega, by omega, by omega⟩
end Go.Proofs.Ytfmhhcmjcmechab

namespace Go.Proofs.Ytfmhhcmjcmechab
open Go.ChangeShapes Go.WideShapes Go.ChangeAt Go.RowKit
set_option linter.unusedVariables false
set_option linter.unusedSimpArgs false
set_option maxRecDepth 100000

/-! ### Cut -/
theorem least_kind (n : Nat) (hn : Wd n) : kindOf n (1 % 2 ^ n) = 1 := by rcases hn with rfl | rfl | rfl | rfl <;> decide
theorem least_scale (n : Nat) (hn : Wd n) : scaleL (strS n 1) = 8 - 4 * (n : Int) := by rcases hn with rfl | rfl | rfl | rfl <;> decide +kernel
/-- the least value's own string: all of it before the cut -/
theorem least_cut (n : Nat) (hi lo : Nat) (rest : Bool) (hn : Wd n) (h : justX hi lo rest = true) :
    numOf ((strX (8 - 4 * (n : Int)) hi lo).take (n - 1)) = 1 ∧ leftL ((strX (8 - 4 * (n : Int)) hi lo).drop (n - 1)) rest = 0 := by
  have hw := wd_le hn
  have e1 : (8 - 4 * (n : Int)) / 4 = 2 - n := by omega
  have e2 : ((8 - 4 * (n : Int)) % 4).toNat = 0 := by omega
  have hk : headK (2 - (n : Int)) = noughts (n - 2) ++ [true] := by
    unfold headK
    rw [if_neg (by omega), show (-(2 - (n : Int))).toNat = n - 2 by omega]
    try rfl
  have hl : (noughts (n - 2) ++ [true]).length = n - 1 := by simp [noughts]; omega
  have e : strX (8 - 4 * (n : Int)) hi lo = (noughts (n - 2) ++ [true]) ++ (bitsOf 0 2 ++ digX hi lo) := by
    unfold strX; rw [e1, e2, hk]; simp
  unfold justX at h
  have hr : rest = false := by cases rest <;> simp at h ⊢
  have ha : (digX hi lo).any id = false := by rw [hr] at h; simpa using h
  rw [e]
  refine ⟨?_, ?_⟩
  · rw [List.take_append, List.take_of_length_le (by omega), hl, Nat.sub_self, List.take_zero, List.append_nil, numOf_append, numOf_noughts]
    rfl
  · rw [List.drop_append, List.drop_of_length_le (by omega), hl, Nat.sub_self, List.drop_zero, List.nil_append]
    have : bitsOf 0 2 = [false, false] := rfl
    rw [this]
    unfold leftL
    show (if false = true then _ else _) = 0
    have hd : (([false, false] ++ digX hi lo).drop 1).any id = false := by
      show (false :: digX hi lo).any id = false
      rw [List.any_cons, ha]; rfl
    rw [hd, hr]; rfl
end Go.Proofs.Ytfmhhcmjcmechab

namespace Go.Proofs.Ytfmhhcmjcmechab
open Go.ChangeShapes Go.WideShapes Go.ChangeAt Go.RowKit
set_option linter.unusedVariables false
set_option linter.unusedSimpArgs false
set_option maxRecDepth 100000

/-! ### Of -/
/-! ### Round -/
end Go.Proofs.Ytfmhhcmjcmechab

namespace Go.Proofs.Ytfmhhcmjcmechab
open Go.ChangeShapes Go.WideShapes Go.ChangeAt Go.RowKit
set_option linter.unusedVariables false
set_option linter.unusedSimpArgs false
set_option maxRecDepth 100000

/-! ### Make -/
theorem norm_shift {M k : Nat} (hM : blen M ≤ 128) (hk : k + blen M = 128) : normN M = M * 2 ^ k ∧ lostN M = false := by
  constructor
  · unfold normN
    by_cases h : blen M < 128
    · rw [if_pos h, show 128 - blen M = k by omega]
    · rw [if_neg h, show blen M - 128 = 0 by omega, show k = 0 by omega, Nat.pow_zero, Nat.div_one, Nat.mul_one]
  · unfold lostN
    rw [decide_eq_false (show ¬ 128 < blen M by omega), Bool.false_and]
theorem norm_tw {M : Nat} (h : M < 340282366920938463463374607431768211456) : Tw M (M / 2 ^ 64 % 2 ^ 64) (M % 2 ^ 64) := ⟨by omega, by omega, by omega⟩
end Go.Proofs.Ytfmhhcmjcmechab

namespace Go.Proofs.Ytfmhhcmjcmechab
/-! ### the contracts of package round stand in RkD (Cut), RkE (Of, Round), RkF (Make) -/
end Go.Proofs.Ytfmhhcmjcmechab

namespace Go.Proofs.Ytfmhhcmjcmechab
open Go.ChangeShapes Go.WideShapes Go.ChangeAt Go.RowKit
set_option linter.unusedVariables false
set_option linter.unusedSimpArgs false
set_option maxRecDepth 100000

theorem soundX_cases {k : Int} {neg : Bool} {s : Int} {hi lo : Nat} {rest : Bool} (h : soundX k neg s hi lo rest = true) : (k = 0 ∧ neg = false ∧ s = 0 ∧ hi = 0 ∧ lo = 0 ∧ rest = false) ∨ (k = 2 ∧ neg = false ∧ s = 0 ∧ hi = 0 ∧ lo = 0 ∧ rest = false) ∨ k = 1 := by
  unfold soundX at h
  split at h
  · rename_i hk
    have := of_decide_eq_true h
    rcases hk with rfl | rfl
    · exact .inl ⟨rfl, this⟩
    · exact .inr (.inl ⟨rfl, this⟩)
  · exact .inr (.inr (of_decide_eq_true h).1)
theorem soundX_top {neg : Bool} {s : Int} {hi lo : Nat} {rest : Bool} (h : soundX 1 neg s hi lo rest = true) : 9223372036854775808 ≤ hi := by
  unfold soundX at h
  rw [if_neg (by decide)] at h
  exact (of_decide_eq_true h).2.1
end Go.Proofs.Ytfmhhcmjcmechab

namespace Go.Proofs.Ytfmhhcmjcmechab
set_option linter.unusedVariables false
set_option linter.unusedSimpArgs false

/-! ### what a string means, as the number of its string (plain mathematics: P7.5's ties) -/
theorem scaleL_range (t : List Bool) (hl : t.length ≤ 63) : -256 ≤ scaleL t ∧ scaleL t ≤ 255 := by
  have hex : expL t < 4 := by
    have := numOf_lt ((restL t ++ noughts 2).take 2)
    rw [show ((restL t ++ noughts 2).take 2).length = 2 by simp] at this
    exact this
  have h1 := runL_le t
  unfold scaleL regL
  split <;> omega
theorem words_of (t : List Bool) : WordsX (wordL t) 0 := ⟨(wordL_bounds t).1, (wordL_bounds t).2, by decide⟩
theorem strX_canon (s : Int) (f : Nat) : strX s f 0 = canon s f ++ noughts 64 := by
  have : bitsOf 0 64 = noughts 64 := by decide
  unfold strX canon digX
  rw [this]; simp
theorem zed_parse (t : List Bool) (ht : true ∈ t) (hl : t.length ≤ 63) : zed (scaleL t) (manX (wordL t) 0) = numOf t * 2 ^ (209 - t.length) := by
  obtain ⟨z, hz, _⟩ := canon_parse t ht (by omega)
  have hr := scaleL_range t hl
  obtain ⟨h1, h2⟩ := zed_str (scaleL t) (manX (wordL t) 0) (digX (wordL t) 0) (digX_length _ _) (digX_num (words_of t)) (by omega) (by omega)
  have e : headK (scaleL t / 4) ++ bitsOf (scaleL t % 4).toNat 2 ++ digX (wordL t) 0 = t ++ noughts (z + 64) := by
    have := strX_canon (scaleL t) (wordL t)
    rw [hz, List.append_assoc, noughts_add] at this
    exact this
  rw [e, List.length_append, List.length_replicate] at h1 h2
  rw [← h2, numOf_append, numOf_noughts, Nat.add_zero, List.length_replicate, Nat.mul_assoc, ← Nat.pow_add]
  congr 2; omega
/-- the tie behind p: p, a 1 and noughts, in the width 64 -/
def tieL (n p : Nat) : List Bool := bitsOf p (n - 1) ++ true :: noughts (63 - n)
theorem tie_zed (n p : Nat) (h1 : 1 ≤ n) (h2 : n ≤ 63) (hp : p < 2 ^ (n - 1)) :
    2 * zed (scaleL (tieL n p)) (manX (wordL (tieL n p)) 0) = p * (2 * 2 ^ (210 - n)) + 2 ^ (210 - n) := by
  have hl : (tieL n p).length = 63 := by unfold tieL; rw [List.length_append, bitsOf_length, List.length_cons, List.length_replicate]; omega
  have ht : true ∈ tieL n p := List.mem_append_right _ (List.mem_cons_self ..)
  rw [zed_parse _ ht (by omega), hl]
  have hn : numOf (tieL n p) = (2 * p + 1) * 2 ^ (63 - n) := by
    unfold tieL
    rw [numOf_append, numOf_bits, Nat.mod_eq_of_lt hp, numOf_cons, numOf_noughts, List.length_cons, List.length_replicate, Nat.pow_succ]
    simp only [Bool.toNat_true, Nat.one_mul, Nat.add_zero]
    rw [Nat.add_mul, Nat.one_mul, ← Nat.mul_assoc, Nat.mul_comm (p * 2 ^ (63 - n)) 2, ← Nat.mul_assoc]
  have e1 : 2 ^ (210 - n) = 2 * (2 ^ (63 - n) * 2 ^ (209 - 63)) := by
    rw [← Nat.pow_add, ← Nat.pow_succ']; congr 1; omega
  rw [hn, e1]
  generalize 2 ^ (209 - 63) = B
  generalize 2 ^ (63 - n) = A
  rw [Nat.mul_assoc (2 * p + 1) A B]
  generalize A * B = C
  rw [Nat.add_mul, Nat.one_mul, Nat.mul_add]
  congr 1
  simp only [Nat.mul_assoc, Nat.mul_left_comm]
end Go.Proofs.Ytfmhhcmjcmechab

namespace Go.Proofs.Ytfmhhcmjcmechab
open Go.ChangeShapes Go.WideShapes Go.ChangeAt Go.RowKit
set_option linter.unusedVariables false
set_option linter.unusedSimpArgs false
set_option maxRecDepth 100000

/-! ### what a pattern means is rounded to it (plain mathematics) -/
theorem rhe_mul (H p : Nat) (hH : 0 < H) : rhe H (p * (2 * H)) = p := by
  unfold rhe
  rw [Nat.mul_div_cancel _ (by omega), Nat.mul_mod_left, if_pos rfl]
  unfold roundP
  rw [if_neg (by omega)]
theorem str_ends (m : Nat) (t : List Bool) (hm : Wd m) (hl : t.length = m - 1) (ht : true ∈ t) :
    (scaleL t = 4 * (m : Int) - 8 → numOf t = 2 ^ (m - 1) - 1) ∧ (scaleL t = 8 - 4 * (m : Int) → numOf t = 1) := by
  have hw := wd_le hm
  have hne : t ≠ [] := by rintro rfl; cases ht
  have hex : expL t < 4 := by
    have := numOf_lt ((restL t ++ noughts 2).take 2)
    rw [show ((restL t ++ noughts 2).take 2).length = 2 by simp] at this
    exact this
  obtain ⟨b, r, tl, rfl, htl⟩ := split_run t hne
  rw [List.length_append, List.length_replicate] at hl
  unfold scaleL regL
  rw [runL_rep b r tl htl, onesL_rep]
  generalize expL (List.replicate (r + 1) b ++ tl) = ex at *
  constructor
  · intro h
    cases b
    · simp at h; omega
    · simp at h
      have hr : r + 1 = m - 1 := by omega
      have htl0 : tl = [] := List.length_eq_zero_iff.1 (by omega)
      rw [htl0, List.append_nil, numOf_ones, hr]
  · intro h
    cases b
    · simp at h
      have hr : r + 1 = m - 2 ∨ r + 1 = m - 1 := by omega
      rcases htl with rfl | ⟨u, rfl⟩
      · rw [List.append_nil, List.mem_replicate] at ht
        exact absurd ht.2 (by decide)
      · rw [List.length_cons] at hl
        have hu : u = [] := List.length_eq_zero_iff.1 (by omega)
        subst hu
        rw [show List.replicate (r + 1) false = noughts (r + 1) from rfl, numOf_noughts_append]
        rfl
    · simp at h; omega
theorem rnd_home (m : Nat) (t : List Bool) (hm : Wd m) (hl : t.length = m - 1) (ht : true ∈ t) : rndX m (scaleL t) (wordL t) 0 false = numOf t := by
  have hw := wd_le hm
  have hr := of_decide_eq_true (inR_of m t hm hl ht)
  obtain ⟨e1, e2⟩ := str_ends m t hm hl ht
  rcases mid_or m (scaleL t) (justX (wordL t) 0 false) with h | h | ⟨h0, h⟩
  · rw [(rnd_mid m _ _ _ _ hm (words_of t) h).1]
    unfold zX
    rw [zed_parse t ht (by omega), hl, show 209 - (m - 1) = 210 - m by omega]
    have := rhe_mul (2 ^ (210 - m)) (numOf t) (Nat.pow_pos (by decide))
    rw [show numOf t * (2 * 2 ^ (210 - m)) = 2 * (numOf t * 2 ^ (210 - m)) by rw [Nat.mul_left_comm]] at this
    simpa using this
  · rw [rnd_top m _ _ _ _ h, e1 (by omega)]
  · rw [rnd_low m _ _ _ _ h0 h, e2 (by rcases h with h | h <;> omega)]
/-! ### ranks of patterns that are rounded -/
theorem extOf_patR (n : Nat) (hn : Wd n) (neg : Bool) (R : Nat) (h1 : 1 ≤ R) (h2 : R ≤ 2 ^ (n - 1) - 1) : extOf (patR n neg R) n = if neg then -(R : Int) else R := by
  obtain ⟨H, e1, e2, e3, _⟩ := wd_pows hn
  unfold patR
  rw [e2] at h2
  cases neg
  · simp only [Bool.false_eq_true, if_false]
    have hlt : R < 2 ^ n := by rw [e1]; omega
    have ht := top_of n R hn hlt
    rw [e2, decide_eq_false (by omega)] at ht
    unfold extOf
    rw [ht, Nat.mod_eq_of_lt hlt]; simp
  · simp only [if_true]
    have hlt : 2 ^ n - R < 2 ^ n := by rw [e1]; omega
    have ht := top_of n _ hn hlt
    rw [e2, decide_eq_true (by rw [e1]; omega)] at ht
    unfold extOf
    rw [ht, Nat.mod_eq_of_lt hlt, e1]; simp; omega
theorem extOf_nought (n : Nat) : extOf 0 n = 0 := by unfold extOf; simp
def valX (n : Nat) (k : Int) (neg : Bool) (s : Int) (hi lo : Nat) : Int := if k = 1 then (if neg then -(rndX n s hi lo false : Int) else rndX n s hi lo false) else 0
theorem lexN {hi lo hi' lo' : Nat} (hl : lo < 2 ^ 64) (hl' : lo' < 2 ^ 64) : (hi < hi' ∨ (hi = hi' ∧ lo < lo')) ↔ manX hi lo < manX hi' lo' := by
  unfold manX; omega
/-- the document's Cmp is on the side of what is rounded -/
theorem cmp7_val (n : Nat) (hn : Wd n) (k k' : Int) (neg neg' : Bool) (s s' : Int) (hi lo hi' lo' : Nat) (hh : hi < 2 ^ 64) (hl : lo < 2 ^ 64) (hh' : hi' < 2 ^ 64) (hl' : lo' < 2 ^ 64)
    (hs : soundX k neg s hi lo false = true) (hs' : soundX k' neg' s' hi' lo' false = true) (hk : k ≠ 2) (hk' : k' ≠ 2) :
    ∃ c : Int, (∀ w, Calls Try.prog 11 #[exV k neg s hi lo false, exV k' neg' s' hi' lo' false] w fun e w' => e = .returned (.int .i64 c) ∧ Below w.heap.size w w') ∧
      (c ≤ 0 → valX n k neg s hi lo ≤ valX n k' neg' s' hi' lo') ∧ (0 ≤ c → valX n k' neg' s' hi' lo' ≤ valX n k neg s hi lo) := by
  have sg : ∀ (k : Int) (neg : Bool) (s : Int) (hi lo : Nat), hi < 2 ^ 64 → lo < 2 ^ 64 → soundX k neg s hi lo false = true → k ≠ 2 →
      (sgnX k neg = 0 ∧ k = 0 ∧ valX n k neg s hi lo = 0) ∨ (sgnX k neg = 1 ∧ k = 1 ∧ neg = false ∧ 1 ≤ valX n k neg s hi lo) ∨ (sgnX k neg = -1 ∧ k = 1 ∧ neg = true ∧ valX n k neg s hi lo ≤ -1) := by
    intro k neg s hi lo hh hl hs hk
    rcases soundX_cases hs with ⟨rfl, rfl, rfl, rfl, rfl, _⟩ | ⟨rfl, _⟩ | rfl
    · exact .inl ⟨rfl, rfl, rfl⟩
    · exact absurd rfl hk
    · obtain ⟨r1, r2⟩ := rnd_range n s hi lo false hn ⟨soundX_top hs, hh, hl⟩
      unfold sgnX valX
      cases neg
      · refine .inr (.inl ⟨by simp, rfl, rfl, ?_⟩)
        simp; omega
      · refine .inr (.inr ⟨by simp, rfl, rfl, ?_⟩)
        simp; omega
  have h1 := sg k neg s hi lo hh hl hs hk
  have h2 := sg k' neg' s' hi' lo' hh' hl' hs' hk'
  by_cases hsg : sgnX k neg = sgnX k' neg'
  · rcases h1 with ⟨a1, a2, a3⟩ | ⟨a1, a2, a3, a4⟩ | ⟨a1, a2, a3, a4⟩
    · have b : sgnX k' neg' = 0 := by rw [← hsg, a1]
      refine ⟨0, fun w => cmp7_zero k k' neg neg' s s' hi lo hi' lo' false false a1 b w, ?_⟩
      rcases h2 with ⟨_, _, b3⟩ | ⟨b1, _⟩ | ⟨b1, _⟩
      · rw [a3, b3]; exact ⟨fun _ => Int.le_refl _, fun _ => Int.le_refl _⟩
      · rw [b] at b1; exact absurd b1 (by decide)
      · rw [b] at b1; exact absurd b1 (by decide)
    · have hk'1 : k' = 1 ∧ neg' = false := by
        rcases h2 with ⟨b1, _⟩ | ⟨b1, b2, b3, _⟩ | ⟨b1, _⟩
        · rw [← hsg, a1] at b1; exact absurd b1 (by decide)
        · exact ⟨b2, b3⟩
        · rw [← hsg, a1] at b1; exact absurd b1 (by decide)
      obtain ⟨rfl, rfl⟩ := hk'1
      subst a2 a3
      have hx : WordsX hi lo := ⟨soundX_top hs, hh, hl⟩
      have hx' : WordsX hi' lo' := ⟨soundX_top hs', hh', hl'⟩
      have m1 := rnd_rise n s s' hi lo hi' lo' hn hx hx'
      have m2 := rnd_rise n s' s hi' lo' hi lo hn hx' hx
      have lx := @lexN hi lo hi' lo' hl hl'
      refine ⟨_, fun w => cmp7_real false s s' hi lo hi' lo' w, ?_, ?_⟩
      · intro hc
        unfold valX
        simp only [if_true, Bool.false_eq_true, if_false] at hc ⊢
        have := m1 (by
          by_cases e1 : s = s' ∧ hi = hi' ∧ lo = lo'
          · obtain ⟨rfl, rfl, rfl⟩ := e1; exact .inr ⟨rfl, Nat.le_refl _⟩
          · rw [if_neg e1] at hc
            by_cases e2 : s < s' ∨ (s = s' ∧ (hi < hi' ∨ (hi = hi' ∧ lo < lo')))
            · rcases e2 with e2 | ⟨e2, e3⟩
              · exact .inl e2
              · exact .inr ⟨e2, Nat.le_of_lt (lx.1 e3)⟩
            · rw [if_neg e2] at hc; omega)
        omega
      · intro hc
        unfold valX
        simp only [if_true, Bool.false_eq_true, if_false] at hc ⊢
        have := m2 (by
          by_cases e1 : s = s' ∧ hi = hi' ∧ lo = lo'
          · obtain ⟨rfl, rfl, rfl⟩ := e1; exact .inr ⟨rfl, Nat.le_refl _⟩
          · rw [if_neg e1] at hc
            by_cases e2 : s < s' ∨ (s = s' ∧ (hi < hi' ∨ (hi = hi' ∧ lo < lo')))
            · rw [if_pos e2] at hc; omega
            · rcases Int.lt_trichotomy s s' with c1 | c1 | c1
              · exact absurd (.inl c1) e2
              · refine .inr ⟨c1.symm, Nat.le_of_not_lt fun hlt => e2 (.inr ⟨c1, lx.2 hlt⟩)⟩
              · exact .inl c1)
        omega
    · have hk'1 : k' = 1 ∧ neg' = true := by
        rcases h2 with ⟨b1, _⟩ | ⟨b1, _⟩ | ⟨b1, b2, b3, _⟩
        · rw [← hsg, a1] at b1; exact absurd b1 (by decide)
        · rw [← hsg, a1] at b1; exact absurd b1 (by decide)
        · exact ⟨b2, b3⟩
      obtain ⟨rfl, rfl⟩ := hk'1
      subst a2 a3
      have hx : WordsX hi lo := ⟨soundX_top hs, hh, hl⟩
      have hx' : WordsX hi' lo' := ⟨soundX_top hs', hh', hl'⟩
      have m1 := rnd_rise n s s' hi lo hi' lo' hn hx hx'
      have m2 := rnd_rise n s' s hi' lo' hi lo hn hx' hx
      have lx := @lexN hi lo hi' lo' hl hl'
      refine ⟨_, fun w => cmp7_real true s s' hi lo hi' lo' w, ?_, ?_⟩
      · intro hc
        unfold valX
        simp only [if_true] at hc ⊢
        have := m2 (by
          by_cases e1 : s = s' ∧ hi = hi' ∧ lo = lo'
          · obtain ⟨rfl, rfl, rfl⟩ := e1; exact .inr ⟨rfl, Nat.le_refl _⟩
          · rw [if_neg e1] at hc
            by_cases e2 : s < s' ∨ (s = s' ∧ (hi < hi' ∨ (hi = hi' ∧ lo < lo')))
            · rw [if_pos e2] at hc; omega
            · rcases Int.lt_trichotomy s s' with c1 | c1 | c1
              · exact absurd (.inl c1) e2
              · refine .inr ⟨c1.symm, Nat.le_of_not_lt fun hlt => e2 (.inr ⟨c1, lx.2 hlt⟩)⟩
              · exact .inl c1)
        omega
      · intro hc
        unfold valX
        simp only [if_true] at hc ⊢
        have := m1 (by
          by_cases e1 : s = s' ∧ hi = hi' ∧ lo = lo'
          · obtain ⟨rfl, rfl, rfl⟩ := e1; exact .inr ⟨rfl, Nat.le_refl _⟩
          · rw [if_neg e1] at hc
            by_cases e2 : s < s' ∨ (s = s' ∧ (hi < hi' ∨ (hi = hi' ∧ lo < lo')))
            · rcases e2 with e2 | ⟨e2, e3⟩
              · exact .inl e2
              · exact .inr ⟨e2, Nat.le_of_lt (lx.1 e3)⟩
            · rw [if_neg e2] at hc; omega)
        omega
  · refine ⟨_, fun w => cmp7_sgn k k' neg neg' s s' hi lo hi' lo' false false hsg w, ?_, ?_⟩
    · intro hc
      by_cases h : sgnX k neg < sgnX k' neg'
      · rcases h1 with ⟨a1, _, a3⟩ | ⟨a1, _, _, a4⟩ | ⟨a1, _, _, a4⟩ <;> rcases h2 with ⟨b1, _, b3⟩ | ⟨b1, _, _, b4⟩ | ⟨b1, _, _, b4⟩ <;> omega
      · rw [if_neg h] at hc; omega
    · intro hc
      by_cases h : sgnX k neg < sgnX k' neg'
      · rw [if_pos h] at hc; omega
      · rcases h1 with ⟨a1, _, a3⟩ | ⟨a1, _, _, a4⟩ | ⟨a1, _, _, a4⟩ <;> rcases h2 with ⟨b1, _, b3⟩ | ⟨b1, _, _, b4⟩ | ⟨b1, _, _, b4⟩ <;> omega
end Go.Proofs.Ytfmhhcmjcmechab

namespace Go.Proofs.Ytfmhhcmjcmechab
open Go.ChangeShapes Go.WideShapes Go.ChangeAt Go.RowKit
set_option linter.unusedVariables false
set_option linter.unusedSimpArgs false
set_option maxRecDepth 100000

/-! ### ties (plain mathematics) -/
theorem tieL_length (n q : Nat) (h1 : 1 ≤ n) (h2 : n ≤ 63) : (tieL n q).length = 63 := by
  unfold tieL; rw [List.length_append, bitsOf_length, List.length_cons, List.length_replicate]; omega
theorem tieL_true (n q : Nat) : true ∈ tieL n q := by unfold tieL; simp
theorem tieL_num (n q : Nat) (h1 : 1 ≤ n) (h2 : n ≤ 63) (hq : q < 2 ^ (n - 1)) : numOf (tieL n q) = q * 2 ^ (64 - n) + 2 ^ (63 - n) := by
  unfold tieL
  rw [numOf_append, numOf_bits, Nat.mod_eq_of_lt hq, numOf_cons, numOf_noughts, List.length_cons, List.length_replicate, show 63 - n + 1 = 64 - n by omega]
  simp
/-- the document's Cmp of two positive Reals -/
def cmpV (s : Int) (hi lo : Nat) (s' : Int) (hi' lo' : Nat) : Int := if s = s' ∧ hi = hi' ∧ lo = lo' then 0 else if s < s' ∨ (s = s' ∧ (hi < hi' ∨ (hi = hi' ∧ lo < lo'))) then -1 else 1
theorem cmp7_pos (s s' : Int) (hi lo hi' lo' : Nat) (w : World) :
    Calls Try.prog 11 #[exV 1 false s hi lo false, exV 1 false s' hi' lo' false] w fun e w' => e = .returned (.int .i64 (cmpV s hi lo s' hi' lo')) ∧ Below w.heap.size w w' := by
  have := cmp7_real false s s' hi lo hi' lo' w
  simp only [Bool.false_eq_true, if_false] at this
  exact this
/-- two numbers on the line -/
theorem cmpV_zed {s s' : Int} {hi lo hi' lo' : Nat} (h : WordsX hi lo) (h' : WordsX hi' lo') (h1 : -316 ≤ s) (h2 : s < 312) (h3 : -316 ≤ s') (h4 : s' < 312) :
    (zed s (manX hi lo) < zed s' (manX hi' lo') → cmpV s hi lo s' hi' lo' < 0) ∧ (zed s (manX hi lo) = zed s' (manX hi' lo') → cmpV s hi lo s' hi' lo' = 0) ∧ (zed s' (manX hi' lo') < zed s (manX hi lo) → 0 < cmpV s hi lo s' hi' lo') := by
  have lx := @lexN hi lo hi' lo' h.lo64 h'.lo64
  have up := @zed_lt s s' (manX hi lo) (manX hi' lo') h.mant h'.mant h1 h4
  have dn := @zed_lt s' s (manX hi' lo') (manX hi lo) h'.mant h.mant h3 h2
  have meq : manX hi lo = manX hi' lo' → hi = hi' ∧ lo = lo' := fun e => by
    have a := h.lo64; have b := h'.lo64
    unfold manX at e; omega
  unfold cmpV
  by_cases e : s = s' ∧ hi = hi' ∧ lo = lo'
  · obtain ⟨rfl, rfl, rfl⟩ := e
    rw [if_pos ⟨rfl, rfl, rfl⟩]
    exact ⟨fun h => absurd h (Nat.lt_irrefl _), fun _ => rfl, fun h => absurd h (Nat.lt_irrefl _)⟩
  · rw [if_neg e]
    by_cases l : s < s' ∨ (s = s' ∧ (hi < hi' ∨ (hi = hi' ∧ lo < lo')))
    · rw [if_pos l]
      have := up (by rcases l with l | ⟨l1, l2⟩; exact .inl l; exact .inr ⟨l1, lx.1 l2⟩)
      exact ⟨fun _ => by decide, fun h => by omega, fun h => by omega⟩
    · rw [if_neg l]
      have := dn (by
        rcases Int.lt_trichotomy s s' with c | c | c
        · exact absurd (.inl c) l
        · refine .inr ⟨c.symm, ?_⟩
          rcases Nat.lt_trichotomy (manX hi lo) (manX hi' lo') with d | d | d
          · exact absurd (.inr ⟨c, lx.2 d⟩) l
          · exact absurd ⟨c, meq d⟩ e
          · exact d
        · exact .inl c)
      exact ⟨fun h => by omega, fun h => by omega, fun _ => by decide⟩
theorem ties_mid (n : Nat) (s : Int) (hi lo : Nat) (hn : Wd n) (h64 : n ≤ 63) (h : WordsX hi lo) (hm : midX n s (justX hi lo false)) (p : Nat) (hp : p = rndX n s hi lo false) :
    (p ≤ 2 ^ (n - 1) - 1 → cmpV s hi lo (scaleL (tieL n p)) (wordL (tieL n p)) 0 < 0 ∨ (cmpV s hi lo (scaleL (tieL n p)) (wordL (tieL n p)) 0 = 0 ∧ p % 2 = 0)) ∧
    (1 ≤ p → 0 < cmpV s hi lo (scaleL (tieL n (p - 1))) (wordL (tieL n (p - 1))) 0 ∨ (cmpV s hi lo (scaleL (tieL n (p - 1))) (wordL (tieL n (p - 1))) 0 = 0 ∧ p % 2 = 0)) := by
  have hw := wd_le hn
  have hsr : -316 ≤ s ∧ s < 312 := by
    obtain ⟨a, b, _⟩ := hm
    omega
  have hw1 : 1 ≤ n := by omega
  have tr : ∀ q, -316 ≤ scaleL (tieL n q) ∧ scaleL (tieL n q) < 312 := fun q => by
    have := scaleL_range (tieL n q) (by rw [tieL_length n q hw1 h64]; exact Nat.le_refl _)
    omega
  have pw : 2 ^ (n - 1) - 1 < 2 ^ (n - 1) := Nat.sub_lt (Nat.pow_pos (by decide)) (by decide)
  obtain ⟨e1, r1, r2⟩ := rnd_mid n s hi lo false hn h hm
  rw [← hp] at e1 r1 r2
  have hH : 0 < 2 ^ (210 - n) := Nat.pow_pos (by decide)
  have hz : zX s hi lo false = 2 * zed s (manX hi lo) := by unfold zX; rw [Bool.toNat_false, Nat.add_zero]
  obtain ⟨s1, s2⟩ := rhe_side (2 ^ (210 - n)) (zX s hi lo false) p hH e1.symm
  rw [hz] at s1 s2
  have hpl : p ≤ 2 ^ (n - 1) - 1 := r2
  have tz := fun q hq => tie_zed n q hw1 h64 hq
  clear hz e1 r2 hp hm
  generalize 2 ^ (210 - n) = H at *
  constructor
  · intro hle
    have ht := tz p (Nat.lt_of_le_of_lt hle pw)
    obtain ⟨c1, c2, c3⟩ := cmpV_zed h (words_of (tieL n p)) hsr.1 hsr.2 (tr p).1 (tr p).2
    have key : ∀ (A B H p : Nat), 2 * B = p * (2 * H) + H → (2 * A < p * (2 * H) + H → A < B) ∧ (2 * A = p * (2 * H) + H → A = B) := fun A B H p e => by
      generalize p * (2 * H) + H = x at *
      omega
    obtain ⟨q1, q2⟩ := key _ _ _ _ ht
    rcases s1 with s1 | ⟨s1, s3⟩
    · exact .inl (c1 (q1 s1))
    · exact .inr ⟨c2 (q2 s1), s3⟩
  · intro hge
    have ht := tz (p - 1) (Nat.lt_of_le_of_lt (Nat.le_trans (Nat.sub_le _ _) hpl) pw)
    obtain ⟨c1, c2, c3⟩ := cmpV_zed h (words_of (tieL n (p - 1))) hsr.1 hsr.2 (tr (p - 1)).1 (tr (p - 1)).2
    have key : ∀ (A B H p : Nat), 2 * B = p * (2 * H) + H → (p * (2 * H) + H < 2 * A → B < A) ∧ (p * (2 * H) + H = 2 * A → A = B) := fun A B H p e => by
      generalize p * (2 * H) + H = x at *
      omega
    obtain ⟨q1, q2⟩ := key _ _ _ _ ht
    rcases s2 hge with s2 | ⟨s2, s3⟩
    · exact .inl (c3 (q1 s2))
    · exact .inr ⟨c2 (q2 s2), s3⟩
theorem cmpV_scale (s : Int) (hi lo : Nat) (s' : Int) (hi' lo' : Nat) : (s < s' → cmpV s hi lo s' hi' lo' < 0) ∧ (s' < s → 0 < cmpV s hi lo s' hi' lo') := by
  unfold cmpV
  constructor
  · intro h
    rw [if_neg (by rintro ⟨e, _⟩; omega), if_pos (.inl h)]; decide
  · intro h
    rw [if_neg (by rintro ⟨e, _⟩; omega), if_neg (by rintro (e | ⟨e, _⟩) <;> omega)]; decide
/-- a number goes to the pattern on whose side of both ties it lies -/
theorem ties_all (n : Nat) (s : Int) (hi lo : Nat) (hn : n = 8 ∨ n = 16 ∨ n = 32) (h : WordsX hi lo) (p : Nat) (hp : p = rndX n s hi lo false) :
    (p = 2 ^ (n - 1) - 1 ∨ cmpV s hi lo (scaleL (tieL n p)) (wordL (tieL n p)) 0 < 0 ∨ (cmpV s hi lo (scaleL (tieL n p)) (wordL (tieL n p)) 0 = 0 ∧ p % 2 = 0)) ∧
    (p = 1 ∨ 0 < cmpV s hi lo (scaleL (tieL n (p - 1))) (wordL (tieL n (p - 1))) 0 ∨ (cmpV s hi lo (scaleL (tieL n (p - 1))) (wordL (tieL n (p - 1))) 0 = 0 ∧ p % 2 = 0)) := by
  have hw : Wd n := by rcases hn with h | h | h; exact .inl h; exact .inr (.inl h); exact .inr (.inr (.inl h))
  have h63 : n ≤ 63 := by omega
  obtain ⟨r1, r2⟩ := rnd_range n s hi lo false hw h
  rw [← hp] at r1 r2
  rcases mid_or n s (justX hi lo false) with hm | hm | ⟨hm0, hm⟩
  · obtain ⟨a, b⟩ := ties_mid n s hi lo hw h63 h hm p hp
    exact ⟨.inr (a r2), .inr (b r1)⟩
  · have e := rnd_top n s hi lo false hm
    rw [← hp] at e
    refine ⟨.inl e, .inr (.inl ((cmpV_scale s hi lo _ _ _).2 ?_))⟩
    rw [e]
    rcases hn with rfl | rfl | rfl
    · rw [show scaleL (tieL 8 (2 ^ (8 - 1) - 1 - 1)) = 22 by decide +kernel]; omega
    · rw [show scaleL (tieL 16 (2 ^ (16 - 1) - 1 - 1)) = 54 by decide +kernel]; omega
    · rw [show scaleL (tieL 32 (2 ^ (32 - 1) - 1 - 1)) = 118 by decide +kernel]; omega
  · have e := rnd_low n s hi lo false hm0 hm
    rw [← hp] at e
    refine ⟨.inr (.inl ((cmpV_scale s hi lo _ _ _).1 ?_)), .inl e⟩
    rw [e]
    rcases hn with rfl | rfl | rfl
    · rw [show scaleL (tieL 8 1) = -22 by decide +kernel]; rcases hm with hm | hm <;> omega
    · rw [show scaleL (tieL 16 1) = -54 by decide +kernel]; rcases hm with hm | hm <;> omega
    · rw [show scaleL (tieL 32 1) = -118 by decide +kernel]; rcases hm with hm | hm <;> omega
end Go.Proofs.Ytfmhhcmjcmechab

namespace Go.Proofs.Ytfmhhcmjcmechab
open Go.ChangeShapes Go.WideShapes Go.ChangeAt Go.RowKit
set_option linter.unusedVariables false
set_option linter.unusedSimpArgs false
set_option maxRecDepth 100000

/-! ### the order of ranks is the order of values -/
theorem rank_real (n x : Nat) (hn : Wd n) (hx : x < 2 ^ 64) (hk : kindOf n (x % 2 ^ n) = 1) :
    extOf x n = (if x.testBit (n - 1) then -(numOf (strS n x) : Int) else (numOf (strS n x) : Int)) ∧ 1 ≤ numOf (strS n x) ∧ numOf (strS n x) ≤ 2 ^ (n - 1) - 1 := by
  obtain ⟨ht, hp⟩ := patOf_str n x hn hx hk
  have hl := strS_length n x
  have h1 := numOf_pos _ ht
  have h2 := numOf_lt (strS n x)
  rw [hl] at h2
  have h3 : numOf (strS n x) ≤ 2 ^ (n - 1) - 1 := by omega
  refine ⟨?_, h1, h3⟩
  rw [← rank_mod n x hn, ← hp]
  exact extOf_patR n hn _ _ h1 h3
theorem rank_zero (n x : Nat) (hn : Wd n) (hk : x % 2 ^ n = 0) : extOf x n = 0 := by rw [← rank_mod n x hn, hk, extOf_nought]
def vK (n x : Nat) : Int := kindOf n (x % 2 ^ n)
def vB (n x : Nat) : Bool := if kindOf n (x % 2 ^ n) = 1 then x.testBit (n - 1) else false
def vS (n x : Nat) : Int := if kindOf n (x % 2 ^ n) = 1 then scaleL (strS n x) else 0
def vF (n x : Nat) : Nat := if kindOf n (x % 2 ^ n) = 1 then wordL (strS n x) else 0
theorem decode6_v (n x : Nat) (hn : Wd n) (hx : x < 2 ^ 64) (w : World) :
    Calls Try.prog 8 #[.int .i64 n, .int .u64 x] w fun e w' => e = .returned (numV (vK n x) (vB n x) (vS n x) (vF n x)) ∧ Below w.heap.size w w' := by
  unfold vK vB vS vF
  by_cases hk : kindOf n (x % 2 ^ n) = 1
  · rw [if_pos hk, if_pos hk, if_pos hk]
    have := decode6_real n x hn hx hk w
    rwa [← hk] at this
  · rw [if_neg hk, if_neg hk, if_neg hk]
    exact decode6_other n x hn hk w
theorem sound_v (n x : Nat) (hn : Wd n) (hx : x < 2 ^ 64) : soundN (vK n x) (vB n x) (vS n x) (vF n x) = true := by
  unfold vK vB vS vF
  by_cases hk : kindOf n (x % 2 ^ n) = 1
  · rw [if_pos hk, if_pos hk, if_pos hk, hk]
    exact sound_home n _ _ hn (strS_length n x) (patOf_str n x hn hx hk).1
  · rw [if_neg hk, if_neg hk, if_neg hk]
    rcases kind_cases n _ hk with ⟨h, _⟩ | ⟨h, _⟩ <;> rw [h] <;> rfl
theorem narB_kind (n x : Nat) (hn : Wd n) : narB n x = decide (vK n x = 2) := by
  obtain ⟨H, h1, h2, h3, _⟩ := wd_pows hn
  unfold narB vK kindOf
  rw [h2]
  by_cases h : x % 2 ^ n = 0
  · rw [if_pos h, h, decide_eq_false (by omega)]; rfl
  · rw [if_neg h]
    by_cases h4 : x % 2 ^ n = H
    · rw [if_pos h4, decide_eq_true h4]; rfl
    · rw [if_neg h4, decide_eq_false h4]; rfl
/-- strings of one width: their numbers' order -/
theorem cmpV_rank' (n a b : Nat) (hn : Wd n) (ha : a < 2 ^ 64) (hb : b < 2 ^ 64) (ka : kindOf n (a % 2 ^ n) = 1) (kb : kindOf n (b % 2 ^ n) = 1) :
    (cmpV (scaleL (strS n a)) (wordL (strS n a)) 0 (scaleL (strS n b)) (wordL (strS n b)) 0 = -1 ∧ numOf (strS n a) < numOf (strS n b)) ∨
    (cmpV (scaleL (strS n a)) (wordL (strS n a)) 0 (scaleL (strS n b)) (wordL (strS n b)) 0 = 1 ∧ numOf (strS n b) < numOf (strS n a)) ∨
    (cmpV (scaleL (strS n a)) (wordL (strS n a)) 0 (scaleL (strS n b)) (wordL (strS n b)) 0 = 0 ∧ numOf (strS n a) = numOf (strS n b)) := by
  have hw := wd_le hn
  have ta := (patOf_str n a hn ha ka).1
  have tb := (patOf_str n b hn hb kb).1
  have la := strS_length n a
  have lb := strS_length n b
  have la63 : (strS n a).length ≤ 63 := by omega
  have lb63 : (strS n b).length ≤ 63 := by omega
  have ra := scaleL_range _ la63
  have rb := scaleL_range _ lb63
  have za := zed_parse _ ta la63
  have zb := zed_parse _ tb lb63
  rw [la] at za
  rw [lb] at zb
  obtain ⟨c1, c2, c3⟩ := cmpV_zed (s := scaleL (strS n a)) (s' := scaleL (strS n b)) (words_of (strS n a)) (words_of (strS n b)) (by omega) (by omega) (by omega) (by omega)
  rw [za, zb] at c1 c2 c3
  have hp : 0 < 2 ^ (209 - (n - 1)) := Nat.pow_pos (by decide)
  have tri : cmpV (scaleL (strS n a)) (wordL (strS n a)) 0 (scaleL (strS n b)) (wordL (strS n b)) 0 = 0 ∨ cmpV (scaleL (strS n a)) (wordL (strS n a)) 0 (scaleL (strS n b)) (wordL (strS n b)) 0 = -1 ∨ cmpV (scaleL (strS n a)) (wordL (strS n a)) 0 (scaleL (strS n b)) (wordL (strS n b)) 0 = 1 := by
    unfold cmpV
    split
    · exact .inl rfl
    · split
      · exact .inr (.inl rfl)
      · exact .inr (.inr rfl)
  generalize cmpV (scaleL (strS n a)) (wordL (strS n a)) 0 (scaleL (strS n b)) (wordL (strS n b)) 0 = v at *
  generalize 2 ^ (209 - (n - 1)) = Z at *
  rcases Nat.lt_trichotomy (numOf (strS n a)) (numOf (strS n b)) with h | h | h
  · have := c1 (Nat.mul_lt_mul_of_pos_right h hp)
    exact .inl ⟨by omega, h⟩
  · have := c2 (by rw [h])
    exact .inr (.inr ⟨this, h⟩)
  · have := c3 (Nat.mul_lt_mul_of_pos_right h hp)
    exact .inr (.inl ⟨by omega, h⟩)
theorem cmp7_rank (n a b : Nat) (hn : Wd n) (ha : a < 2 ^ 64) (hb : b < 2 ^ 64) (na : vK n a ≠ 2) (nb : vK n b ≠ 2) (w : World) :
    Calls Try.prog 11 #[exV (vK n a) (vB n a) (vS n a) (vF n a) 0 false, exV (vK n b) (vB n b) (vS n b) (vF n b) 0 false] w fun e w' => e = .returned (.int .i64 (cmpR n a b)) ∧ Below w.heap.size w w' := by
  have hw := wd_le hn
  have sg : ∀ x, x < 2 ^ 64 → vK n x ≠ 2 → (sgnX (vK n x) (vB n x) = 0 ∧ extOf x n = 0) ∨ (sgnX (vK n x) (vB n x) = 1 ∧ kindOf n (x % 2 ^ n) = 1 ∧ x.testBit (n - 1) = false ∧ 1 ≤ extOf x n ∧ extOf x n = numOf (strS n x)) ∨ (sgnX (vK n x) (vB n x) = -1 ∧ kindOf n (x % 2 ^ n) = 1 ∧ x.testBit (n - 1) = true ∧ extOf x n ≤ -1 ∧ extOf x n = -(numOf (strS n x) : Int)) := by
    intro x hx hk2
    by_cases hk : kindOf n (x % 2 ^ n) = 1
    · obtain ⟨r1, r2, r3⟩ := rank_real n x hn hx hk
      unfold vK vB sgnX
      rw [if_pos hk, if_pos hk]
      cases htb : x.testBit (n - 1)
      · rw [htb] at r1
        simp only [Bool.false_eq_true, if_false] at r1
        refine .inr (.inl ⟨by simp, hk, rfl, by omega, r1⟩)
      · rw [htb] at r1
        simp only [if_true] at r1
        refine .inr (.inr ⟨by simp, hk, rfl, by omega, r1⟩)
    · rcases kind_cases n _ hk with ⟨h1, h2⟩ | ⟨h1, h2⟩
      · refine .inl ⟨?_, rank_zero n x hn h2⟩
        unfold sgnX vK
        rw [h1, if_neg (by decide)]
      · exact absurd h1 hk2
  have h1 := sg a ha na
  have h2 := sg b hb nb
  by_cases hsg : sgnX (vK n a) (vB n a) = sgnX (vK n b) (vB n b)
  · rcases h1 with ⟨a1, a2⟩ | ⟨a1, a2, a3, a4, a5⟩ | ⟨a1, a2, a3, a4, a5⟩
    · have hb0 : sgnX (vK n b) (vB n b) = 0 := by rw [← hsg, a1]
      have e0 : extOf b n = 0 := by
        rcases h2 with ⟨_, b2⟩ | ⟨b1, _⟩ | ⟨b1, _⟩
        · exact b2
        · rw [hb0] at b1; exact absurd b1 (by decide)
        · rw [hb0] at b1; exact absurd b1 (by decide)
      have hc : cmpR n a b = 0 := by rcases cmpR_cases n a b with ⟨x, y⟩ | ⟨x, y⟩ | ⟨x, y⟩ <;> omega
      rw [hc]
      exact cmp7_zero _ _ _ _ _ _ _ _ _ _ false false a1 hb0 w
    · rcases h2 with ⟨b1, _⟩ | ⟨b1, b2, b3, b4, b5⟩ | ⟨b1, _⟩
      · rw [← hsg, a1] at b1; exact absurd b1 (by decide)
      · have k := cmp7_pos (scaleL (strS n a)) (scaleL (strS n b)) (wordL (strS n a)) 0 (wordL (strS n b)) 0 w
        have e : cmpV (scaleL (strS n a)) (wordL (strS n a)) 0 (scaleL (strS n b)) (wordL (strS n b)) 0 = cmpR n a b := by
          have hc := cmpR_cases n a b
          rcases cmpV_rank' n a b hn ha hb a2 b2 with ⟨x, y⟩ | ⟨x, y⟩ | ⟨x, y⟩ <;> rcases hc with ⟨u, v⟩ | ⟨u, v⟩ | ⟨u, v⟩ <;> omega
        rw [e] at k
        unfold vK vB vS vF
        rw [if_pos a2, if_pos a2, if_pos a2, if_pos b2, if_pos b2, if_pos b2, a2, a3, b2, b3]
        exact k
      · rw [← hsg, a1] at b1; exact absurd b1 (by decide)
    · rcases h2 with ⟨b1, _⟩ | ⟨b1, _⟩ | ⟨b1, b2, b3, b4, b5⟩
      · rw [← hsg, a1] at b1; exact absurd b1 (by decide)
      · rw [← hsg, a1] at b1; exact absurd b1 (by decide)
      · have k := cmp7_real true (scaleL (strS n a)) (scaleL (strS n b)) (wordL (strS n a)) 0 (wordL (strS n b)) 0 w
        have e := cmpV_rank' n a b hn ha hb a2 b2
        unfold cmpV at e
        have e2 : (if scaleL (strS n a) = scaleL (strS n b) ∧ wordL (strS n a) = wordL (strS n b) ∧ 0 = 0 then (0 : Int) else if scaleL (strS n a) < scaleL (strS n b) ∨ (scaleL (strS n a) = scaleL (strS n b) ∧ (wordL (strS n a) < wordL (strS n b) ∨ (wordL (strS n a) = wordL (strS n b) ∧ 0 < 0))) then -(if true = true then -1 else 1) else (if true = true then -1 else 1)) = cmpR n a b := by
          have hc := cmpR_cases n a b
          revert e
          split
          · intro e; rcases e with ⟨x, y⟩ | ⟨x, y⟩ | ⟨x, y⟩ <;> rcases hc with ⟨u, v⟩ | ⟨u, v⟩ | ⟨u, v⟩ <;> omega
          · split
            · intro e; simp only [if_true]; rcases e with ⟨x, y⟩ | ⟨x, y⟩ | ⟨x, y⟩ <;> rcases hc with ⟨u, v⟩ | ⟨u, v⟩ | ⟨u, v⟩ <;> omega
            · intro e; simp only [if_true]; rcases e with ⟨x, y⟩ | ⟨x, y⟩ | ⟨x, y⟩ <;> rcases hc with ⟨u, v⟩ | ⟨u, v⟩ | ⟨u, v⟩ <;> omega
        rw [e2] at k
        unfold vK vB vS vF
        rw [if_pos a2, if_pos a2, if_pos a2, if_pos b2, if_pos b2, if_pos b2, a2, a3, b2, b3]
        exact k
  · have k := cmp7_sgn (vK n a) (vK n b) (vB n a) (vB n b) (vS n a) (vS n b) (vF n a) 0 (vF n b) 0 false false hsg w
    have e : (if sgnX (vK n a) (vB n a) < sgnX (vK n b) (vB n b) then (-1 : Int) else 1) = cmpR n a b := by
      have hc := cmpR_cases n a b
      split <;> rcases h1 with ⟨a1, a2⟩ | ⟨a1, a2, a3, a4, a5⟩ | ⟨a1, a2, a3, a4, a5⟩ <;> rcases h2 with ⟨b1, b2⟩ | ⟨b1, b2, b3, b4, b5⟩ | ⟨b1, b2, b3, b4, b5⟩ <;> rcases hc with ⟨u, v⟩ | ⟨u, v⟩ | ⟨u, v⟩ <;> omega
    rw [e] at k
    exact k
end Go.Proofs.Ytfmhhcmjcmechab
