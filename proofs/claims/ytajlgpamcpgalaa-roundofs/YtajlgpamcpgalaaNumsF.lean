import Derived.Test.YtajlgpamcpgalaaNumsC
namespace Go.Proofs.Ytajlgpamcpgalaa
open Go.ChangeShapes Go.WideShapes Go.ChangeAt Go.RowKit
set_option linter.unusedVariables false
set_option maxRecDepth 100000

/-- what the lowest k digits are -/
def lo (a k : Nat) : Nat := val (low a k)
theorem lo_zero (a : Nat) : lo a 0 = 0 := rfl
theorem lo_succ (a k : Nat) : lo a (k + 1) = lo a k + 16777216 ^ k * (top a k % 16777216) := by
  unfold lo; rw [low_snoc, val_append, low_length]; simp [val]
theorem lo_all (a : Nat) : lo a (dlen a) = a := by unfold lo; rw [low_dlen, val_dig]
theorem val_set (l : List Nat) (j d : Nat) (h : j < l.length) : val (l.set j d) + 16777216 ^ j * l.getD j 0 = val l + 16777216 ^ j * d := by
  induction l generalizing j with
  | nil => simp at h
  | cons x l ih =>
    cases j with
    | zero => simp [val_cons]; omega
    | succ j =>
      have := ih j (by simpa using h)
      simp only [List.set_cons_succ, val_cons, List.getD_cons_succ, Nat.pow_succ]
      have e1 : 16777216 ^ j * 16777216 * l.getD j 0 = 16777216 * (16777216 ^ j * l.getD j 0) := by rw [Nat.mul_comm (16777216 ^ j) 16777216, Nat.mul_assoc]
      have e2 : 16777216 ^ j * 16777216 * d = 16777216 * (16777216 ^ j * d) := by rw [Nat.mul_comm (16777216 ^ j) 16777216, Nat.mul_assoc]
      rw [e1, e2]; omega
theorem val_zeros (n : Nat) : val (List.replicate n 0) = 0 := by
  induction n with
  | zero => rfl
  | succ n ih => rw [List.replicate_succ, val_cons, ih]
theorem getD_set (l : List Nat) (j d i : Nat) (h : j < l.length) : (l.set j d).getD i 0 = if j = i then d else l.getD i 0 := by
  rw [List.getD_eq_getElem?_getD, List.getElem?_set]
  by_cases e : j = i
  · subst e; simp [h]
  · simp [e]
theorem mul_step {V V' O c t P p R : Nat} (h1 : V + P * c = R) (h2 : V' + P * O = V + P * (t % 16777216)) (ht : t = O + p + c) : V' + P * 16777216 * (t / 16777216) = R + P * p := by
  have e1 : P * t = P * 16777216 * (t / 16777216) + P * (t % 16777216) := by
    conv => lhs; rw [← Nat.div_add_mod t 16777216]
    rw [Nat.mul_add, Nat.mul_assoc]
  have e2 : P * t = P * O + P * p + P * c := by rw [ht, Nat.mul_add, Nat.mul_add]
  omega
/-- the row of a product under way -/
structure MulAt (a b i k c : Nat) (O : List Nat) : Prop where
  len : O.length = dlen a + dlen b
  digs : ∀ d ∈ O, d < 16777216
  sum : val O + 16777216 ^ (i + k) * c = lo a i * b + 16777216 ^ i * ((top a i % 16777216) * lo b k)
  up : ∀ j, i + dlen b ≤ j → O.getD j 0 = 0
theorem MulAt.start (a b : Nat) : MulAt a b 0 0 0 (List.replicate (dlen a + dlen b) 0) :=
  ⟨by simp, by simp, by rw [val_zeros, lo_zero, lo_zero]; simp, fun j _ => by rw [List.getD_eq_getElem?_getD, List.getElem?_replicate]; split <;> rfl⟩
theorem MulAt.step {a b i k c x t : Nat} {O : List Nat} (h : MulAt a b i k c O) (hi : i < dlen a) (hk : k < dlen b) (hx : x = O.getD (i + k) 0) (ht : t = x + (top a i % 16777216) * (top b k % 16777216) + c) :
    MulAt a b i (k + 1) (t / 16777216) (O.set (i + k) (t % 16777216)) := by
  have hl := h.len
  refine ⟨by simp [hl], ?_, ?_, ?_⟩
  · intro d hd
    rcases List.mem_or_eq_of_mem_set hd with h1 | h1
    · exact h.digs d h1
    · omega
  · have h2 := val_set O (i + k) (t % 16777216) (by omega)
    rw [← hx] at h2
    have h3 := mul_step h.sum h2 ht
    rw [show i + (k + 1) = (i + k) + 1 by omega, Nat.pow_succ, h3, lo_succ, Nat.mul_add, Nat.mul_add, Nat.add_assoc, Nat.pow_add, Nat.mul_assoc, Nat.mul_left_comm (top a i % 16777216)]
  · intro j hj
    rw [getD_set _ _ _ _ (by omega), if_neg (by omega)]
    exact h.up j hj
theorem MulAt.next {a b i c : Nat} {O : List Nat} (h : MulAt a b i (dlen b) c O) (hi : i < dlen a) (hc : c < 16777216) : MulAt a b (i + 1) 0 0 (O.set (i + dlen b) c) := by
  have hl := h.len
  refine ⟨by simp [hl], ?_, ?_, ?_⟩
  · intro d hd
    rcases List.mem_or_eq_of_mem_set hd with h1 | h1
    · exact h.digs d h1
    · omega
  · have h2 := val_set O (i + dlen b) c (by omega)
    rw [h.up _ (Nat.le_refl _), Nat.mul_zero, Nat.add_zero, h.sum, lo_all] at h2
    rw [h2, lo_zero, lo_succ, Nat.mul_zero, Nat.mul_zero, Nat.mul_zero, Nat.add_zero, Nat.add_zero, Nat.add_mul, Nat.mul_assoc]
  · intro j hj
    rw [getD_set _ _ _ _ (by omega), if_neg (by omega)]
    exact h.up j (by omega)
theorem MulAt.done {a b : Nat} {O : List Nat} (h : MulAt a b (dlen a) 0 0 O) : ∃ z, O = dig (a * b) ++ List.replicate z 0 := by
  have hs := h.sum
  rw [lo_zero, lo_all, Nat.mul_zero, Nat.mul_zero, Nat.mul_zero, Nat.add_zero, Nat.add_zero] at hs
  have hv := val_low O h.digs
  have hlt := val_lt O h.digs
  rw [hs] at hv hlt
  exact ⟨_, by rw [← low_ge (dlen_le_of_lt hlt), hv]⟩

end Go.Proofs.Ytajlgpamcpgalaa
