import Derived.Test.YtajlgpamcpgalaaRndC
namespace Go.Proofs.Ytajlgpamcpgalaa
set_option linter.unusedVariables false
set_option linter.unusedSimpArgs false

/-! ### what the program cuts off a number's string, and what it finds behind (plain mathematics) -/
def cmpX (left : Nat) (rest : Bool) : Nat := if left = 2 ^ 127 then (if rest then 3 else 2) else if 2 ^ 127 < left then 3 else if left = 0 ∧ rest = false then 0 else 1
theorem left_num (l : List Bool) (j : Nat) (rest : Bool) (hj : 1 ≤ j) (hj2 : j ≤ 128) (hl : l.length = j + 1) :
    leftL l rest = cmpX (numOf l / 2 * 2 ^ (128 - j)) (decide (numOf l % 2 = 1) || rest) := by
  cases l with
  | nil => simp at hl
  | cons b t =>
    have ht : t.length = j := by simpa using hl
    have hV := numOf_lt t
    rw [ht] at hV
    rw [numOf_cons, ht]
    have hany := any_num t
    unfold leftL cmpX
    rw [show (b :: t).getD 0 false = b from rfl, show (b :: t).drop 1 = t from rfl, hany]
    have p1 : 2 ^ j = 2 * 2 ^ (j - 1) := by rw [← Nat.pow_succ']; congr 1; omega
    have p2 : 2 ^ (j - 1) * 2 ^ (128 - j) = 2 ^ 127 := by rw [← Nat.pow_add]; congr 1; omega
    have p3 : 0 < 2 ^ (128 - j) := Nat.pow_pos (by decide)
    rw [p1] at hV ⊢
    generalize numOf t = V at *
    generalize 2 ^ (j - 1) = A at *
    generalize 2 ^ (128 - j) = C at *
    have hh : (b.toNat * (2 * A) + V) / 2 = b.toNat * A + V / 2 := by cases b <;> simp <;> omega
    have hm : (b.toNat * (2 * A) + V) % 2 = V % 2 := by cases b <;> simp <;> omega
    rw [hh, hm, Nat.add_mul, Nat.mul_assoc b.toNat A C, ← p2]
    have hlt : V / 2 * C < A * C := Nat.mul_lt_mul_of_pos_right (by omega) p3
    have h0 : V / 2 * C = 0 ↔ V / 2 = 0 := by
      constructor
      · intro h; rcases Nat.mul_eq_zero.1 h with h | h <;> omega
      · intro h; rw [h]; simp
    generalize V / 2 * C = X at *
    generalize A * C = D at *
    cases b
    · simp only [Bool.toNat_false, Nat.zero_mul, Nat.zero_add]
      have n1 : ¬ X = D := by omega
      have n2 : ¬ D < X := by omega
      rw [if_neg n1, if_neg n2]
      by_cases hx : X = 0
      · have := h0.1 hx
        rcases Nat.mod_two_eq_zero_or_one V with hv | hv
        · have : V = 0 := by omega
          subst this
          cases rest <;> simp [hx]
        · have : V ≠ 0 := by omega
          cases rest <;> simp [hx, hv, this]
      · have : ¬ V / 2 = 0 := fun h => hx (h0.2 h)
        have : V ≠ 0 := by omega
        cases rest <;> simp [hx, this]
    · simp only [Bool.toNat_true, Nat.one_mul]
      by_cases hx : X = 0
      · have := h0.1 hx
        have n1 : D + X = D := by omega
        rw [if_pos n1]
        rcases Nat.mod_two_eq_zero_or_one V with hv | hv
        · have : V = 0 := by omega
          subst this
          cases rest <;> simp
        · have : V ≠ 0 := by omega
          cases rest <;> simp [hv, this]
      · have : ¬ V / 2 = 0 := fun h => hx (h0.2 h)
        have : V ≠ 0 := by omega
        have n1 : ¬ D + X = D := by omega
        have n2 : D < D + X := by omega
        rw [if_neg n1, if_pos n2]
        cases rest <;> simp [this]
theorem headK_num (k : Int) : numOf (headK k) = (if 0 ≤ k then 2 ^ (k.toNat + 2) - 2 else 1) ∧ (headK k).length = (if 0 ≤ k then k.toNat + 2 else (1 - k).toNat) := by
  unfold headK
  by_cases h : 0 ≤ k
  · rw [if_pos h, if_pos h, if_pos h, numOf_append, numOf_ones]
    have : 1 ≤ 2 ^ (k.toNat + 1) := Nat.one_le_two_pow
    rw [Nat.pow_succ 2 (k.toNat + 1)]
    refine ⟨?_, by simp⟩
    show (2 ^ (k.toNat + 1) - 1) * 2 ^ 1 + 0 = _
    omega
  · rw [if_neg h, if_neg h, if_neg h, numOf_append, show List.replicate (-k).toNat false = noughts (-k).toNat from rfl, numOf_noughts]
    refine ⟨by simp; rfl, ?_⟩
    simp [noughts]; omega
def tailL (s : Int) (hi lo : Nat) : List Bool := bitsOf (s % 4).toNat 2 ++ digX hi lo
theorem tailL_num (s : Int) {hi lo : Nat} (h : WordsX hi lo) : (tailL s hi lo).length = 129 ∧ numOf (tailL s hi lo) = tailN s (manX hi lo) := by
  unfold tailL
  refine ⟨by simp [bitsOf_length, digX_length], ?_⟩
  rw [numOf_append, digX_num h, digX_length, numOf_bits, Nat.mod_eq_of_lt (by omega)]
  rfl
theorem room_pows (room : Nat) (h : room ≤ 64) : 2 ^ (129 - room) = 2 * 2 ^ (128 - room) ∧ 2 ^ 128 = 2 ^ (128 - room) * 2 ^ room := by
  refine ⟨?_, ?_⟩
  · rw [← Nat.pow_succ']; congr 1; omega
  · rw [← Nat.pow_add]; congr 1; omega
/-- the first n - 1 bits of the string, and what is left, from the run and from what stands behind it but for the last bit -/
theorem cut_parts (n : Nat) (s : Int) (hi lo : Nat) (rest : Bool) (h : WordsX hi lo) (hr : (headK (s / 4)).length ≤ n - 1) (hn : n ≤ 64) (B room : Nat)
    (hB : B = tailN s (manX hi lo) / 2) (hroom : room = n - 1 - (headK (s / 4)).length) :
    numOf ((strX s hi lo).take (n - 1)) = numOf (headK (s / 4)) * 2 ^ room + B / 2 ^ (128 - room) ∧ B / 2 ^ (128 - room) < 2 ^ room ∧ leftL ((strX s hi lo).drop (n - 1)) rest = cmpX (B * 2 ^ room % 2 ^ 128) (decide (lo % 2 = 1) || rest) := by
  obtain ⟨t1, t2⟩ := tailL_num s h
  have e : strX s hi lo = headK (s / 4) ++ tailL s hi lo := by unfold strX tailL; simp
  have hr2 : room ≤ 64 := by omega
  have e1 : (strX s hi lo).take (n - 1) = headK (s / 4) ++ (tailL s hi lo).take room := by
    rw [e, List.take_append, List.take_of_length_le hr, ← hroom]
  have e2 : (strX s hi lo).drop (n - 1) = (tailL s hi lo).drop room := by
    rw [e, List.drop_append, List.drop_of_length_le hr, ← hroom, List.nil_append]
  have hc := cut_num (tailL s hi lo) room (by omega)
  have hlt := numOf_lt ((tailL s hi lo).drop room)
  rw [List.length_drop, t1] at hlt
  rw [t1, t2] at hc
  have hpar : tailN s (manX hi lo) % 2 = lo % 2 := by
    unfold tailN manX
    have := h.top
    rw [show (2 : Nat) ^ 127 = 2 * 85070591730234615865843651857942052864 by decide]
    omega
  obtain ⟨p1, p3⟩ := room_pows room hr2
  have hdl : ((tailL s hi lo).drop room).length = (128 - room) + 1 := by rw [List.length_drop, t1]; omega
  have htl : ((tailL s hi lo).take room).length = room := by rw [List.length_take, t1]; omega
  have hlf := left_num ((tailL s hi lo).drop room) (128 - room) rest (by omega) (by omega) hdl
  have htk := numOf_lt ((tailL s hi lo).take room)
  rw [htl] at htk
  rw [e1, e2, hlf, numOf_append, htl, p3, Nat.mul_mod_mul_right, show 128 - (128 - room) = room by omega]
  rw [p1] at hc hlt
  generalize numOf ((tailL s hi lo).drop room) = R at *
  generalize numOf ((tailL s hi lo).take room) = P at *
  generalize tailN s (manX hi lo) = T at *
  have hpos : 0 < 2 ^ (128 - room) := Nat.pow_pos (by decide)
  generalize 2 ^ (128 - room) = G at *
  have hB2 : B = P * G + R / 2 := by
    have : P * (2 * G) = 2 * (P * G) := by rw [Nat.mul_left_comm]
    omega
  have hRG : R / 2 < G := by omega
  have d1 : B / G = P := by rw [hB2, Nat.mul_comm, Nat.mul_add_div hpos, Nat.div_eq_of_lt hRG]; rfl
  have d2 : B % G = R / 2 := by rw [hB2, Nat.mul_comm, Nat.mul_add_mod, Nat.mod_eq_of_lt hRG]
  have hR2 : R % 2 = lo % 2 := by
    have : P * (2 * G) = 2 * (P * G) := by rw [Nat.mul_left_comm]
    omega
  rw [d1, d2, hR2]
  exact ⟨rfl, htk, rfl⟩
/-- within the ends the run has room -/
theorem head_room (n : Nat) (s : Int) (hn : Wd n) (h1 : s < 4 * n - 8) (h2 : 8 - 4 * (n : Int) ≤ s) : (headK (s / 4)).length ≤ n - 1 ∧ 2 ≤ (headK (s / 4)).length := by
  have hw := wd_le hn
  rw [(headK_num (s / 4)).2]
  split <;> omega
end Go.Proofs.Ytajlgpamcpgalaa
