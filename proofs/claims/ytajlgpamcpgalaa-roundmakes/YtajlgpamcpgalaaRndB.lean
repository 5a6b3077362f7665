import Derived.Test.YtajlgpamcpgalaaRndA
namespace Go.Proofs.Ytajlgpamcpgalaa
set_option linter.unusedVariables false
set_option linter.unusedSimpArgs false

/-! ### what is left behind a cut, and rounding: to the nearer, of a tie to the even one (plain mathematics) -/
def leftL (l : List Bool) (rest : Bool) : Nat :=
  if l.getD 0 false then (if (l.drop 1).any id || rest then 3 else 2) else (if (l.drop 1).any id || rest then 1 else 0)
def roundP (P left : Nat) : Nat := if left = 3 ∨ (left = 2 ∧ P % 2 = 1) then P + 1 else P
/-- P times 2 H and R: to the nearer -/
def rhe (H Z : Nat) : Nat := roundP (Z / (2 * H)) (if Z % (2 * H) = 0 then 0 else if Z % (2 * H) < H then 1 else if Z % (2 * H) = H then 2 else 3)
theorem roundP_le (P l : Nat) : P ≤ roundP P l ∧ roundP P l ≤ P + 1 := by unfold roundP; split <;> omega
theorem rhe_mono (H : Nat) (hH : 0 < H) {Z Z' : Nat} (h : Z ≤ Z') : rhe H Z ≤ rhe H Z' := by
  have e1 := Nat.div_add_mod Z (2 * H)
  have e2 := Nat.div_add_mod Z' (2 * H)
  have m1 := Nat.mod_lt Z (show 0 < 2 * H by omega)
  have m2 := Nat.mod_lt Z' (show 0 < 2 * H by omega)
  have hp : Z / (2 * H) ≤ Z' / (2 * H) := Nat.div_le_div_right h
  unfold rhe
  rcases Nat.lt_or_ge (Z / (2 * H)) (Z' / (2 * H)) with hlt | hge
  · exact Nat.le_trans (roundP_le _ _).2 (Nat.le_trans hlt (roundP_le _ _).1)
  · have he : Z / (2 * H) = Z' / (2 * H) := by omega
    rw [he] at e1 ⊢
    generalize Z' / (2 * H) = P at *
    generalize 2 * H * P = B at *
    generalize Z % (2 * H) = R at *
    generalize Z' % (2 * H) = R' at *
    have hR : R ≤ R' := by omega
    unfold roundP
    repeat' split
    all_goals omega
/-- on which side of the ties a number lies -/
theorem rhe_side (H Z p : Nat) (hH : 0 < H) (h : rhe H Z = p) : (Z < p * (2 * H) + H ∨ (Z = p * (2 * H) + H ∧ p % 2 = 0)) ∧ (1 ≤ p → (p - 1) * (2 * H) + H < Z ∨ ((p - 1) * (2 * H) + H = Z ∧ p % 2 = 0)) := by
  have e1 := Nat.div_add_mod Z (2 * H)
  have m1 := Nat.mod_lt Z (show 0 < 2 * H by omega)
  unfold rhe roundP at h
  rw [Nat.mul_comm] at e1
  generalize Z % (2 * H) = R at *
  generalize hP : Z / (2 * H) = P at *
  have hsub : 1 ≤ p → (p - 1) * (2 * H) + 2 * H = p * (2 * H) := fun hp => by
    rw [← Nat.succ_mul]; congr 1; omega
  by_cases hup : ((if R = 0 then 0 else if R < H then 1 else if R = H then 2 else 3) = 3 ∨ ((if R = 0 then 0 else if R < H then 1 else if R = H then 2 else 3) = 2 ∧ P % 2 = 1))
  · rw [if_pos hup] at h
    subst h
    have hRH : H ≤ R ∧ (R = H → P % 2 = 1) := by
      rcases hup with hup | ⟨hup, h2⟩
      · repeat' split at hup
        all_goals first | omega | exact ⟨by omega, by omega⟩
      · repeat' split at hup
        all_goals first | omega | exact ⟨by omega, fun _ => h2⟩
    have hs := hsub (by omega)
    rw [Nat.add_sub_cancel] at hs ⊢
    generalize (P + 1) * (2 * H) = C at *
    generalize P * (2 * H) = B at *
    refine ⟨by omega, fun _ => ?_⟩
    by_cases e : R = H
    · have := hRH.2 e; exact .inr ⟨by omega, by omega⟩
    · exact .inl (by omega)
  · rw [if_neg hup] at h
    subst h
    have hRH : R ≤ H ∧ (R = H → P % 2 = 0) := by
      refine ⟨Nat.le_of_not_lt fun hlt => hup (.inl ?_), fun e => ?_⟩
      · rw [if_neg (by omega), if_neg (by omega), if_neg (by omega)]
      · rcases Nat.mod_two_eq_zero_or_one P with h0 | h1
        · exact h0
        · exact absurd (.inr ⟨by rw [if_neg (by omega), if_neg (by omega), if_pos e], h1⟩) hup
    generalize P * (2 * H) = B at *
    refine ⟨?_, fun hp => ?_⟩
    · by_cases e : R = H
      · exact .inr ⟨by omega, hRH.2 e⟩
      · exact .inl (by omega)
    · have := hsub hp
      exact .inl (by omega)
/-! ### a string, cut -/
theorem any_num (l : List Bool) : l.any id = decide (numOf l ≠ 0) := by
  cases h : l.any id
  · refine (decide_eq_false fun hn => ?_).symm
    have := mem_of_pos l hn
    rw [List.any_eq_false] at h
    exact h true this rfl
  · refine (decide_eq_true ?_).symm
    obtain ⟨b, hb, hb2⟩ := List.any_eq_true.1 h
    have : b = true := hb2
    subst this
    have := numOf_pos l hb
    omega
theorem cut_num (l : List Bool) (m : Nat) (hm : m ≤ l.length) : numOf l = numOf (l.take m) * 2 ^ (l.length - m) + numOf (l.drop m) := by
  conv => lhs; rw [← List.take_append_drop m l]
  rw [numOf_append, List.length_drop]
/-- the first m bits, and what is left, of a string that is followed by noughts, and perhaps by something more -/
theorem cut_left (l : List Bool) (m : Nat) (rest : Bool) (hm : m < l.length) (hl : l.length ≤ 209) :
    roundP (numOf (l.take m)) (leftL (l.drop m) rest) = rhe (2 ^ (209 - m)) (2 * (numOf l * 2 ^ (209 - l.length)) + rest.toNat) := by
  have hc := cut_num l m (by omega)
  have hd : (l.drop m).length = l.length - m := List.length_drop ..
  have hlt := numOf_lt (l.drop m)
  rw [hd] at hlt
  cases hs : l.drop m with
  | nil => rw [hs] at hd; simp at hd; omega
  | cons b t =>
    rw [hs] at hd hlt hc
    have ht : t.length = l.length - m - 1 := by simp at hd; omega
    have htl := numOf_lt t
    rw [numOf_cons, ht] at hc hlt
    rw [ht] at htl
    -- powers
    have p1 : 2 ^ (l.length - m) = 2 * 2 ^ (l.length - m - 1) := by rw [← Nat.pow_succ']; congr 1; omega
    have p2 : 2 ^ (209 - m) = 2 ^ (l.length - m) * 2 ^ (209 - l.length) := by rw [← Nat.pow_add]; congr 1; omega
    have p3 : 0 < 2 ^ (l.length - m - 1) := Nat.pow_pos (by decide)
    have p4 : 0 < 2 ^ (209 - l.length) := Nat.pow_pos (by decide)
    rw [hc, p2, p1]
    rw [p1] at hlt
    have hany := any_num t
    unfold leftL
    rw [show (b :: t).getD 0 false = b from rfl, show (b :: t).drop 1 = t from rfl, hany]
    generalize numOf (l.take m) = P at *
    generalize 2 ^ (l.length - m - 1) = A at *
    generalize 2 ^ (209 - l.length) = C at *
    generalize numOf t = V at *
    -- the number is P times 2 H and R
    have hVC : V * C + C ≤ A * C := by rw [← Nat.succ_mul]; exact Nat.mul_le_mul_right _ htl
    have hV0 : V = 0 ∨ C ≤ V * C := by
      rcases Nat.eq_zero_or_pos V with h | h
      · exact .inl h
      · exact .inr (Nat.le_mul_of_pos_left _ h)
    have hAC : 0 < A * C := Nat.mul_pos p3 p4
    have hZ : 2 * ((P * (2 * A) + (b.toNat * A + V)) * C) + rest.toNat = P * (2 * (2 * A * C)) + (2 * (b.toNat * (A * C) + V * C) + rest.toNat) := by
      rw [Nat.add_mul, Nat.add_mul, Nat.mul_assoc b.toNat, Nat.mul_add, ← Nat.mul_assoc 2 (P * (2 * A)) C]
      have : 2 * (P * (2 * A)) * C = P * (2 * (2 * A * C)) := by
        simp only [Nat.mul_assoc, Nat.mul_left_comm]
      rw [this]; omega
    have hR : 2 * (b.toNat * (A * C) + V * C) + rest.toNat < 2 * (2 * A * C) := by
      rw [Nat.mul_assoc 2 A C]
      generalize A * C = D at *
      generalize V * C = E at *
      cases b <;> cases rest <;> simp <;> omega
    rw [hZ]
    unfold rhe
    have hpos : 0 < 2 * (2 * A * C) := by omega
    rw [Nat.mul_comm P, Nat.mul_add_div hpos, Nat.div_eq_of_lt hR, Nat.add_zero, Nat.mul_add_mod, Nat.mod_eq_of_lt hR]
    rw [Nat.mul_assoc 2 A C]
    congr 1
    generalize A * C = D at *
    rcases hV0 with rfl | hV0
    · cases b <;> cases rest <;> simp <;> (try omega)
      all_goals (repeat' split) <;> omega
    · have hne : V ≠ 0 := by rintro rfl; omega
      generalize hE : V * C = E at *
      cases b <;> cases rest <;> simp [hne] <;> (try omega)
      all_goals (repeat' split) <;> omega
end Go.Proofs.Ytajlgpamcpgalaa
