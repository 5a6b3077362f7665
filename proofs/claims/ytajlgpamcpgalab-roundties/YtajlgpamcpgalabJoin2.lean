import Derived.Test.YtajlgpamcpgalabJoin1
import Derived.WalkKit
import Derived.Test.YtajlgpamcpgalabProg
import Derived.OwnWalk
import Derived.Lib.SmallJoins
import Derived.Shelf.Spec.BitsCarry
import Derived.Lib.Mul64
import Derived.Lib.BitFns
namespace Go.Proofs.Ytajlgpamcpgalab
set_option linter.unusedVariables false
set_option linter.unusedSimpArgs false

/-! ### what is left behind a cut, and rounding: to the nearer, of a tie to the even one (plain mathematics) -/
def leftL (l : List Bool) (rest : Bool) : Nat :=
  if l.getD 0 false then (if (l.drop 1).any id || rest then 3 else 2) else (if (l.drop 1).any id || rest then 1 else 0)
def roundP (P left : Nat) : Nat := if left = 3 ∨ (left = 2 ∧ P % 2 = 1) then P + 1 else P
/-- P times 2 H and R: to the nearer -/
def rhe (H Z : Nat) : Nat := roundP (Z / (2 * H)) (if Z % (2 * H) = 0 then 0 else if Z % (2 * H) < H then 1 else if Z % (2 * H) = H then 2 else 3)
theorem roundP_le (P l : Nat) : P ≤ roundP P l ∧ roundP P l ≤ P + 1 := by unfold roundP; split <;> omega
theorem rhe_mono (H : Nat) (hH : 0 < H) {Z Z' : Nat} (h : Z ≤ Z') : rhe H Z ≤ rhe H Z' := by
  have e1 := Nat.div_add_mod Z (2 * H)
  have e2 := Nat.div_add_mod Z' (2 * H)
  have m1 := Nat.mod_lt Z (show 0 < 2 * H by omega)
  have m2 := Nat.mod_lt Z' (show 0 < 2 * H by omega)
  have hp : Z / (2 * H) ≤ Z' / (2 * H) := Nat.div_le_div_right h
  unfold rhe
  rcases Nat.lt_or_ge (Z / (2 * H)) (Z' / (2 * H)) with hlt | hge
  · exact Nat.le_trans (roundP_le _ _).2 (Nat.le_trans hlt (roundP_le _ _).1)
  · have he : Z / (2 * H) = Z' / (2 * H) := by omega
    rw [he] at e1 ⊢
    generalize Z' / (2 * H) = P at *
    generalize 2 * H * P = B at *
    generalize Z % (2 * H) = R at *
    generalize Z' % (2 * H) = R' at *
    have hR : R ≤ R' := by omega
    unfold roundP
    repeat' split
    all_goals omega
/-- on which side of the ties a number lies -/
theorem rhe_side (H Z p : Nat) (hH : 0 < H) (h : rhe H Z = p) : (Z < p * (2 * H) + H ∨ (Z = p * (2 * H) + H ∧ p % 2 = 0)) ∧ (1 ≤ p → (p - 1) * (2 * H) + H < Z ∨ ((p - 1) * (2 * H) + H = Z ∧ p % 2 = 0)) := by
  have e1 := Nat.div_add_mod Z (2 * H)
  have m1 := Nat.mod_lt Z (show 0 < 2 * H by omega)
  unfold rhe roundP at h
  rw [Nat.mul_comm] at e1
  generalize Z % (2 * H) = R at *
  generalize hP : Z / (2 * H) = P at *
  have hsub : 1 ≤ p → (p - 1) * (2 * H) + 2 * H = p * (2 * H) := fun hp => by
    rw [← Nat.succ_mul]; congr 1; omega
  by_cases hup : ((if R = 0 then 0 else if R < H then 1 else if R = H then 2 else 3) = 3 ∨ ((if R = 0 then 0 else if R < H then 1 else if R = H then 2 else 3) = 2 ∧ P % 2 = 1))
  · rw [if_pos hup] at h
    subst h
    have hRH : H ≤ R ∧ (R = H → P % 2 = 1) := by
      rcases hup with hup | ⟨hup, h2⟩
      · repeat' split at hup
        all_goals first | omega | exact ⟨by omega, by omega⟩
      · repeat' split at hup
        all_goals first | omega | exact ⟨by omega, fun _ => h2⟩
    have hs := hsub (by omega)
    rw [Nat.add_sub_cancel] at hs ⊢
    generalize (P + 1) * (2 * H) = C at *
    generalize P * (2 * H) = B at *
    refine ⟨by omega, fun _ => ?_⟩
    by_cases e : R = H
    · have := hRH.2 e; exact .inr ⟨by omega, by omega⟩
    · exact .inl (by omega)
  · rw [if_neg hup] at h
    subst h
    have hRH : R ≤ H ∧ (R = H → P % 2 = 0) := by
      refine ⟨Nat.le_of_not_lt fun hlt => hup (.inl ?_), fun e => ?_⟩
      · rw [if_neg (by omega), if_neg (by omega), if_neg (by omega)]
      · rcases Nat.mod_two_eq_zero_or_one P with h0 | h1
        · exact h0
        · exact absurd (.inr ⟨by rw [if_neg (by omega), if_neg (by omega), if_pos e], h1⟩) hup
    generalize P * (2 * H) = B at *
    refine ⟨?_, fun hp => ?_⟩
    · by_cases e : R = H
      · exact .inr ⟨by omega, hRH.2 e⟩
      · exact .inl (by omega)
    · have := hsub hp
      exact .inl (by omega)
/-! ### a string, cut -/
theorem any_num (l : List Bool) : l.any id = decide (numOf l ≠ 0) := by
  cases h : l.any id
  · refine (decide_eq_false fun hn => ?_).symm
    have := mem_of_pos l hn
    rw [List.any_eq_false] at h
    exact h true this rfl
  · refine (decide_eq_true ?_).symm
    obtain ⟨b, hb, hb2⟩ := List.any_eq_true.1 h
    have : b = true := hb2
    subst this
    have := numOf_pos l hb
    omega
theorem cut_num (l : List Bool) (m : Nat) (hm : m ≤ l.length) : numOf l = numOf (l.take m) * 2 ^ (l.length - m) + numOf (l.drop m) := by
  conv => lhs; rw [← List.take_append_drop m l]
  rw [numOf_append, List.length_drop]
/-- the first m bits, and what is left, of a string that is followed by noughts, and perhaps by something more -/
theorem cut_left (l : List Bool) (m : Nat) (rest : Bool) (hm : m < l.length) (hl : l.length ≤ 209) :
    roundP (numOf (l.take m)) (leftL (l.drop m) rest) = rhe (2 ^ (209 - m)) (2 * (numOf l * 2 ^ (209 - l.length)) + rest.toNat) := by
  have hc := cut_num l m (by omega)
  have hd : (l.drop m).length = l.length - m := List.length_drop ..
  have hlt := numOf_lt (l.drop m)
  rw [hd] at hlt
  cases hs : l.drop m with
  | nil => rw [hs] at hd; simp at hd; omega
  | cons b t =>
    rw [hs] at hd hlt hc
    have ht : t.length = l.length - m - 1 := by simp at hd; omega
    have htl := numOf_lt t
    rw [numOf_cons, ht] at hc hlt
    rw [ht] at htl
    -- powers
    have p1 : 2 ^ (l.length - m) = 2 * 2 ^ (l.length - m - 1) := by rw [← Nat.pow_succ']; congr 1; omega
    have p2 : 2 ^ (209 - m) = 2 ^ (l.length - m) * 2 ^ (209 - l.length) := by rw [← Nat.pow_add]; congr 1; omega
    have p3 : 0 < 2 ^ (l.length - m - 1) := Nat.pow_pos (by decide)
    have p4 : 0 < 2 ^ (209 - l.length) := Nat.pow_pos (by decide)
    rw [hc, p2, p1]
    rw [p1] at hlt
    have hany := any_num t
    unfold leftL
    rw [show (b :: t).getD 0 false = b from rfl, show (b :: t).drop 1 = t from rfl, hany]
    generalize numOf (l.take m) = P at *
    generalize 2 ^ (l.length - m - 1) = A at *
    generalize 2 ^ (209 - l.length) = C at *
    generalize numOf t = V at *
    -- the number is P times 2 H and R
    have hVC : V * C + C ≤ A * C := by rw [← Nat.succ_mul]; exact Nat.mul_le_mul_right _ htl
    have hV0 : V = 0 ∨ C ≤ V * C := by
      rcases Nat.eq_zero_or_pos V with h | h
      · exact .inl h
      · exact .inr (Nat.le_mul_of_pos_left _ h)
    have hAC : 0 < A * C := Nat.mul_pos p3 p4
    have hZ : 2 * ((P * (2 * A) + (b.toNat * A + V)) * C) + rest.toNat = P * (2 * (2 * A * C)) + (2 * (b.toNat * (A * C) + V * C) + rest.toNat) := by
      rw [Nat.add_mul, Nat.add_mul, Nat.mul_assoc b.toNat, Nat.mul_add, ← Nat.mul_assoc 2 (P * (2 * A)) C]
      have : 2 * (P * (2 * A)) * C = P * (2 * (2 * A * C)) := by
        simp only [Nat.mul_assoc, Nat.mul_left_comm]
      rw [this]; omega
    have hR : 2 * (b.toNat * (A * C) + V * C) + rest.toNat < 2 * (2 * A * C) := by
      rw [Nat.mul_assoc 2 A C]
      generalize A * C = D at *
      generalize V * C = E at *
      cases b <;> cases rest <;> simp <;> omega
    rw [hZ]
    unfold rhe
    have hpos : 0 < 2 * (2 * A * C) := by omega
    rw [Nat.mul_comm P, Nat.mul_add_div hpos, Nat.div_eq_of_lt hR, Nat.add_zero, Nat.mul_add_mod, Nat.mod_eq_of_lt hR]
    rw [Nat.mul_assoc 2 A C]
    congr 1
    generalize A * C = D at *
    rcases hV0 with rfl | hV0
    · cases b <;> cases rest <;> simp <;> (try omega)
      all_goals (repeat' split) <;> omega
    · have hne : V ≠ 0 := by rintro rfl; omega
      generalize hE : V * C = E at *
      cases b <;> cases rest <;> simp [hne] <;> (try omega)
      all_goals (repeat' split) <;> omega
end Go.Proofs.Ytajlgpamcpgalab

namespace Go.Proofs.Ytajlgpamcpgalab
set_option linter.unusedVariables false
set_option linter.unusedSimpArgs false

/-! ### an exact number's string, cut and rounded (plain mathematics) -/
def digX (hi lo : Nat) : List Bool := (bitsOf hi 64).drop 1 ++ bitsOf lo 64
def strX (s : Int) (hi lo : Nat) : List Bool := headK (s / 4) ++ bitsOf (s % 4).toNat 2 ++ digX hi lo
def manX (hi lo : Nat) : Nat := hi * 18446744073709551616 + lo
structure WordsX (hi lo : Nat) : Prop where
  top : 9223372036854775808 ≤ hi
  hi64 : hi < 18446744073709551616
  lo64 : lo < 18446744073709551616
theorem WordsX.mant {hi lo : Nat} (h : WordsX hi lo) : Mant (manX hi lo) := by
  obtain ⟨a, b, c⟩ := h
  unfold Mant manX
  have e1 : (2 : Nat) ^ 127 = 9223372036854775808 * 18446744073709551616 := by decide
  have e2 : (2 : Nat) ^ 128 = 18446744073709551616 * 18446744073709551616 := by decide
  omega
theorem digX_length (hi lo : Nat) : (digX hi lo).length = 127 := by simp [digX, bitsOf_length]
theorem digX_num {hi lo : Nat} (h : WordsX hi lo) : numOf (digX hi lo) = manX hi lo - 2 ^ 127 := by
  obtain ⟨a, b, c⟩ := h
  have h1 := top_word hi a b
  have h2 : numOf (bitsOf hi 64) = hi := by rw [numOf_bits]; exact Nat.mod_eq_of_lt b
  rw [h1, numOf_cons] at h2
  have h3 : ((bitsOf hi 64).drop 1).length = 63 := by rw [List.length_drop, bitsOf_length]
  rw [h3] at h2
  have h4 : numOf (bitsOf lo 64) = lo := by rw [numOf_bits]; exact Nat.mod_eq_of_lt c
  unfold digX manX
  rw [numOf_append, bitsOf_length, h4]
  have e1 : (2 : Nat) ^ 127 = 9223372036854775808 * 18446744073709551616 := by decide
  have e2 : (2 : Nat) ^ 64 = 18446744073709551616 := by decide
  have e3 : (2 : Nat) ^ 63 = 9223372036854775808 := by decide
  rw [e3] at h2
  simp only [Bool.toNat_true, Nat.one_mul] at h2
  generalize numOf ((bitsOf hi 64).drop 1) = x at *
  rw [e1, e2]
  omega
/-- is nothing left behind the first digit? -/
def justX (hi lo : Nat) (rest : Bool) : Bool := !rest && !(digX hi lo).any id
theorem justX_iff {hi lo : Nat} (h : WordsX hi lo) (rest : Bool) : justX hi lo rest = true ↔ rest = false ∧ manX hi lo = 2 ^ 127 := by
  unfold justX
  rw [any_num, digX_num h]
  have := h.mant.1
  cases rest <;> simp
  omega
/-- the scales that are neither at the greatest value nor at the least -/
def midX (n : Nat) (s : Int) (just : Bool) : Prop := s < 4 * n - 8 ∧ 8 - 4 * (n : Int) ≤ s ∧ ¬ (s = 8 - 4 * n ∧ just = true)
def cutX (n : Nat) (s : Int) (hi lo : Nat) (rest : Bool) : Nat × Nat :=
  if 4 * (n : Int) - 8 ≤ s then (2 ^ (n - 1) - 1, 0)
  else if s < 8 - 4 * (n : Int) ∨ (s = 8 - 4 * n ∧ justX hi lo rest = true) then (1, 0)
  else (numOf ((strX s hi lo).take (n - 1)), leftL ((strX s hi lo).drop (n - 1)) rest)
def rndX (n : Nat) (s : Int) (hi lo : Nat) (rest : Bool) : Nat := roundP (cutX n s hi lo rest).1 (cutX n s hi lo rest).2
def zX (s : Int) (hi lo : Nat) (rest : Bool) : Nat := 2 * zed s (manX hi lo) + rest.toNat
theorem numOf_false (t : List Bool) (h : false ∈ t) : numOf t + 2 ≤ 2 ^ t.length := by
  induction t with
  | nil => cases h
  | cons b t ih =>
    rw [numOf_cons, List.length_cons, Nat.pow_succ]
    have hlt := numOf_lt t
    have hp : 0 < 2 ^ t.length := Nat.pow_pos (by decide)
    cases b
    · simp; omega
    · have := ih (by simpa using h)
      simp; omega
theorem strX_mid (n : Nat) (s : Int) (hi lo : Nat) (hn : Wd n) (h1 : s < 4 * n - 8) (h2 : 8 - 4 * (n : Int) ≤ s) :
    true ∈ (strX s hi lo).take (n - 1) ∧ false ∈ (strX s hi lo).take (n - 1) ∧ ((strX s hi lo).take (n - 1)).length = n - 1 ∧ n - 1 < (strX s hi lo).length := by
  have hw := wd_le hn
  have hlen : 128 < (strX s hi lo).length := by
    unfold strX
    obtain ⟨b, r, hh, _⟩ := headK_form (s / 4)
    rw [hh]; simp [bitsOf_length, digX_length]
  have key : ∀ (b : Bool) (j : Nat) (R : List Bool), strX s hi lo = List.replicate (j + 1) b ++ (!b) :: R → j + 1 ≤ n - 2 → true ∈ (strX s hi lo).take (n - 1) ∧ false ∈ (strX s hi lo).take (n - 1) := by
    intro b j R e hj
    rw [e, List.take_append, List.length_replicate, show n - 1 - (j + 1) = (n - 1 - (j + 1) - 1) + 1 by omega, List.take_succ_cons, List.take_of_length_le (by rw [List.length_replicate]; omega)]
    cases b
    · exact ⟨List.mem_append_right _ (List.mem_cons_self ..), List.mem_append_left _ (by simp)⟩
    · exact ⟨List.mem_append_left _ (by simp), List.mem_append_right _ (List.mem_cons_self ..)⟩
  have hk : true ∈ (strX s hi lo).take (n - 1) ∧ false ∈ (strX s hi lo).take (n - 1) := by
    obtain ⟨b, r, hh, hk⟩ := headK_form (s / 4)
    refine key b r (bitsOf (s % 4).toNat 2 ++ digX hi lo) (by unfold strX; rw [hh]; simp) ?_
    cases b <;> simp at hk <;> omega
  exact ⟨hk.1, hk.2, by rw [List.length_take]; omega, by omega⟩
/-- in the middle the rounded pattern is the number's string, rounded -/
theorem rnd_mid (n : Nat) (s : Int) (hi lo : Nat) (rest : Bool) (hn : Wd n) (h : WordsX hi lo) (hm : midX n s (justX hi lo rest)) :
    rndX n s hi lo rest = rhe (2 ^ (210 - n)) (zX s hi lo rest) ∧ 1 ≤ rndX n s hi lo rest ∧ rndX n s hi lo rest ≤ 2 ^ (n - 1) - 1 := by
  have hw := wd_le hn
  obtain ⟨h1, h2, h3⟩ := hm
  obtain ⟨t1, t2, t3, t4⟩ := strX_mid n s hi lo hn h1 h2
  have hc : cutX n s hi lo rest = (numOf ((strX s hi lo).take (n - 1)), leftL ((strX s hi lo).drop (n - 1)) rest) := by
    unfold cutX
    rw [if_neg (by omega), if_neg (by rintro (h | h); omega; exact h3 h)]
  have p1 := numOf_pos _ t1
  have p2 := numOf_false _ t2
  rw [t3] at p2
  obtain ⟨z1, z2⟩ := zed_str s (manX hi lo) (digX hi lo) (digX_length hi lo) (digX_num h) (by omega) (by omega)
  have hcl := cut_left (strX s hi lo) (n - 1) rest t4 z1
  unfold rndX
  rw [hc]
  have hr := roundP_le (numOf ((strX s hi lo).take (n - 1))) (leftL ((strX s hi lo).drop (n - 1)) rest)
  refine ⟨?_, Nat.le_trans p1 hr.1, Nat.le_trans hr.2 (by omega)⟩
  show roundP _ _ = _
  rw [hcl, show 209 - (n - 1) = 210 - n by omega]
  unfold zX strX
  rw [z2]
theorem rnd_range (n : Nat) (s : Int) (hi lo : Nat) (rest : Bool) (hn : Wd n) (h : WordsX hi lo) : 1 ≤ rndX n s hi lo rest ∧ rndX n s hi lo rest ≤ 2 ^ (n - 1) - 1 := by
  obtain ⟨H, e1, e2, e3, _⟩ := wd_pows hn
  by_cases hm : midX n s (justX hi lo rest)
  · exact (rnd_mid n s hi lo rest hn h hm).2
  · unfold rndX cutX
    rw [e2]
    by_cases c1 : 4 * (n : Int) - 8 ≤ s
    · rw [if_pos c1]; simp only [roundP]; simp; omega
    · rw [if_neg c1]
      have c2 : s < 8 - 4 * (n : Int) ∨ (s = 8 - 4 * n ∧ justX hi lo rest = true) := by
        unfold midX at hm
        by_cases c3 : s < 8 - 4 * (n : Int)
        · exact .inl c3
        · refine .inr ?_
          by_cases c4 : s = 8 - 4 * n ∧ justX hi lo rest = true
          · exact c4
          · exact absurd ⟨by omega, by omega, c4⟩ hm
      rw [if_pos c2]; simp only [roundP]; simp; omega
theorem rnd_top (n : Nat) (s : Int) (hi lo : Nat) (rest : Bool) (c : 4 * (n : Int) - 8 ≤ s) : rndX n s hi lo rest = 2 ^ (n - 1) - 1 := by
  unfold rndX cutX; rw [if_pos c]; rfl
theorem rnd_low (n : Nat) (s : Int) (hi lo : Nat) (rest : Bool) (c0 : ¬ 4 * (n : Int) - 8 ≤ s) (c : s < 8 - 4 * (n : Int) ∨ (s = 8 - 4 * n ∧ justX hi lo rest = true)) : rndX n s hi lo rest = 1 := by
  unfold rndX cutX; rw [if_neg c0, if_pos c]; rfl
theorem mid_or (n : Nat) (s : Int) (j : Bool) : midX n s j ∨ 4 * (n : Int) - 8 ≤ s ∨ (¬ 4 * (n : Int) - 8 ≤ s ∧ (s < 8 - 4 * (n : Int) ∨ (s = 8 - 4 * n ∧ j = true))) := by
  unfold midX
  by_cases c1 : 4 * (n : Int) - 8 ≤ s
  · exact .inr (.inl c1)
  · by_cases c3 : s < 8 - 4 * (n : Int)
    · exact .inr (.inr ⟨c1, .inl c3⟩)
    · by_cases c4 : s = 8 - 4 * n ∧ j = true
      · exact .inr (.inr ⟨c1, .inr c4⟩)
      · exact .inl ⟨by omega, by omega, c4⟩
theorem mid_rise (n : Nat) (s s' : Int) (hi lo hi' lo' : Nat) (hn : Wd n) (h : WordsX hi lo) (h' : WordsX hi' lo') (hm : midX n s (justX hi lo false)) (hm' : midX n s' (justX hi' lo' false))
    (hle : s < s' ∨ (s = s' ∧ manX hi lo ≤ manX hi' lo')) : rndX n s hi lo false ≤ rndX n s' hi' lo' false := by
  have hw := wd_le hn
  rw [(rnd_mid n s hi lo false hn h hm).1, (rnd_mid n s' hi' lo' false hn h' hm').1]
  obtain ⟨a1, a2, _⟩ := hm
  obtain ⟨b1, b2, _⟩ := hm'
  have hz := zed_le h.mant h'.mant (by omega) (by omega) hle
  refine rhe_mono _ (Nat.pow_pos (by decide)) ?_
  unfold zX
  exact Nat.add_le_add_right (Nat.mul_le_mul_left 2 hz) _
/-- of two numbers the greater one is not rounded to less -/
theorem rnd_rise (n : Nat) (s s' : Int) (hi lo hi' lo' : Nat) (hn : Wd n) (h : WordsX hi lo) (h' : WordsX hi' lo')
    (hle : s < s' ∨ (s = s' ∧ manX hi lo ≤ manX hi' lo')) : rndX n s hi lo false ≤ rndX n s' hi' lo' false := by
  have r1 := rnd_range n s hi lo false hn h
  have r2 := rnd_range n s' hi' lo' false hn h'
  rcases mid_or n s (justX hi lo false) with hm | c1 | ⟨c0, c1⟩
  · rcases mid_or n s' (justX hi' lo' false) with hm' | c2 | ⟨c3, c2⟩
    · exact mid_rise n s s' hi lo hi' lo' hn h h' hm hm' hle
    · rw [rnd_top n s' hi' lo' false c2]; exact r1.2
    · exfalso
      obtain ⟨a1, a2, a3⟩ := hm
      have hs : s = 8 - 4 * (n : Int) ∧ s' = s := by
        clear r1 r2 a3 h h'
        rcases hle with hl | ⟨hl, _⟩ <;> rcases c2 with c2 | ⟨c2, _⟩ <;> omega
      have hM : manX hi lo ≤ manX hi' lo' := by
        clear r1 r2 a3 h h'
        rcases hle with hl | ⟨_, hl⟩
        · omega
        · exact hl
      have hj : justX hi' lo' false = true := by
        rcases c2 with c2 | ⟨_, c2⟩
        · exfalso; clear r1 r2 a3 h h'; omega
        · exact c2
      have e1 := ((justX_iff h' false).1 hj).2
      have h3 := h.mant.1
      exact a3 ⟨hs.1, (justX_iff h false).2 ⟨rfl, Nat.le_antisymm (e1 ▸ hM) h3⟩⟩
  · have c2 : 4 * (n : Int) - 8 ≤ s' := by clear r1 r2 h h'; omega
    rw [rnd_top n s' hi' lo' false c2]; exact r1.2
  · rw [rnd_low n s hi lo false c0 c1]; exact r2.1
end Go.Proofs.Ytajlgpamcpgalab

namespace Go.Proofs.Ytajlgpamcpgalab
set_option linter.unusedVariables false
set_option linter.unusedSimpArgs false

/-! ### what the program cuts off a number's string, and what it finds behind (plain mathematics) -/
def cmpX (left : Nat) (rest : Bool) : Nat := if left = 2 ^ 127 then (if rest then 3 else 2) else if 2 ^ 127 < left then 3 else if left = 0 ∧ rest = false then 0 else 1
theorem left_num (l : List Bool) (j : Nat) (rest : Bool) (hj : 1 ≤ j) (hj2 : j ≤ 128) (hl : l.length = j + 1) :
    leftL l rest = cmpX (numOf l / 2 * 2 ^ (128 - j)) (decide (numOf l % 2 = 1) || rest) := by
  cases l with
  | nil => simp at hl
  | cons b t =>
    have ht : t.length = j := by simpa using hl
    have hV := numOf_lt t
    rw [ht] at hV
    rw [numOf_cons, ht]
    have hany := any_num t
    unfold leftL cmpX
    rw [show (b :: t).getD 0 false = b from rfl, show (b :: t).drop 1 = t from rfl, hany]
    have p1 : 2 ^ j = 2 * 2 ^ (j - 1) := by rw [← Nat.pow_succ']; congr 1; omega
    have p2 : 2 ^ (j - 1) * 2 ^ (128 - j) = 2 ^ 127 := by rw [← Nat.pow_add]; congr 1; omega
    have p3 : 0 < 2 ^ (128 - j) := Nat.pow_pos (by decide)
    rw [p1] at hV ⊢
    generalize numOf t = V at *
    generalize 2 ^ (j - 1) = A at *
    generalize 2 ^ (128 - j) = C at *
    have hh : (b.toNat * (2 * A) + V) / 2 = b.toNat * A + V / 2 := by cases b <;> simp <;> omega
    have hm : (b.toNat * (2 * A) + V) % 2 = V % 2 := by cases b <;> simp <;> omega
    rw [hh, hm, Nat.add_mul, Nat.mul_assoc b.toNat A C, ← p2]
    have hlt : V / 2 * C < A * C := Nat.mul_lt_mul_of_pos_right (by omega) p3
    have h0 : V / 2 * C = 0 ↔ V / 2 = 0 := by
      constructor
      · intro h; rcases Nat.mul_eq_zero.1 h with h | h <;> omega
      · intro h; rw [h]; simp
    generalize V / 2 * C = X at *
    generalize A * C = D at *
    cases b
    · simp only [Bool.toNat_false, Nat.zero_mul, Nat.zero_add]
      have n1 : ¬ X = D := by omega
      have n2 : ¬ D < X := by omega
      rw [if_neg n1, if_neg n2]
      by_cases hx : X = 0
      · have := h0.1 hx
        rcases Nat.mod_two_eq_zero_or_one V with hv | hv
        · have : V = 0 := by omega
          subst this
          cases rest <;> simp [hx]
        · have : V ≠ 0 := by omega
          cases rest <;> simp [hx, hv, this]
      · have : ¬ V / 2 = 0 := fun h => hx (h0.2 h)
        have : V ≠ 0 := by omega
        cases rest <;> simp [hx, this]
    · simp only [Bool.toNat_true, Nat.one_mul]
      by_cases hx : X = 0
      · have := h0.1 hx
        have n1 : D + X = D := by omega
        rw [if_pos n1]
        rcases Nat.mod_two_eq_zero_or_one V with hv | hv
        · have : V = 0 := by omega
          subst this
          cases rest <;> simp
        · have : V ≠ 0 := by omega
          cases rest <;> simp [hv, this]
      · have : ¬ V / 2 = 0 := fun h => hx (h0.2 h)
        have : V ≠ 0 := by omega
        have n1 : ¬ D + X = D := by omega
        have n2 : D < D + X := by omega
        rw [if_neg n1, if_pos n2]
        cases rest <;> simp [this]
theorem headK_num (k : Int) : numOf (headK k) = (if 0 ≤ k then 2 ^ (k.toNat + 2) - 2 else 1) ∧ (headK k).length = (if 0 ≤ k then k.toNat + 2 else (1 - k).toNat) := by
  unfold headK
  by_cases h : 0 ≤ k
  · rw [if_pos h, if_pos h, if_pos h, numOf_append, numOf_ones]
    have : 1 ≤ 2 ^ (k.toNat + 1) := Nat.one_le_two_pow
    rw [Nat.pow_succ 2 (k.toNat + 1)]
    refine ⟨?_, by simp⟩
    show (2 ^ (k.toNat + 1) - 1) * 2 ^ 1 + 0 = _
    omega
  · rw [if_neg h, if_neg h, if_neg h, numOf_append, show List.replicate (-k).toNat false = noughts (-k).toNat from rfl, numOf_noughts]
    refine ⟨by simp; rfl, ?_⟩
    simp [noughts]; omega
def tailL (s : Int) (hi lo : Nat) : List Bool := bitsOf (s % 4).toNat 2 ++ digX hi lo
theorem tailL_num (s : Int) {hi lo : Nat} (h : WordsX hi lo) : (tailL s hi lo).length = 129 ∧ numOf (tailL s hi lo) = tailN s (manX hi lo) := by
  unfold tailL
  refine ⟨by simp [bitsOf_length, digX_length], ?_⟩
  rw [numOf_append, digX_num h, digX_length, numOf_bits, Nat.mod_eq_of_lt (by omega)]
  rfl
theorem room_pows (room : Nat) (h : room ≤ 64) : 2 ^ (129 - room) = 2 * 2 ^ (128 - room) ∧ 2 ^ 128 = 2 ^ (128 - room) * 2 ^ room := by
  refine ⟨?_, ?_⟩
  · rw [← Nat.pow_succ']; congr 1; omega
  · rw [← Nat.pow_add]; congr 1; omega
/-- the first n - 1 bits of the string, and what is left, from the run and from what stands behind it but for the last bit -/
theorem cut_parts (n : Nat) (s : Int) (hi lo : Nat) (rest : Bool) (h : WordsX hi lo) (hr : (headK (s / 4)).length ≤ n - 1) (hn : n ≤ 64) (B room : Nat)
    (hB : B = tailN s (manX hi lo) / 2) (hroom : room = n - 1 - (headK (s / 4)).length) :
    numOf ((strX s hi lo).take (n - 1)) = numOf (headK (s / 4)) * 2 ^ room + B / 2 ^ (128 - room) ∧ B / 2 ^ (128 - room) < 2 ^ room ∧ leftL ((strX s hi lo).drop (n - 1)) rest = cmpX (B * 2 ^ room % 2 ^ 128) (decide (lo % 2 = 1) || rest) := by
  obtain ⟨t1, t2⟩ := tailL_num s h
  have e : strX s hi lo = headK (s / 4) ++ tailL s hi lo := by unfold strX tailL; simp
  have hr2 : room ≤ 64 := by omega
  have e1 : (strX s hi lo).take (n - 1) = headK (s / 4) ++ (tailL s hi lo).take room := by
    rw [e, List.take_append, List.take_of_length_le hr, ← hroom]
  have e2 : (strX s hi lo).drop (n - 1) = (tailL s hi lo).drop room := by
    rw [e, List.drop_append, List.drop_of_length_le hr, ← hroom, List.nil_append]
  have hc := cut_num (tailL s hi lo) room (by omega)
  have hlt := numOf_lt ((tailL s hi lo).drop room)
  rw [List.length_drop, t1] at hlt
  rw [t1, t2] at hc
  have hpar : tailN s (manX hi lo) % 2 = lo % 2 := by
    unfold tailN manX
    have := h.top
    rw [show (2 : Nat) ^ 127 = 2 * 85070591730234615865843651857942052864 by decide]
    omega
  obtain ⟨p1, p3⟩ := room_pows room hr2
  have hdl : ((tailL s hi lo).drop room).length = (128 - room) + 1 := by rw [List.length_drop, t1]; omega
  have htl : ((tailL s hi lo).take room).length = room := by rw [List.length_take, t1]; omega
  have hlf := left_num ((tailL s hi lo).drop room) (128 - room) rest (by omega) (by omega) hdl
  have htk := numOf_lt ((tailL s hi lo).take room)
  rw [htl] at htk
  rw [e1, e2, hlf, numOf_append, htl, p3, Nat.mul_mod_mul_right, show 128 - (128 - room) = room by omega]
  rw [p1] at hc hlt
  generalize numOf ((tailL s hi lo).drop room) = R at *
  generalize numOf ((tailL s hi lo).take room) = P at *
  generalize tailN s (manX hi lo) = T at *
  have hpos : 0 < 2 ^ (128 - room) := Nat.pow_pos (by decide)
  generalize 2 ^ (128 - room) = G at *
  have hB2 : B = P * G + R / 2 := by
    have : P * (2 * G) = 2 * (P * G) := by rw [Nat.mul_left_comm]
    omega
  have hRG : R / 2 < G := by omega
  have d1 : B / G = P := by rw [hB2, Nat.mul_comm, Nat.mul_add_div hpos, Nat.div_eq_of_lt hRG]; rfl
  have d2 : B % G = R / 2 := by rw [hB2, Nat.mul_comm, Nat.mul_add_mod, Nat.mod_eq_of_lt hRG]
  have hR2 : R % 2 = lo % 2 := by
    have : P * (2 * G) = 2 * (P * G) := by rw [Nat.mul_left_comm]
    omega
  rw [d1, d2, hR2]
  exact ⟨rfl, htk, rfl⟩
/-- within the ends the run has room -/
theorem head_room (n : Nat) (s : Int) (hn : Wd n) (h1 : s < 4 * n - 8) (h2 : 8 - 4 * (n : Int) ≤ s) : (headK (s / 4)).length ≤ n - 1 ∧ 2 ≤ (headK (s / 4)).length := by
  have hw := wd_le hn
  rw [(headK_num (s / 4)).2]
  split <;> omega
end Go.Proofs.Ytajlgpamcpgalab

namespace Go.Proofs.Ytajlgpamcpgalab
open Go.ChangeShapes Go.WideShapes Go.ChangeAt Go.RowKit
set_option linter.unusedVariables false
set_option linter.unusedSimpArgs false
set_option maxRecDepth 100000

/-! ### the document's round: which Exacts are sound; what is left -/
def exV (k : Int) (neg : Bool) (s : Int) (hi lo : Nat) (rest : Bool) : Value := .agg #[.int .i64 k, .bool neg, .int .i64 s, .int .u64 hi, .int .u64 lo, .bool rest]
def soundX (k : Int) (neg : Bool) (s : Int) (hi lo : Nat) (rest : Bool) : Bool :=
  if k = 0 ∨ k = 2 then decide (neg = false ∧ s = 0 ∧ hi = 0 ∧ lo = 0 ∧ rest = false) else decide (k = 1 ∧ 9223372036854775808 ≤ hi ∧ -1099511627776 ≤ s ∧ s ≤ 1099511627776)
set_option maxHeartbeats 1000000 in
theorem sound7_any (k : Int) (neg : Bool) (s : Int) (hi lo : Nat) (rest : Bool) (w : World) :
    Calls Try.prog 5 #[exV k neg s hi lo rest] w fun e w' => e = .returned (.bool (soundX k neg s hi lo rest)) ∧ Below w.heap.size w w' := by
  unfold exV soundX
  refine cps fun Q hQ => ?_
  by_cases h0 : k = 0
  · subst h0
    go_enter Try.func5, Try.ntmps5
    go_wp2
    all_goals exact hQ.out _ _ ⟨ret_b (by simp_all), cmore (Below.refl _ _) _⟩
  · by_cases h2 : k = 2
    · subst h2
      go_enter Try.func5, Try.ntmps5
      go_wp2
      all_goals exact hQ.out _ _ ⟨ret_b (by simp_all), cmore (Below.refl _ _) _⟩
    · by_cases h1 : k = 1
      · subst h1
        go_enter Try.func5, Try.ntmps5
        go_wp2
        all_goals exact hQ.out _ _ ⟨ret_b (by simp_all <;> omega), cmore (Below.refl _ _) _⟩
      · have d0 : (k == 0) = false := beq_eq_false_iff_ne.2 h0
        have d1 : (k == 1) = false := beq_eq_false_iff_ne.2 h1
        have d2 : (k == 2) = false := beq_eq_false_iff_ne.2 h2
        have HN : Hid (¬ k = 0 ∧ ¬ k = 1 ∧ ¬ k = 2) := ⟨h0, h1, h2⟩
        clear h0 h1 h2
        go_enter Try.func5, Try.ntmps5
        go_wp2
        all_goals exact hQ.out _ _ ⟨ret_b (by have := HN.out; simp_all), cmore (Below.refl _ _) _⟩
end Go.Proofs.Ytajlgpamcpgalab

namespace Go.Proofs.Ytajlgpamcpgalab
open Go.ChangeShapes Go.WideShapes Go.ChangeAt Go.RowKit
set_option linter.unusedVariables false
set_option linter.unusedSimpArgs false
set_option maxRecDepth 100000

/-! ### the document's Cut -/
end Go.Proofs.Ytajlgpamcpgalab

namespace Go.Proofs.Ytajlgpamcpgalab
open Go.ChangeShapes Go.WideShapes Go.ChangeAt Go.RowKit
set_option linter.unusedVariables false
set_option linter.unusedSimpArgs false
set_option maxRecDepth 100000

/-! ### the document's Round -/
def patR (n : Nat) (neg : Bool) (R : Nat) : Nat := if neg then 2 ^ n - R else R
end Go.Proofs.Ytajlgpamcpgalab

namespace Go.Proofs.Ytajlgpamcpgalab
open Go.ChangeShapes Go.WideShapes Go.ChangeAt Go.RowKit
set_option linter.unusedVariables false
set_option linter.unusedSimpArgs false
set_option maxRecDepth 100000

/-! ### the document's Of -/
end Go.Proofs.Ytajlgpamcpgalab

namespace Go.Proofs.Ytajlgpamcpgalab
open Go.ChangeShapes Go.WideShapes Go.ChangeAt Go.RowKit
set_option linter.unusedVariables false
set_option linter.unusedSimpArgs false
set_option maxRecDepth 100000

/-! ### the document's order of exact numbers -/
def sgnX (k : Int) (neg : Bool) : Int := if k = 1 then (if neg then -1 else 1) else 0
theorem sign7_any (k : Int) (neg : Bool) (s : Int) (hi lo : Nat) (rest : Bool) (w : World) :
    Calls Try.prog 16 #[exV k neg s hi lo rest] w fun e w' => e = .returned (.int .i64 (sgnX k neg)) ∧ Below w.heap.size w w' := by
  unfold exV sgnX
  refine cps fun Q hQ => ?_
  by_cases h1 : k = 1
  · subst h1
    cases neg
    all_goals
      go_enter Try.func16, Try.ntmps16
      go_wp2
      exact hQ.out _ _ ⟨rfl, cmore (Below.refl _ _) _⟩
  · have d1 : (k == 1) = false := beq_eq_false_iff_ne.2 h1
    rw [if_neg h1] at hQ
    clear h1
    go_enter Try.func16, Try.ntmps16
    go_wp2
    exact hQ.out _ _ ⟨rfl, cmore (Below.refl _ _) _⟩
set_option maxHeartbeats 2000000 in
theorem cmp7_sgn (k k' : Int) (neg neg' : Bool) (s s' : Int) (hi lo hi' lo' : Nat) (rest rest' : Bool) (hne : sgnX k neg ≠ sgnX k' neg') (w : World) :
    Calls Try.prog 10 #[exV k neg s hi lo rest, exV k' neg' s' hi' lo' rest'] w fun e w' => e = .returned (.int .i64 (if sgnX k neg < sgnX k' neg' then -1 else 1)) ∧ Below w.heap.size w w' := by
  have k1 := sign7_any k neg s hi lo rest
  have k2 := sign7_any k' neg' s' hi' lo' rest'
  unfold exV at *
  generalize sgnX k neg = a at *
  generalize sgnX k' neg' = b at *
  refine cps fun Q hQ => ?_
  rcases Int.lt_or_gt_of_ne hne with hlt | hlt
  · rw [if_pos hlt] at hQ
    have d1 : decide (a < b) = true := decide_eq_true hlt
    clear hne
    go_enter Try.func10, Try.ntmps10
    go_wp2_with (first
      | (have chk := T1; clear chk; go_at_call 16; refine (k2 _).mono ?_; rintro e w3 ⟨rfl, hb3⟩; have RX3 := (hb3.block w.heap.size z2).trans RX2.out; have RY3 := (hb3.block (w.heap.size + 1) z2').trans RY2.out; have x0 := rowcell RX3 0; have x1 := rowcell RX3 1; have x2 := rowcell RX3 2; have x3 := rowcell RX3 3; have x4 := rowcell RX3 4; have x5 := rowcell RX3 5; have xf := rowfree RX3; simp only [List.getElem?_toArray, List.getElem?_cons_zero, List.getElem?_cons_succ] at x0 x1 x2 x3 x4 x5; have y0 := rowcell RY3 0; have y1 := rowcell RY3 1; have y2 := rowcell RY3 2; have y3 := rowcell RY3 3; have y4 := rowcell RY3 4; have y5 := rowcell RY3 5; have yf := rowfree RY3; simp only [List.getElem?_toArray, List.getElem?_cons_zero, List.getElem?_cons_succ] at y0 y1 y2 y3 y4 y5; have HB3 : Hid (Below _ _ _) := cthen B2.out hb3; clear hb3 RX3 RY3)
      | (go_at_call 16; refine (k1 _).mono ?_; rintro e w2 ⟨rfl, hb2⟩; have RX2 : Hid _ := (hb2.block w.heap.size (by simp; omega)).trans ((Below.heap_alloc (w.alloc _) _ _ (by simp)).trans (rownew w _ _)); have RY2 : Hid _ := (hb2.block (w.heap.size + 1) (by simp)).trans (rownew' _ _ _ _ (by simp)); have z2 : w.heap.size < w2.heap.size := (by have := hb2.size; simp at this; omega); have z2' : w.heap.size + 1 < w2.heap.size := (by have := hb2.size; simp at this; omega); have NX := rowcell RX2.out 0; have B2 : Hid (Below _ _ _) := cthen (cmore (cmore (Below.refl _ _) _) _) hb2; have T1 : True := trivial; have p0 := rowcell RX2.out 0; have p1 := rowcell RX2.out 1; have p2 := rowcell RX2.out 2; have p3 := rowcell RX2.out 3; have p4 := rowcell RX2.out 4; have p5 := rowcell RX2.out 5; have pf := rowfree RX2.out; simp only [List.getElem?_toArray, List.getElem?_cons_zero, List.getElem?_cons_succ] at p0 p1 p2 p3 p4 p5; have q0 := rowcell RY2.out 0; have q1 := rowcell RY2.out 1; have q2 := rowcell RY2.out 2; have q3 := rowcell RY2.out 3; have q4 := rowcell RY2.out 4; have q5 := rowcell RY2.out 5; have qf := rowfree RY2.out; simp only [List.getElem?_toArray, List.getElem?_cons_zero, List.getElem?_cons_succ] at q0 q1 q2 q3 q4 q5; clear hb2 NX))
    all_goals exact hQ.out _ _ ⟨rfl, HB3.out⟩
  · rw [if_neg (by omega)] at hQ
    have d1 : decide (a < b) = false := decide_eq_false (by omega)
    have d2 : decide (b < a) = true := decide_eq_true hlt
    clear hne
    go_enter Try.func10, Try.ntmps10
    go_wp2_with (first
      | (have chk := T1; clear chk; go_at_call 16; refine (k2 _).mono ?_; rintro e w3 ⟨rfl, hb3⟩; have RX3 := (hb3.block w.heap.size z2).trans RX2.out; have RY3 := (hb3.block (w.heap.size + 1) z2').trans RY2.out; have x0 := rowcell RX3 0; have x1 := rowcell RX3 1; have x2 := rowcell RX3 2; have x3 := rowcell RX3 3; have x4 := rowcell RX3 4; have x5 := rowcell RX3 5; have xf := rowfree RX3; simp only [List.getElem?_toArray, List.getElem?_cons_zero, List.getElem?_cons_succ] at x0 x1 x2 x3 x4 x5; have y0 := rowcell RY3 0; have y1 := rowcell RY3 1; have y2 := rowcell RY3 2; have y3 := rowcell RY3 3; have y4 := rowcell RY3 4; have y5 := rowcell RY3 5; have yf := rowfree RY3; simp only [List.getElem?_toArray, List.getElem?_cons_zero, List.getElem?_cons_succ] at y0 y1 y2 y3 y4 y5; have HB3 : Hid (Below _ _ _) := cthen B2.out hb3; clear hb3 RX3 RY3)
      | (go_at_call 16; refine (k1 _).mono ?_; rintro e w2 ⟨rfl, hb2⟩; have RX2 : Hid _ := (hb2.block w.heap.size (by simp; omega)).trans ((Below.heap_alloc (w.alloc _) _ _ (by simp)).trans (rownew w _ _)); have RY2 : Hid _ := (hb2.block (w.heap.size + 1) (by simp)).trans (rownew' _ _ _ _ (by simp)); have z2 : w.heap.size < w2.heap.size := (by have := hb2.size; simp at this; omega); have z2' : w.heap.size + 1 < w2.heap.size := (by have := hb2.size; simp at this; omega); have NX := rowcell RX2.out 0; have B2 : Hid (Below _ _ _) := cthen (cmore (cmore (Below.refl _ _) _) _) hb2; have T1 : True := trivial; have p0 := rowcell RX2.out 0; have p1 := rowcell RX2.out 1; have p2 := rowcell RX2.out 2; have p3 := rowcell RX2.out 3; have p4 := rowcell RX2.out 4; have p5 := rowcell RX2.out 5; have pf := rowfree RX2.out; simp only [List.getElem?_toArray, List.getElem?_cons_zero, List.getElem?_cons_succ] at p0 p1 p2 p3 p4 p5; have q0 := rowcell RY2.out 0; have q1 := rowcell RY2.out 1; have q2 := rowcell RY2.out 2; have q3 := rowcell RY2.out 3; have q4 := rowcell RY2.out 4; have q5 := rowcell RY2.out 5; have qf := rowfree RY2.out; simp only [List.getElem?_toArray, List.getElem?_cons_zero, List.getElem?_cons_succ] at q0 q1 q2 q3 q4 q5; clear hb2 NX))
    all_goals exact hQ.out _ _ ⟨rfl, HB3.out⟩
theorem cmp7_zero (k k' : Int) (neg neg' : Bool) (s s' : Int) (hi lo hi' lo' : Nat) (rest rest' : Bool) (h1 : sgnX k neg = 0) (h2 : sgnX k' neg' = 0) (w : World) :
    Calls Try.prog 10 #[exV k neg s hi lo rest, exV k' neg' s' hi' lo' rest'] w fun e w' => e = .returned (.int .i64 0) ∧ Below w.heap.size w w' := by
  have k1 := sign7_any k neg s hi lo rest
  have k2 := sign7_any k' neg' s' hi' lo' rest'
  rw [h1] at k1
  rw [h2] at k2
  clear h1 h2
  unfold exV at *
  refine cps fun Q hQ => ?_
  go_enter Try.func10, Try.ntmps10
  go_wp2_with (first
    | (have chk := T1; clear chk; go_at_call 16; refine (k2 _).mono ?_; rintro e w3 ⟨rfl, hb3⟩; have RX3 := (hb3.block w.heap.size z2).trans RX2.out; have RY3 := (hb3.block (w.heap.size + 1) z2').trans RY2.out; have x0 := rowcell RX3 0; have x1 := rowcell RX3 1; have x2 := rowcell RX3 2; have x3 := rowcell RX3 3; have x4 := rowcell RX3 4; have x5 := rowcell RX3 5; have xf := rowfree RX3; simp only [List.getElem?_toArray, List.getElem?_cons_zero, List.getElem?_cons_succ] at x0 x1 x2 x3 x4 x5; have y0 := rowcell RY3 0; have y1 := rowcell RY3 1; have y2 := rowcell RY3 2; have y3 := rowcell RY3 3; have y4 := rowcell RY3 4; have y5 := rowcell RY3 5; have yf := rowfree RY3; simp only [List.getElem?_toArray, List.getElem?_cons_zero, List.getElem?_cons_succ] at y0 y1 y2 y3 y4 y5; have HB3 : Hid (Below _ _ _) := cthen B2.out hb3; clear hb3 RX3 RY3)
    | (go_at_call 16; refine (k1 _).mono ?_; rintro e w2 ⟨rfl, hb2⟩; have RX2 : Hid _ := (hb2.block w.heap.size (by simp; omega)).trans ((Below.heap_alloc (w.alloc _) _ _ (by simp)).trans (rownew w _ _)); have RY2 : Hid _ := (hb2.block (w.heap.size + 1) (by simp)).trans (rownew' _ _ _ _ (by simp)); have z2 : w.heap.size < w2.heap.size := (by have := hb2.size; simp at this; omega); have z2' : w.heap.size + 1 < w2.heap.size := (by have := hb2.size; simp at this; omega); have NX := rowcell RX2.out 0; have B2 : Hid (Below _ _ _) := cthen (cmore (cmore (Below.refl _ _) _) _) hb2; have T1 : True := trivial; have p0 := rowcell RX2.out 0; have p1 := rowcell RX2.out 1; have p2 := rowcell RX2.out 2; have p3 := rowcell RX2.out 3; have p4 := rowcell RX2.out 4; have p5 := rowcell RX2.out 5; have pf := rowfree RX2.out; simp only [List.getElem?_toArray, List.getElem?_cons_zero, List.getElem?_cons_succ] at p0 p1 p2 p3 p4 p5; have q0 := rowcell RY2.out 0; have q1 := rowcell RY2.out 1; have q2 := rowcell RY2.out 2; have q3 := rowcell RY2.out 3; have q4 := rowcell RY2.out 4; have q5 := rowcell RY2.out 5; have qf := rowfree RY2.out; simp only [List.getElem?_toArray, List.getElem?_cons_zero, List.getElem?_cons_succ] at q0 q1 q2 q3 q4 q5; clear hb2 NX))
  all_goals exact hQ.out _ _ ⟨rfl, HB3.out⟩
end Go.Proofs.Ytajlgpamcpgalab

namespace Go.Proofs.Ytajlgpamcpgalab
open Go.ChangeShapes Go.WideShapes Go.ChangeAt Go.RowKit
set_option linter.unusedVariables false
set_option linter.unusedSimpArgs false
set_option maxRecDepth 100000

/-! ### two numbers of one sign, compared -/
set_option maxHeartbeats 4000000 in
theorem cmp7_real (neg : Bool) (s s' : Int) (hi lo hi' lo' : Nat) (w : World) :
    Calls Try.prog 10 #[exV 1 neg s hi lo false, exV 1 neg s' hi' lo' false] w fun e w' => e = .returned (.int .i64 (if s = s' ∧ hi = hi' ∧ lo = lo' then 0 else if s < s' ∨ (s = s' ∧ (hi < hi' ∨ (hi = hi' ∧ lo < lo'))) then -(if neg then -1 else 1) else (if neg then -1 else 1))) ∧ Below w.heap.size w w' := by
  have k1 := sign7_any 1 neg s hi lo false
  have k2 := sign7_any 1 neg s' hi' lo' false
  unfold exV sgnX at *
  rw [if_pos rfl] at k1 k2
  refine cps fun Q hQ => ?_
  rcases Int.lt_trichotomy s s' with c | rfl | c
  · rw [if_neg (by omega), if_pos (by omega)] at hQ
    have d1 : decide (s < s') = true := decide_eq_true c
    have d2 : (s == s') = false := beq_eq_false_iff_ne.2 (by omega)
    cases neg
    all_goals
        go_enter Try.func10, Try.ntmps10
        go_wp2_with (first
          | (have chk := T1; clear chk; go_at_call 16; refine (k2 _).mono ?_; rintro e w3 ⟨rfl, hb3⟩; have RX3 := (hb3.block w.heap.size z2).trans RX2.out; have RY3 := (hb3.block (w.heap.size + 1) z2').trans RY2.out; have x0 := rowcell RX3 0; have x1 := rowcell RX3 1; have x2 := rowcell RX3 2; have x3 := rowcell RX3 3; have x4 := rowcell RX3 4; have x5 := rowcell RX3 5; have xf := rowfree RX3; simp only [List.getElem?_toArray, List.getElem?_cons_zero, List.getElem?_cons_succ] at x0 x1 x2 x3 x4 x5; have y0 := rowcell RY3 0; have y1 := rowcell RY3 1; have y2 := rowcell RY3 2; have y3 := rowcell RY3 3; have y4 := rowcell RY3 4; have y5 := rowcell RY3 5; have yf := rowfree RY3; simp only [List.getElem?_toArray, List.getElem?_cons_zero, List.getElem?_cons_succ] at y0 y1 y2 y3 y4 y5; have HB3 : Hid (Below _ _ _) := cthen B2.out hb3; clear hb3 RX3 RY3)
          | (go_at_call 16; refine (k1 _).mono ?_; rintro e w2 ⟨rfl, hb2⟩; have RX2 : Hid _ := (hb2.block w.heap.size (by simp; omega)).trans ((Below.heap_alloc (w.alloc _) _ _ (by simp)).trans (rownew w _ _)); have RY2 : Hid _ := (hb2.block (w.heap.size + 1) (by simp)).trans (rownew' _ _ _ _ (by simp)); have z2 : w.heap.size < w2.heap.size := (by have := hb2.size; simp at this; omega); have z2' : w.heap.size + 1 < w2.heap.size := (by have := hb2.size; simp at this; omega); have NX := rowcell RX2.out 0; have B2 : Hid (Below _ _ _) := cthen (cmore (cmore (Below.refl _ _) _) _) hb2; have T1 : True := trivial; have p0 := rowcell RX2.out 0; have p1 := rowcell RX2.out 1; have p2 := rowcell RX2.out 2; have p3 := rowcell RX2.out 3; have p4 := rowcell RX2.out 4; have p5 := rowcell RX2.out 5; have pf := rowfree RX2.out; simp only [List.getElem?_toArray, List.getElem?_cons_zero, List.getElem?_cons_succ] at p0 p1 p2 p3 p4 p5; have q0 := rowcell RY2.out 0; have q1 := rowcell RY2.out 1; have q2 := rowcell RY2.out 2; have q3 := rowcell RY2.out 3; have q4 := rowcell RY2.out 4; have q5 := rowcell RY2.out 5; have qf := rowfree RY2.out; simp only [List.getElem?_toArray, List.getElem?_cons_zero, List.getElem?_cons_succ] at q0 q1 q2 q3 q4 q5; clear hb2 NX))
        all_goals first | (refine hQ.out _ _ ⟨?_, HB3.out⟩; rfl) | (exfalso; omega)
  · rcases Nat.lt_trichotomy hi hi' with c | rfl | c
    · rw [if_neg (by omega), if_pos (by omega)] at hQ
      have d1 : decide ((hi : Int) < (hi' : Int)) = true := decide_eq_true (by omega)
      have d2 : ((hi : Int) == (hi' : Int)) = false := beq_eq_false_iff_ne.2 (by omega)
      cases neg
      all_goals
          go_enter Try.func10, Try.ntmps10
          go_wp2_with (first
            | (have chk := T1; clear chk; go_at_call 16; refine (k2 _).mono ?_; rintro e w3 ⟨rfl, hb3⟩; have RX3 := (hb3.block w.heap.size z2).trans RX2.out; have RY3 := (hb3.block (w.heap.size + 1) z2').trans RY2.out; have x0 := rowcell RX3 0; have x1 := rowcell RX3 1; have x2 := rowcell RX3 2; have x3 := rowcell RX3 3; have x4 := rowcell RX3 4; have x5 := rowcell RX3 5; have xf := rowfree RX3; simp only [List.getElem?_toArray, List.getElem?_cons_zero, List.getElem?_cons_succ] at x0 x1 x2 x3 x4 x5; have y0 := rowcell RY3 0; have y1 := rowcell RY3 1; have y2 := rowcell RY3 2; have y3 := rowcell RY3 3; have y4 := rowcell RY3 4; have y5 := rowcell RY3 5; have yf := rowfree RY3; simp only [List.getElem?_toArray, List.getElem?_cons_zero, List.getElem?_cons_succ] at y0 y1 y2 y3 y4 y5; have HB3 : Hid (Below _ _ _) := cthen B2.out hb3; clear hb3 RX3 RY3)
            | (go_at_call 16; refine (k1 _).mono ?_; rintro e w2 ⟨rfl, hb2⟩; have RX2 : Hid _ := (hb2.block w.heap.size (by simp; omega)).trans ((Below.heap_alloc (w.alloc _) _ _ (by simp)).trans (rownew w _ _)); have RY2 : Hid _ := (hb2.block (w.heap.size + 1) (by simp)).trans (rownew' _ _ _ _ (by simp)); have z2 : w.heap.size < w2.heap.size := (by have := hb2.size; simp at this; omega); have z2' : w.heap.size + 1 < w2.heap.size := (by have := hb2.size; simp at this; omega); have NX := rowcell RX2.out 0; have B2 : Hid (Below _ _ _) := cthen (cmore (cmore (Below.refl _ _) _) _) hb2; have T1 : True := trivial; have p0 := rowcell RX2.out 0; have p1 := rowcell RX2.out 1; have p2 := rowcell RX2.out 2; have p3 := rowcell RX2.out 3; have p4 := rowcell RX2.out 4; have p5 := rowcell RX2.out 5; have pf := rowfree RX2.out; simp only [List.getElem?_toArray, List.getElem?_cons_zero, List.getElem?_cons_succ] at p0 p1 p2 p3 p4 p5; have q0 := rowcell RY2.out 0; have q1 := rowcell RY2.out 1; have q2 := rowcell RY2.out 2; have q3 := rowcell RY2.out 3; have q4 := rowcell RY2.out 4; have q5 := rowcell RY2.out 5; have qf := rowfree RY2.out; simp only [List.getElem?_toArray, List.getElem?_cons_zero, List.getElem?_cons_succ] at q0 q1 q2 q3 q4 q5; clear hb2 NX))
          all_goals first | (refine hQ.out _ _ ⟨?_, HB3.out⟩; rfl) | (exfalso; omega)
    · rcases Nat.lt_trichotomy lo lo' with c | rfl | c
      · rw [if_neg (by omega), if_pos (by omega)] at hQ
        have d1 : decide ((lo : Int) < (lo' : Int)) = true := decide_eq_true (by omega)
        have d2 : ((lo : Int) == (lo' : Int)) = false := beq_eq_false_iff_ne.2 (by omega)
        cases neg
        all_goals
            go_enter Try.func10, Try.ntmps10
            go_wp2_with (first
              | (have chk := T1; clear chk; go_at_call 16; refine (k2 _).mono ?_; rintro e w3 ⟨rfl, hb3⟩; have RX3 := (hb3.block w.heap.size z2).trans RX2.out; have RY3 := (hb3.block (w.heap.size + 1) z2').trans RY2.out; have x0 := rowcell RX3 0; have x1 := rowcell RX3 1; have x2 := rowcell RX3 2; have x3 := rowcell RX3 3; have x4 := rowcell RX3 4; have x5 := rowcell RX3 5; have xf := rowfree RX3; simp only [List.getElem?_toArray, List.getElem?_cons_zero, List.getElem?_cons_succ] at x0 x1 x2 x3 x4 x5; have y0 := rowcell RY3 0; have y1 := rowcell RY3 1; have y2 := rowcell RY3 2; have y3 := rowcell RY3 3; have y4 := rowcell RY3 4; have y5 := rowcell RY3 5; have yf := rowfree RY3; simp only [List.getElem?_toArray, List.getElem?_cons_zero, List.getElem?_cons_succ] at y0 y1 y2 y3 y4 y5; have HB3 : Hid (Below _ _ _) := cthen B2.out hb3; clear hb3 RX3 RY3)
              | (go_at_call 16; refine (k1 _).mono ?_; rintro e w2 ⟨rfl, hb2⟩; have RX2 : Hid _ := (hb2.block w.heap.size (by simp; omega)).trans ((Below.heap_alloc (w.alloc _) _ _ (by simp)).trans (rownew w _ _)); have RY2 : Hid _ := (hb2.block (w.heap.size + 1) (by simp)).trans (rownew' _ _ _ _ (by simp)); have z2 : w.heap.size < w2.heap.size := (by have := hb2.size; simp at this; omega); have z2' : w.heap.size + 1 < w2.heap.size := (by have := hb2.size; simp at this; omega); have NX := rowcell RX2.out 0; have B2 : Hid (Below _ _ _) := cthen (cmore (cmore (Below.refl _ _) _) _) hb2; have T1 : True := trivial; have p0 := rowcell RX2.out 0; have p1 := rowcell RX2.out 1; have p2 := rowcell RX2.out 2; have p3 := rowcell RX2.out 3; have p4 := rowcell RX2.out 4; have p5 := rowcell RX2.out 5; have pf := rowfree RX2.out; simp only [List.getElem?_toArray, List.getElem?_cons_zero, List.getElem?_cons_succ] at p0 p1 p2 p3 p4 p5; have q0 := rowcell RY2.out 0; have q1 := rowcell RY2.out 1; have q2 := rowcell RY2.out 2; have q3 := rowcell RY2.out 3; have q4 := rowcell RY2.out 4; have q5 := rowcell RY2.out 5; have qf := rowfree RY2.out; simp only [List.getElem?_toArray, List.getElem?_cons_zero, List.getElem?_cons_succ] at q0 q1 q2 q3 q4 q5; clear hb2 NX))
            all_goals first | (refine hQ.out _ _ ⟨?_, HB3.out⟩; rfl) | (exfalso; omega)
      · rw [if_pos ⟨rfl, rfl, rfl⟩] at hQ
        cases neg
        all_goals
            go_enter Try.func10, Try.ntmps10
            go_wp2_with (first
              | (have chk := T1; clear chk; go_at_call 16; refine (k2 _).mono ?_; rintro e w3 ⟨rfl, hb3⟩; have RX3 := (hb3.block w.heap.size z2).trans RX2.out; have RY3 := (hb3.block (w.heap.size + 1) z2').trans RY2.out; have x0 := rowcell RX3 0; have x1 := rowcell RX3 1; have x2 := rowcell RX3 2; have x3 := rowcell RX3 3; have x4 := rowcell RX3 4; have x5 := rowcell RX3 5; have xf := rowfree RX3; simp only [List.getElem?_toArray, List.getElem?_cons_zero, List.getElem?_cons_succ] at x0 x1 x2 x3 x4 x5; have y0 := rowcell RY3 0; have y1 := rowcell RY3 1; have y2 := rowcell RY3 2; have y3 := rowcell RY3 3; have y4 := rowcell RY3 4; have y5 := rowcell RY3 5; have yf := rowfree RY3; simp only [List.getElem?_toArray, List.getElem?_cons_zero, List.getElem?_cons_succ] at y0 y1 y2 y3 y4 y5; have HB3 : Hid (Below _ _ _) := cthen B2.out hb3; clear hb3 RX3 RY3)
              | (go_at_call 16; refine (k1 _).mono ?_; rintro e w2 ⟨rfl, hb2⟩; have RX2 : Hid _ := (hb2.block w.heap.size (by simp; omega)).trans ((Below.heap_alloc (w.alloc _) _ _ (by simp)).trans (rownew w _ _)); have RY2 : Hid _ := (hb2.block (w.heap.size + 1) (by simp)).trans (rownew' _ _ _ _ (by simp)); have z2 : w.heap.size < w2.heap.size := (by have := hb2.size; simp at this; omega); have z2' : w.heap.size + 1 < w2.heap.size := (by have := hb2.size; simp at this; omega); have NX := rowcell RX2.out 0; have B2 : Hid (Below _ _ _) := cthen (cmore (cmore (Below.refl _ _) _) _) hb2; have T1 : True := trivial; have p0 := rowcell RX2.out 0; have p1 := rowcell RX2.out 1; have p2 := rowcell RX2.out 2; have p3 := rowcell RX2.out 3; have p4 := rowcell RX2.out 4; have p5 := rowcell RX2.out 5; have pf := rowfree RX2.out; simp only [List.getElem?_toArray, List.getElem?_cons_zero, List.getElem?_cons_succ] at p0 p1 p2 p3 p4 p5; have q0 := rowcell RY2.out 0; have q1 := rowcell RY2.out 1; have q2 := rowcell RY2.out 2; have q3 := rowcell RY2.out 3; have q4 := rowcell RY2.out 4; have q5 := rowcell RY2.out 5; have qf := rowfree RY2.out; simp only [List.getElem?_toArray, List.getElem?_cons_zero, List.getElem?_cons_succ] at q0 q1 q2 q3 q4 q5; clear hb2 NX))
            all_goals first | (refine hQ.out _ _ ⟨?_, HB3.out⟩; rfl) | (exfalso; omega)
      · rw [if_neg (by omega), if_neg (by omega)] at hQ
        have d1 : decide ((lo : Int) < (lo' : Int)) = false := decide_eq_false (by omega)
        have d2 : ((lo : Int) == (lo' : Int)) = false := beq_eq_false_iff_ne.2 (by omega)
        cases neg
        all_goals
            go_enter Try.func10, Try.ntmps10
            go_wp2_with (first
              | (have chk := T1; clear chk; go_at_call 16; refine (k2 _).mono ?_; rintro e w3 ⟨rfl, hb3⟩; have RX3 := (hb3.block w.heap.size z2).trans RX2.out; have RY3 := (hb3.block (w.heap.size + 1) z2').trans RY2.out; have x0 := rowcell RX3 0; have x1 := rowcell RX3 1; have x2 := rowcell RX3 2; have x3 := rowcell RX3 3; have x4 := rowcell RX3 4; have x5 := rowcell RX3 5; have xf := rowfree RX3; simp only [List.getElem?_toArray, List.getElem?_cons_zero, List.getElem?_cons_succ] at x0 x1 x2 x3 x4 x5; have y0 := rowcell RY3 0; have y1 := rowcell RY3 1; have y2 := rowcell RY3 2; have y3 := rowcell RY3 3; have y4 := rowcell RY3 4; have y5 := rowcell RY3 5; have yf := rowfree RY3; simp only [List.getElem?_toArray, List.getElem?_cons_zero, List.getElem?_cons_succ] at y0 y1 y2 y3 y4 y5; have HB3 : Hid (Below _ _ _) := cthen B2.out hb3; clear hb3 RX3 RY3)
              | (go_at_call 16; refine (k1 _).mono ?_; rintro e w2 ⟨rfl, hb2⟩; have RX2 : Hid _ := (hb2.block w.heap.size (by simp; omega)).trans ((Below.heap_alloc (w.alloc _) _ _ (by simp)).trans (rownew w _ _)); have RY2 : Hid _ := (hb2.block (w.heap.size + 1) (by simp)).trans (rownew' _ _ _ _ (by simp)); have z2 : w.heap.size < w2.heap.size := (by have := hb2.size; simp at this; omega); have z2' : w.heap.size + 1 < w2.heap.size := (by have := hb2.size; simp at this; omega); have NX := rowcell RX2.out 0; have B2 : Hid (Below _ _ _) := cthen (cmore (cmore (Below.refl _ _) _) _) hb2; have T1 : True := trivial; have p0 := rowcell RX2.out 0; have p1 := rowcell RX2.out 1; have p2 := rowcell RX2.out 2; have p3 := rowcell RX2.out 3; have p4 := rowcell RX2.out 4; have p5 := rowcell RX2.out 5; have pf := rowfree RX2.out; simp only [List.getElem?_toArray, List.getElem?_cons_zero, List.getElem?_cons_succ] at p0 p1 p2 p3 p4 p5; have q0 := rowcell RY2.out 0; have q1 := rowcell RY2.out 1; have q2 := rowcell RY2.out 2; have q3 := rowcell RY2.out 3; have q4 := rowcell RY2.out 4; have q5 := rowcell RY2.out 5; have qf := rowfree RY2.out; simp only [List.getElem?_toArray, List.getElem?_cons_zero, List.getElem?_cons_succ] at q0 q1 q2 q3 q4 q5; clear hb2 NX))
            all_goals first | (refine hQ.out _ _ ⟨?_, HB3.out⟩; rfl) | (exfalso; omega)
    · rw [if_neg (by omega), if_neg (by omega)] at hQ
      have d1 : decide ((hi : Int) < (hi' : Int)) = false := decide_eq_false (by omega)
      have d2 : ((hi : Int) == (hi' : Int)) = false := beq_eq_false_iff_ne.2 (by omega)
      cases neg
      all_goals
          go_enter Try.func10, Try.ntmps10
          go_wp2_with (first
            | (have chk := T1; clear chk; go_at_call 16; refine (k2 _).mono ?_; rintro e w3 ⟨rfl, hb3⟩; have RX3 := (hb3.block w.heap.size z2).trans RX2.out; have RY3 := (hb3.block (w.heap.size + 1) z2').trans RY2.out; have x0 := rowcell RX3 0; have x1 := rowcell RX3 1; have x2 := rowcell RX3 2; have x3 := rowcell RX3 3; have x4 := rowcell RX3 4; have x5 := rowcell RX3 5; have xf := rowfree RX3; simp only [List.getElem?_toArray, List.getElem?_cons_zero, List.getElem?_cons_succ] at x0 x1 x2 x3 x4 x5; have y0 := rowcell RY3 0; have y1 := rowcell RY3 1; have y2 := rowcell RY3 2; have y3 := rowcell RY3 3; have y4 := rowcell RY3 4; have y5 := rowcell RY3 5; have yf := rowfree RY3; simp only [List.getElem?_toArray, List.getElem?_cons_zero, List.getElem?_cons_succ] at y0 y1 y2 y3 y4 y5; have HB3 : Hid (Below _ _ _) := cthen B2.out hb3; clear hb3 RX3 RY3)
            | (go_at_call 16; refine (k1 _).mono ?_; rintro e w2 ⟨rfl, hb2⟩; have RX2 : Hid _ := (hb2.block w.heap.size (by simp; omega)).trans ((Below.heap_alloc (w.alloc _) _ _ (by simp)).trans (rownew w _ _)); have RY2 : Hid _ := (hb2.block (w.heap.size + 1) (by simp)).trans (rownew' _ _ _ _ (by simp)); have z2 : w.heap.size < w2.heap.size := (by have := hb2.size; simp at this; omega); have z2' : w.heap.size + 1 < w2.heap.size := (by have := hb2.size; simp at this; omega); have NX := rowcell RX2.out 0; have B2 : Hid (Below _ _ _) := cthen (cmore (cmore (Below.refl _ _) _) _) hb2; have T1 : True := trivial; have p0 := rowcell RX2.out 0; have p1 := rowcell RX2.out 1; have p2 := rowcell RX2.out 2; have p3 := rowcell RX2.out 3; have p4 := rowcell RX2.out 4; have p5 := rowcell RX2.out 5; have pf := rowfree RX2.out; simp only [List.getElem?_toArray, List.getElem?_cons_zero, List.getElem?_cons_succ] at p0 p1 p2 p3 p4 p5; have q0 := rowcell RY2.out 0; have q1 := rowcell RY2.out 1; have q2 := rowcell RY2.out 2; have q3 := rowcell RY2.out 3; have q4 := rowcell RY2.out 4; have q5 := rowcell RY2.out 5; have qf := rowfree RY2.out; simp only [List.getElem?_toArray, List.getElem?_cons_zero, List.getElem?_cons_succ] at q0 q1 q2 q3 q4 q5; clear hb2 NX))
          all_goals first | (refine hQ.out _ _ ⟨?_, HB3.out⟩; rfl) | (exfalso; omega)
  · rw [if_neg (by omega), if_neg (by omega)] at hQ
    have d1 : decide (s < s') = false := decide_eq_false (by omega)
    have d2 : (s == s') = false := beq_eq_false_iff_ne.2 (by omega)
    cases neg
    all_goals
        go_enter Try.func10, Try.ntmps10
        go_wp2_with (first
          | (have chk := T1; clear chk; go_at_call 16; refine (k2 _).mono ?_; rintro e w3 ⟨rfl, hb3⟩; have RX3 := (hb3.block w.heap.size z2).trans RX2.out; have RY3 := (hb3.block (w.heap.size + 1) z2').trans RY2.out; have x0 := rowcell RX3 0; have x1 := rowcell RX3 1; have x2 := rowcell RX3 2; have x3 := rowcell RX3 3; have x4 := rowcell RX3 4; have x5 := rowcell RX3 5; have xf := rowfree RX3; simp only [List.getElem?_toArray, List.getElem?_cons_zero, List.getElem?_cons_succ] at x0 x1 x2 x3 x4 x5; have y0 := rowcell RY3 0; have y1 := rowcell RY3 1; have y2 := rowcell RY3 2; have y3 := rowcell RY3 3; have y4 := rowcell RY3 4; have y5 := rowcell RY3 5; have yf := rowfree RY3; simp only [List.getElem?_toArray, List.getElem?_cons_zero, List.getElem?_cons_succ] at y0 y1 y2 y3 y4 y5; have HB3 : Hid (Below _ _ _) := cthen B2.out hb3; clear hb3 RX3 RY3)
          | (go_at_call 16; refine (k1 _).mono ?_; rintro e w2 ⟨rfl, hb2⟩; have RX2 : Hid _ := (hb2.block w.heap.size (by simp; omega)).trans ((Below.heap_alloc (w.alloc _) _ _ (by simp)).trans (rownew w _ _)); have RY2 : Hid _ := (hb2.block (w.heap.size + 1) (by simp)).trans (rownew' _ _ _ _ (by simp)); have z2 : w.heap.size < w2.heap.size := (by have := hb2.size; simp at this; omega); have z2' : w.heap.size + 1 < w2.heap.size := (by have := hb2.size; simp at this; omega); have NX := rowcell RX2.out 0; have B2 : Hid (Below _ _ _) := cthen (cmore (cmore (Below.refl _ _) _) _) hb2; have T1 : True := trivial; have p0 := rowcell RX2.out 0; have p1 := rowcell RX2.out 1; have p2 := rowcell RX2.out 2; have p3 := rowcell RX2.out 3; have p4 := rowcell RX2.out 4; have p5 := rowcell RX2.out 5; have pf := rowfree RX2.out; simp only [List.getElem?_toArray, List.getElem?_cons_zero, List.getElem?_cons_succ] at p0 p1 p2 p3 p4 p5; have q0 := rowcell RY2.out 0; have q1 := rowcell RY2.out 1; have q2 := rowcell RY2.out 2; have q3 := rowcell RY2.out 3; have q4 := rowcell RY2.out 4; have q5 := rowcell RY2.out 5; have qf := rowfree RY2.out; simp only [List.getElem?_toArray, List.getElem?_cons_zero, List.getElem?_cons_succ] at q0 q1 q2 q3 q4 q5; clear hb2 NX))
        all_goals first | (refine hQ.out _ _ ⟨?_, HB3.out⟩; rfl) | (exfalso; omega)
end Go.Proofs.Ytajlgpamcpgalab

namespace Go.Proofs.Ytajlgpamcpgalab
open Go.ChangeShapes Go.WideShapes Go.ChangeAt Go.RowKit
set_option linter.unusedVariables false
set_option linter.unusedSimpArgs false
set_option maxRecDepth 100000

/-! ### a scale within the bound -/
def heldX (s : Int) : Int := if s < -1099511627776 then -1099511627776 else if s > 1099511627776 then 1099511627776 else s
end Go.Proofs.Ytajlgpamcpgalab

namespace Go.Proofs.Ytajlgpamcpgalab

/-! ### numbers as rows of digits of 24 bits, the lowest first -/
/-- what stands from digit k on -/
def top (n : Nat) : Nat → Nat
  | 0 => n
  | k + 1 => top n k / 16777216
theorem top_zero (n : Nat) : top n 0 = n := rfl
theorem top_succ (n k : Nat) : top n (k + 1) = top n k / 16777216 := rfl
theorem top_succ' (n k : Nat) : top n (k + 1) = top (n / 16777216) k := by
  induction k with
  | zero => rfl
  | succ k ih => rw [top_succ, ih, top_succ]
theorem top_eq (n k : Nat) : top n k = n / 16777216 ^ k := by
  induction k with
  | zero => simp [top]
  | succ k ih => rw [top_succ, ih, Nat.div_div_eq_div_mul, Nat.pow_succ]
theorem top_add (n j k : Nat) : top n (j + k) = top (top n j) k := by
  induction k with
  | zero => rfl
  | succ k ih => rw [← Nat.add_assoc, top_succ, ih, top_succ]
theorem top_zero_left (k : Nat) : top 0 k = 0 := by
  induction k with
  | zero => rfl
  | succ k ih => rw [top_succ, ih]
theorem top_mono (n : Nat) {j k : Nat} (h : j ≤ k) : top n k ≤ top n j := by
  obtain ⟨i, rfl⟩ := Nat.exists_eq_add_of_le h
  induction i with
  | zero => exact Nat.le_refl _
  | succ i ih => have := ih (by omega); rw [← Nat.add_assoc, top_succ]; omega
theorem top_div (n m k : Nat) : top (n / m) k = top n k / m := by
  rw [top_eq, top_eq, Nat.div_div_eq_div_mul, Nat.div_div_eq_div_mul, Nat.mul_comm]

/-- the lowest k digits -/
def low (n k : Nat) : List Nat := (List.range k).map fun i => top n i % 16777216
theorem low_length (n k : Nat) : (low n k).length = k := by simp [low]
theorem low_zero (n : Nat) : low n 0 = [] := rfl
theorem low_snoc (n k : Nat) : low n (k + 1) = low n k ++ [top n k % 16777216] := by simp [low, List.range_succ]
theorem low_cons (n k : Nat) : low n (k + 1) = n % 16777216 :: low (n / 16777216) k := by
  simp only [low, List.range_succ_eq_map, List.map_cons, List.map_map, top_zero]
  congr 1
  apply List.map_congr_left
  intro i _
  simp [top_succ']
theorem low_get (n k i : Nat) (h : i < k) : (low n k).getD i 0 = top n i % 16777216 := by
  simp [low, h]

def dig (n : Nat) : List Nat := if h : n = 0 then [] else n % 16777216 :: dig (n / 16777216)
theorem dig_zero : dig 0 = [] := by unfold dig; simp
theorem dig_pos {n : Nat} (h : n ≠ 0) : dig n = n % 16777216 :: dig (n / 16777216) := by
  conv => lhs; unfold dig
  simp [h]
/-- how many digits -/
def dlen (n : Nat) : Nat := (dig n).length
theorem dlen_zero : dlen 0 = 0 := by simp [dlen, dig_zero]
theorem dlen_pos {n : Nat} (h : n ≠ 0) : dlen n = dlen (n / 16777216) + 1 := by simp [dlen, dig_pos h]
theorem dlen_eq_zero {n : Nat} : dlen n = 0 ↔ n = 0 := by
  constructor
  · intro h; by_cases h0 : n = 0
    · exact h0
    · rw [dlen_pos h0] at h; omega
  · rintro rfl; exact dlen_zero
theorem top_pos_iff (n k : Nat) : 0 < top n k ↔ k < dlen n := by
  induction k generalizing n with
  | zero =>
    rw [top_zero]
    by_cases h : n = 0
    · subst h; simp [dlen_zero]
    · rw [dlen_pos h]; omega
  | succ k ih =>
    rw [top_succ', ih]
    by_cases h : n = 0
    · subst h; simp [dlen_zero]
    · rw [dlen_pos h]; omega
theorem top_eq_zero {n k : Nat} (h : dlen n ≤ k) : top n k = 0 := by
  by_cases hc : 0 < top n k
  · have := (top_pos_iff n k).1 hc; omega
  · omega
theorem low_dlen (n : Nat) : low n (dlen n) = dig n := by
  induction n using Nat.strongRecOn with
  | _ n ih =>
    by_cases h : n = 0
    · subst h; simp [dlen_zero, low_zero, dig_zero]
    · rw [dlen_pos h, low_cons, ih _ (by omega), ← dig_pos h]
theorem low_more (n k : Nat) : low n (dlen n + k) = dig n ++ List.replicate k 0 := by
  induction k with
  | zero => simp [low_dlen]
  | succ k ih => rw [← Nat.add_assoc, low_snoc, ih, top_eq_zero (by omega), List.append_assoc, List.replicate_succ']
theorem low_ge {n m : Nat} (h : dlen n ≤ m) : low n m = dig n ++ List.replicate (m - dlen n) 0 := by
  obtain ⟨k, rfl⟩ := Nat.exists_eq_add_of_le h
  rw [low_more]; congr 2; omega
theorem dig_get (n k : Nat) : (dig n).getD k 0 = top n k % 16777216 := by
  by_cases h : k < dlen n
  · rw [← low_dlen, low_get _ _ _ h]
  · rw [top_eq_zero (by omega), List.getD_eq_getElem?_getD, List.getElem?_eq_none (by unfold dlen at h; omega)]; rfl
theorem dig_length (n : Nat) : (dig n).length = dlen n := rfl
theorem dlen_mono {a b : Nat} (h : a ≤ b) : dlen a ≤ dlen b := by
  by_cases hc : dlen a ≤ dlen b
  · exact hc
  · have h1 : 0 < top a (dlen b) := (top_pos_iff a _).2 (by omega)
    have h2 : top b (dlen b) = 0 := top_eq_zero (Nat.le_refl _)
    rw [top_eq] at h1 h2
    have := Nat.div_le_div_right (c := 16777216 ^ dlen b) h
    omega
theorem dlen_le_of_lt {n k : Nat} (h : n < 16777216 ^ k) : dlen n ≤ k := by
  by_cases hc : dlen n ≤ k
  · exact hc
  · have h1 : 0 < top n k := (top_pos_iff n _).2 (by omega)
    rw [top_eq, Nat.div_eq_of_lt h] at h1; omega
theorem lt_of_dlen_le {n k : Nat} (h : dlen n ≤ k) : n < 16777216 ^ k := by
  have h1 := top_eq_zero h
  rw [top_eq] at h1
  exact (Nat.div_eq_zero_iff.1 h1).resolve_left (Nat.ne_of_gt (Nat.pow_pos (by decide)))
/-- the last digit is not nought -/
theorem dig_last {n : Nat} (h : n ≠ 0) : top n (dlen n - 1) % 16777216 ≠ 0 ∧ top n (dlen n - 1) = top n (dlen n - 1) % 16777216 := by
  have h1 : 0 < dlen n := by rw [dlen_pos h]; omega
  have h2 : 0 < top n (dlen n - 1) := (top_pos_iff _ _).2 (by omega)
  have h3 : top n (dlen n - 1 + 1) = 0 := top_eq_zero (by omega)
  rw [top_succ] at h3
  omega

/-- the number that a row of digits is -/
def val : List Nat → Nat
  | [] => 0
  | d :: l => d + 16777216 * val l
theorem val_cons (d : Nat) (l : List Nat) : val (d :: l) = d + 16777216 * val l := rfl
theorem val_append (l m : List Nat) : val (l ++ m) = val l + 16777216 ^ l.length * val m := by
  induction l with
  | nil => simp [val]
  | cons d l ih => simp only [List.cons_append, val_cons, ih, List.length_cons, Nat.pow_succ, Nat.mul_add]; rw [Nat.mul_comm (16777216 ^ l.length) 16777216, Nat.mul_assoc]; omega
theorem val_low (l : List Nat) (h : ∀ d ∈ l, d < 16777216) : low (val l) l.length = l := by
  induction l with
  | nil => rfl
  | cons d l ih =>
    have hd := h d (by simp)
    rw [List.length_cons, low_cons]
    have e1 : val (d :: l) % 16777216 = d := by rw [val_cons]; omega
    have e2 : val (d :: l) / 16777216 = val l := by rw [val_cons]; omega
    rw [e1, e2, ih (fun x hx => h x (by simp [hx]))]
theorem val_dig (n : Nat) : val (dig n) = n := by
  induction n using Nat.strongRecOn with
  | _ n ih =>
    by_cases h : n = 0
    · subst h; simp [dig_zero, val]
    · rw [dig_pos h, val_cons, ih _ (by omega)]; omega
theorem val_lt (l : List Nat) (h : ∀ d ∈ l, d < 16777216) : val l < 16777216 ^ l.length := by
  induction l with
  | nil => simp [val]
  | cons d l ih =>
    have hd := h d (by simp)
    have := ih (fun x hx => h x (by simp [hx]))
    rw [val_cons, List.length_cons, Nat.pow_succ]
    omega
theorem low_mem (n k d : Nat) (h : d ∈ low n k) : d < 16777216 := by
  simp only [low, List.mem_map] at h
  obtain ⟨i, _, rfl⟩ := h
  omega
theorem dig_mem (n d : Nat) (h : d ∈ dig n) : d < 16777216 := by rw [← low_dlen] at h; exact low_mem _ _ _ h
theorem dig_drop (n q : Nat) : (dig n).drop q = dig (top n q) := by
  induction q generalizing n with
  | zero => rfl
  | succ q ih =>
    by_cases h : n = 0
    · subst h; simp [dig_zero, top_zero_left]
    · rw [dig_pos h, List.drop_succ_cons, ih, top_succ']
theorem dig_shift {n : Nat} (h : n ≠ 0) (q : Nat) : dig (n * 16777216 ^ q) = List.replicate q 0 ++ dig n := by
  induction q with
  | zero => simp
  | succ q ih =>
    have hp : 0 < 16777216 ^ q := Nat.pow_pos (by decide)
    have h1 : n * 16777216 ^ (q + 1) ≠ 0 := Nat.mul_ne_zero h (Nat.ne_of_gt (Nat.pow_pos (by decide)))
    have e : n * 16777216 ^ (q + 1) = (n * 16777216 ^ q) * 16777216 := by rw [Nat.pow_succ, Nat.mul_assoc]
    rw [dig_pos h1, e, Nat.mul_mod_left, Nat.mul_div_cancel _ (by decide), ih, List.replicate_succ, List.cons_append]
theorem low_zeros (k : Nat) : low 0 k = List.replicate k 0 := by
  have := low_more 0 k
  rw [dlen_zero, dig_zero] at this; simpa using this
theorem dlen_top (n q : Nat) : dlen (top n q) = dlen n - q := by
  have := congrArg List.length (dig_drop n q)
  rw [List.length_drop] at this; unfold dlen; omega
/-- comparing: the first digit from above that differs -/
theorem cmp_len {a b : Nat} (h : dlen a < dlen b) : a < b := by
  by_cases hc : a < b
  · exact hc
  · have := dlen_mono (a := b) (b := a) (by omega); omega
theorem cmp_top {a b k : Nat} (h : top a k < top b k) : a < b := by
  by_cases hc : a < b
  · exact hc
  · rw [top_eq, top_eq] at h
    have := Nat.div_le_div_right (a := b) (b := a) (c := 16777216 ^ k) (by omega)
    omega
end Go.Proofs.Ytajlgpamcpgalab

namespace Go.Proofs.Ytajlgpamcpgalab
open Go.ChangeShapes Go.WideShapes Go.ChangeAt Go.RowKit
set_option linter.unusedVariables false
set_option maxRecDepth 100000

/-! ### rows of ints that are read -/
def enc (d : Nat) : Value := .int .i64 (d : Int)
/-- v is a slice of ints that reads as l in w -/
def Row (w : World) (v : Value) (l : List Nat) : Prop :=
  ∃ ao c, v = .slice ao l.length c ∧ c ≤ 9223372036854775807 ∧ l.length ≤ c ∧
    ((ao = none ∧ l = [] ∧ c = 0) ∨ ∃ b off, ao = some ⟨b, off, none⟩ ∧ b < w.heap.size ∧ ∀ j, j < l.length → w.cell? ⟨b, off + j, none⟩ = some (.int .i64 (l.getD j 0 : Nat)))
theorem Row.below {w w' : World} {v : Value} {l : List Nat} (h : Row w v l) (hb : Below w.heap.size w w') : Row w' v l := by
  obtain ⟨ao, c, rfl, hc, hl, h⟩ := h
  refine ⟨ao, c, rfl, hc, hl, ?_⟩
  rcases h with h | ⟨b, off, rfl, hlt, h⟩
  · exact .inl h
  · exact .inr ⟨b, off, rfl, Nat.lt_of_lt_of_le hlt hb.size, fun j hj => (hb.cell (p := ⟨b, off + j, none⟩) hlt).trans (h j hj)⟩
theorem row_nil (w : World) : Row w (.slice none 0 0) [] := ⟨none, 0, rfl, by decide, by decide, .inl ⟨rfl, rfl, rfl⟩⟩
theorem row_own {w : World} {base n : Nat} {e : TypeId} {v : Value} {l : List Nat} (h : w.ownsRow base e 1 v n (l.map enc)) : Row w v l := by
  obtain ⟨h1, h2⟩ := h
  rcases h2 with ⟨rfl, rfl⟩ | ⟨g, cap, cur, rfl, _, hg, hn, hcap, hsz, ht⟩
  · have : l = [] := by simpa using h1
    subst this; exact row_nil w
  · have hl : l.length = n := by simpa using h1
    subst hl
    unfold maxLen at hcap
    refine ⟨_, cap, rfl, by omega, hn, .inr ⟨g, 0, rfl, ?_, ?_⟩⟩
    · exact (Array.getElem?_eq_some_iff.1 hg).1
    · intro j hj
      have hc : cur[j]? = some (.int .i64 (l.getD j 0 : Nat)) := by
        have e1 : (cur.toList.take (l.length * 1))[j]? = (l.map enc)[j]? := by rw [ht]
        rw [List.getElem?_take_of_lt (by omega)] at e1
        simpa [hj, enc] using e1
      simp [World.cell?, hg, hc]
/-- how a row goes into a walk -/
theorem Row.out {w : World} {v : Value} {l : List Nat} (h : Row w v l) : ∃ ao c, v = .slice ao l.length c ∧ c ≤ 9223372036854775807 ∧ l.length ≤ c ∧
    (l.length = 0 ∨ ∃ b off, ao = some ⟨b, off, none⟩ ∧ ∀ j, j < l.length → w.cell? ⟨b, off + j, none⟩ = some (.int .i64 (l.getD j 0 : Nat))) := by
  obtain ⟨ao, c, rfl, hc, hl, h⟩ := h
  refine ⟨ao, c, rfl, hc, hl, ?_⟩
  rcases h with ⟨_, rfl, _⟩ | ⟨b, off, rfl, _, h⟩
  · exact .inl rfl
  · exact .inr ⟨b, off, rfl, h⟩

theorem infoInt : (Try.prog.info? 3).map (fun i => (i.zero, i.size, i.bytes)) = some (some (.int .i64 0), 1, 8) := by kernel_rfl

/-- a number's slice, as the walk wants it -/
theorem Row.num {w : World} {v : Value} {n : Nat} (h : Row w v (dig n)) : ∃ ao c, v = .slice ao (dlen n) c ∧ c ≤ 9223372036854775807 ∧ dlen n ≤ c := by
  obtain ⟨ao, c, rfl, hc, hl, _⟩ := h
  exact ⟨ao, c, rfl, hc, hl⟩

/-- 'l[:n]' of a row -/
theorem Row.take {w : World} {ao : Option Addr} {c k : Nat} {l : List Nat} (h : Row w (.slice ao k c) l) (n : Nat) (hn : n ≤ l.length) : Row w (.slice ao n c) (l.take n) := by
  obtain ⟨ao', c', he, hc, hl, h⟩ := h
  injection he with e1 e2 e3
  subst e1 e2 e3
  have e : (l.take n).length = n := by rw [List.length_take]; omega
  refine ⟨ao, c, by rw [e], hc, by omega, ?_⟩
  rcases h with ⟨h1, h2, h3⟩ | ⟨b, off, h1, h2, h3⟩
  · exact .inl ⟨h1, by rw [h2]; simp, h3⟩
  · refine .inr ⟨b, off, h1, h2, fun j hj => ?_⟩
    rw [e] at hj
    rw [h3 j (by omega), List.getD_eq_getElem?_getD, List.getD_eq_getElem?_getD, List.getElem?_take_of_lt hj]

end Go.Proofs.Ytajlgpamcpgalab

namespace Go.Proofs.Ytajlgpamcpgalab
open Go.ChangeShapes Go.WideShapes Go.ChangeAt Go.RowKit
set_option linter.unusedVariables false
set_option maxRecDepth 100000

/-- how a number's slice goes into a walk that reads its elements -/
theorem Row.reads {w : World} {v : Value} {n : Nat} (h : Row w v (dig n)) : ∃ ao c, v = .slice ao (dlen n) c ∧ c ≤ 9223372036854775807 ∧ dlen n ≤ c ∧
    (dlen n = 0 ∨ ∃ b off, ao = some ⟨b, off, none⟩ ∧ b < w.heap.size ∧ ∀ j, j < dlen n → w.cell? ⟨b, off + j, none⟩ = some (.int .i64 (top n j % 16777216 : Nat))) := by
  obtain ⟨ao, c, rfl, hc, hl, h⟩ := h
  refine ⟨ao, c, rfl, hc, hl, ?_⟩
  rcases h with ⟨_, h, _⟩ | ⟨b, off, rfl, hb, h⟩
  · exact .inl (by unfold dlen; rw [h]; rfl)
  · exact .inr ⟨b, off, rfl, hb, fun j hj => by rw [h j hj, dig_get]⟩
theorem owns_drewN {w : World} {base n sz : Nat} {e : TypeId} {v : Value} {xs : List Value} (h : w.ownsRow base e sz v n xs) (q : Nat) : (w.drewN q).ownsRow base e sz v n xs := h

theorem mul_part (A q : Nat) : A * q = 16777216 * (A / 16777216 * q) + A % 16777216 * q := by
  conv => lhs; rw [← Nat.div_add_mod A 16777216]
  rw [Nat.add_mul, Nat.mul_assoc]

end Go.Proofs.Ytajlgpamcpgalab

namespace Go.Proofs.Ytajlgpamcpgalab
open Go.ChangeShapes Go.WideShapes Go.ChangeAt Go.RowKit
set_option linter.unusedVariables false
set_option maxRecDepth 100000

theorem owns_below {w w' : World} {base n sz : Nat} {e : TypeId} {v : Value} {xs : List Value} (h : w.ownsRow base e sz v n xs) (hb : Below w.heap.size w w') : w'.ownsRow base e sz v n xs := by
  refine ⟨h.1, ?_⟩
  rcases h.2 with hn | ⟨g, cap, cur, rfl, hg, hgg, rest⟩
  · exact .inl hn
  · refine .inr ⟨g, cap, cur, rfl, hg, ?_, rest⟩
    rw [hb.block g (Array.getElem?_eq_some_iff.1 hgg).1]; exact hgg
theorem made_ints (n : Nat) : (madeCells (Value.int .i64 0).cells (n * 1)).toList = (List.replicate n 0).map enc := by
  have e : ∀ x : Nat, [Value.int .i64 0][x % 1]?.getD default = .int .i64 0 := fun x => by rw [Nat.mod_one]; rfl
  simp [madeCells, enc, Value.cells, e, List.map_const']
/-- 'l[q:]' of a row -/
theorem Row.drop {w : World} {b off c : Nat} {n k : Nat} (h : Row w (.slice (some ⟨b, off, none⟩) k c) (dig n)) (q : Nat) (hq : q ≤ dlen n) : Row w (.slice (some ⟨b, off + q, none⟩) (dlen n - q) (c - q)) (dig (top n q)) := by
  obtain ⟨ao', c', he, hc, hl, h⟩ := h
  injection he with e1 e2 e3
  subst e1 e2 e3
  have hl' : dlen n ≤ c := hl
  refine ⟨_, c - q, by rw [dig_length, dlen_top], by omega, by rw [dig_length, dlen_top]; omega, ?_⟩
  rcases h with ⟨h1, h2⟩ | ⟨b', off', h1, h2, h3⟩
  · simp at h1
  · simp at h1
    obtain ⟨rfl, rfl⟩ := h1
    refine .inr ⟨_, _, rfl, h2, fun j hj => ?_⟩
    rw [dig_length, dlen_top] at hj
    rw [Nat.add_assoc, h3 (q + j) (by rw [dig_length]; omega), dig_get, dig_get, top_add]

theorem row_lit (w : World) (e : TypeId) (d : Nat) (hd : d ≠ 0) (hd2 : d < 16777216) : Row (w.alloc (.cells #[.int .i64 (d : Int)] e)) (.slice (some ⟨w.heap.size, 0, none⟩) 1 1) (dig d) := by
  have hl : dig d = [d] := by rw [dig_pos hd, show d / 16777216 = 0 by omega, dig_zero, Nat.mod_eq_of_lt hd2]
  rw [hl]
  refine ⟨_, 1, rfl, by decide, Nat.le_refl _, .inr ⟨_, 0, rfl, by simp, fun j hj => ?_⟩⟩
  have : j = 0 := by simpa using hj
  subst this
  exact World.cell?_alloc_at _ _ _ _ rfl

end Go.Proofs.Ytajlgpamcpgalab

namespace Go.Proofs.Ytajlgpamcpgalab
open Go.ChangeShapes Go.WideShapes Go.ChangeAt Go.RowKit
set_option linter.unusedVariables false
set_option maxRecDepth 100000

theorem shr_digit (Y r : Nat) (hr : r < 24) : Y % 16777216 / 2 ^ r + Y / 16777216 % 16777216 % 2 ^ r * (16777216 / 2 ^ r) = Y / 2 ^ r % 16777216 := by
  have h : r = 0 ∨ r = 1 ∨ r = 2 ∨ r = 3 ∨ r = 4 ∨ r = 5 ∨ r = 6 ∨ r = 7 ∨ r = 8 ∨ r = 9 ∨ r = 10 ∨ r = 11 ∨ r = 12 ∨ r = 13 ∨ r = 14 ∨ r = 15 ∨ r = 16 ∨ r = 17 ∨ r = 18 ∨ r = 19 ∨ r = 20 ∨ r = 21 ∨ r = 22 ∨ r = 23 := by omega
  rcases h with h | h | h | h | h | h | h | h | h | h | h | h | h | h | h | h | h | h | h | h | h | h | h | h <;> subst h <;> simp only [Nat.reducePow, Nat.reduceDiv] <;> omega

/-- the lowest k digits, and noughts behind -/
def lowz (n k m : Nat) : List Nat := low n k ++ List.replicate (m - k) 0
theorem lowz_zero (n m : Nat) : lowz n 0 m = List.replicate m 0 := by simp [lowz, low_zero]
theorem lowz_all (n m : Nat) : lowz n m m = low n m := by simp [lowz]
theorem lowz_set (n k m : Nat) (h : k < m) : (lowz n k m).set k (top n k % 16777216) = lowz n (k + 1) m := by
  unfold lowz
  obtain ⟨j, rfl⟩ : ∃ j, m = k + 1 + j := ⟨m - k - 1, by omega⟩
  rw [show k + 1 + j - k = j + 1 by omega, show k + 1 + j - (k + 1) = j by omega, List.replicate_succ, low_snoc, List.set_append]
  simp [low_length]

theorem Row.drew {w : World} {v : Value} {l : List Nat} (h : Row w v l) : Row w.drew v l := h.below (Below.refl _ _).drew
theorem Row.cells {w : World} {b off k c n : Nat} (h : Row w (.slice (some ⟨b, off, none⟩) k c) (dig n)) : ∀ j, j < dlen n → w.cell? ⟨b, off + j, none⟩ = some (.int .i64 (top n j % 16777216 : Nat)) := by
  obtain ⟨ao, c', he, _, _, hr⟩ := h.reads
  injection he with e1 _ _
  subst e1
  intro j hj
  rcases hr with hr | ⟨b', off', e, _, hr⟩
  · omega
  · simp at e
    obtain ⟨rfl, rfl⟩ := e
    exact hr j hj

end Go.Proofs.Ytajlgpamcpgalab

namespace Go.Proofs.Ytajlgpamcpgalab
open Go.ChangeShapes Go.WideShapes Go.ChangeAt Go.RowKit
set_option linter.unusedVariables false
set_option maxRecDepth 100000

/-! ### how many bits -/
def blen (n : Nat) : Nat := if h : n = 0 then 0 else blen (n / 2) + 1
theorem blen_zero : blen 0 = 0 := by unfold blen; simp
theorem blen_pos {n : Nat} (h : n ≠ 0) : blen n = blen (n / 2) + 1 := by
  conv => lhs; unfold blen
  simp [h]
theorem blen_le {n m : Nat} : blen n ≤ m ↔ n < 2 ^ m := by
  induction m generalizing n with
  | zero =>
    by_cases h : n = 0
    · subst h; simp [blen_zero]
    · rw [blen_pos h]; simp; exact h
  | succ m ih =>
    by_cases h : n = 0
    · subst h; simp [blen_zero]; exact Nat.pow_pos (by decide)
    · rw [blen_pos h, Nat.add_le_add_iff_right, ih, Nat.pow_succ]; omega
theorem blen_shift {a k : Nat} (h : a / 2 ^ k ≠ 0) : blen a = blen (a / 2 ^ k) + k := by
  induction k with
  | zero => simp
  | succ k ih =>
    have e : a / 2 ^ (k + 1) = a / 2 ^ k / 2 := by rw [Nat.pow_succ, Nat.div_div_eq_div_mul]
    have h1 : a / 2 ^ k ≠ 0 := by intro h2; rw [e, h2] at h; simp at h
    rw [ih h1, blen_pos h1, e]; omega
theorem blen_top {a : Nat} (h : a ≠ 0) : blen a = blen (top a (dlen a - 1)) + 24 * (dlen a - 1) := by
  have e : top a (dlen a - 1) = a / 2 ^ (24 * (dlen a - 1)) := by
    rw [top_eq, show (16777216 : Nat) = 2 ^ 24 by decide, ← Nat.pow_mul]
  have h2 := (dig_last h).1
  have h3 : top a (dlen a - 1) ≠ 0 := by intro h4; rw [h4] at h2; simp at h2
  rw [e] at h3 ⊢
  exact blen_shift h3

/-! ### comparing -/
def cmpN (a b : Nat) : Int := if a < b then -1 else if a = b then 0 else 1
theorem cmpN_lt {a b : Nat} (h : a < b) : cmpN a b = -1 := by simp [cmpN, h]
theorem cmpN_gt {a b : Nat} (h : b < a) : cmpN a b = 1 := by unfold cmpN; rw [if_neg (by omega), if_neg (by omega)]
theorem cmpN_eq (a : Nat) : cmpN a a = 0 := by simp [cmpN]
/-! ### is one of the lowest bits 1? -/
theorem low_part (a i m : Nat) (hm : m ≤ 24) (h : 2 ^ (24 * i) ∣ a) : top a i % 16777216 % 2 ^ m = 0 ↔ 2 ^ (24 * i + m) ∣ a := by
  obtain ⟨x, rfl⟩ := h
  have e : top (2 ^ (24 * i) * x) i = x := by
    rw [top_eq, show (16777216 : Nat) = 2 ^ 24 by decide, ← Nat.pow_mul, Nat.mul_div_cancel_left _ (Nat.pow_pos (by decide))]
  have hd : 2 ^ m ∣ 16777216 := by rw [show (16777216 : Nat) = 2 ^ 24 by decide]; exact Nat.pow_dvd_pow 2 hm
  rw [e, Nat.mod_mod_of_dvd _ hd, Nat.pow_add, Nat.mul_dvd_mul_iff_left (Nat.pow_pos (by decide))]
  exact (Nat.dvd_iff_mod_eq_zero).symm
theorem low_end (a i : Nat) (h : 2 ^ (24 * i) ∣ a) (hi : dlen a ≤ i) : a = 0 := by
  have h1 := lt_of_dlen_le hi
  rw [show (16777216 : Nat) = 2 ^ 24 by decide, ← Nat.pow_mul] at h1
  exact Nat.eq_zero_of_dvd_of_lt h h1
end Go.Proofs.Ytajlgpamcpgalab

namespace Go.Proofs.Ytajlgpamcpgalab
open Go.ChangeShapes Go.WideShapes Go.ChangeAt Go.RowKit
set_option linter.unusedVariables false
set_option linter.unusedSimpArgs false
set_option maxRecDepth 100000

/-! ### a natural number's first 128 bits, and whether something is lost -/
def normN (M : Nat) : Nat := if blen M < 128 then M * 2 ^ (128 - blen M) else M / 2 ^ (blen M - 128)
def lostN (M : Nat) : Bool := decide (128 < blen M) && decide (M % 2 ^ (blen M - 128) ≠ 0)
def exactV (neg : Bool) (M : Nat) (exp : Int) (rest : Bool) : Value :=
  if M = 0 then exV 0 false 0 0 0 false else exV 1 neg (heldX (exp + blen M - 1)) (normN M / 2 ^ 64 % 2 ^ 64) (normN M % 2 ^ 64) (rest || lostN M)
theorem blen_lo {M : Nat} (h : M ≠ 0) : 2 ^ (blen M - 1) ≤ M := by
  have := @blen_le M (blen M - 1)
  have hp : blen M ≠ 0 := by rw [blen_pos h]; omega
  refine Nat.le_of_not_lt fun hlt => ?_
  have := this.2 hlt
  omega
theorem blen_hi (M : Nat) : M < 2 ^ blen M := blen_le.1 (Nat.le_refl _)
/-- the first of the 128 bits is a 1 -/
theorem normN_mant {M : Nat} (h : M ≠ 0) : 2 ^ 127 ≤ normN M ∧ normN M < 2 ^ 128 := by
  have h1 := blen_lo h
  have h2 := blen_hi M
  have hp : 1 ≤ blen M := by rw [blen_pos h]; omega
  unfold normN
  split
  · rename_i hc
    constructor
    · have := Nat.mul_le_mul_right (2 ^ (128 - blen M)) h1
      rwa [← Nat.pow_add, show blen M - 1 + (128 - blen M) = 127 by omega] at this
    · have := Nat.mul_lt_mul_of_pos_right h2 (show 0 < 2 ^ (128 - blen M) from Nat.pow_pos (by decide))
      rwa [← Nat.pow_add, show blen M + (128 - blen M) = 128 by omega] at this
  · rename_i hc
    constructor
    · rw [Nat.le_div_iff_mul_le (Nat.pow_pos (by decide)), ← Nat.pow_add, show 127 + (blen M - 128) = blen M - 1 by omega]
      exact h1
    · rw [Nat.div_lt_iff_lt_mul (Nat.pow_pos (by decide)), ← Nat.pow_add, show 128 + (blen M - 128) = blen M by omega]
      exact h2
theorem normN_words {M : Nat} (h : M ≠ 0) : WordsX (normN M / 2 ^ 64 % 2 ^ 64) (normN M % 2 ^ 64) := by
  obtain ⟨h1, h2⟩ := normN_mant h
  have e1 : normN M / 2 ^ 64 < 2 ^ 64 := by rw [Nat.div_lt_iff_lt_mul (Nat.pow_pos (by decide)), ← Nat.pow_add]; exact h2
  have e2 : 2 ^ 63 ≤ normN M / 2 ^ 64 := by rw [Nat.le_div_iff_mul_le (Nat.pow_pos (by decide)), ← Nat.pow_add]; exact h1
  rw [Nat.mod_eq_of_lt e1]
  exact ⟨e2, e1, Nat.mod_lt _ (by decide)⟩
end Go.Proofs.Ytajlgpamcpgalab

namespace Go.Proofs.Ytajlgpamcpgalab
open Go.ChangeShapes Go.WideShapes Go.ChangeAt Go.RowKit
set_option linter.unusedVariables false
set_option linter.unusedSimpArgs false
set_option maxRecDepth 100000

theorem Row.setU {w : World} {v : Value} {l : List Nat} (h : Row w v l) (m k : Nat) (u u' : Value) (hc : w.cell? ⟨m, k, none⟩ = some u) (hu : ∀ x, u ≠ .int .i64 x) : Row (w.setCell ⟨m, k, none⟩ u') v l := by
  obtain ⟨ao, c, rfl, hc1, hl, h⟩ := h
  refine ⟨ao, c, rfl, hc1, hl, ?_⟩
  rcases h with h | ⟨b, off, rfl, hlt, h⟩
  · exact .inl h
  · refine .inr ⟨b, off, rfl, by simpa using hlt, fun j hj => ?_⟩
    have hj2 := h j hj
    have hne : (⟨m, k, none⟩ : Addr) ≠ ⟨b, off + j, none⟩ := fun e => by
      rw [← e, hc] at hj2
      exact hu _ (Option.some.inj hj2)
    rw [World.cell?_setCell_other _ _ _ _ hne]
    exact hj2
theorem dlen_of_blen {M : Nat} (h : blen M ≤ 1099511627776) : dlen M ≤ 1099511627776 := by
  refine Nat.le_trans (dlen_le_of_lt ?_) h
  refine Nat.lt_of_lt_of_le (blen_hi M) ?_
  rw [show (16777216 : Nat) = 2 ^ 24 by decide, ← Nat.pow_mul]
  exact Nat.pow_le_pow_right (by decide) (by omega)
theorem dlen_mant {K : Nat} (h : K < 2 ^ 128) : dlen K ≤ 1099511627776 := by
  refine Nat.le_trans (dlen_le_of_lt (k := 6) (Nat.lt_of_lt_of_le h (by decide))) (by decide)
theorem heldX_bounds (s : Int) : -1099511627776 ≤ heldX s ∧ heldX s ≤ 1099511627776 := by unfold heldX; split <;> (try split) <;> omega
theorem cset6 {a W : World} {m : Nat} {v0 v1 v2 v3 v4 v5 : Value} (h : Below a.heap.size a W) (hb : a.heap.size ≤ m) :
    Below a.heap.size a ((((((W.setCell ⟨m, 0, none⟩ v0).setCell ⟨m, 1, none⟩ v1).setCell ⟨m, 2, none⟩ v2).setCell ⟨m, 3, none⟩ v3).setCell ⟨m, 4, none⟩ v4).setCell ⟨m, 5, none⟩ v5) :=
  cset (cset (cset (cset (cset (cset h hb 0 v0) hb 1 v1) hb 2 v2) hb 3 v3) hb 4 v4) hb 5 v5
end Go.Proofs.Ytajlgpamcpgalab

namespace Go.Proofs.Ytajlgpamcpgalab
open Go.ChangeShapes Go.WideShapes Go.ChangeAt Go.RowKit
set_option linter.unusedVariables false
set_option linter.unusedSimpArgs false
set_option maxRecDepth 100000

theorem exactV_form (neg : Bool) (M : Nat) (exp : Int) (rest : Bool) : ∃ k b s h l r, exactV neg M exp rest = exV k b s h l r := by
  unfold exactV
  split
  · exact ⟨_, _, _, _, _, _, rfl⟩
  · exact ⟨_, _, _, _, _, _, rfl⟩
/-! ### Makes -/
def farE (exp : Int) : Int := if exp < -1125899906842624 then -1125899906842624 else if exp > 1125899906842624 then 1125899906842624 else exp
theorem exactV_far (neg : Bool) (M : Nat) (exp : Int) (rest : Bool) (hM : M < 2 ^ 128) : exactV neg M (farE exp) rest = exactV neg M exp rest := by
  by_cases h0 : M = 0
  · unfold exactV; rw [if_pos h0, if_pos h0]
  · have h1 : blen M ≤ 128 := blen_le.2 hM
    unfold exactV
    rw [if_neg h0, if_neg h0]
    congr 1
    unfold heldX farE
    have hb2 : 0 ≤ ((blen M : Nat) : Int) ∧ ((blen M : Nat) : Int) ≤ 128 := by omega
    generalize ((blen M : Nat) : Int) = b at *
    repeat' split
    all_goals omega
theorem manX_lt {hi lo : Nat} (hh : hi < 2 ^ 64) (hl : lo < 2 ^ 64) : manX hi lo < 2 ^ 128 := by unfold manX; omega
end Go.Proofs.Ytajlgpamcpgalab

namespace Go.Proofs.Ytajlgpamcpgalab
open Go.ChangeShapes Go.WideShapes Go.ChangeAt Go.RowKit
set_option linter.unusedVariables false

/-! ### numbers of 128 bits -/
structure Tw (n h l : Nat) : Prop where
  eq : n = h * 18446744073709551616 + l
  hi : h ≤ 18446744073709551615
  lo : l ≤ 18446744073709551615
theorem Tw.mk' {h l : Nat} (a : h ≤ 18446744073709551615) (b : l ≤ 18446744073709551615) : Tw (h * 18446744073709551616 + l) h l := ⟨rfl, a, b⟩

theorem bmore {a w : World} (h : Below a.heap.size a w) (o : Obj) : Below a.heap.size a (w.alloc o) := h.alloc h.size o

theorem maskN (a : Nat) (ha : a < 18446744073709551616) : bits .and .u64 (a : Int) 4294967295 = ((a % 4294967296 : Nat) : Int) := by
  have e := u64_and_nat a 4294967295 ha (by decide)
  rw [show ((4294967295 : Nat) : Int) = 4294967295 from rfl] at e
  rw [e, show (4294967295 : Nat) = 2 ^ 32 - 1 from rfl, Nat.and_two_pow_sub_one_eq_mod]
theorem divN (a : Nat) : (a : Int) / 4294967296 = ((a / 4294967296 : Nat) : Int) := by omega
theorem mulN (a b : Nat) : (a : Int) * (b : Int) = ((a * b : Nat) : Int) := (Int.natCast_mul a b).symm
theorem addN (a b : Nat) : (a : Int) + (b : Int) = ((a + b : Nat) : Int) := (Int.natCast_add a b).symm
theorem wrapU (a : Nat) (ha : a < 18446744073709551616) : IntKind.u64.wrap (a : Int) = (a : Int) := by rw [IntKind.wrap_u64]; omega
theorem wrapM (a : Nat) : IntKind.u64.wrap (a : Int) = ((a % 18446744073709551616 : Nat) : Int) := by rw [IntKind.wrap_u64]; omega
end Go.Proofs.Ytajlgpamcpgalab

namespace Go.Proofs.Ytajlgpamcpgalab
open Go.ChangeShapes Go.WideShapes Go.ChangeAt Go.RowKit
set_option linter.unusedVariables false

theorem bthen {a W w : World} (h : Below a.heap.size a W) (hb : Below W.heap.size W w) : Below a.heap.size a w := h.trans (hb.mono h.size)
theorem bdrew {a W : World} (h : Below a.heap.size a W) : Below a.heap.size a W.drew := h.drew
theorem bdrewN {a W : World} (h : Below a.heap.size a W) (q : Nat) : Below a.heap.size a (W.drewN q) := below_drewN h q

theorem drew_at (w : World) (c : Array Value) (t : TypeId) (n i : Nat) (hn : n = w.heap.size) : (w.alloc (.cells c t)).drew.cell? ⟨n, i, none⟩ = c[i]? := World.cell?_alloc_at c t n i hn
theorem bcell {W w1 : World} (hb : Below W.heap.size W w1) : (∀ b o, b < W.heap.size → w1.cell? ⟨b, o, none⟩ = W.cell? ⟨b, o, none⟩) ∧ (∀ b o, b < W.heap.size → w1.frozen? ⟨b, o, none⟩ = W.frozen? ⟨b, o, none⟩) :=
  ⟨fun b o h => hb.cell (p := ⟨b, o, none⟩) h, fun b o h => hb.frozen (p := ⟨b, o, none⟩) h⟩
theorem bset {a W : World} {b : Nat} (h : Below a.heap.size a W) (hb : a.heap.size ≤ b) (o : Nat) (v : Value) : Below a.heap.size a (W.setCell ⟨b, o, none⟩ v) := h.setCell hb _
theorem Tw.lt {n h l : Nat} (t : Tw n h l) : n < 340282366920938463463374607431768211456 := by
  obtain ⟨e, a, b⟩ := t; omega
/-! ### cmp -/
theorem isnan_any (x : Nat) (w : World) : Calls Try.prog 44 #[.int .u64 x] w fun e w' => e = .returned (.bool false) ∧ w' = w := by
  refine cps fun Q hQ => ?_
  go_enter Try.func44, Try.ntmps44
  go_wp2
  exact hQ.out _ _ ⟨by simp, rfl⟩
theorem compare_any (x y : Nat) (w : World) : Calls Try.prog 43 #[.int .u64 x, .int .u64 y] w fun e w' => e = .returned (.int .i64 (cmpN x y)) ∧ w' = w := by
  refine cps fun Q hQ => ?_
  have hE : (x < y ∧ cmpN x y = -1) ∨ (y < x ∧ cmpN x y = 1) ∨ (x = y ∧ cmpN x y = 0) := by
    unfold cmpN; split
    · exact .inl ⟨by assumption, rfl⟩
    · split
      · exact .inr (.inr ⟨by assumption, rfl⟩)
      · exact .inr (.inl ⟨by omega, rfl⟩)
  rcases hE with ⟨h, hE⟩ | ⟨h, hE⟩ | ⟨h, hE⟩
  all_goals
    rw [hE] at hQ
    have hlt : ((x : Int) < (y : Int)) = (x < y) := by simp
    clear hE
    go_enter Try.func43, Try.ntmps43
    go_wp2_with (go_at_call 44; refine (isnan_any _ _).mono ?_; rintro e w' ⟨rfl, hw⟩; rw [hw]; clear hw w')
    exact hQ.out _ _ ⟨rfl, rfl⟩
theorem or_any (x y : Int) (g : Nat) (w : World) (c1 : w.cell? ⟨g, 0, none⟩ = some (.int .i64 x)) (c2 : w.cell? ⟨g, 1, none⟩ = some (.int .i64 y)) :
    Calls Try.prog 42 #[.slice (some ⟨g, 0, none⟩) 2 2] w fun e w' => e = .returned (.int .i64 (if x = 0 then y else x)) ∧ w' = w := by
  refine cps fun Q hQ => ?_
  go_enter Try.func42, Try.ntmps42
  go_wp2
  go_loop [8] (fun i => i = .int .i64 0 ∨ (i = .int .i64 1 ∧ x = 0) ∨ (i = .int .i64 2 ∧ x = 0 ∧ y = 0)) (fun i => (2 - intOf i).toNat)
  case atStart => exact .inl rfl
  case round =>
    rcases hrel with rfl | ⟨rfl, hx⟩ | ⟨rfl, hx, hy⟩
    · by_cases hx : x = 0
      · subst hx
        go_wp2
        go_round
        case rel => exact .inr (.inl ⟨rfl, by trivial⟩)
        case measure => simp [intOf]
      · rw [if_neg hx] at hQ
        go_wp2
        exact hQ.out _ _ ⟨rfl, rfl⟩
    · subst hx
      rw [if_pos rfl] at hQ
      by_cases hy : y = 0
      · subst hy
        go_wp2
        go_round
        case rel => exact .inr (.inr ⟨rfl, by trivial, by trivial⟩)
        case measure => simp [intOf]
      · go_wp2
        exact hQ.out _ _ ⟨rfl, rfl⟩
    · subst hx hy
      rw [if_pos rfl] at hQ
      go_wp2
      exact hQ.out _ _ ⟨rfl, rfl⟩
theorem or_any' (x y z : Int) (hz : z = if x = 0 then y else x) (g : Nat) (w : World) (c1 : w.cell? ⟨g, 0, none⟩ = some (.int .i64 x)) (c2 : w.cell? ⟨g, 1, none⟩ = some (.int .i64 y)) :
    Calls Try.prog 42 #[.slice (some ⟨g, 0, none⟩) 2 2] w fun e w' => e = .returned (.int .i64 z) ∧ w' = w := by rw [hz]; exact or_any x y g w c1 c2
theorem cmp_words {a b h1 l1 h2 l2 : Nat} (ha : Tw a h1 l1) (hb : Tw b h2 l2) : (if cmpN h1 h2 = 0 then cmpN l1 l2 else cmpN h1 h2) = cmpN a b := by
  obtain ⟨ea, ha1, ha2⟩ := ha
  obtain ⟨eb, hb1, hb2⟩ := hb
  rcases Nat.lt_trichotomy h1 h2 with h | h | h
  · rw [cmpN_lt h, cmpN_lt (show a < b by omega)]; rfl
  · subst h
    rw [cmpN_eq, if_pos rfl]
    rcases Nat.lt_trichotomy l1 l2 with h | h | h
    · rw [cmpN_lt h, cmpN_lt (show a < b by omega)]
    · subst h; rw [cmpN_eq, show a = b by omega, cmpN_eq]
    · rw [cmpN_gt h, cmpN_gt (show b < a by omega)]
  · rw [cmpN_gt h, cmpN_gt (show b < a by omega)]; rfl
theorem cmpN_rng (x y : Nat) : -1 ≤ cmpN x y ∧ cmpN x y ≤ 1 := by unfold cmpN; split <;> (try split) <;> omega

/-! ### Len -/
theorem bitLen_eq (x : Nat) (hx : x ≤ 18446744073709551615) : Lib.bitLen x = blen x := by
  have h1 : ∀ f x : Nat, x < 2 ^ f → Lib.bitLenAux f x = blen x := by
    intro f
    induction f with
    | zero => intro x h; have : x = 0 := by omega
              subst this; rw [blen_zero]; rfl
    | succ f ih =>
      intro x h
      unfold Lib.bitLenAux
      by_cases h0 : x = 0
      · subst h0; rw [blen_zero]; rfl
      · rw [if_neg h0, blen_pos h0, ih _ (by rw [Nat.pow_succ] at h; omega), Nat.add_comm]
  exact h1 64 x (by omega)
end Go.Proofs.Ytajlgpamcpgalab

namespace Go.Proofs.Ytajlgpamcpgalab
open Go.ChangeShapes Go.WideShapes Go.ChangeAt Go.RowKit
set_option linter.unusedVariables false

theorem up_near (h1 l1 k : Nat) (hh : h1 ≤ 18446744073709551615) (hl : l1 ≤ 18446744073709551615) (hk : k < 64) :
    Tw ((h1 * 18446744073709551616 + l1) * 2 ^ k % 340282366920938463463374607431768211456) (((h1 <<< k) % 2 ^ 64) ||| (l1 >>> (64 - k))) ((l1 <<< k) % 2 ^ 64) := by
  have e : 2 ^ 64 = 2 ^ k * 2 ^ (64 - k) := by rw [← Nat.pow_add]; congr 1; omega
  have hp : 0 < 2 ^ k := Nat.pow_pos (by decide)
  have hq : 0 < 2 ^ (64 - k) := Nat.pow_pos (by decide)
  have h3 : l1 >>> (64 - k) < 2 ^ k := by
    rw [Nat.shiftRight_eq_div_pow]; exact Nat.div_lt_of_lt_mul (by rw [Nat.mul_comm, ← e]; omega)
  have h4 : (h1 <<< k) % 2 ^ 64 = (h1 % 2 ^ (64 - k)) <<< k := by
    rw [Nat.shiftLeft_eq, Nat.shiftLeft_eq, e, Nat.mul_comm h1, Nat.mul_mod_mul_left, Nat.mul_comm]
  have h5 : ((h1 <<< k) % 2 ^ 64) ||| (l1 >>> (64 - k)) = (h1 <<< k) % 2 ^ 64 + l1 >>> (64 - k) := by
    rw [h4, Nat.shiftLeft_add_eq_or_of_lt h3]
  rw [h5]
  have h6 : l1 * 2 ^ k = (l1 >>> (64 - k)) * 2 ^ 64 + (l1 <<< k) % 2 ^ 64 := by
    rw [Nat.shiftRight_eq_div_pow, Nat.shiftLeft_eq]
    have h7 : l1 / 2 ^ (64 - k) = l1 * 2 ^ k / 2 ^ 64 := by rw [e, Nat.mul_comm (2 ^ k) (2 ^ (64 - k)), Nat.mul_div_mul_right _ _ hp]
    rw [h7]; omega
  have h8 : (h1 * 18446744073709551616 + l1) * 2 ^ k = h1 * 2 ^ k * 18446744073709551616 + l1 * 2 ^ k := by rw [Nat.add_mul, Nat.mul_right_comm]
  have h9 : (h1 <<< k) = h1 * 2 ^ k := Nat.shiftLeft_eq _ _
  have h10 : h1 * 2 ^ k % 2 ^ 64 + l1 >>> (64 - k) < 2 ^ 64 := by
    rw [← h9, h4, Nat.shiftLeft_eq]
    have := Nat.mod_lt h1 hq
    have h11 : (h1 % 2 ^ (64 - k) + 1) * 2 ^ k ≤ 2 ^ (64 - k) * 2 ^ k := Nat.mul_le_mul this (Nat.le_refl _)
    rw [Nat.add_mul, Nat.one_mul, Nat.mul_comm (2 ^ (64 - k)), ← e] at h11
    omega
  rw [h8, h6, h9]
  generalize h1 * 2 ^ k = X at *
  generalize l1 >>> (64 - k) = Y at *
  have hz : l1 <<< k % 2 ^ 64 < 2 ^ 64 := Nat.mod_lt _ (by decide)
  generalize l1 <<< k % 2 ^ 64 = Z at *
  clear h3 h4 h5 h6 h8 h9 e hp hq
  refine ⟨by omega, by omega, by omega⟩
theorem up_far (h1 l1 k : Nat) (hk : 64 ≤ k) : Tw ((h1 * 18446744073709551616 + l1) * 2 ^ k % 340282366920938463463374607431768211456) ((l1 <<< (k - 64)) % 2 ^ 64) 0 := by
  have e : 2 ^ k = 2 ^ (k - 64) * 2 ^ 64 := by rw [← Nat.pow_add]; congr 1; omega
  have h8 : (h1 * 18446744073709551616 + l1) * 2 ^ k = h1 * 2 ^ (k - 64) * 340282366920938463463374607431768211456 + l1 * 2 ^ (k - 64) * 18446744073709551616 := by
    rw [e, Nat.add_mul, show (340282366920938463463374607431768211456 : Nat) = 2 ^ 64 * 2 ^ 64 by decide, show (18446744073709551616 : Nat) = 2 ^ 64 by decide]
    rw [← Nat.mul_assoc l1, ← Nat.mul_assoc (h1 * 2 ^ (k - 64)), Nat.mul_assoc h1 (2 ^ 64), Nat.mul_comm (2 ^ 64) (2 ^ (k - 64) * 2 ^ 64), ← Nat.mul_assoc h1, ← Nat.mul_assoc h1]
  rw [h8, Nat.shiftLeft_eq]
  generalize h1 * 2 ^ (k - 64) = X
  generalize l1 * 2 ^ (k - 64) = Y
  refine ⟨by omega, by omega, by omega⟩
theorem down_near (h1 l1 k : Nat) (hh : h1 ≤ 18446744073709551615) (hl : l1 ≤ 18446744073709551615) (hk : k < 64) :
    Tw ((h1 * 18446744073709551616 + l1) / 2 ^ k) (h1 >>> k) ((l1 >>> k) ||| ((h1 <<< (64 - k)) % 2 ^ 64)) := by
  have e : 2 ^ 64 = 2 ^ k * 2 ^ (64 - k) := by rw [← Nat.pow_add]; congr 1; omega
  have hp : 0 < 2 ^ k := Nat.pow_pos (by decide)
  have hq : 0 < 2 ^ (64 - k) := Nat.pow_pos (by decide)
  have h3 : l1 >>> k < 2 ^ (64 - k) := by
    rw [Nat.shiftRight_eq_div_pow]; exact Nat.div_lt_of_lt_mul (by rw [← e]; omega)
  have h4 : (h1 <<< (64 - k)) % 2 ^ 64 = (h1 % 2 ^ k) <<< (64 - k) := by
    rw [Nat.shiftLeft_eq, Nat.shiftLeft_eq, e, Nat.mul_mod_mul_right]
  have h5 : (l1 >>> k) ||| ((h1 <<< (64 - k)) % 2 ^ 64) = (h1 % 2 ^ k) * 2 ^ (64 - k) + l1 >>> k := by
    rw [h4, Nat.or_comm, ← Nat.shiftLeft_add_eq_or_of_lt h3, Nat.shiftLeft_eq]
  rw [h5]
  have h7 : h1 * 18446744073709551616 + l1 = (h1 / 2 ^ k * 18446744073709551616 + h1 % 2 ^ k * 2 ^ (64 - k)) * 2 ^ k + l1 := by
    have a1 : h1 * 18446744073709551616 = (2 ^ k * (h1 / 2 ^ k) + h1 % 2 ^ k) * 18446744073709551616 := by rw [Nat.div_add_mod]
    have a2 : h1 % 2 ^ k * 18446744073709551616 = h1 % 2 ^ k * 2 ^ (64 - k) * 2 ^ k := by
      rw [Nat.mul_assoc, Nat.mul_comm (2 ^ (64 - k)), ← e]
    rw [a1, Nat.add_mul, a2, Nat.add_mul, Nat.mul_comm (2 ^ k), Nat.mul_right_comm]
  rw [h7, Nat.add_comm, Nat.add_mul_div_right _ _ hp, Nat.shiftRight_eq_div_pow, Nat.shiftRight_eq_div_pow]
  rw [Nat.shiftRight_eq_div_pow] at h3
  have h8 : (h1 % 2 ^ k) * 2 ^ (64 - k) + l1 / 2 ^ k < 2 ^ 64 := by
    have := Nat.mod_lt h1 hp
    have h11 : (h1 % 2 ^ k + 1) * 2 ^ (64 - k) ≤ 2 ^ k * 2 ^ (64 - k) := Nat.mul_le_mul this (Nat.le_refl _)
    rw [Nat.add_mul, Nat.one_mul, ← e] at h11
    omega
  have h9 : h1 / 2 ^ k ≤ h1 := Nat.div_le_self _ _
  generalize (h1 % 2 ^ k) * 2 ^ (64 - k) = X at *
  generalize l1 / 2 ^ k = Y at *
  generalize h1 / 2 ^ k = Z at *
  clear h3 h4 h5 h7 e hp hq
  refine ⟨by omega, by omega, by omega⟩
theorem down_far (h1 l1 k : Nat) (hh : h1 ≤ 18446744073709551615) (hl : l1 ≤ 18446744073709551615) (hk : 64 ≤ k) :
    Tw ((h1 * 18446744073709551616 + l1) / 2 ^ k) 0 (h1 >>> (k - 64)) := by
  have e : 2 ^ k = 2 ^ 64 * 2 ^ (k - 64) := by rw [← Nat.pow_add]; congr 1; omega
  rw [e, ← Nat.div_div_eq_div_mul, Nat.shiftRight_eq_div_pow, show (h1 * 18446744073709551616 + l1) / 2 ^ 64 = h1 by omega]
  have := Nat.div_le_self h1 (2 ^ (k - 64))
  refine ⟨by omega, by omega, by omega⟩

theorem shl_min (x i : Nat) : (x <<< i) % 2 ^ 64 = (x <<< (min i 64)) % 2 ^ 64 := by
  by_cases h : i ≤ 64
  · rw [Nat.min_eq_left h]
  · rw [Nat.min_eq_right (by omega), Nat.shiftLeft_eq, Nat.shiftLeft_eq, Nat.mul_mod_left, show 2 ^ i = 2 ^ (i - 64) * 2 ^ 64 by rw [← Nat.pow_add]; congr 1; omega, ← Nat.mul_assoc, Nat.mul_mod_left]
theorem shr_min (x i : Nat) (hx : x ≤ 18446744073709551615) : x >>> i = x >>> (min i 64) := by
  by_cases h : i ≤ 64
  · rw [Nat.min_eq_left h]
  · have h1 : 2 ^ 64 ≤ 2 ^ i := Nat.pow_le_pow_right (by decide) (by omega)
    rw [Nat.min_eq_right (by omega), Nat.shiftRight_eq_div_pow, Nat.shiftRight_eq_div_pow, Nat.div_eq_of_lt (by omega), Nat.div_eq_of_lt (by omega)]
theorem Tw.one {n h l h' l' : Nat} (a : Tw n h l) (b : Tw n h' l') : h = h' ∧ l = l' := by
  obtain ⟨e, a1, a2⟩ := a
  obtain ⟨e', b1, b2⟩ := b
  omega
set_option maxHeartbeats 1000000 in
theorem up_any {a h1 l1 h l : Nat} (k : Nat) (hk : k ≤ 9223372036854775807) (ha : Tw a h1 l1) (hs : Tw ((a * 2 ^ k) % 340282366920938463463374607431768211456) h l) (w : World) :
    Calls Try.prog 38 #[.agg #[.int .u64 h1, .int .u64 l1], .int .i64 k] w fun e w' => e = .returned (.agg #[.int .u64 h, .int .u64 l]) ∧ Below w.heap.size w w' := by
  refine cps fun Q hQ => ?_
  obtain ⟨ea, hh, hl⟩ := ha
  rw [ea] at hs
  by_cases h64 : 64 ≤ k
  · obtain ⟨e1, e2⟩ := hs.one (up_far h1 l1 k h64)
    obtain ⟨i, rfl⟩ : ∃ i, k = 64 + i := ⟨k - 64, by omega⟩
    rw [show 64 + i - 64 = i by omega] at e1
    have hv := wrapShl l1 (min i 64)
    rw [← shl_min, ← e1] at hv
    subst e2
    have hki : ((64 + i : Nat) : Int) - 64 = i := by omega
    clear hs e1 ea
    have hk64 : (64 : Int) ≤ ((64 + i : Nat) : Int) := by omega
    generalize ((64 + i : Nat) : Int) = K at *
    go_enter Try.func38, Try.ntmps38
    go_wp2
    refine bodyPost_ret (v := .agg #[.int .u64 h, .int .u64 0]) (by simp [results, Try.results38, go_sem]) rfl (hQ.out _ _ ⟨rfl, ?_⟩)
    exact bmore (bmore (Below.refl _ _) _) _
  · obtain ⟨e1, e2⟩ := hs.one (up_near h1 l1 k hh hl (by omega))
    have v1 := wrapShl h1 k
    have v2 := wrapShl l1 k
    have v3 := shrN l1 (64 - k)
    have v4 := u64_or_nat ((h1 <<< k) % 2 ^ 64) (l1 >>> (64 - k)) (Nat.mod_lt _ (by decide)) (Nat.lt_of_le_of_lt (Nat.shiftRight_le _ _) (by omega))
    rw [← e1] at v4
    rw [← e2] at v2
    have hk1 : k < 64 := by omega
    have hq : (64 : Int) - k = ((64 - k : Nat) : Int) := by omega
    clear hs e1 e2 ea h64
    generalize 64 - k = j at *
    generalize l1 >>> j = x at *
    generalize h1 <<< k % 2 ^ 64 = y at *
    go_enter Try.func38, Try.ntmps38
    go_wp2
    go_region
    all_goals
      go_wp2
      refine bodyPost_ret (v := .agg #[.int .u64 h, .int .u64 l]) (by simp [results, Try.results38, go_sem]) rfl (hQ.out _ _ ⟨rfl, ?_⟩)
      exact (bmore (bmore (Below.refl _ _) _) _).drew
set_option maxHeartbeats 1000000 in
theorem down_any {a h1 l1 h l : Nat} (k : Nat) (hk : k ≤ 9223372036854775807) (ha : Tw a h1 l1) (hs : Tw (a / 2 ^ k) h l) (w : World) :
    Calls Try.prog 37 #[.agg #[.int .u64 h1, .int .u64 l1], .int .i64 k] w fun e w' => e = .returned (.agg #[.int .u64 h, .int .u64 l]) ∧ Below w.heap.size w w' := by
  refine cps fun Q hQ => ?_
  obtain ⟨ea, hh, hl⟩ := ha
  rw [ea] at hs
  by_cases h64 : 64 ≤ k
  · obtain ⟨e1, e2⟩ := hs.one (down_far h1 l1 k hh hl h64)
    obtain ⟨i, rfl⟩ : ∃ i, k = 64 + i := ⟨k - 64, by omega⟩
    rw [show 64 + i - 64 = i by omega] at e2
    have hv := shrN h1 (min i 64)
    rw [← shr_min _ _ hh, ← e2] at hv
    subst e1
    have hki : ((64 + i : Nat) : Int) - 64 = i := by omega
    clear hs e2 ea
    have hk64 : (64 : Int) ≤ ((64 + i : Nat) : Int) := by omega
    generalize ((64 + i : Nat) : Int) = K at *
    go_enter Try.func37, Try.ntmps37
    go_wp2
    refine bodyPost_ret (v := .agg #[.int .u64 0, .int .u64 l]) (by simp [results, Try.results37, go_sem]) rfl (hQ.out _ _ ⟨rfl, ?_⟩)
    exact bmore (bmore (Below.refl _ _) _) _
  · obtain ⟨e1, e2⟩ := hs.one (down_near h1 l1 k hh hl (by omega))
    have v1 := shrN h1 k
    have v2 := shrN l1 k
    have v3 := wrapShl h1 (64 - k)
    have v4 := u64_or_nat (l1 >>> k) ((h1 <<< (64 - k)) % 2 ^ 64) (Nat.lt_of_le_of_lt (Nat.shiftRight_le _ _) (by omega)) (Nat.mod_lt _ (by decide))
    rw [← e2] at v4
    rw [← e1] at v1
    have hk1 : k < 64 := by omega
    have hq : (64 : Int) - k = ((64 - k : Nat) : Int) := by omega
    clear hs e1 e2 ea h64
    generalize 64 - k = j at *
    generalize l1 >>> k = x at *
    generalize h1 <<< j % 2 ^ 64 = y at *
    go_enter Try.func37, Try.ntmps37
    go_wp2
    go_region
    all_goals
      go_wp2
      refine bodyPost_ret (v := .agg #[.int .u64 h, .int .u64 l]) (by simp [results, Try.results37, go_sem]) rfl (hQ.out _ _ ⟨rfl, ?_⟩)
      exact (bmore (bmore (Below.refl _ _) _) _).drew
end Go.Proofs.Ytajlgpamcpgalab

namespace Go.Proofs.Ytajlgpamcpgalab
open Go.ChangeShapes Go.WideShapes Go.ChangeAt Go.RowKit
set_option linter.unusedVariables false

theorem tshl_no (k : Int) (hk : k < 0) (h1 l1 : Nat) (w : World) :
    Calls Try.prog 29 #[.agg #[.int .u64 h1, .int .u64 l1], .int .i64 k] w fun e w' => e = .returned (.tuple #[.agg #[.int .u64 0, .int .u64 0], .bool false, .iface 51 (.int .i64 1)]) ∧ Below w.heap.size w w' := by
  refine cps fun Q hQ => ?_
  go_enter Try.func29, Try.ntmps29
  go_wp2
  refine bodyPost_ret (v := .tuple #[.agg #[.int .u64 0, .int .u64 0], .bool false, .iface 51 (.int .i64 1)]) (by simp [results, Try.results29, go_sem]) rfl (hQ.out _ _ ⟨rfl, ?_⟩)
  exact bmore (bmore (Below.refl _ _) _) _
set_option maxHeartbeats 1000000 in
theorem tshl_any {a h1 l1 h l : Nat} {c : Bool} (k : Nat) (hk : k ≤ 9223372036854775807) (ha : Tw a h1 l1) (hs : Tw ((a * 2 ^ k) % 340282366920938463463374607431768211456) h l) (hc : c = decide (340282366920938463463374607431768211456 ≤ a * 2 ^ k)) (w : World) :
    Calls Try.prog 29 #[.agg #[.int .u64 h1, .int .u64 l1], .int .i64 k] w fun e w' => e = .returned (.tuple #[.agg #[.int .u64 h, .int .u64 l], .bool c, .nilIface]) ∧ Below w.heap.size w w' := by
  refine cps fun Q hQ => ?_
  have k1 := fun w => up_any k hk ha hs w
  obtain ⟨T, hT⟩ : ∃ T, T = (a * 2 ^ k) % 340282366920938463463374607431768211456 / 2 ^ k := ⟨_, rfl⟩
  have hTlt : T < 340282366920938463463374607431768211456 := by rw [hT]; exact Nat.lt_of_le_of_lt (Nat.div_le_self _ _) (Nat.mod_lt _ (by decide))
  have hq : (!decide (T = a)) = decide (340282366920938463463374607431768211456 ≤ a * 2 ^ k) := by
    have hp : 0 < 2 ^ k := Nat.pow_pos (by decide)
    by_cases h0 : 340282366920938463463374607431768211456 ≤ a * 2 ^ k
    · have : T ≠ a := by
        intro h1
        rw [hT] at h1
        have h2 := Nat.div_mul_le_self ((a * 2 ^ k) % 340282366920938463463374607431768211456) (2 ^ k)
        rw [h1] at h2
        have h3 := Nat.mod_lt (a * 2 ^ k) (show 0 < 340282366920938463463374607431768211456 by decide)
        omega
      simp [this, h0]
    · have : T = a := by rw [hT, Nat.mod_eq_of_lt (by omega), Nat.mul_div_cancel _ hp]
      simp [this, h0]
  obtain ⟨h3, l3, ht⟩ : ∃ h3 l3, Tw T h3 l3 := ⟨T / 18446744073709551616, T % 18446744073709551616, by omega, by omega, by omega⟩
  have hTT : Tw ((a * 2 ^ k) % 340282366920938463463374607431768211456 / 2 ^ k) h3 l3 := hT ▸ ht
  have k2 := fun w => down_any k hk hs hTT w
  have hc2 : c = !(decide (h3 = h1) && decide (l3 = l1)) := by
    rw [hc, ← hq]
    by_cases hh : h3 = h1 ∧ l3 = l1
    · rw [hh.1, hh.2] at ht ⊢
      simp
      have := ht.eq.trans ha.eq.symm
      exact this
    · have : ¬ T = a := fun h => hh (by rw [h] at ht; exact ht.one ha)
      rw [decide_eq_false this]
      by_cases h5 : h3 = h1
      · have : l3 ≠ l1 := fun h6 => hh ⟨h5, h6⟩
        simp [this]
      · simp [h5]
  have hcase : (h1 = h3 ∧ l1 = l3 ∧ c = false) ∨ (h1 = h3 ∧ ¬ (l3 : Int) = l1 ∧ c = true) ∨ (¬ (h3 : Int) = h1 ∧ c = true) := by
    by_cases g1 : h3 = h1
    · by_cases g2 : l3 = l1
      · exact .inl ⟨g1.symm, g2.symm, by rw [hc2]; simp [g1, g2]⟩
      · exact .inr (.inl ⟨g1.symm, by omega, by rw [hc2]; simp [g2]⟩)
    · exact .inr (.inr ⟨by omega, by rw [hc2]; simp [g1]⟩)
  clear hc hc2 ht hs ha hq hTT hT hTlt
  rcases hcase with ⟨rfl, rfl, rfl⟩ | ⟨rfl, g2, rfl⟩ | ⟨g1, rfl⟩
  all_goals
    go_enter Try.func29, Try.ntmps29
    go_wp2_with (go_at_call 38; refine (k1 _).mono ?_; rintro e w1 ⟨rfl, hb1⟩; obtain ⟨hc1, hf1⟩ := bcell hb1; have hz : w.heap.size + 1 < w1.heap.size := by have := hb1.size; simp at this; omega)
    have hz0 : w.heap.size < w1.heap.size := by omega
    refine wpC_region (fun W => W.cell? ⟨w.heap.size, 0, none⟩ = some (.int .u64 h1) ∧ W.cell? ⟨w.heap.size, 1, none⟩ = some (.int .u64 l1) ∧ W.cell? ⟨w1.heap.size, 0, none⟩ = some (.int .u64 h) ∧ W.cell? ⟨w1.heap.size, 1, none⟩ = some (.int .u64 l)) (by kernel_rfl) ?_
    refine wpC_take 0 (v := ?_) rfl (by kernel_rfl) (fun _ _ _ h => h) (by kernel_rfl) ?_ ?_; rotate_left; · (intro wC hC; obtain ⟨c1, c2, c3, c4⟩ := hC; go_simp <;> with_reducible rfl)
    refine wpC_take 1 (v := ?_) rfl (by kernel_rfl) (fun _ _ _ h => h) (by kernel_rfl) ?_ ?_; rotate_left; · (intro wC hC; obtain ⟨c1, c2, c3, c4⟩ := hC; go_simp <;> with_reducible rfl)
    refine wpC_take 2 (v := ?_) rfl (by kernel_rfl) (fun _ _ _ h => h) (by kernel_rfl) ?_ ?_; rotate_left; · (intro wC hC; obtain ⟨c1, c2, c3, c4⟩ := hC; go_simp <;> with_reducible rfl)
    refine wpC_take 4 (v := ?_) rfl (by kernel_rfl) (fun _ _ _ h => h) (by kernel_rfl) ?_ ?_; rotate_left; · (intro wC hC; obtain ⟨c1, c2, c3, c4⟩ := hC; go_simp <;> with_reducible rfl)
    refine wpC_step 3 rfl (by kernel_rfl) (by kernel_rfl) (by simp [go_sem, hc1, hz0]) (fun K hK => ?_)
    go_simp
    go_wp2_with ((go_at_call 37; refine (k2 _).mono ?_; rintro e w2 ⟨rfl, hb2⟩; obtain ⟨hc2, hf2⟩ := bcell hb2; have hz2 : w1.heap.size < w2.heap.size := by have := hb2.size; simp at this; omega))
    try (refine hK _ _ ?_; clear hK K)
    refine wpC_take 5 (v := ?_) rfl (by kernel_rfl) (fun _ _ _ h => h) (by kernel_rfl) ?_ ?_; rotate_left; · (intro wC hC; obtain ⟨c1, c2, c3, c4⟩ := hC; go_simp <;> with_reducible rfl)
    refine wpC_step 6 rfl (by kernel_rfl) (by kernel_rfl) (by simp [go_sem, hc1, hc2, hz0]) (fun K hK => ?_)
    go_simp
    try (refine hK _ _ ?_; clear hK K)
    refine wpC_step 7 rfl (by kernel_rfl) (by kernel_rfl) (by simp [go_sem, hc1, hc2, hz0]) (fun K hK => ?_)
    go_simp
    try (refine hK _ _ ?_; clear hK K)
    refine wpC_step 8 rfl (by kernel_rfl) (by kernel_rfl) (by simp [go_sem, hc1, hc2, hz0]) (fun K hK => ?_)
    go_simp
    try (refine hK _ _ ?_; clear hK K)
    refine wpC_done (by kernel_rfl) (by simp [go_sem, hc1, hc2, hz0]) ?_
    go_wp2
    refine bodyPost_ret (v := .tuple #[.agg #[.int .u64 h, .int .u64 l], .bool _, .nilIface]) (by simp [results, Try.results29, go_sem, hc1, hc2, hz, hz0]) rfl (hQ.out _ _ ⟨rfl, ?_⟩)
    exact bset (bset (bthen (bdrew (bmore (bthen (bmore (bmore (Below.refl _ _) _) _) hb1) _)) hb2) (by omega) _ _) (by omega) _ _

theorem tshr_no (k : Int) (hk : k < 0) (h1 l1 : Nat) (w : World) :
    Calls Try.prog 28 #[.agg #[.int .u64 h1, .int .u64 l1], .int .i64 k] w fun e w' => e = .returned (.tuple #[.agg #[.int .u64 0, .int .u64 0], .bool false, .iface 51 (.int .i64 1)]) ∧ Below w.heap.size w w' := by
  refine cps fun Q hQ => ?_
  go_enter Try.func28, Try.ntmps28
  go_wp2
  refine bodyPost_ret (v := .tuple #[.agg #[.int .u64 0, .int .u64 0], .bool false, .iface 51 (.int .i64 1)]) (by simp [results, Try.results28, go_sem]) rfl (hQ.out _ _ ⟨rfl, ?_⟩)
  exact bmore (bmore (Below.refl _ _) _) _
set_option maxHeartbeats 1000000 in
theorem tshr_any {a h1 l1 h l : Nat} {c : Bool} (k : Nat) (hk : k ≤ 9223372036854775807) (ha : Tw a h1 l1) (hs : Tw (a / 2 ^ k) h l) (hc : c = decide (a % 2 ^ k ≠ 0)) (w : World) :
    Calls Try.prog 28 #[.agg #[.int .u64 h1, .int .u64 l1], .int .i64 k] w fun e w' => e = .returned (.tuple #[.agg #[.int .u64 h, .int .u64 l], .bool c, .nilIface]) ∧ Below w.heap.size w w' := by
  refine cps fun Q hQ => ?_
  have k1 := fun w => down_any k hk ha hs w
  obtain ⟨T, hT⟩ : ∃ T, T = (a / 2 ^ k * 2 ^ k) % 340282366920938463463374607431768211456 := ⟨_, rfl⟩
  have hTlt : T < 340282366920938463463374607431768211456 := by rw [hT]; exact Nat.mod_lt _ (by decide)
  have hq : (!decide (T = a)) = decide (a % 2 ^ k ≠ 0) := by
    have h1 := Nat.div_add_mod a (2 ^ k)
    have h2 := ha.lt
    rw [Nat.mul_comm] at h1
    have h3 : T = a / 2 ^ k * 2 ^ k := by rw [hT, Nat.mod_eq_of_lt (by omega)]
    rw [← h3] at h1
    by_cases h0 : a % 2 ^ k = 0
    · have : T = a := by omega
      simp [this, h0]
    · have : T ≠ a := by omega
      simp [this, h0]
  obtain ⟨h3, l3, ht⟩ : ∃ h3 l3, Tw T h3 l3 := ⟨T / 18446744073709551616, T % 18446744073709551616, by omega, by omega, by omega⟩
  have hTT : Tw ((a / 2 ^ k * 2 ^ k) % 340282366920938463463374607431768211456) h3 l3 := hT ▸ ht
  have k2 := fun w => up_any k hk hs hTT w
  have hc2 : c = !(decide (h3 = h1) && decide (l3 = l1)) := by
    rw [hc, ← hq]
    by_cases hh : h3 = h1 ∧ l3 = l1
    · rw [hh.1, hh.2] at ht ⊢
      simp
      have := ht.eq.trans ha.eq.symm
      exact this
    · have : ¬ T = a := fun h => hh (by rw [h] at ht; exact ht.one ha)
      rw [decide_eq_false this]
      by_cases h5 : h3 = h1
      · have : l3 ≠ l1 := fun h6 => hh ⟨h5, h6⟩
        simp [this]
      · simp [h5]
  have hcase : (h1 = h3 ∧ l1 = l3 ∧ c = false) ∨ (h1 = h3 ∧ ¬ (l3 : Int) = l1 ∧ c = true) ∨ (¬ (h3 : Int) = h1 ∧ c = true) := by
    by_cases g1 : h3 = h1
    · by_cases g2 : l3 = l1
      · exact .inl ⟨g1.symm, g2.symm, by rw [hc2]; simp [g1, g2]⟩
      · exact .inr (.inl ⟨g1.symm, by omega, by rw [hc2]; simp [g2]⟩)
    · exact .inr (.inr ⟨by omega, by rw [hc2]; simp [g1]⟩)
  clear hc hc2 ht hs ha hq hTT hT hTlt
  rcases hcase with ⟨rfl, rfl, rfl⟩ | ⟨rfl, g2, rfl⟩ | ⟨g1, rfl⟩
  all_goals
    go_enter Try.func28, Try.ntmps28
    go_wp2_with (go_at_call 37; refine (k1 _).mono ?_; rintro e w1 ⟨rfl, hb1⟩; obtain ⟨hc1, hf1⟩ := bcell hb1; have hz : w.heap.size + 1 < w1.heap.size := by have := hb1.size; simp at this; omega)
    have hz0 : w.heap.size < w1.heap.size := by omega
    refine wpC_region (fun W => W.cell? ⟨w.heap.size, 0, none⟩ = some (.int .u64 h1) ∧ W.cell? ⟨w.heap.size, 1, none⟩ = some (.int .u64 l1) ∧ W.cell? ⟨w1.heap.size, 0, none⟩ = some (.int .u64 h) ∧ W.cell? ⟨w1.heap.size, 1, none⟩ = some (.int .u64 l)) (by kernel_rfl) ?_
    refine wpC_take 0 (v := ?_) rfl (by kernel_rfl) (fun _ _ _ h => h) (by kernel_rfl) ?_ ?_; rotate_left; · (intro wC hC; obtain ⟨c1, c2, c3, c4⟩ := hC; go_simp <;> with_reducible rfl)
    refine wpC_take 1 (v := ?_) rfl (by kernel_rfl) (fun _ _ _ h => h) (by kernel_rfl) ?_ ?_; rotate_left; · (intro wC hC; obtain ⟨c1, c2, c3, c4⟩ := hC; go_simp <;> with_reducible rfl)
    refine wpC_take 2 (v := ?_) rfl (by kernel_rfl) (fun _ _ _ h => h) (by kernel_rfl) ?_ ?_; rotate_left; · (intro wC hC; obtain ⟨c1, c2, c3, c4⟩ := hC; go_simp <;> with_reducible rfl)
    refine wpC_take 4 (v := ?_) rfl (by kernel_rfl) (fun _ _ _ h => h) (by kernel_rfl) ?_ ?_; rotate_left; · (intro wC hC; obtain ⟨c1, c2, c3, c4⟩ := hC; go_simp <;> with_reducible rfl)
    refine wpC_step 3 rfl (by kernel_rfl) (by kernel_rfl) (by simp [go_sem, hc1, hz0]) (fun K hK => ?_)
    go_simp
    go_wp2_with ((go_at_call 38; refine (k2 _).mono ?_; rintro e w2 ⟨rfl, hb2⟩; obtain ⟨hc2, hf2⟩ := bcell hb2; have hz2 : w1.heap.size < w2.heap.size := by have := hb2.size; simp at this; omega))
    try (refine hK _ _ ?_; clear hK K)
    refine wpC_take 5 (v := ?_) rfl (by kernel_rfl) (fun _ _ _ h => h) (by kernel_rfl) ?_ ?_; rotate_left; · (intro wC hC; obtain ⟨c1, c2, c3, c4⟩ := hC; go_simp <;> with_reducible rfl)
    refine wpC_step 6 rfl (by kernel_rfl) (by kernel_rfl) (by simp [go_sem, hc1, hc2, hz0]) (fun K hK => ?_)
    go_simp
    try (refine hK _ _ ?_; clear hK K)
    refine wpC_step 7 rfl (by kernel_rfl) (by kernel_rfl) (by simp [go_sem, hc1, hc2, hz0]) (fun K hK => ?_)
    go_simp
    try (refine hK _ _ ?_; clear hK K)
    refine wpC_step 8 rfl (by kernel_rfl) (by kernel_rfl) (by simp [go_sem, hc1, hc2, hz0]) (fun K hK => ?_)
    go_simp
    try (refine hK _ _ ?_; clear hK K)
    refine wpC_done (by kernel_rfl) (by simp [go_sem, hc1, hc2, hz0]) ?_
    go_wp2
    refine bodyPost_ret (v := .tuple #[.agg #[.int .u64 h, .int .u64 l], .bool _, .nilIface]) (by simp [results, Try.results28, go_sem, hc1, hc2, hz, hz0]) rfl (hQ.out _ _ ⟨rfl, ?_⟩)
    exact bset (bset (bthen (bdrew (bmore (bthen (bmore (bmore (Below.refl _ _) _) _) hb1) _)) hb2) (by omega) _ _) (by omega) _ _
end Go.Proofs.Ytajlgpamcpgalab

namespace Go.Proofs.Ytajlgpamcpgalab
open Go.ChangeShapes Go.WideShapes Go.ChangeAt Go.RowKit
set_option linter.unusedVariables false
set_option maxRecDepth 100000

/-- what the lowest k digits are -/
def lo (a k : Nat) : Nat := val (low a k)
theorem lo_zero (a : Nat) : lo a 0 = 0 := rfl
theorem lo_succ (a k : Nat) : lo a (k + 1) = lo a k + 16777216 ^ k * (top a k % 16777216) := by
  unfold lo; rw [low_snoc, val_append, low_length]; simp [val]
theorem lo_all (a : Nat) : lo a (dlen a) = a := by unfold lo; rw [low_dlen, val_dig]
theorem val_set (l : List Nat) (j d : Nat) (h : j < l.length) : val (l.set j d) + 16777216 ^ j * l.getD j 0 = val l + 16777216 ^ j * d := by
  induction l generalizing j with
  | nil => simp at h
  | cons x l ih =>
    cases j with
    | zero => simp [val_cons]; omega
    | succ j =>
      have := ih j (by simpa using h)
      simp only [List.set_cons_succ, val_cons, List.getD_cons_succ, Nat.pow_succ]
      have e1 : 16777216 ^ j * 16777216 * l.getD j 0 = 16777216 * (16777216 ^ j * l.getD j 0) := by rw [Nat.mul_comm (16777216 ^ j) 16777216, Nat.mul_assoc]
      have e2 : 16777216 ^ j * 16777216 * d = 16777216 * (16777216 ^ j * d) := by rw [Nat.mul_comm (16777216 ^ j) 16777216, Nat.mul_assoc]
      rw [e1, e2]; omega
theorem val_zeros (n : Nat) : val (List.replicate n 0) = 0 := by
  induction n with
  | zero => rfl
  | succ n ih => rw [List.replicate_succ, val_cons, ih]
theorem getD_set (l : List Nat) (j d i : Nat) (h : j < l.length) : (l.set j d).getD i 0 = if j = i then d else l.getD i 0 := by
  rw [List.getD_eq_getElem?_getD, List.getElem?_set]
  by_cases e : j = i
  · subst e; simp [h]
  · simp [e]
theorem mul_step {V V' O c t P p R : Nat} (h1 : V + P * c = R) (h2 : V' + P * O = V + P * (t % 16777216)) (ht : t = O + p + c) : V' + P * 16777216 * (t / 16777216) = R + P * p := by
  have e1 : P * t = P * 16777216 * (t / 16777216) + P * (t % 16777216) := by
    conv => lhs; rw [← Nat.div_add_mod t 16777216]
    rw [Nat.mul_add, Nat.mul_assoc]
  have e2 : P * t = P * O + P * p + P * c := by rw [ht, Nat.mul_add, Nat.mul_add]
  omega
/-- the row of a product under way -/
structure MulAt (a b i k c : Nat) (O : List Nat) : Prop where
  len : O.length = dlen a + dlen b
  digs : ∀ d ∈ O, d < 16777216
  sum : val O + 16777216 ^ (i + k) * c = lo a i * b + 16777216 ^ i * ((top a i % 16777216) * lo b k)
  up : ∀ j, i + dlen b ≤ j → O.getD j 0 = 0
theorem MulAt.start (a b : Nat) : MulAt a b 0 0 0 (List.replicate (dlen a + dlen b) 0) :=
  ⟨by simp, by simp, by rw [val_zeros, lo_zero, lo_zero]; simp, fun j _ => by rw [List.getD_eq_getElem?_getD, List.getElem?_replicate]; split <;> rfl⟩
theorem MulAt.step {a b i k c x t : Nat} {O : List Nat} (h : MulAt a b i k c O) (hi : i < dlen a) (hk : k < dlen b) (hx : x = O.getD (i + k) 0) (ht : t = x + (top a i % 16777216) * (top b k % 16777216) + c) :
    MulAt a b i (k + 1) (t / 16777216) (O.set (i + k) (t % 16777216)) := by
  have hl := h.len
  refine ⟨by simp [hl], ?_, ?_, ?_⟩
  · intro d hd
    rcases List.mem_or_eq_of_mem_set hd with h1 | h1
    · exact h.digs d h1
    · omega
  · have h2 := val_set O (i + k) (t % 16777216) (by omega)
    rw [← hx] at h2
    have h3 := mul_step h.sum h2 ht
    rw [show i + (k + 1) = (i + k) + 1 by omega, Nat.pow_succ, h3, lo_succ, Nat.mul_add, Nat.mul_add, Nat.add_assoc, Nat.pow_add, Nat.mul_assoc, Nat.mul_left_comm (top a i % 16777216)]
  · intro j hj
    rw [getD_set _ _ _ _ (by omega), if_neg (by omega)]
    exact h.up j hj
theorem MulAt.next {a b i c : Nat} {O : List Nat} (h : MulAt a b i (dlen b) c O) (hi : i < dlen a) (hc : c < 16777216) : MulAt a b (i + 1) 0 0 (O.set (i + dlen b) c) := by
  have hl := h.len
  refine ⟨by simp [hl], ?_, ?_, ?_⟩
  · intro d hd
    rcases List.mem_or_eq_of_mem_set hd with h1 | h1
    · exact h.digs d h1
    · omega
  · have h2 := val_set O (i + dlen b) c (by omega)
    rw [h.up _ (Nat.le_refl _), Nat.mul_zero, Nat.add_zero, h.sum, lo_all] at h2
    rw [h2, lo_zero, lo_succ, Nat.mul_zero, Nat.mul_zero, Nat.mul_zero, Nat.add_zero, Nat.add_zero, Nat.add_mul, Nat.mul_assoc]
  · intro j hj
    rw [getD_set _ _ _ _ (by omega), if_neg (by omega)]
    exact h.up j (by omega)
theorem MulAt.done {a b : Nat} {O : List Nat} (h : MulAt a b (dlen a) 0 0 O) : ∃ z, O = dig (a * b) ++ List.replicate z 0 := by
  have hs := h.sum
  rw [lo_zero, lo_all, Nat.mul_zero, Nat.mul_zero, Nat.mul_zero, Nat.add_zero, Nat.add_zero] at hs
  have hv := val_low O h.digs
  have hlt := val_lt O h.digs
  rw [hs] at hv hlt
  exact ⟨_, by rw [← low_ge (dlen_le_of_lt hlt), hv]⟩

end Go.Proofs.Ytajlgpamcpgalab

namespace Go.Proofs.Ytajlgpamcpgalab
open Go.ChangeShapes Go.WideShapes Go.ChangeAt Go.RowKit
set_option linter.unusedVariables false

theorem Row.alloc {w : World} {v : Value} {l : List Nat} (h : Row w v l) (o : Obj) : Row (w.alloc o) v l := h.below (bmore (Below.refl _ _) _)
theorem dlen_small {n : Nat} (h : n < 22300745198530623141535718272648361505980416) : dlen n ≤ 6 := dlen_le_of_lt (by rw [show (16777216 : Nat) ^ 6 = 22300745198530623141535718272648361505980416 by decide]; exact h)

theorem cmpN_ge {x y : Nat} : decide (y ≤ x) = decide (0 ≤ cmpN x y) := by
  refine decide_eq_decide.2 ?_
  rcases Nat.lt_trichotomy x y with h | h | h
  · rw [cmpN_lt h]; omega
  · subst h; rw [cmpN_eq]; omega
  · rw [cmpN_gt h]; omega
theorem cmpN_less {x y : Nat} : decide (x < y) = decide (cmpN x y < 0) := by
  refine decide_eq_decide.2 ?_
  rcases Nat.lt_trichotomy x y with h | h | h
  · rw [cmpN_lt h]; omega
  · subst h; rw [cmpN_eq]; omega
  · rw [cmpN_gt h]; omega
theorem dlen_ok {n : Nat} (h : n < 22300745198530623141535718272648361505980416) : dlen n ≤ 1099511627776 := Nat.le_trans (dlen_small h) (by decide)

end Go.Proofs.Ytajlgpamcpgalab

namespace Go.Proofs.Ytajlgpamcpgalab
open Go.ChangeShapes Go.WideShapes Go.ChangeAt Go.RowKit
set_option linter.unusedVariables false

/-! ### shifts -/
theorem clamp_shl (a k : Nat) (ha : a < 340282366920938463463374607431768211456) : (a * 2 ^ k) % 340282366920938463463374607431768211456 = (a * 2 ^ (min k 128)) % 340282366920938463463374607431768211456 ∧
    decide (340282366920938463463374607431768211456 ≤ a * 2 ^ k) = decide (340282366920938463463374607431768211456 ≤ a * 2 ^ (min k 128)) := by
  have h128 : (340282366920938463463374607431768211456 : Nat) = 2 ^ 128 := by decide
  by_cases h : k ≤ 128
  · rw [Nat.min_eq_left h]; exact ⟨rfl, rfl⟩
  · rw [Nat.min_eq_right (by omega)]
    have e : 2 ^ k = 2 ^ (k - 128) * 2 ^ 128 := by rw [← Nat.pow_add]; congr 1; omega
    rw [e, ← Nat.mul_assoc, ← h128]
    have hp : 0 < 2 ^ (k - 128) := Nat.pow_pos (by decide)
    have hX : 0 < a * 2 ^ (k - 128) ↔ 0 < a := ⟨fun h => Nat.pos_of_mul_pos_right h, fun h => Nat.mul_pos h hp⟩
    generalize a * 2 ^ (k - 128) = X at *
    clear e hp
    refine ⟨by omega, decide_eq_decide.2 (by omega)⟩
theorem clamp_shr (a k : Nat) (ha : a < 340282366920938463463374607431768211456) : a / 2 ^ k = a / 2 ^ (min k 128) ∧ decide (a % 2 ^ k ≠ 0) = decide (a % 2 ^ (min k 128) ≠ 0) := by
  by_cases h : k ≤ 128
  · rw [Nat.min_eq_left h]; exact ⟨rfl, rfl⟩
  · rw [Nat.min_eq_right (by omega)]
    have h1 : a < 2 ^ 128 := ha
    have h2 : 2 ^ 128 ≤ 2 ^ k := Nat.pow_le_pow_right (by decide) (by omega)
    have h3 : a < 2 ^ k := by omega
    rw [Nat.div_eq_of_lt h1, Nat.div_eq_of_lt h3, Nat.mod_eq_of_lt h1, Nat.mod_eq_of_lt h3]
    exact ⟨rfl, rfl⟩
theorem shl_dlen (a k : Nat) (ha : a < 340282366920938463463374607431768211456) (hk : k ≤ 128) : dlen (a * 2 ^ k) ≤ 1099511627776 := by
  refine Nat.le_trans (dlen_le_of_lt (k := 12) ?_) (by decide)
  have h1 : 2 ^ k ≤ 2 ^ 128 := Nat.pow_le_pow_right (by decide) hk
  exact Nat.lt_of_lt_of_le (Nat.mul_lt_mul_of_lt_of_le ha h1 (Nat.pow_pos (by decide))) (by decide)

end Go.Proofs.Ytajlgpamcpgalab

namespace Go.Proofs.Ytajlgpamcpgalab
open Go.ChangeShapes Go.WideShapes Go.ChangeAt Go.RowKit
set_option linter.unusedVariables false

end Go.Proofs.Ytajlgpamcpgalab

namespace Go.Proofs.Ytajlgpamcpgalab
open Go.ChangeShapes Go.WideShapes Go.ChangeAt Go.RowKit
set_option linter.unusedVariables false

set_option maxHeartbeats 2000000 in
theorem tcmp_any {a b h1 l1 h2 l2 : Nat} (ha : Tw a h1 l1) (hb : Tw b h2 l2) (w : World) :
    Calls Try.prog 39 #[.agg #[.int .u64 h1, .int .u64 l1], .agg #[.int .u64 h2, .int .u64 l2]] w fun e w' => e = .returned (.int .i64 (cmpN a b)) ∧ Below w.heap.size w w' := by
  refine cps fun Q hQ => ?_
  rw [← cmp_words ha hb] at hQ
  clear ha hb
  obtain ⟨x, hx⟩ : ∃ x, x = cmpN h1 h2 := ⟨_, rfl⟩
  obtain ⟨y, hy⟩ : ∃ x, x = cmpN l1 l2 := ⟨_, rfl⟩
  have r1 := compare_any h1 h2
  have r2 := compare_any l1 l2
  rw [← hx] at r1 hQ
  rw [← hy] at r2 hQ
  obtain ⟨z, hz⟩ : ∃ z, z = if x = 0 then y else x := ⟨_, rfl⟩
  rw [← hz] at hQ
  have HZ : Hid (z = if x = 0 then y else x) := hz
  clear hx hy hz
  go_enter Try.func39, Try.ntmps39
  go_wp2
  refine wpC_region (fun W => W.cell? ⟨w.heap.size, 0, none⟩ = some (.int .u64 h1) ∧ W.cell? ⟨w.heap.size, 1, none⟩ = some (.int .u64 l1) ∧ W.cell? ⟨w.heap.size + 1, 0, none⟩ = some (.int .u64 h2) ∧ W.cell? ⟨w.heap.size + 1, 1, none⟩ = some (.int .u64 l2)) (by kernel_rfl) ?_
  refine wpC_take 0 (v := ?_) rfl (by kernel_rfl) (fun _ _ _ h => h) (by kernel_rfl) ?_ ?_; rotate_left; · (intro wC hC; obtain ⟨c1, c2, c3, c4⟩ := hC; go_simp <;> with_reducible rfl)
  refine wpC_take 1 (v := ?_) rfl (by kernel_rfl) (fun _ _ _ h => h) (by kernel_rfl) ?_ ?_; rotate_left; · (intro wC hC; obtain ⟨c1, c2, c3, c4⟩ := hC; go_simp <;> with_reducible rfl)
  refine wpC_take 2 (v := ?_) rfl (by kernel_rfl) (fun _ _ _ h => h) (by kernel_rfl) ?_ ?_; rotate_left; · (intro wC hC; obtain ⟨c1, c2, c3, c4⟩ := hC; go_simp <;> with_reducible rfl)
  refine wpC_take 3 (v := ?_) rfl (by kernel_rfl) (fun _ _ _ h => h) (by kernel_rfl) ?_ ?_; rotate_left; · (intro wC hC; obtain ⟨c1, c2, c3, c4⟩ := hC; go_simp <;> with_reducible rfl)
  refine wpC_take 5 (v := ?_) rfl (by kernel_rfl) (fun _ _ _ h => h) (by kernel_rfl) ?_ ?_; rotate_left; · (intro wC hC; obtain ⟨c1, c2, c3, c4⟩ := hC; go_simp <;> with_reducible rfl)
  refine wpC_take 6 (v := ?_) rfl (by kernel_rfl) (fun _ _ _ h => h) (by kernel_rfl) ?_ ?_; rotate_left; · (intro wC hC; obtain ⟨c1, c2, c3, c4⟩ := hC; go_simp <;> with_reducible rfl)
  refine wpC_take 7 (v := ?_) rfl (by kernel_rfl) (fun _ _ _ h => h) (by kernel_rfl) ?_ ?_; rotate_left; · (intro wC hC; obtain ⟨c1, c2, c3, c4⟩ := hC; go_simp <;> with_reducible rfl)
  refine wpC_take 8 (v := ?_) rfl (by kernel_rfl) (fun _ _ _ h => h) (by kernel_rfl) ?_ ?_; rotate_left; · (intro wC hC; obtain ⟨c1, c2, c3, c4⟩ := hC; go_simp <;> with_reducible rfl)
  refine wpC_step 4 rfl (by kernel_rfl) (by kernel_rfl) (by simp [go_sem]) (fun K hK => ?_)
  go_simp
  go_wp2_with ((go_at_call_of 43 h1; refine (r1 _).mono ?_; rintro e w' ⟨rfl, hw⟩; rw [hw]; clear hw w'))
  try (refine hK _ _ ?_; clear hK K)
  refine wpC_step 9 rfl (by kernel_rfl) (by kernel_rfl) (by simp [go_sem]) (fun K hK => ?_)
  go_simp
  go_wp2_with ((go_at_call_of 43 l1; refine (r2 _).mono ?_; rintro e w' ⟨rfl, hw⟩; rw [hw]; clear hw w'))
  try (refine hK _ _ ?_; clear hK K)
  refine wpC_step 10 rfl (by kernel_rfl) (by kernel_rfl) (by simp [go_sem]) (fun K hK => ?_)
  go_simp
  try (refine hK _ _ ?_; clear hK K)
  refine wpC_step 11 rfl (by kernel_rfl) (by kernel_rfl) (by simp [go_sem]) (fun K hK => ?_)
  go_simp
  go_wp2_with ((go_at_call 42; refine (or_any' x y z HZ.out _ _ (drew_at _ _ _ _ 0 (by simp)) (drew_at _ _ _ _ 1 (by simp))).mono ?_; rintro e w' ⟨rfl, hw⟩; rw [hw]; clear hw w'))
  try (refine hK _ _ ?_; clear hK K)
  refine wpC_step 12 rfl (by kernel_rfl) (by kernel_rfl) (by simp [go_sem]) (fun K hK => ?_)
  go_simp
  try (refine hK _ _ ?_; clear hK K)
  refine wpC_done (by kernel_rfl) (by simp [go_sem]) ?_
  go_wp2
  refine hQ.out _ _ ⟨rfl, ?_⟩
  exact (bmore (bmore (bmore (Below.refl _ _) _) _) _).drew
end Go.Proofs.Ytajlgpamcpgalab

namespace Go.Proofs.Ytajlgpamcpgalab
open Go.ChangeShapes Go.WideShapes Go.ChangeAt Go.RowKit
set_option linter.unusedVariables false
set_option linter.unusedSimpArgs false
set_option maxRecDepth 100000

/-! ### sound, row, compare, tail -/
def soundF (k : Int) (neg : Bool) (s : Int) (hi lo : Nat) (rest : Bool) (far : Int) : Bool :=
  if k = 0 ∨ k = 2 then decide (neg = false ∧ s = 0 ∧ hi = 0 ∧ lo = 0 ∧ rest = false) else decide (k = 1 ∧ 9223372036854775808 ≤ hi ∧ -far ≤ s ∧ s ≤ far)
theorem soundF_X (k : Int) (neg : Bool) (s : Int) (hi lo : Nat) (rest : Bool) : soundF k neg s hi lo rest 1099511627776 = soundX k neg s hi lo rest := rfl
theorem soundF_N (k : Int) (neg : Bool) (s : Int) (f : Nat) : soundF k neg s f 0 false 1073741824 = soundN k neg s f := by unfold soundF soundN; simp
set_option maxHeartbeats 1000000 in
theorem rsound_any (k : Int) (neg : Bool) (s : Int) (hi lo : Nat) (rest : Bool) (far : Int) (hh : hi < 2 ^ 64) (hf : 0 ≤ far ∧ far ≤ 1099511627776) (w : World) :
    Calls Try.prog 15 #[exV k neg s hi lo rest, .int .i64 far] w fun e w' => e = .returned (.bool (soundF k neg s hi lo rest far)) ∧ Below w.heap.size w w' := by
  have hsh : ((hi : Int) / 9223372036854775808 == 1) = decide (9223372036854775808 ≤ hi) := by
    by_cases h : 9223372036854775808 ≤ hi
    · rw [decide_eq_true h]; exact beq_iff_eq.2 (by omega)
    · rw [decide_eq_false h]; exact beq_eq_false_iff_ne.2 (by omega)
  have hwr : IntKind.i64.wrap (-far) = -far := wrapI (by omega)
  clear hf
  unfold exV soundF
  refine cps fun Q hQ => ?_
  by_cases h0 : k = 0
  · subst h0
    go_enter Try.func15, Try.ntmps15
    go_wp2
    all_goals exact hQ.out _ _ ⟨ret_b (by simp_all), cmore (Below.refl _ _) _⟩
  · by_cases h2 : k = 2
    · subst h2
      go_enter Try.func15, Try.ntmps15
      go_wp2
      all_goals exact hQ.out _ _ ⟨ret_b (by simp_all), cmore (Below.refl _ _) _⟩
    · by_cases h1 : k = 1
      · subst h1
        go_enter Try.func15, Try.ntmps15
        go_wp2
        all_goals exact hQ.out _ _ ⟨ret_b (by simp_all <;> omega), cmore (Below.refl _ _) _⟩
      · have d0 : (k == 0) = false := beq_eq_false_iff_ne.2 h0
        have d1 : (k == 1) = false := beq_eq_false_iff_ne.2 h1
        have d2 : (k == 2) = false := beq_eq_false_iff_ne.2 h2
        have HN : Hid (¬ k = 0 ∧ ¬ k = 1 ∧ ¬ k = 2) := ⟨h0, h1, h2⟩
        clear h0 h1 h2
        go_enter Try.func15, Try.ntmps15
        go_wp2
        all_goals exact hQ.out _ _ ⟨ret_b (by have := HN.out; simp_all), cmore (Below.refl _ _) _⟩
set_option maxHeartbeats 1000000 in
theorem rrow_any (k : Int) (h1 : -200 ≤ k) (h2 : k ≤ 61) (w : World) :
    Calls Try.prog 26 #[.int .i64 k] w fun e w' => e = .returned (.tuple #[.int .u64 (numOf (headK k) : Nat), .int .i64 ((headK k).length : Nat)]) ∧ w' = w := by
  obtain ⟨a, b⟩ := headK_num k
  rw [a, b]
  clear a b
  refine cps fun Q hQ => ?_
  by_cases h : 0 ≤ k
  · rw [if_pos h, if_pos h] at hQ
    obtain ⟨d, rfl⟩ := Int.eq_ofNat_of_zero_le h
    rw [Int.toNat_natCast] at hQ
    obtain ⟨D, hD⟩ : ∃ D, D = d + 2 := ⟨_, rfl⟩
    rw [← hD] at hQ
    have e1 : IntKind.i64.wrap ((d : Int) + 2) = (D : Int) := by rw [wrapI (by omega)]; omega
    have e2 : IntKind.u64.wrap (IntKind.u64.wrap (2 ^ D) - 2) = ((2 ^ D - 2 : Nat) : Int) := by
      have c : ((2 : Int) ^ D) = ((2 ^ D : Nat) : Int) := by simp
      have p1 : 2 ^ D ≤ 2 ^ 63 := Nat.pow_le_pow_right (by decide) (by omega)
      have p2 : 2 ^ 2 ≤ 2 ^ D := Nat.pow_le_pow_right (by decide) (by omega)
      rw [c, wrapN, Nat.mod_eq_of_lt (by omega), IntKind.wrap_u64]
      generalize 2 ^ D = X at *
      omega
    have e3 : IntKind.u64.wrap (IntKind.u64.wrap (1 * 2 ^ D) - 2) = ((2 ^ D - 2 : Nat) : Int) := by rw [Int.one_mul]; exact e2
    generalize 2 ^ D - 2 = X at *
    have g2 : (0 : Int) ≤ (D : Int) := by omega
    have g3 : decide ((0 : Int) ≤ (d : Int)) = true := decide_eq_true (by omega)
    have gm : min D 64 = D := by omega
    clear hD h1 h2 h
    go_enter Try.func26, Try.ntmps26
    go_wp2
    exact hQ.out _ _ ⟨rfl, rfl⟩
  · rw [if_neg h, if_neg h] at hQ
    have e1 : IntKind.i64.wrap (1 - k) = (((1 - k).toNat : Nat) : Int) := by rw [wrapI (by omega)]; omega
    generalize (1 - k).toNat = X at *
    have g : decide (0 ≤ k) = false := decide_eq_false h
    go_enter Try.func26, Try.ntmps26
    go_wp2
    exact hQ.out _ _ ⟨rfl, rfl⟩
theorem rcompare_any {a h l : Nat} (rest : Bool) (ha : Tw a h l) (w : World) :
    Calls Try.prog 30 #[.agg #[.int .u64 h, .int .u64 l], .bool rest] w fun e w' => e = .returned (.int .i64 (cmpX a rest : Nat)) ∧ Below w.heap.size w w' := by
  have k1 := tcmp_any ha (b := 2 ^ 127) (h2 := 9223372036854775808) (l2 := 0) ⟨by decide, by decide, by decide⟩
  refine cps fun Q hQ => ?_
  unfold cmpX at hQ
  rcases Nat.lt_trichotomy a (2 ^ 127) with hc | hc | hc
  · rw [cmpN_lt hc] at k1
    rw [if_neg (by omega), if_neg (by omega)] at hQ
    by_cases h0 : a = 0
    · have hz : h = 0 ∧ l = 0 := by have := ha.eq; omega
      obtain ⟨rfl, rfl⟩ := hz
      subst h0
      clear ha hc
      cases rest
      all_goals
        go_enter Try.func30, Try.ntmps30
        go_wp2_with (go_at_call 39; refine (k1 _).mono ?_; rintro e w1 ⟨rfl, hb1⟩; obtain ⟨hc1, hf1⟩ := bcell hb1; have z1 : w.heap.size < w1.heap.size := (by have := hb1.size; simp at this; omega))
        exact hQ.out _ _ ⟨rfl, cthen (cmore (Below.refl _ _) _) hb1⟩
    · rw [if_neg (fun c => h0 c.1)] at hQ
      have hz : (¬ h = 0) ∨ (h = 0 ∧ ¬ l = 0) := by have := ha.eq; omega
      clear ha hc h0
      rcases hz with hz | ⟨rfl, hz⟩
      · have d1 : ((h : Int) == 0) = false := beq_eq_false_iff_ne.2 (by omega)
        clear hz
        go_enter Try.func30, Try.ntmps30
        go_wp2_with (go_at_call 39; refine (k1 _).mono ?_; rintro e w1 ⟨rfl, hb1⟩; obtain ⟨hc1, hf1⟩ := bcell hb1; have z1 : w.heap.size < w1.heap.size := (by have := hb1.size; simp at this; omega))
        exact hQ.out _ _ ⟨rfl, cthen (cmore (Below.refl _ _) _) hb1⟩
      · have d1 : ((l : Int) == 0) = false := beq_eq_false_iff_ne.2 (by omega)
        clear hz
        go_enter Try.func30, Try.ntmps30
        go_wp2_with (go_at_call 39; refine (k1 _).mono ?_; rintro e w1 ⟨rfl, hb1⟩; obtain ⟨hc1, hf1⟩ := bcell hb1; have z1 : w.heap.size < w1.heap.size := (by have := hb1.size; simp at this; omega))
        exact hQ.out _ _ ⟨rfl, cthen (cmore (Below.refl _ _) _) hb1⟩
  · subst hc
    rw [cmpN_eq] at k1
    rw [if_pos rfl] at hQ
    clear ha
    cases rest
    all_goals
      go_enter Try.func30, Try.ntmps30
      go_wp2_with (go_at_call 39; refine (k1 _).mono ?_; rintro e w1 ⟨rfl, hb1⟩)
      exact hQ.out _ _ ⟨rfl, cthen (cmore (Below.refl _ _) _) hb1⟩
  · rw [cmpN_gt hc] at k1
    rw [if_neg (by omega), if_pos hc] at hQ
    clear ha hc
    go_enter Try.func30, Try.ntmps30
    go_wp2_with (go_at_call 39; refine (k1 _).mono ?_; rintro e w1 ⟨rfl, hb1⟩)
    exact hQ.out _ _ ⟨rfl, cthen (cmore (Below.refl _ _) _) hb1⟩
end Go.Proofs.Ytajlgpamcpgalab

namespace Go.Proofs.Ytajlgpamcpgalab
open Go.ChangeShapes Go.WideShapes Go.ChangeAt Go.RowKit
set_option linter.unusedVariables false
set_option linter.unusedSimpArgs false
set_option maxRecDepth 100000

/-! ### what stands behind the run -/
theorem top_off (hi : Nat) (h1 : 9223372036854775808 ≤ hi) (h2 : hi < 18446744073709551616) : bits BinOp.andNot IntKind.u64 (hi : Int) 9223372036854775808 = ((hi - 9223372036854775808 : Nat) : Int) := by
  have := u64_andNot_nat hi 9223372036854775808 h2 (by decide)
  rw [show ((9223372036854775808 : Nat) : Int) = 9223372036854775808 from rfl] at this
  rw [this, show 18446744073709551615 - 9223372036854775808 = 2 ^ 63 - 1 by decide, Nat.and_two_pow_sub_one_eq_mod]
  have e : hi % 2 ^ 63 = hi - 9223372036854775808 := by omega
  rw [e]
theorem exp_or (h1 e : Nat) (h : h1 < 4611686018427387904) (he : e < 4) : bits BinOp.or IntKind.u64 (h1 : Int) (IntKind.u64.wrap ((e : Int) * 4611686018427387904)) = ((e * 4611686018427387904 + h1 : Nat) : Int) := by
  have e1 : IntKind.u64.wrap ((e : Int) * 4611686018427387904) = ((e * 4611686018427387904 : Nat) : Int) := by rw [IntKind.wrap_u64]; omega
  rw [e1, u64_or_nat h1 (e * 4611686018427387904) (by omega) (by omega)]
  congr 1
  have := Nat.two_pow_add_eq_or_of_lt (i := 62) (b := h1) h e
  rw [show 2 ^ 62 * e = e * 4611686018427387904 by rw [Nat.mul_comm]] at this
  rw [this, Nat.or_comm]
/-- an operation that its guard leaves out, carried to the front -/
theorem wpC_skip {P : Program} {ops : Array Oper} {Q : Exit → Act → World → Prop} {md : Region.Mode} {C : World → Prop} (i : Nat) {oi : Oper} {fuel : Nat} {listed : Array Bool} {a : Act} {w : World} (hi : ops[i]? = some oi)
    (hf : (Region.noSelect ops && Region.free md ops listed i && (Region.ready md ops listed).contains i) = true)
    (hQ : ∀ c a w, Q (.panic c) (a.put oi.dst undef) w → Q (.panic c) a w) (hwant : Region.wanted oi (yielded ops a.tmps) = false)
    (h : wpAnyC C P md ops Q fuel (listed.setIfInBounds i true) (a.put oi.dst undef) w) : wpAnyC C P md ops Q (fuel + 1) listed a w := by
  simp only [Bool.and_eq_true] at hf
  exact wpC_first hi (Region.noSelect_spec hf.1.1) hQ fuel listed a w (Region.free_spec hi hf.1.2) (by simpa using hf.2) (.inr ⟨hwant, rfl⟩) h
set_option maxHeartbeats 1000000 in
theorem rtail_any (e : Nat) (he : e < 4) (k : Int) (neg : Bool) (s : Int) (hi lo : Nat) (rest : Bool) (h : WordsX hi lo) {th tl : Nat} (ht : Tw (e * 2 ^ 126 + (manX hi lo - 2 ^ 127) / 2) th tl) (w : World) :
    Calls Try.prog 27 #[.int .i64 e, exV k neg s hi lo rest] w fun r w' => r = .returned (.tuple #[.agg #[.int .u64 th, .int .u64 tl], .bool (decide (lo % 2 = 1) || rest)]) ∧ Below w.heap.size w w' := by
  obtain ⟨a1, a2, a3⟩ := h
  have hA : Tw (manX hi lo - 2 ^ 127) (hi - 9223372036854775808) lo := by
    unfold manX
    rw [show (2 : Nat) ^ 127 = 9223372036854775808 * 18446744073709551616 by decide]
    exact ⟨by omega, by omega, by omega⟩
  obtain ⟨h1, l1, hs⟩ : ∃ h1 l1, Tw ((manX hi lo - 2 ^ 127) / 2 ^ 1) h1 l1 := by
    have := hA.lt
    exact ⟨(manX hi lo - 2 ^ 127) / 2 ^ 1 / 18446744073709551616, (manX hi lo - 2 ^ 127) / 2 ^ 1 % 18446744073709551616, by omega, by omega, by omega⟩
  have hh1 : h1 < 4611686018427387904 := by
    have e1 := hs.eq
    have e2 := hA.eq
    have e3 := hs.lo
    rw [e2] at e1
    clear ht hs hA
    omega
  have hlost : decide (lo % 2 = 1) = decide ((manX hi lo - 2 ^ 127) % 2 ^ 1 ≠ 0) := by
    rw [hA.eq]
    have : ((hi - 9223372036854775808) * 18446744073709551616 + lo) % 2 ^ 1 = lo % 2 := by omega
    rw [this]
    rcases Nat.mod_two_eq_zero_or_one lo with c | c <;> simp [c]
  obtain ⟨hth, rfl⟩ := ht.one (show Tw (e * 2 ^ 126 + (manX hi lo - 2 ^ 127) / 2) (e * 4611686018427387904 + h1) l1 from ⟨by
    have e1 := hs.eq
    rw [Nat.pow_one] at e1
    rw [e1, show (2 : Nat) ^ 126 = 4611686018427387904 * 18446744073709551616 by decide]
    omega, by omega, hs.lo⟩)
  have k1 := fun w => tshr_any 1 (by decide) hA hs hlost w
  have f1 := top_off hi a1 a2
  have f2 := exp_or h1 e hh1 he
  have f3 : IntKind.u64.wrap (e : Int) = (e : Int) := by rw [IntKind.wrap_u64]; omega
  have f4 : bits BinOp.or IntKind.u64 (h1 : Int) (IntKind.u64.wrap (IntKind.u64.wrap (e : Int) * 4611686018427387904)) = ((e * 4611686018427387904 + h1 : Nat) : Int) := by rw [f3]; exact f2
  have f5 : bits BinOp.or IntKind.u64 (h1 : Int) ((e : Int) * 4611686018427387904) = ((e * 4611686018427387904 + h1 : Nat) : Int) := by
    rw [← f2]; congr 1; rw [IntKind.wrap_u64]; omega
  rw [← hth] at f2 f4 f5
  obtain ⟨hi', hhi⟩ : ∃ x, x = hi - 9223372036854775808 := ⟨_, rfl⟩
  rw [← hhi] at f1 k1
  clear hA hs hlost ht a1 a2 a3 hh1 hth hhi
  generalize decide (lo % 2 = 1) = lost at *
  unfold exV
  refine cps fun Q hQ => ?_
  cases lost
  · go_enter Try.func27, Try.ntmps27
    go_wp2_with (go_at_call 28; refine (k1 _).mono ?_; rintro e w1 ⟨rfl, hb1⟩; obtain ⟨hc1, hf1⟩ := bcell hb1; have z1 : w.heap.size + 1 < w1.heap.size := (by have := hb1.size; simp at this; omega); have z0 : w.heap.size < w1.heap.size := (by omega))
    refine wpC_region (fun W => W.cell? ⟨w.heap.size, 5, none⟩ = some (.bool rest) ∧ W.cell? ⟨w1.heap.size, 0, none⟩ = some (.int .u64 th) ∧ W.cell? ⟨w1.heap.size, 1, none⟩ = some (.int .u64 tl)) (by kernel_rfl) ?_
    refine wpC_take 0 (v := ?_) rfl (by kernel_rfl) (fun _ _ _ h => h) (by kernel_rfl) ?_ ?_; rotate_left; · (intro wC hC; obtain ⟨c1, c2, c3⟩ := hC; go_simp <;> with_reducible rfl)
    refine wpC_take 1 (v := ?_) rfl (by kernel_rfl) (fun _ _ _ h => h) (by kernel_rfl) ?_ ?_; rotate_left; · (intro wC hC; obtain ⟨c1, c2, c3⟩ := hC; go_simp <;> with_reducible rfl)
    refine wpC_take 2 (v := ?_) rfl (by kernel_rfl) (fun _ _ _ h => h) (by kernel_rfl) ?_ ?_; rotate_left; · (intro wC hC; obtain ⟨c1, c2, c3⟩ := hC; go_simp <;> with_reducible rfl)
    refine wpC_take 3 (v := ?_) rfl (by kernel_rfl) (fun _ _ _ h => h) (by kernel_rfl) ?_ ?_; rotate_left; · (intro wC hC; obtain ⟨c1, c2, c3⟩ := hC; go_simp <;> with_reducible rfl)
    refine wpC_take 4 (v := ?_) rfl (by kernel_rfl) (fun _ _ _ h => h) (by kernel_rfl) ?_ ?_; rotate_left; · (intro wC hC; obtain ⟨c1, c2, c3⟩ := hC; go_simp <;> with_reducible rfl)
    refine wpC_take 5 (v := ?_) rfl (by kernel_rfl) (fun _ _ _ h => h) (by kernel_rfl) ?_ ?_; rotate_left; · (intro wC hC; obtain ⟨c1, c2, c3⟩ := hC; go_simp <;> with_reducible rfl)
    refine wpC_step 6 rfl (by kernel_rfl) (by kernel_rfl) (by simp [go_sem, hc1, z0, f5]) (fun K hK => ?_)
    go_simp
    try (refine hK _ _ ?_; clear hK K)
    refine wpC_take 7 (v := ?_) rfl (by kernel_rfl) (fun _ _ _ h => h) (by kernel_rfl) ?_ ?_; rotate_left; · (intro wC hC; obtain ⟨c1, c2, c3⟩ := hC; go_simp <;> with_reducible rfl)
    refine wpC_done (by kernel_rfl) (by simp [go_sem, hc1, z0, f5]) ?_
    go_wp2
    refine bodyPost_ret (v := .tuple #[.agg #[.int .u64 th, .int .u64 tl], .bool _]) (by simp [results, Try.results27, go_sem, hc1, z0, z1]) rfl (hQ.out _ _ ⟨rfl, ?_⟩)
    exact bdrew (bmore (bset (bset (bthen (bmore (bmore (Below.refl _ _) _) _) hb1) (by omega) _ _) (by omega) _ _) _)
  · go_enter Try.func27, Try.ntmps27
    go_wp2_with (go_at_call 28; refine (k1 _).mono ?_; rintro e w1 ⟨rfl, hb1⟩; obtain ⟨hc1, hf1⟩ := bcell hb1; have z1 : w.heap.size + 1 < w1.heap.size := (by have := hb1.size; simp at this; omega); have z0 : w.heap.size < w1.heap.size := (by omega))
    refine wpC_region (fun W => W.cell? ⟨w.heap.size, 5, none⟩ = some (.bool rest) ∧ W.cell? ⟨w1.heap.size, 0, none⟩ = some (.int .u64 th) ∧ W.cell? ⟨w1.heap.size, 1, none⟩ = some (.int .u64 tl)) (by kernel_rfl) ?_
    refine wpC_take 0 (v := ?_) rfl (by kernel_rfl) (fun _ _ _ h => h) (by kernel_rfl) ?_ ?_; rotate_left; · (intro wC hC; obtain ⟨c1, c2, c3⟩ := hC; go_simp <;> with_reducible rfl)
    refine wpC_take 1 (v := ?_) rfl (by kernel_rfl) (fun _ _ _ h => h) (by kernel_rfl) ?_ ?_; rotate_left; · (intro wC hC; obtain ⟨c1, c2, c3⟩ := hC; go_simp <;> with_reducible rfl)
    refine wpC_take 2 (v := ?_) rfl (by kernel_rfl) (fun _ _ _ h => h) (by kernel_rfl) ?_ ?_; rotate_left; · (intro wC hC; obtain ⟨c1, c2, c3⟩ := hC; go_simp <;> with_reducible rfl)
    refine wpC_skip 3 rfl (by kernel_rfl) (fun _ _ _ h => h) (by kernel_rfl) ?_
    refine wpC_skip 4 rfl (by kernel_rfl) (fun _ _ _ h => h) (by kernel_rfl) ?_
    refine wpC_take 5 (v := ?_) rfl (by kernel_rfl) (fun _ _ _ h => h) (by kernel_rfl) ?_ ?_; rotate_left; · (intro wC hC; obtain ⟨c1, c2, c3⟩ := hC; go_simp <;> with_reducible rfl)
    refine wpC_step 6 rfl (by kernel_rfl) (by kernel_rfl) (by simp [go_sem, hc1, z0, f5]) (fun K hK => ?_)
    go_simp
    try (refine hK _ _ ?_; clear hK K)
    refine wpC_take 7 (v := ?_) rfl (by kernel_rfl) (fun _ _ _ h => h) (by kernel_rfl) ?_ ?_; rotate_left; · (intro wC hC; obtain ⟨c1, c2, c3⟩ := hC; go_simp <;> with_reducible rfl)
    refine wpC_done (by kernel_rfl) (by simp [go_sem, hc1, z0, f5]) ?_
    go_wp2
    refine bodyPost_ret (v := .tuple #[.agg #[.int .u64 th, .int .u64 tl], .bool _]) (by simp [results, Try.results27, go_sem, hc1, z0, z1]) rfl (hQ.out _ _ ⟨rfl, ?_⟩)
    exact bdrew (bmore (bset (bset (bthen (bmore (bmore (Below.refl _ _) _) _) hb1) (by omega) _ _) (by omega) _ _) _)
end Go.Proofs.Ytajlgpamcpgalab

namespace Go.Proofs.Ytajlgpamcpgalab
open Go.ChangeShapes Go.WideShapes Go.ChangeAt Go.RowKit
set_option linter.unusedVariables false
set_option linter.unusedSimpArgs false
set_option maxRecDepth 100000

/-! ### the string, cut -/
theorem pow_join (R room n : Nat) (h : room ≤ 62) : R * 2 ^ room < 2 ^ 64 → IntKind.u64.wrap ((R : Int) * 2 ^ room) = ((R * 2 ^ room : Nat) : Int) := by
  intro h2
  have e : ((R : Int) * 2 ^ room) = ((R * 2 ^ room : Nat) : Int) := by simp
  rw [e, wrapN, Nat.mod_eq_of_lt h2]
theorem tail_half (s : Int) (M : Nat) (h : Mant M) : tailN s M / 2 < 340282366920938463463374607431768211456 := by
  have := tail_lt s M h
  rw [show (2 : Nat) ^ 129 = 340282366920938463463374607431768211456 * 2 by decide] at this
  exact Nat.div_lt_of_lt_mul (by rw [Nat.mul_comm]; exact this)
theorem half_pow (x y : Nat) : (x * (2 ^ 127) + y) / 2 = x * 2 ^ 126 + y / 2 := by
  rw [show (2 : Nat) ^ 127 = 2 * 2 ^ 126 by decide, show x * (2 * 2 ^ 126) = 2 * (x * 2 ^ 126) by rw [Nat.mul_left_comm], Nat.mul_add_div (by decide)]
theorem tw_of {x : Nat} (h : x < 340282366920938463463374607431768211456) : ∃ a b, Tw x a b := ⟨x / 18446744073709551616, x % 18446744073709551616, by omega, by omega, by omega⟩
set_option maxHeartbeats 2000000 in
theorem rcutstr_any (n : Nat) (neg : Bool) (s : Int) (hi lo : Nat) (rest : Bool) (hn : Wd n) (h : WordsX hi lo) (h1 : s < 4 * n - 8) (h2 : 8 - 4 * (n : Int) ≤ s) (w : World) :
    Calls Try.prog 18 #[.int .i64 n, exV 1 neg s hi lo rest] w fun e w' => e = .returned (.tuple #[.int .u64 (numOf ((strX s hi lo).take (n - 1)) : Nat), .int .i64 (leftL ((strX s hi lo).drop (n - 1)) rest : Nat)]) ∧ Below w.heap.size w w' := by
  have hw := wd_le hn
  obtain ⟨hr1, hr2⟩ := head_room n s hn h1 h2
  obtain ⟨room, hroom⟩ : ∃ r, r = n - 1 - (headK (s / 4)).length := ⟨_, rfl⟩
  obtain ⟨B, hB⟩ : ∃ B, B = tailN s (manX hi lo) / 2 := ⟨_, rfl⟩
  obtain ⟨c1, c2, c3⟩ := cut_parts n s hi lo rest h hr1 hw.2 B room hB hroom
  have hrl := numOf_lt (headK (s / 4))
  have hBe : B = (s % 4).toNat * 2 ^ 126 + (manX hi lo - 2 ^ 127) / 2 := by
    rw [hB]; unfold tailN
    exact half_pow _ _
  have hBl : B < 340282366920938463463374607431768211456 := hB ▸ tail_half s (manX hi lo) h.mant
  obtain ⟨bh, bl, hTB⟩ : ∃ bh bl, Tw B bh bl := tw_of hBl
  have k2 := fun w => rtail_any (s % 4).toNat (by omega) 1 neg s hi lo rest h (hBe ▸ hTB) w
  have k1 := rrow_any (s / 4) (by omega) (by omega)
  obtain ⟨F, hF⟩ : ∃ F, F = B / 2 ^ (128 - room) := ⟨_, rfl⟩
  rw [← hF] at c1 c2
  have hr62 : room ≤ 62 := by omega
  have hF62 : F < 4611686018427387904 := Nat.lt_of_lt_of_le c2 (Nat.le_trans (Nat.pow_le_pow_right (by decide) hr62) (by decide))
  have hTF : Tw (B / 2 ^ (128 - room)) 0 F := ⟨by rw [← hF]; omega, by omega, by omega⟩
  have k3 := fun w => tshr_any (c := decide (B % 2 ^ (128 - room) ≠ 0)) (128 - room) (by omega) hTB hTF rfl w
  obtain ⟨L, hL⟩ : ∃ L, L = B * 2 ^ room % 2 ^ 128 := ⟨_, rfl⟩
  rw [← hL] at c3
  have hLl : L < 340282366920938463463374607431768211456 := by rw [hL]; exact Nat.mod_lt _ (by decide)
  obtain ⟨lh, ll, hTL⟩ : ∃ lh ll, Tw L lh ll := tw_of hLl
  have k4 := fun w => tshl_any (c := decide (340282366920938463463374607431768211456 ≤ B * 2 ^ room)) room (by omega) hTB (hL ▸ hTL) rfl w
  have k5 := rcompare_any (decide (lo % 2 = 1) || rest) hTL
  rw [← c3] at k5
  have hrun : numOf (headK (s / 4)) * 2 ^ room + 2 ^ room ≤ 2 ^ 63 := by
    rw [← Nat.succ_mul]
    refine Nat.le_trans (Nat.mul_le_mul_right _ hrl) ?_
    rw [← Nat.pow_add]
    exact Nat.pow_le_pow_right (by decide) (by omega)
  have w1 := pow_join (numOf (headK (s / 4))) room n hr62 (by omega)
  have w2 := u64_or_nat (numOf (headK (s / 4)) * 2 ^ room) F (by omega) (by omega)
  have w3 : (numOf (headK (s / 4)) * 2 ^ room) ||| F = numOf (headK (s / 4)) * 2 ^ room + F := by
    have := Nat.two_pow_add_eq_or_of_lt (i := room) (b := F) c2 (numOf (headK (s / 4)))
    rw [Nat.mul_comm (2 ^ room)] at this
    exact this.symm
  rw [w3, ← c1] at w2
  have e1 : IntKind.i64.wrap (s / 4 * 4) = s / 4 * 4 := wrapI (by omega)
  have e2 : IntKind.i64.wrap (s - s / 4 * 4) = (((s % 4).toNat : Nat) : Int) := by rw [wrapI (by omega)]; omega
  have e3 : IntKind.i64.wrap ((n : Int) - 1) = (n : Int) - 1 := wrapI (by omega)
  have e4 : IntKind.i64.wrap ((n : Int) - 1 - ((headK (s / 4)).length : Nat)) = (room : Int) := by rw [wrapI (by omega)]; omega
  have e5 : IntKind.i64.wrap (128 - (room : Int)) = ((128 - room : Nat) : Int) := by rw [wrapI (by omega)]; omega
  have g0 : (0 : Int) ≤ (room : Int) := by omega
  have gm : min room 64 = room := by omega
  clear hF hL hB hBe hBl hTB hTF hTL hLl hrun w3 hrl c1 c2 c3 hr1 hr2 hroom h1 h2 h hn
  generalize numOf (headK (s / 4)) * 2 ^ room = RR at *
  generalize numOf (headK (s / 4)) = R at *
  generalize (headK (s / 4)).length = size at *
  generalize leftL ((strX s hi lo).drop (n - 1)) rest = LF at *
  generalize numOf ((strX s hi lo).take (n - 1)) = P at *
  generalize decide (B % 2 ^ (128 - room) ≠ 0) = q1 at *
  generalize decide (340282366920938463463374607431768211456 ≤ B * 2 ^ room) = q2 at *
  generalize (decide (lo % 2 = 1) || rest) = rr at *
  generalize (s % 4).toNat = ee at *
  generalize 128 - room = j at *
  unfold exV at *
  refine cps fun Q hQ => ?_
  go_enter Try.func18, Try.ntmps18
  go_wp2_with (first
    | (go_at_call 26; refine (k1 _).mono ?_; rintro e wx ⟨rfl, hwx⟩; rw [hwx]; clear hwx wx)
    | (go_at_call 27; refine (k2 _).mono ?_; rintro e w1 ⟨rfl, hb1⟩; have z1 : w.heap.size < w1.heap.size := (by have := hb1.size; simp at this; omega); have HB1 : Hid (Below _ _ _) := cthen (cmore (Below.refl _ _) _) hb1; clear hb1)
    | (go_at_call 28; refine (k3 _).mono ?_; rintro e w2 ⟨rfl, hb2⟩; have R9 := (hb2.block w1.heap.size (by simp)).trans (rownew w1 _ _); have z2 : w1.heap.size < w2.heap.size := (by have := hb2.size; simp at this; omega); have x0 := rowcell R9 0; have x1 := rowcell R9 1; simp only [List.getElem?_toArray, List.getElem?_cons_zero, List.getElem?_cons_succ] at x0 x1; have HB2 : Hid (Below _ _ _) := cthen (cmore HB1.out _) hb2; have HR9 : Hid _ := R9; clear hb2 R9)
    | (go_at_call 29; refine (k4 _).mono ?_; rintro e w3 ⟨rfl, hb3⟩; have R12 := (hb3.block w2.heap.size (by simp)).trans (rownew w2 _ _); have z3 : w2.heap.size < w3.heap.size := (by have := hb3.size; simp at this; omega); have y0 := rowcell R12 0; have y1 := rowcell R12 1; simp only [List.getElem?_toArray, List.getElem?_cons_zero, List.getElem?_cons_succ] at y0 y1; have HB3 : Hid (Below _ _ _) := cthen (cmore HB2.out _) hb3; have HR12 : Hid _ := R12; clear hb3 R12))
  have R15 := rownew w3 #[.int .u64 lh, .int .u64 ll] 70
  have BW : Hid (Below _ _ _) := cmore HB3.out (.cells #[.int .u64 lh, .int .u64 ll] 70)
  have x120 := (Below.heap_alloc w3 (.cells #[.int .u64 lh, .int .u64 ll] 70) _ z3).trans HR12.out
  obtain ⟨W, hW⟩ : ∃ W, W = w3.alloc (.cells #[.int .u64 lh, .int .u64 ll] 70) := ⟨_, rfl⟩
  rw [← hW] at R15 x120 BW ⊢
  have u1 := rowcell x120 1
  have v0 := rowcell R15 0
  have v1 := rowcell R15 1
  simp only [List.getElem?_toArray, List.getElem?_cons_zero, List.getElem?_cons_succ] at u1 v0 v1
  clear hW
  refine wpC_region (fun W => W.cell? ⟨w2.heap.size, 1, none⟩ = some (.int .u64 F) ∧ W.cell? ⟨w3.heap.size, 0, none⟩ = some (.int .u64 lh) ∧ W.cell? ⟨w3.heap.size, 1, none⟩ = some (.int .u64 ll)) (by kernel_rfl) ?_
  refine wpC_take 0 (v := ?_) rfl (by kernel_rfl) (fun _ _ _ h => h) (by kernel_rfl) ?_ ?_; rotate_left; · (intro wC hC; obtain ⟨c1, c2, c3⟩ := hC; go_simp <;> with_reducible rfl)
  refine wpC_take 1 (v := ?_) rfl (by kernel_rfl) (fun _ _ _ h => h) (by kernel_rfl) ?_ ?_; rotate_left; · (intro wC hC; obtain ⟨c1, c2, c3⟩ := hC; go_simp <;> with_reducible rfl)
  refine wpC_take 2 (v := ?_) rfl (by kernel_rfl) (fun _ _ _ h => h) (by kernel_rfl) ?_ ?_; rotate_left; · (intro wC hC; obtain ⟨c1, c2, c3⟩ := hC; go_simp <;> with_reducible rfl)
  refine wpC_take 3 (v := ?_) rfl (by kernel_rfl) (fun _ _ _ h => h) (by kernel_rfl) ?_ ?_; rotate_left; · (intro wC hC; obtain ⟨c1, c2, c3⟩ := hC; go_simp <;> with_reducible rfl)
  refine wpC_take 4 (v := ?_) rfl (by kernel_rfl) (fun _ _ _ h => h) (by kernel_rfl) ?_ ?_; rotate_left; · (intro wC hC; obtain ⟨c1, c2, c3⟩ := hC; go_simp <;> with_reducible rfl)
  refine wpC_take 5 (v := ?_) rfl (by kernel_rfl) (fun _ _ _ h => h) (by kernel_rfl) ?_ ?_; rotate_left; · (intro wC hC; obtain ⟨c1, c2, c3⟩ := hC; go_simp <;> with_reducible rfl)
  refine wpC_take 6 (v := ?_) rfl (by kernel_rfl) (fun _ _ _ h => h) (by kernel_rfl) ?_ ?_; rotate_left; · (intro wC hC; obtain ⟨c1, c2, c3⟩ := hC; go_simp <;> with_reducible rfl)
  refine wpC_take 7 (v := ?_) rfl (by kernel_rfl) (fun _ _ _ h => h) (by kernel_rfl) ?_ ?_; rotate_left; · (intro wC hC; obtain ⟨c1, c2, c3⟩ := hC; go_simp <;> with_reducible rfl)
  refine wpC_step 8 rfl (by kernel_rfl) (by kernel_rfl) ⟨u1, v0, v1⟩ (fun K hK => ?_)
  go_simp
  go_wp2_with ((go_at_call 30; refine (k5 _).mono ?_; rintro e w5 ⟨rfl, hb5⟩))
  try (refine hK _ _ ?_; clear hK K)
  refine wpC_take 9 (v := ?_) rfl (by kernel_rfl) (fun _ _ _ h => h) (by kernel_rfl) ?_ ?_; rotate_left; · (intro wC hC; obtain ⟨c1, c2, c3⟩ := hC; go_simp <;> with_reducible rfl)
  refine wpC_take 10 (v := ?_) rfl (by kernel_rfl) (fun _ _ _ h => h) (by kernel_rfl) ?_ ?_; rotate_left; · (intro wC hC; obtain ⟨c1, c2, c3⟩ := hC; go_simp <;> with_reducible rfl)
  have bcl := cdrew (Below.refl W.heap.size W)
  refine wpC_done (by kernel_rfl) (by have z4 : w2.heap.size < W.heap.size := rowlt x120; have z5 : w3.heap.size < W.heap.size := rowlt R15; exact ⟨(hb5.cell (p := ⟨w2.heap.size, 1, none⟩) z4).trans u1, (hb5.cell (p := ⟨w3.heap.size, 0, none⟩) z5).trans v0, (hb5.cell (p := ⟨w3.heap.size, 1, none⟩) z5).trans v1⟩) ?_
  go_wp2
  go_ret2
  exact hQ.out _ _ ⟨rfl, cthen BW.out (cthen bcl hb5)⟩
end Go.Proofs.Ytajlgpamcpgalab
