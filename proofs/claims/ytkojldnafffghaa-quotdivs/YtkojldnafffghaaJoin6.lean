import Derived.Test.YtkojldnafffghaaJoin5
import Derived.Test.YtkojldnafffghaaJoin3
import Derived.Laws.AppendOwnNone
import Derived.Test.YtkojldnafffghaaJoin1
import Derived.Deep.CutBlock
import Derived.Test.YtkojldnafffghaaJoin4
namespace Go.Proofs.Ytkojldnafffghaa
open Go.ChangeShapes Go.WideShapes Go.ChangeAt Go.RowKit
set_option linter.unusedVariables false
set_option linter.unusedSimpArgs false
set_option maxRecDepth 100000

/-! ### powers of 2 as patterns -/
def P63 : Nat := 9223372036854775808
theorem P63_eq : P63 = 9223372036854775808 := rfl
theorem P63_man : manX P63 0 = 2 ^ 127 := by unfold manX P63; decide
theorem P63_words : WordsX P63 0 := ⟨by decide, by decide, by decide⟩
def okT (n : Nat) (s : Int) : Bool := inR n s && fitsN n s P63
def patT (n : Nat) (s : Int) : Nat := if okT n s then patOf n false (cutL n s P63) else 0
theorem okT_facts (n : Nat) (s : Int) (hn : Wd n) (h : okT n s = true) :
    patT n s < 2 ^ n ∧ vK n (patT n s) = 1 ∧ valI n (patT n s) = sg false (manX P63 0) * ((2 ^ (s + 248).toNat : Nat) : Int) ∧ 8 - 4 * (n : Int) ≤ s ∧ s ≤ 4 * n - 8 ∧ patT n s = rndX n s P63 0 false := by
  obtain ⟨h1, h2⟩ := Bool.and_eq_true_iff.1 h
  obtain ⟨ht, hl⟩ := cut_true n s P63 hn h1
  obtain ⟨p1, p2, p3, p4⟩ := patOf_facts n hn false (cutL n s P63) hl ht
  obtain ⟨f1, f2⟩ := of_decide_eq_true h2
  have hr := of_decide_eq_true h1
  have e : patT n s = patOf n false (cutL n s P63) := by unfold patT; rw [if_pos h]
  rw [e]
  refine ⟨p1, p2, ?_, hr.1, hr.2, ?_⟩
  · unfold valI
    have k1 : vK n (patOf n false (cutL n s P63)) = 1 := p2
    have k2 : vB n (patOf n false (cutL n s P63)) = false := by unfold vB; rw [if_pos p2, p3]
    have k3 : vS n (patOf n false (cutL n s P63)) = s := by unfold vS; rw [if_pos p2, p4, f1]
    have k4 : vF n (patOf n false (cutL n s P63)) = P63 := by unfold vF; rw [if_pos p2, p4, f2]
    rw [if_pos k1, k2, k3, k4]
  · have := rnd_home n (cutL n s P63) hn hl ht
    rw [f1, f2] at this
    rw [this]; rfl
theorem okT_parts (n : Nat) (s : Int) (hn : Wd n) (h : okT n s = true) : vB n (patT n s) = false ∧ vS n (patT n s) = s ∧ vF n (patT n s) = P63 := by
  obtain ⟨h1, h2⟩ := Bool.and_eq_true_iff.1 h
  obtain ⟨ht, hl⟩ := cut_true n s P63 hn h1
  obtain ⟨p1, p2, p3, p4⟩ := patOf_facts n hn false (cutL n s P63) hl ht
  obtain ⟨f1, f2⟩ := of_decide_eq_true h2
  have e : patT n s = patOf n false (cutL n s P63) := by unfold patT; rw [if_pos h]
  rw [e]
  refine ⟨?_, ?_, ?_⟩
  · unfold vB; rw [if_pos p2, p3]
  · unfold vS; rw [if_pos p2, p4, f1]
  · unfold vF; rw [if_pos p2, p4, f2]
theorem two_mul (n : Nat) (s t : Int) (hn : Wd n) (hs : okT n s = true) (ht : okT n t = true) : patP n (patT n s) (patT n t) = rndX n (s + t) P63 0 false := by
  obtain ⟨_, a2, a3, a4, a5, _⟩ := okT_facts n s hn hs
  obtain ⟨_, b2, b3, b4, b5, _⟩ := okT_facts n t hn ht
  have hw := wd_le hn
  unfold patP
  rw [if_neg (by rw [a2, b2]; decide), a3, b3]
  have e1 : sg false (manX P63 0) * ((2 ^ (s + 248).toNat : Nat) : Int) * (sg false (manX P63 0) * ((2 ^ (t + 248).toNat : Nat) : Int)) = sg false (manX P63 0) * ((2 ^ (s + t + 623).toNat : Nat) : Int) := by
    rw [← sg_mul, ← sg_mul, ← sg_mul, sg_times]
    have hx : xorB false false = false := rfl
    rw [hx]
    congr 1
    rw [P63_man, ← Nat.pow_add, ← Nat.pow_add, ← Nat.pow_add, ← Nat.pow_add]
    congr 1
    omega
  rw [e1]
  have h := exI_real false (s + t) P63 0 P63_words (by omega) (-623) (s + t + 623).toNat (by omega)
  rw [show (-623 : Int) - 127 = eN + eN from rfl] at h
  have h0 : sg false (manX P63 0) * ((2 ^ (s + t + 623).toNat : Nat) : Int) ≠ 0 := by
    rw [← sg_mul, P63_man]
    have : 0 < 2 ^ 127 * 2 ^ (s + t + 623).toNat := Nat.mul_pos (Nat.pow_pos (by decide)) (Nat.pow_pos (by decide))
    unfold sg
    rw [if_neg (by decide)]
    generalize 2 ^ 127 * 2 ^ (s + t + 623).toNat = x at *
    omega
  rw [patI_of h0 h]
  rfl
theorem enc_two (n : Nat) (s : Int) (hn : Wd n) (h1 : -1000 ≤ s) (h2 : s ≤ 1000) (w : World) :
    Calls Try.prog 20 #[.int .i64 n, numV 1 false s P63] w fun e w' => e = .returned (.tuple #[.int .u64 (patT n s : Nat), .int .i64 (if okT n s then 0 else 8)]) ∧ Below w.heap.size w w' := by
  have hs : soundN 1 false s P63 = true := by unfold soundN; rw [if_neg (by decide)]; exact decide_eq_true ⟨rfl, by decide, by omega, by omega⟩
  unfold patT okT
  cases hr : inR n s
  · simp only [Bool.false_and, Bool.false_eq_true, if_false]
    exact encode6_out n false s P63 hn hs hr w
  · have := encode6_real n false s P63 hn hs (by decide) hr w
    simp only [Bool.true_and]
    cases hf : fitsN n s P63
    · rw [hf] at this
      simp only [Bool.false_eq_true, if_false] at this ⊢
      exact this
    · rw [hf] at this
      simp only [if_true] at this ⊢
      exact this
end Go.Proofs.Ytkojldnafffghaa

namespace Go.Proofs.Ytkojldnafffghaa
set_option maxRecDepth 100000
set_option linter.unusedVariables false
set_option linter.unusedSimpArgs false

/-! ### quotients (plain mathematics) -/
def quoN (f g : Nat) : Nat := f * 2 ^ 200 / g
def quoR (f g : Nat) : Bool := decide (f * 2 ^ 200 % g ≠ 0)
/-- the first 64 digits alone -/
def cutV (neg : Bool) (M : Nat) (e : Int) (r : Bool) : Value := exV 1 neg (heldX (e + blen M - 1)) (normN M / 2 ^ 64 % 2 ^ 64) 0 ((r || lostN M) || decide (normN M % 2 ^ 64 ≠ 0))
def mgC (n M : Nat) (e : Int) (r : Bool) : Nat := rndX n (heldX (e + blen M - 1)) (normN M / 2 ^ 64 % 2 ^ 64) 0 ((r || lostN M) || decide (normN M % 2 ^ 64 ≠ 0))
def quot11 (k : Int) (neg : Bool) (s : Int) (f : Nat) (k' : Int) (neg' : Bool) (s' : Int) (g : Nat) : Value :=
  if k = 2 ∨ k' ≠ 1 then exV 2 false 0 0 0 false
  else if k = 0 then exV 0 false 0 0 0 false
  else cutV (xorB neg neg') (quoN f g) (s - s' - 200) (quoR f g)
def patQ (n a b : Nat) : Nat :=
  if vK n a = 2 ∨ vK n b ≠ 1 then 2 ^ (n - 1)
  else if vK n a = 0 then 0
  else patR n (xorB (vB n a) (vB n b)) (mgC n (quoN (vF n a) (vF n b)) (vS n a - vS n b - 200) (quoR (vF n a) (vF n b)))
theorem word_blen {f : Nat} (h : WordsX f 0) : blen f = 64 := by
  have h1 := h.top
  have h2 := h.hi64
  exact blen_at (m := 63) h1 h2
/-- a word, shifted: nothing behind its 64 digits -/
theorem mgC_word (n f j : Nat) (e : Int) (h : WordsX f 0) (he : -1099511627776 ≤ e + j + 63 ∧ e + j + 63 ≤ 1099511627776) : mgC n (f * 2 ^ j) e false = rndX n (e + j + 63) f 0 false := by
  have h0 : f ≠ 0 := by have := h.top; omega
  obtain ⟨a, b⟩ := norm_two j h0
  have hb := word_blen h
  have hn : normN f = f * 2 ^ 64 := by unfold normN; rw [hb, if_pos (by omega)]
  have hl : lostN f = false := by unfold lostN; rw [hb, decide_eq_false (by omega), Bool.false_and]
  unfold mgC
  rw [a, b, hl, hn, blen_two j h0, hb, Nat.mul_div_cancel _ (Nat.pow_pos (by decide)), Nat.mod_eq_of_lt h.hi64, Nat.mul_mod_left]
  have hx : heldX (e + ((64 + j : Nat) : Int) - 1) = e + j + 63 := by unfold heldX; rw [if_neg (by omega), if_neg (by omega)]; omega
  rw [hx]
  simp
theorem quo_one (f : Nat) : quoN f P63 = f * 2 ^ 137 ∧ quoR f P63 = false := by
  have e : f * 2 ^ 200 = f * 2 ^ 137 * P63 := by rw [Nat.mul_assoc]; congr 1
  unfold quoN quoR
  rw [e, Nat.mul_div_cancel _ (by decide), Nat.mul_mod_left]
  exact ⟨rfl, by decide⟩
theorem quo_self {f : Nat} (h : 0 < f) : quoN f f = P63 * 2 ^ 137 ∧ quoR f f = false := by
  unfold quoN quoR
  rw [Nat.mul_comm, Nat.mul_div_cancel _ h, Nat.mul_mod_left]
  exact ⟨by decide +kernel, by decide⟩
theorem one_parts (n : Nat) (hn : Wd n) : vK n (2 ^ (n - 2)) = 1 ∧ vB n (2 ^ (n - 2)) = false ∧ vS n (2 ^ (n - 2)) = 0 ∧ vF n (2 ^ (n - 2)) = P63 ∧ rndX n 0 P63 0 false = 2 ^ (n - 2) := by
  rcases hn with rfl | rfl | rfl | rfl <;> exact ⟨by decide +kernel, by decide +kernel, by decide +kernel, by decide +kernel, by decide +kernel⟩
/-- divided by a power of 2 -/
theorem quo_two (n a b : Nat) (s : Int) (hn : Wd n) (ha : a < 2 ^ 64) (ka : vK n a = 1) (kb : vK n b = 1) (sb : vS n b = s) (fb : vF n b = P63) (hs : -1000 ≤ s ∧ s ≤ 1000) : patQ n a b = patR n (xorB (vB n a) (vB n b)) (rndX n (vS n a - s) (vF n a) 0 false) := by
  obtain ⟨_, _, _, _, _, _, hwd, s1, s2⟩ := v_real n a hn ha ka
  have hw := wd_le hn
  obtain ⟨q1, q2⟩ := quo_one (vF n a)
  unfold patQ
  rw [if_neg (by rw [ka, kb]; decide), if_neg (by rw [ka]; decide), sb, fb, q1, q2, mgC_word n (vF n a) 137 _ hwd (by omega), show vS n a - s - 200 + ((137 : Nat) : Int) + 63 = vS n a - s by omega]
theorem own_real (n a : Nat) (hn : Wd n) (ha : a < 2 ^ 64) (ka : vK n a = 1) : patR n (vB n a) (rndX n (vS n a) (vF n a) 0 false) = a % 2 ^ n := by
  obtain ⟨e1, e2, e3, ht, hl, hk', hwd, _⟩ := v_real n a hn ha ka
  rw [e2, e3, rnd_home n _ hn hl ht, patR_of, e1]
  exact (patOf_str n a hn ha hk').2
theorem patR_not (n : Nat) (neg : Bool) (R : Nat) (hn : Wd n) (h1 : 1 ≤ R) (h2 : R ≤ 2 ^ (n - 1) - 1) : patR n (!neg) R = negO n (patR n neg R) := by
  obtain ⟨H, p1, p2, p3, _⟩ := wd_pows hn
  rw [p2] at h2
  have hlt : patR n neg R < 2 ^ n := by unfold patR; split <;> omega
  rw [negO_eq n _ hn (lt64_of hn hlt), Nat.mod_eq_of_lt hlt]
  unfold patR
  cases neg
  · simp only [Bool.not_false, if_true, Bool.false_eq_true, if_false]
    rw [Nat.mod_eq_of_lt (by omega)]
  · simp only [Bool.not_true, if_true, Bool.false_eq_true, if_false]
    rw [Nat.mod_eq_of_lt (by omega)]; omega
theorem xorB_false (a : Bool) : xorB a false = a := by cases a <;> rfl
theorem xorB_true (a : Bool) : xorB a true = !a := by cases a <;> rfl
theorem xorB_self (a : Bool) : xorB a a = false := by cases a <;> rfl
theorem xorB_not (a b : Bool) : xorB (!a) b = !(xorB a b) ∧ xorB a (!b) = !(xorB a b) := by cases a <;> cases b <;> exact ⟨rfl, rfl⟩
theorem mgC_range {n M : Nat} (e : Int) (r : Bool) (hn : Wd n) (h0 : M ≠ 0) : 1 ≤ mgC n M e r ∧ mgC n M e r ≤ 2 ^ (n - 1) - 1 := by
  have h := normN_words h0
  exact rnd_range n _ _ _ _ hn ⟨h.top, h.hi64, by decide⟩
theorem quo_pos {f g : Nat} (hf : 9223372036854775808 ≤ f) (hg : g < 2 ^ 64) (h0 : 0 < g) : quoN f g ≠ 0 := by
  unfold quoN
  have h1 : g ≤ f * 2 ^ 200 := by
    have : 2 ^ 64 ≤ f * 2 ^ 200 := Nat.le_trans (by decide) (Nat.mul_le_mul_right (2 ^ 200) hf)
    omega
  have := (Nat.le_div_iff_mul_le h0).2 (by rw [Nat.one_mul]; exact h1)
  omega
theorem real_or (n a : Nat) (hn : Wd n) (h2 : vK n a ≠ 2) (h0 : vK n a ≠ 0) : vK n a = 1 := by
  rcases v_kinds n a hn with ⟨h, _⟩ | h | ⟨h, _⟩
  · exact absurd h h0
  · exact h
  · exact absurd h h2
theorem patQ_real (n a b : Nat) (hn : Wd n) (ha : a < 2 ^ 64) (hb : b < 2 ^ 64) (ka : vK n a = 1) (kb : vK n b = 1) :
    ∃ R, 1 ≤ R ∧ R ≤ 2 ^ (n - 1) - 1 ∧ R = mgC n (quoN (vF n a) (vF n b)) (vS n a - vS n b - 200) (quoR (vF n a) (vF n b)) ∧ patQ n a b = patR n (xorB (vB n a) (vB n b)) R := by
  obtain ⟨_, _, _, _, _, _, wa, _⟩ := v_real n a hn ha ka
  obtain ⟨_, _, _, _, _, _, wb, _⟩ := v_real n b hn hb kb
  have h := mgC_range (vS n a - vS n b - 200) (quoR (vF n a) (vF n b)) hn (quo_pos wa.top wb.hi64 (by have := wb.top; omega))
  refine ⟨_, h.1, h.2, rfl, ?_⟩
  unfold patQ
  rw [if_neg (by rw [ka, kb]; decide), if_neg (by rw [ka]; decide)]
theorem patQ_nar (n a b : Nat) (h : vK n a = 2 ∨ vK n b ≠ 1) : patQ n a b = 2 ^ (n - 1) := by unfold patQ; rw [if_pos h]
theorem patQ_zero (n a b : Nat) (h : vK n a = 0) (hb : vK n b = 1) : patQ n a b = 0 := by unfold patQ; rw [if_neg (by rw [h, hb]; decide), if_pos h]
theorem patQ_lt (n a b : Nat) (hn : Wd n) (ha : a < 2 ^ 64) (hb : b < 2 ^ 64) : patQ n a b < 2 ^ n := by
  obtain ⟨H, p1, p2, p3, _⟩ := wd_pows hn
  by_cases h : vK n a = 2 ∨ vK n b ≠ 1
  · rw [patQ_nar n a b h]; omega
  · have a2 : vK n a ≠ 2 := fun c => h (.inl c)
    have b1 : vK n b = 1 := Classical.not_not.1 fun c => h (.inr c)
    by_cases a0 : vK n a = 0
    · rw [patQ_zero n a b a0 b1]; omega
    · obtain ⟨R, r1, r2, _, e⟩ := patQ_real n a b hn ha hb (real_or n a hn a2 a0) b1
      rw [e]; unfold patR; split <;> omega
theorem negO_zero (n : Nat) (hn : Wd n) : negO n 0 = 0 := by rw [negO_eq n 0 hn (by decide), Nat.zero_mod, Nat.sub_zero, Nat.mod_self]
theorem patQ_minus1 (n a b : Nat) (hn : Wd n) (ha : a < 2 ^ 64) (hb : b < 2 ^ 64) : patQ n (minusU a) b = negO n (patQ n a b) := by
  have hm := minusU_mod n a hn ha
  obtain ⟨k, _, vb, vs, vf⟩ := val_neg n a (minusU a) hn ha (minusU_lt a) hm
  by_cases h : vK n a = 2 ∨ vK n b ≠ 1
  · rw [patQ_nar n a b h, patQ_nar n _ b (by rw [k]; exact h), negO_nar n hn]
  · have a2 : vK n a ≠ 2 := fun c => h (.inl c)
    have b1 : vK n b = 1 := Classical.not_not.1 fun c => h (.inr c)
    by_cases a0 : vK n a = 0
    · rw [patQ_zero n a b a0 b1, patQ_zero n _ b (by rw [k]; exact a0) b1, negO_zero n hn]
    · have a1 := real_or n a hn a2 a0
      obtain ⟨R, r1, r2, e0, e⟩ := patQ_real n a b hn ha hb a1 b1
      obtain ⟨R', _, _, e0', e'⟩ := patQ_real n (minusU a) b hn (minusU_lt a) hb (by rw [k]; exact a1) b1
      rw [vs, vf, ← e0] at e0'
      rw [e', e, e0', vb a1, (xorB_not _ _).1, patR_not n _ R hn r1 r2]
theorem patQ_minus2 (n a b : Nat) (hn : Wd n) (ha : a < 2 ^ 64) (hb : b < 2 ^ 64) : patQ n a (minusU b) = negO n (patQ n a b) := by
  have hm := minusU_mod n b hn hb
  obtain ⟨k, _, vb, vs, vf⟩ := val_neg n b (minusU b) hn hb (minusU_lt b) hm
  by_cases h : vK n a = 2 ∨ vK n b ≠ 1
  · rw [patQ_nar n a b h, patQ_nar n a _ (by rw [k]; exact h), negO_nar n hn]
  · have a2 : vK n a ≠ 2 := fun c => h (.inl c)
    have b1 : vK n b = 1 := Classical.not_not.1 fun c => h (.inr c)
    by_cases a0 : vK n a = 0
    · rw [patQ_zero n a b a0 b1, patQ_zero n a _ a0 (by rw [k]; exact b1), negO_zero n hn]
    · have a1 := real_or n a hn a2 a0
      obtain ⟨R, r1, r2, e0, e⟩ := patQ_real n a b hn ha hb a1 b1
      obtain ⟨R', _, _, e0', e'⟩ := patQ_real n a (minusU b) hn ha (minusU_lt b) a1 (by rw [k]; exact b1)
      rw [vs, vf, ← e0] at e0'
      rw [e', e, e0', vb b1, (xorB_not _ _).2, patR_not n _ R hn r1 r2]
theorem patQ_one (n a : Nat) (hn : Wd n) (ha : a < 2 ^ 64) : patQ n a (2 ^ (n - 2)) = a % 2 ^ n := by
  obtain ⟨o1, o2, o3, o4, _⟩ := one_parts n hn
  rcases v_kinds n a hn with ⟨h, hz⟩ | h | ⟨h, hz⟩
  · rw [patQ_zero n a _ h o1, hz]
  · rw [quo_two n a _ 0 hn ha h o1 o3 o4 (by decide), o2, xorB_false, Int.sub_zero]
    exact own_real n a hn ha h
  · rw [patQ_nar n a _ (.inl h), hz]
theorem patQ_mone (n a : Nat) (hn : Wd n) (ha : a < 2 ^ 64) : patQ n a (minusU (2 ^ (n - 2))) = negO n a := by
  rw [patQ_minus2 n a _ hn ha (one_lt n hn), patQ_one n a hn ha, negO_mod n a hn ha]
theorem patQ_self (n a : Nat) (hn : Wd n) (ha : a < 2 ^ 64) (h : vK n a = 1) : patQ n a a = 2 ^ (n - 2) := by
  obtain ⟨_, _, _, _, o5⟩ := one_parts n hn
  obtain ⟨_, _, _, _, _, _, wa, _⟩ := v_real n a hn ha h
  obtain ⟨q1, q2⟩ := quo_self (show 0 < vF n a by have := wa.top; omega)
  unfold patQ
  rw [if_neg (by rw [h]; decide), if_neg (by rw [h]; decide), q1, q2, mgC_word n P63 137 _ P63_words (by omega), xorB_self, show vS n a - vS n a - 200 + ((137 : Nat) : Int) + 63 = 0 by omega, o5]
  rfl
/-- a product with a power of 2 -/
theorem mul_two (n a : Nat) (t : Int) (hn : Wd n) (ha : a < 2 ^ 64) (ka : vK n a = 1) (ht : okT n t = true) : patP n a (patT n t) = patR n (vB n a) (rndX n (vS n a + t) (vF n a) 0 false) := by
  obtain ⟨_, b2, b3, b4, b5, _⟩ := okT_facts n t hn ht
  obtain ⟨_, _, _, _, _, _, wa, s1, s2⟩ := v_real n a hn ha ka
  have hw := wd_le hn
  unfold patP
  rw [if_neg (by rw [ka, b2]; decide), b3]
  have e1 : valI n a * (sg false (manX P63 0) * ((2 ^ (t + 248).toNat : Nat) : Int)) = sg (vB n a) (manX (vF n a) 0) * ((2 ^ (vS n a + t + 623).toNat : Nat) : Int) := by
    unfold valI
    rw [if_pos ka, ← sg_mul, ← sg_mul, ← sg_mul, sg_times, xorB_false]
    congr 1
    rw [P63_man, Nat.mul_assoc, ← Nat.pow_add, ← Nat.pow_add]
    congr 2
    omega
  rw [e1]
  have h := exI_real (vB n a) (vS n a + t) (vF n a) 0 wa (by omega) (-623) (vS n a + t + 623).toNat (by omega)
  rw [show (-623 : Int) - 127 = eN + eN from rfl] at h
  have h0 : sg (vB n a) (manX (vF n a) 0) * ((2 ^ (vS n a + t + 623).toNat : Nat) : Int) ≠ 0 := by
    refine Int.mul_ne_zero ?_ ?_
    · have := wa.mant.1
      have hp := Nat.pow_pos (n := 127) (show 0 < 2 by decide)
      unfold sg
      split <;> omega
    · have hp := Nat.pow_pos (n := (vS n a + t + 623).toNat) (show 0 < 2 by decide)
      omega
  rw [patI_of h0 h]
/-- divided by a power of 2 is multiplied by its inverse -/
theorem quo_mul (n a : Nat) (s : Int) (hn : Wd n) (ha : a < 2 ^ 64) (h1 : okT n s = true) (h2 : okT n (-s) = true) : patQ n a (patT n s) = patP n a (patT n (-s)) ∧ patQ n (2 ^ (n - 2)) (patT n s) = patT n (-s) := by
  obtain ⟨b1, b2, b3, b4, b5, b6⟩ := okT_facts n s hn h1
  obtain ⟨c1, c2, c3, c4, c5, c6⟩ := okT_facts n (-s) hn h2
  have hp := okT_parts n s hn h1
  obtain ⟨o1, o2, o3, o4, o5⟩ := one_parts n hn
  have hw := wd_le hn
  constructor
  · rcases v_kinds n a hn with ⟨h, hz⟩ | h | ⟨h, hz⟩
    · rw [patQ_zero n a _ h b2]
      unfold patP
      rw [if_neg (by rw [h, c2]; decide), val_zero n a (by rw [h]; decide), Int.zero_mul]
      rfl
    · rw [quo_two n a _ s hn ha h b2 hp.2.1 hp.2.2 (by omega), hp.1, xorB_false, mul_two n a (-s) hn ha h h2]
      rfl
    · rw [patQ_nar n a _ (.inl h), patP_nar n a _ (.inl h)]
  · rw [quo_two n _ _ s hn (one_lt n hn) o1 b2 hp.2.1 hp.2.2 (by omega), o2, o3, o4, hp.1, c6, Int.zero_sub]
    rfl
end Go.Proofs.Ytkojldnafffghaa

namespace Go.Proofs.Ytkojldnafffghaa
open Go.ChangeShapes Go.WideShapes Go.ChangeAt Go.RowKit
set_option linter.unusedVariables false
set_option maxRecDepth 100000

/-- the digits from i on, noughts below -/
def hiz (n i m : Nat) : List Nat := (List.range m).map fun j => if i ≤ j then top n j % 16777216 else 0
theorem hiz_length (n i m : Nat) : (hiz n i m).length = m := by simp [hiz]
theorem hiz_start (n m : Nat) : hiz n m m = List.replicate m 0 := by
  apply List.ext_getElem
  · simp [hiz]
  · intro j h1 h2
    have : j < m := by simpa [hiz] using h1
    simp [hiz]; omega
theorem hiz_zero (n m : Nat) : hiz n 0 m = low n m := by simp [hiz, low]
theorem hiz_set (n i m : Nat) (h : i < m) : (hiz n (i + 1) m).set i (top n i % 16777216) = hiz n i m := by
  apply List.ext_getElem
  · simp [hiz]
  · intro j h1 h2
    have hj : j < m := by simpa [hiz] using h2
    rw [List.getElem_set]
    by_cases e : i = j
    · subst e; simp [hiz]
    · rw [if_neg e]
      simp only [hiz, List.getElem_map, List.getElem_range]
      by_cases g : i ≤ j
      · rw [if_pos (by omega), if_pos g]
      · rw [if_neg (by omega), if_neg g]
theorem dig_push (r d : Nat) (hd : d < 16777216) : ∃ z, d :: dig r = dig (r * 16777216 + d) ++ List.replicate z 0 := by
  by_cases h : r * 16777216 + d = 0
  · have h1 : r = 0 := by omega
    have h2 : d = 0 := by omega
    subst h1 h2
    exact ⟨1, by simp [dig_zero]⟩
  · refine ⟨0, ?_⟩
    rw [dig_pos h, show (r * 16777216 + d) % 16777216 = d by omega, show (r * 16777216 + d) / 16777216 = r by omega]
    simp
/-- one step of the division from above -/
theorem div_step (a b i : Nat) (hb : 0 < b) :
    top (a / b) i % 16777216 = (top a (i + 1) % b * 16777216 + top a i % 16777216) / b ∧
    (top a (i + 1) % b * 16777216 + top a i % 16777216) % b = top a i % b ∧ top a (i + 1) % b * 16777216 + top a i % 16777216 < b * 16777216 := by
  have e : top a i = top a (i + 1) * 16777216 + top a i % 16777216 := by rw [top_succ]; omega
  have hd : top a i % 16777216 < 16777216 := Nat.mod_lt _ (by decide)
  rw [top_div]
  generalize top a i % 16777216 = d at *
  have hr := Nat.mod_lt (top a (i + 1)) hb
  have hN : top a (i + 1) % b * 16777216 + d < b * 16777216 := by
    have h := Nat.mul_le_mul_right 16777216 (Nat.succ_le_of_lt hr)
    rw [Nat.succ_mul] at h
    exact Nat.lt_of_lt_of_le (Nat.add_lt_add_left hd _) h
  have hq : (top a (i + 1) % b * 16777216 + d) / b < 16777216 := Nat.div_lt_of_lt_mul hN
  have h0 : top a i = b * (top a (i + 1) / b * 16777216) + (top a (i + 1) % b * 16777216 + d) := by
    have h1 : top a (i + 1) * 16777216 = (b * (top a (i + 1) / b) + top a (i + 1) % b) * 16777216 := by rw [Nat.div_add_mod]
    rw [e, h1, Nat.add_mul, Nat.mul_assoc]; omega
  refine ⟨?_, ?_, hN⟩
  · rw [h0, Nat.mul_add_div hb, Nat.add_comm, Nat.add_mul_mod_self_right, Nat.mod_eq_of_lt hq]
  · rw [h0, Nat.mul_add_mod]
theorem Row.other {w : World} {v u : Value} {l : List Nat} {g j : Nat} (h : Row w v l) (hne : v.ownBlock ≠ some g) : Row (w.setCell ⟨g, j, none⟩ u) v l := by
  obtain ⟨ao, c, rfl, hc, hl, h⟩ := h
  refine ⟨ao, c, rfl, hc, hl, ?_⟩
  rcases h with h | ⟨b, off, rfl, hlt, h⟩
  · exact .inl h
  · have hb : b ≠ g := fun e => hne (by rw [e]; rfl)
    refine .inr ⟨b, off, rfl, by simpa using hlt, fun i hi => ?_⟩
    rw [World.cell?_setCell_other w ⟨g, j, none⟩ ⟨b, off + i, none⟩ u (by intro e; exact hb (by injection e with e1; exact e1.symm)), h i hi]
theorem times_int (va : Value) (a q : Nat) (qq : Int) (hqq : qq = (q : Int)) (hq : q ≤ 16777216) (hS : dlen a ≤ 1099511627776) (w : World) (ha : Row w va (dig a)) :
    Calls Try.prog 47 #[va, .int .i64 qq] w fun e w' => ∃ v, e = .returned v ∧ Row w' v (dig (a * q)) ∧ Below w.heap.size w w' := by
  rw [hqq]; exact times_any va a q hq hS w ha
theorem owns_alloc {w : World} {base n sz : Nat} {e : TypeId} {v : Value} {xs : List Value} (h : w.ownsRow base e sz v n xs) (o : Obj) : (w.alloc o).ownsRow base e sz v n xs := h.alloc o
theorem bmore0 {a w : World} (h : Below a.heap.size a w) (o : Obj) : Below a.heap.size a (w.alloc o) := h.alloc h.size o
theorem bthen0 {a W w : World} (h : Below a.heap.size a W) (hb : Below W.heap.size W w) : Below a.heap.size a w := h.trans (hb.mono h.size)

theorem bdrewN' {B : Nat} {a W : World} (h : Below B a W) (q : Nat) : Below B a (W.drewN q) := below_drewN h q

set_option maxHeartbeats 4000000 in
theorem ndivmod_any (va vb : Value) (a b : Nat) (hb0 : 0 < b) (hA : dlen a ≤ 549755813888) (hB : dlen b ≤ 549755813888) (w : World) (ha : Row w va (dig a)) (hb : Row w vb (dig b)) :
    Calls Try.prog 26 #[va, vb] w fun e w' => ∃ v1 v2, e = .returned (.tuple #[v1, v2]) ∧ Row w' v1 (dig (a / b)) ∧ Row w' v2 (dig (a % b)) ∧ Below w.heap.size w w' := by
  refine cps fun Q hQ => ?_
  obtain ⟨aa, ca, rfl, h1, h2, hra⟩ := ha.reads
  have HB : Hid (Row w vb (dig b)) := hb
  clear ha hb
  obtain ⟨i0, hi, hz0, hz1, hz2⟩ := info_parts infoInt
  have hdn : ∀ n, n < b * 16777216 → dlen n ≤ 549755813889 := by
    intro n hn
    refine Nat.le_trans (dlen_le_of_lt (k := dlen b + 1) (Nat.lt_of_lt_of_le hn ?_)) (by omega)
    rw [Nat.pow_succ]
    exact Nat.mul_le_mul_right _ (Nat.le_of_lt (lt_of_dlen_le (Nat.le_refl _)))
  have HDN : Hid _ := hdn
  have HST : Hid (∀ i, _) := fun i => div_step a b i hb0
  clear hdn
  go_enter Try.func26, Try.ntmps26
  go_wp2_with (at_make; go_must (refine wpList_make_full _ rfl _ _ 56 rfl w.heap.size 3 i0 (.int .i64 0) 1 Try.underlying56 hi hz0 hz1 .i64 .i64 _ _ (dlen a) rfl rfl (by omega) (by omega) (by rw [hz2]; omega) (by unfold maxLen; omega) (Nat.le_refl _) ?_); intro w1 hown hg)
  rw [made_ints, ← hiz_start (a / b)] at hown
  have hb0' := (Below.refl w.heap.size w).grown hg (Nat.le_refl _) (fun k hk => by cases hk)
  have hs0 : w.heap.size < w1.heap.size := by have := hown.lt w.heap.size rfl; omega
  clear hg
  go_loopw [7, 8] (fun rv iv wr => ∃ (k r : Nat), k ≤ dlen a ∧ iv = .int .i64 ((k : Int) - 1) ∧ Hid (r = top a k % b) ∧ Row wr rv (dig r) ∧ wr.ownsRow w.heap.size 3 1 (.slice (some ⟨w.heap.size, 0, none⟩) (dlen a) (dlen a)) (dlen a) ((hiz (a / b) k (dlen a)).map enc) ∧ Below w.heap.size w wr) (fun _ iv _ => (intOf iv + 1).toNat)
  case atStart => exact ⟨dlen a, 0, Nat.le_refl _, by go_num, by show _ = _; rw [top_eq_zero (Nat.le_refl _), Nat.zero_mod], by rw [dig_zero]; exact row_nil _, hown, hb0'⟩
  case round =>
    obtain ⟨k, r, hk, rfl, hr, hrow, hown, hbel⟩ := hrel
    by_cases h0 : 0 < k
    · obtain ⟨i, rfl⟩ : ∃ i, k = i + 1 := ⟨k - 1, by omega⟩
      rw [show ((i + 1 : Nat) : Int) - 1 = (i : Int) by omega]
      obtain ⟨ba, oa, rfl, hba, hra⟩ := hra.resolve_left (by omega)
      have hcell := (hbel.cell (p := ⟨ba, oa + i, none⟩) hba).trans (hra i (by omega))
      obtain ⟨s1, s2, s3⟩ := HST.out i
      rw [← hr.out] at s1 s2 s3
      obtain ⟨d, hd⟩ : ∃ d, d = top a i % 16777216 := ⟨_, rfl⟩
      rw [← hd] at s1 s2 s3 hcell
      have bd : d ≤ 16777215 := by omega
      obtain ⟨N, hN⟩ : ∃ N, N = r * 16777216 + d := ⟨_, rfl⟩
      obtain ⟨z, hz⟩ := dig_push r d (by omega)
      rw [← hN] at s1 s2 s3 hz
      have hdN := HDN.out N s3
      have HS : Hid (top (a / b) i % 16777216 = N / b ∧ N % b = top a i % b ∧ N < b * 16777216) := ⟨s1, s2, s3⟩
      have HZ : Hid (d :: dig r = dig N ++ List.replicate z 0) := hz
      have HROW : Hid (Row wr _ (dig r)) := hrow
      have HOWN : Hid (wr.ownsRow _ _ _ _ _ _) := hown
      have hlit : (wr.alloc (.cells #[.int .i64 (d : Int)] 3)).ownsRow wr.heap.size 3 1 (.slice (some ⟨wr.heap.size, 0, none⟩) 1 1) 1 [.int .i64 (d : Int)] := World.ownsRow_lit wr #[.int .i64 (d : Int)] 1 (Nat.le_refl _) (by decide) rfl
      have hdr : dlen r ≤ 549755813888 := by
        refine Nat.le_trans (dlen_mono ?_) hB
        rw [hr.out]; exact Nat.le_of_lt (Nat.mod_lt _ hb0)
      obtain ⟨ar, cr, rfl, q1, q2, q3⟩ := hrow
      clear s1 s2 s3 hd hN hz hown
      rcases q3 with ⟨rfl, hnil, rfl⟩ | ⟨br, or_, rfl, hbr, hcr⟩
      · have hL : (dig r).length = 0 := by rw [hnil]; rfl
        have hz1 : d :: dig r = [d] := by rw [hnil]
        have hr1 : Row (wr.alloc (.cells #[.int .i64 (d : Int)] 3)) (.slice (some ⟨wr.heap.size, 0, none⟩) 1 1) (d :: dig r) := by rw [hz1]; exact row_own (l := [d]) hlit
        rw [hL]
        clear hz1 hL hnil
        go_wp2_with (first
          | (at_builtin; go_must (refine wpList_append_own_none rfl _ _ 56 rfl wr.heap.size 3 i0 1 Try.underlying56 hi _ _ _ rfl hlit rfl ?_))
          | (go_at_call 46; refine (cut_own _ _ N z HZ.out _ hr1).mono ?_; rintro e w' ⟨v3, rfl, hr3, hw, hv3⟩; rw [hw]; clear hw w'))
        have HNE : Hid (v3.ownBlock ≠ some w.heap.size) := by
          show _ ≠ _
          have g := (HOWN.out.lt w.heap.size rfl).2
          rw [hv3]
          intro e
          have e1 : wr.heap.size = w.heap.size := by simpa [Value.ownBlock] using e
          omega
        clear hv3
        have HB3 : Hid (Row (wr.alloc (.cells #[.int .i64 (d : Int)] 3)) _ (dig b)) := HB.out.below (bmore0 hbel _)
        have HR3 : Hid (Row (wr.alloc (.cells #[.int .i64 (d : Int)] 3)) v3 (dig N)) := hr3
        have HOW : Hid ((wr.alloc (.cells #[.int .i64 (d : Int)] 3)).ownsRow _ _ _ _ _ _) := (owns_alloc HOWN.out _)
        have HBW : Hid (Below w.heap.size w (wr.alloc (.cells #[.int .i64 (d : Int)] 3))) := (bmore0 hbel _)
        have hsW := HBW.out.size
        clear hr3
        go_loopw [10, 11] (fun lv hv wr2 => ∃ (lo hi : Nat), lo < hi ∧ hi ≤ 16777216 ∧ Hid (b * lo ≤ N) ∧ Hid (N < b * hi) ∧ lv = .int .i64 lo ∧ hv = .int .i64 hi ∧ ∃ q, Below (wr.alloc (.cells #[.int .i64 (d : Int)] 3)).heap.size (wr.alloc (.cells #[.int .i64 (d : Int)] 3)) wr2) (fun lv hv _ => (intOf hv - intOf lv).toNat)
        case atStart => exact ⟨0, 16777216, by decide, by decide, (by show _ ≤ _; omega), HS.out.2.2, rfl, rfl, 0, Below.refl _ _⟩
        case round =>
          obtain ⟨lo, hi', hlt, hhi, hlo, hup, rfl, rfl, q', hbel2⟩ := hrel
          by_cases hgo : lo + 1 < hi'
          · obtain ⟨mid, hmid⟩ : ∃ m, m = (lo + hi') / 2 := ⟨_, rfl⟩
            have hmi : ((lo : Int) + hi') / 2 = (mid : Int) := by omega
            have m1 : lo < mid := by omega
            have m2 : mid < hi' := by omega
            obtain ⟨x, hx⟩ : ∃ x, x = cmpN (b * mid) N := ⟨_, rfl⟩
            have hxx : (x ≤ 0 ∧ b * mid ≤ N) ∨ (0 < x ∧ N < b * mid) := by
              rw [hx]
              rcases Nat.lt_trichotomy (b * mid) N with g | g | g
              · rw [cmpN_lt g]; exact .inl ⟨by decide, by omega⟩
              · rw [g, cmpN_eq]; exact .inl ⟨by decide, Nat.le_refl _⟩
              · rw [cmpN_gt g]; exact .inr ⟨by decide, g⟩
            have k5 := fun va vb w h1 h2 => ncmp_any va vb (b * mid) N w h1 h2
            rw [← hx] at k5
            have hS2 : dlen b ≤ 1099511627776 := by omega
            clear hmid hx
            have HR4 := HR3.out.below hbel2
            have HB4 := HB3.out.below hbel2
            rcases hxx with ⟨hx1, hx2⟩ | ⟨hx1, hx2⟩
            all_goals
              have HX2 : Hid _ := hx2
              clear hx2
              go_wp2_with (first
                | (go_at_call 47; refine (times_any _ b mid (by omega) hS2 _ HB4).mono ?_; rintro e w4 ⟨v4, rfl, hr4, hb4⟩)
                | (go_at_call 48; refine (k5 _ _ _ hr4 (HR4.below hb4)).mono ?_; rintro e w5 ⟨rfl, q5, rfl⟩))
              go_roundw
              case measure => simp [intOf]; omega
              case rel => first
                | exact ⟨mid, hi', by omega, by omega, HX2.out, hup, rfl, rfl, 0, bdrewN' (hbel2.trans (hb4.mono hbel2.size)) _⟩
                | exact ⟨lo, mid, by omega, by omega, hlo, HX2.out, rfl, rfl, 0, bdrewN' (hbel2.trans (hb4.mono hbel2.size)) _⟩
          · have hlo' : N / b = lo := by
              have g1 := hlo.out
              have g2 := hup.out
              have g3 : hi' = lo + 1 := by omega
              rw [g3, Nat.mul_comm] at g2
              rw [Nat.mul_comm] at g1
              exact Nat.div_eq_of_lt_le g1 g2
            have hS := HS.out
            rw [hlo'] at hS
            have hown2 := owns_below HOW.out hbel2
            obtain ⟨y, hy⟩ : ∃ y, ((hiz (a / b) (i + 1) (dlen a)).map enc)[i]? = some y := ⟨_, List.getElem?_eq_getElem (by simp [hiz]; omega)⟩
            have hce := hown2.cellAt i (by omega)
            rw [hy] at hce
            have hfr := hown2.frozenAt i
            have hst := (hown2.stored i (enc lo)).1
            have hset : (hiz (a / b) (i + 1) (dlen a)).set i lo = hiz (a / b) i (dlen a) := by rw [← hS.1]; exact hiz_set _ _ _ (by omega)
            rw [← List.map_set, hset] at hst
            have H2 := bthen0 HBW.out hbel2
            have H3 : Below w.heap.size w (wr.setCell ⟨w.heap.size, i, none⟩ (enc lo)) := H2.setCell (p := ⟨w.heap.size, i, none⟩) (Nat.le_refl _) _
            have HB5 := HB.out.below H3
            have HR5 : Row (wr.setCell ⟨w.heap.size, i, none⟩ (enc lo)) v3 (dig N) := (HR3.out.below hbel2).other HNE.out
            have hS2 : dlen b ≤ 1099511627776 := by omega
            have hS3 : dlen N ≤ 1099511627776 := by omega
            have HST2 : Hid _ := hst
            have hdm := Nat.div_add_mod N b
            rw [hlo'] at hdm
            have HD : Hid (N - b * lo = top a i % b) := show _ = _ by rw [← hS.2.1]; omega
            have HLO : Hid (b * lo ≤ N) := hlo
            clear hlo' hS hown2 hy hst H2 hdm
            go_wp2_with (first
              | (go_at_call 47; refine (times_any _ b lo (by omega) hS2 _ HB5).mono ?_; rintro e w6 ⟨v6, rfl, hr6, hb6⟩)
              | (go_at_call 49; refine (nsub_any _ _ N (b * lo) HLO.out hS3 _ (HR5.below hb6) hr6).mono ?_; rintro e w7 ⟨v7, rfl, hr7, hb7⟩))
            go_roundw
            case rel => exact ⟨i, N - b * lo, by omega, by go_num, HD.out, hr7, owns_below (owns_below HST2.out hb6) hb7, bthen0 (bthen0 H3 hb6) hb7⟩
            case measure => simp [intOf]
      · have g := (HOWN.out.lt w.heap.size rfl).2
        go_wp2_with (at_builtin; go_must (refine wpList_append_own _ rfl _ _ 56 rfl wr.heap.size 3 i0 (.int .i64 0) 1 8 Try.underlying56 hi hz0 hz1 hz2 rfl (by decide) _ _ _ rfl hlit ⟨br, or_, none⟩ (dig r).length cr ((dig r).map enc) rfl (by simp) ?_ (by simp [enc]; intros; rfl) (by unfold maxLen; unfold dlen at hdr; omega) (by unfold dlen at hdr; omega) (by simp) ?_))
        · intro j u hj
          rw [List.getElem?_map, Option.map_eq_some_iff] at hj
          obtain ⟨x, hx, rfl⟩ := hj
          have hlt : j < (dig r).length := (List.getElem?_eq_some_iff.1 hx).1
          have := hcr j hlt
          have this : wr.cell? ⟨br, or_ + j, none⟩ = some (.int .i64 (x : Nat)) := by rw [this, List.getD_eq_getElem?_getD, hx]; rfl
          have this : (wr.alloc (.cells #[.int .i64 (d : Int)] 3)).cell? ⟨br, or_ + j, none⟩ = some (.int .i64 (x : Nat)) := (World.cell?_alloc_past _ _ _ hbr).trans this
          unfold Addr.add
          split
          · rename_i h; have hj0 : j = 0 := by simpa using h
            subst hj0; exact this
          · exact this
        · intro v2 w2 hown2' hg2 _
          have hbw2 : Below w.heap.size w w2 := (bmore0 hbel _).grown hg2 (by simp; omega) (fun k hk => by have h : wr.heap.size = k := (by simpa [Value.ownBlock] using hk); omega)
          have how2 := (owns_alloc HOWN.out (.cells #[.int .i64 (d : Int)] 3)).kept hg2 (by right; simp [Value.ownBlock]; omega)
          have hr1 : Row w2 v2 (d :: dig r) := row_own (l := d :: dig r) hown2'
          have hv2 := hown2'.lt
          clear hg2 hown2'
          go_wp2_with (go_at_call 46; refine (cut_own _ _ N z HZ.out _ hr1).mono ?_; rintro e w' ⟨v3, rfl, hr3, hw, hv3⟩; rw [hw]; clear hw w')
          have HNE : Hid (v3.ownBlock ≠ some w.heap.size) := by
            show _ ≠ _
            rw [hv3]
            intro e
            have := (hv2 _ e).1
            omega
          clear hv3 hv2
          have HB3 : Hid (Row w2 _ (dig b)) := HB.out.below hbw2
          have HR3 : Hid (Row w2 v3 (dig N)) := hr3
          have HOW : Hid (w2.ownsRow _ _ _ _ _ _) := how2
          have HBW : Hid (Below w.heap.size w w2) := hbw2
          have hsW := HBW.out.size
          clear hr3
          go_loopw [10, 11] (fun lv hv wr2 => ∃ (lo hi : Nat), lo < hi ∧ hi ≤ 16777216 ∧ Hid (b * lo ≤ N) ∧ Hid (N < b * hi) ∧ lv = .int .i64 lo ∧ hv = .int .i64 hi ∧ ∃ q, Below w2.heap.size w2 wr2) (fun lv hv _ => (intOf hv - intOf lv).toNat)
          case atStart => exact ⟨0, 16777216, by decide, by decide, (by show _ ≤ _; omega), HS.out.2.2, rfl, rfl, 0, Below.refl _ _⟩
          case round =>
            obtain ⟨lo, hi', hlt, hhi, hlo, hup, rfl, rfl, q', hbel2⟩ := hrel
            by_cases hgo : lo + 1 < hi'
            · obtain ⟨mid, hmid⟩ : ∃ m, m = (lo + hi') / 2 := ⟨_, rfl⟩
              have hmi : ((lo : Int) + hi') / 2 = (mid : Int) := by omega
              have m1 : lo < mid := by omega
              have m2 : mid < hi' := by omega
              obtain ⟨x, hx⟩ : ∃ x, x = cmpN (b * mid) N := ⟨_, rfl⟩
              have hxx : (x ≤ 0 ∧ b * mid ≤ N) ∨ (0 < x ∧ N < b * mid) := by
                rw [hx]
                rcases Nat.lt_trichotomy (b * mid) N with g | g | g
                · rw [cmpN_lt g]; exact .inl ⟨by decide, by omega⟩
                · rw [g, cmpN_eq]; exact .inl ⟨by decide, Nat.le_refl _⟩
                · rw [cmpN_gt g]; exact .inr ⟨by decide, g⟩
              have k5 := fun va vb w h1 h2 => ncmp_any va vb (b * mid) N w h1 h2
              rw [← hx] at k5
              have hS2 : dlen b ≤ 1099511627776 := by omega
              clear hmid hx
              have HR4 := HR3.out.below hbel2
              have HB4 := HB3.out.below hbel2
              rcases hxx with ⟨hx1, hx2⟩ | ⟨hx1, hx2⟩
              all_goals
                have HX2 : Hid _ := hx2
                clear hx2
                go_wp2_with (first
                  | (go_at_call 47; refine (times_any _ b mid (by omega) hS2 _ HB4).mono ?_; rintro e w4 ⟨v4, rfl, hr4, hb4⟩)
                  | (go_at_call 48; refine (k5 _ _ _ hr4 (HR4.below hb4)).mono ?_; rintro e w5 ⟨rfl, q5, rfl⟩))
                go_roundw
                case measure => simp [intOf]; omega
                case rel => first
                  | exact ⟨mid, hi', by omega, by omega, HX2.out, hup, rfl, rfl, 0, bdrewN' (hbel2.trans (hb4.mono hbel2.size)) _⟩
                  | exact ⟨lo, mid, by omega, by omega, hlo, HX2.out, rfl, rfl, 0, bdrewN' (hbel2.trans (hb4.mono hbel2.size)) _⟩
            · have hlo' : N / b = lo := by
                have g1 := hlo.out
                have g2 := hup.out
                have g3 : hi' = lo + 1 := by omega
                rw [g3, Nat.mul_comm] at g2
                rw [Nat.mul_comm] at g1
                exact Nat.div_eq_of_lt_le g1 g2
              have hS := HS.out
              rw [hlo'] at hS
              have hown2 := owns_below HOW.out hbel2
              obtain ⟨y, hy⟩ : ∃ y, ((hiz (a / b) (i + 1) (dlen a)).map enc)[i]? = some y := ⟨_, List.getElem?_eq_getElem (by simp [hiz]; omega)⟩
              have hce := hown2.cellAt i (by omega)
              rw [hy] at hce
              have hfr := hown2.frozenAt i
              have hst := (hown2.stored i (enc lo)).1
              have hset : (hiz (a / b) (i + 1) (dlen a)).set i lo = hiz (a / b) i (dlen a) := by rw [← hS.1]; exact hiz_set _ _ _ (by omega)
              rw [← List.map_set, hset] at hst
              have H2 := bthen0 HBW.out hbel2
              have H3 : Below w.heap.size w (wr.setCell ⟨w.heap.size, i, none⟩ (enc lo)) := H2.setCell (p := ⟨w.heap.size, i, none⟩) (Nat.le_refl _) _
              have HB5 := HB.out.below H3
              have HR5 : Row (wr.setCell ⟨w.heap.size, i, none⟩ (enc lo)) v3 (dig N) := (HR3.out.below hbel2).other HNE.out
              have hS2 : dlen b ≤ 1099511627776 := by omega
              have hS3 : dlen N ≤ 1099511627776 := by omega
              have HST2 : Hid _ := hst
              have hdm := Nat.div_add_mod N b
              rw [hlo'] at hdm
              have HD : Hid (N - b * lo = top a i % b) := show _ = _ by rw [← hS.2.1]; omega
              have HLO : Hid (b * lo ≤ N) := hlo
              clear hlo' hS hown2 hy hst H2 hdm
              go_wp2_with (first
                | (go_at_call 47; refine (times_any _ b lo (by omega) hS2 _ HB5).mono ?_; rintro e w6 ⟨v6, rfl, hr6, hb6⟩)
                | (go_at_call 49; refine (nsub_any _ _ N (b * lo) HLO.out hS3 _ (HR5.below hb6) hr6).mono ?_; rintro e w7 ⟨v7, rfl, hr7, hb7⟩))
              go_roundw
              case rel => exact ⟨i, N - b * lo, by omega, by go_num, HD.out, hr7, owns_below (owns_below HST2.out hb6) hb7, bthen0 (bthen0 H3 hb6) hb7⟩
              case measure => simp [intOf]
    · have e : k = 0 := by omega
      subst e
      rw [hiz_zero] at hown
      have hle : dlen (a / b) ≤ dlen a := dlen_mono (Nat.div_le_self _ _)
      rw [low_ge hle] at hown
      have HRW : Hid (Row wr _ _) := row_own hown
      have hr' : r = a % b := hr.out
      have HROW : Hid (Row wr _ (dig (a % b))) := hr' ▸ hrow
      clear hown hrow hr' hra
      go_wp2_with (go_at_call 46; refine (cut_any _ _ (a / b) _ rfl _ HRW.out).mono ?_; rintro e w' ⟨v', rfl, hv, hw⟩; rw [hw]; clear hw w')
      try go_ret2
      exact hQ.out _ _ ⟨_, _, rfl, hv, HROW.out, hbel⟩
end Go.Proofs.Ytkojldnafffghaa

namespace Go.Proofs.Ytkojldnafffghaa
open Go.ChangeShapes Go.WideShapes Go.ChangeAt Go.RowKit
set_option linter.unusedVariables false
set_option linter.unusedSimpArgs false
set_option maxRecDepth 100000

/-! ### the document's quotients -/
theorem quot11_form (k : Int) (neg : Bool) (s : Int) (f : Nat) (k' : Int) (neg' : Bool) (s' : Int) (g : Nat) : ∃ k2 b s2 h l r, quot11 k neg s f k' neg' s' g = exV k2 b s2 h l r := by
  unfold quot11
  by_cases h : k = 2 ∨ k' ≠ 1
  · rw [if_pos h]; exact ⟨_, _, _, _, _, _, rfl⟩
  · rw [if_neg h]
    by_cases h0 : k = 0
    · rw [if_pos h0]; exact ⟨_, _, _, _, _, _, rfl⟩
    · rw [if_neg h0]; exact ⟨_, _, _, _, _, _, rfl⟩
theorem shl_blen {f : Nat} (j : Nat) (hf : f < 2 ^ 64) : blen (f * 2 ^ j) ≤ 64 + j := blen_le.2 (by rw [Nat.pow_add]; exact Nat.mul_lt_mul_of_pos_right hf (Nat.pow_pos (by decide)))
theorem quo_blen {f g : Nat} (hf : f < 2 ^ 64) : blen (quoN f g) ≤ 264 ∧ blen (f * 2 ^ 200) ≤ 264 ∧ blen (f * 2 ^ 200 % g) ≤ 264 := by
  have h := shl_blen 200 hf
  exact ⟨Nat.le_trans (blen_mono (Nat.div_le_self _ _)) h, h, Nat.le_trans (blen_mono (Nat.mod_le _ _)) h⟩
theorem dlen_le_blen (M : Nat) : dlen M ≤ blen M := by
  refine dlen_le_of_lt (Nat.lt_of_lt_of_le (blen_hi M) ?_)
  rw [show (16777216 : Nat) = 2 ^ 24 by decide, ← Nat.pow_mul]
  exact Nat.pow_le_pow_right (by decide) (by omega)
theorem dlen_some (r : Nat) : decide ((0 : Int) < ((dlen r : Nat) : Int)) = decide (r ≠ 0) := by
  by_cases h : r = 0
  · subst h; rw [dlen_zero]; rfl
  · have : dlen r ≠ 0 := fun c => h (dlen_eq_zero.1 c)
    rw [decide_eq_true h, decide_eq_true (by omega)]
theorem cut11_any (k : Int) (neg : Bool) (s : Int) (hi lo : Nat) (rest : Bool) (w : World) :
    Calls Try.prog 29 #[exV k neg s hi lo rest] w fun e w' => e = .returned (exV k neg s hi 0 (rest || decide (lo ≠ 0))) ∧ Below w.heap.size w w' := by
  unfold exV
  rw [show ((0 : Nat) : Int) = 0 from rfl]
  refine cps fun Q hQ => ?_
  by_cases h : lo = 0
  · subst h
    rw [show ((0 : Nat) : Int) = 0 from rfl]
    cases rest
    · skip
      go_enter Try.func29, Try.ntmps29
      go_wp2
      refine bodyPost_ret (v := .agg #[.int .i64 k, .bool neg, .int .i64 s, .int .u64 hi, .int .u64 0, .bool false]) (by simp [results, Try.results29, go_sem]) rfl (hQ.out _ _ ⟨by simp, ?_⟩)
      exact cmore (cmore (Below.refl _ _) _) _
    · skip
      go_enter Try.func29, Try.ntmps29
      go_wp2
      refine bodyPost_ret (v := .agg #[.int .i64 k, .bool neg, .int .i64 s, .int .u64 hi, .int .u64 0, .bool true]) (by simp [results, Try.results29, go_sem]) rfl (hQ.out _ _ ⟨by simp, ?_⟩)
      exact cmore (cmore (Below.refl _ _) _) _
  · have d : ((lo : Int) == 0) = false := beq_eq_false_iff_ne.2 (by omega)
    rw [decide_eq_true h, Bool.or_true] at hQ
    cases rest
    · skip
      go_enter Try.func29, Try.ntmps29
      go_wp2
      refine bodyPost_ret (v := .agg #[.int .i64 k, .bool neg, .int .i64 s, .int .u64 hi, .int .u64 0, .bool true]) (by simp [results, Try.results29, go_sem, h]) rfl (hQ.out _ _ ⟨by simp, ?_⟩)
      exact cmore (cmore (Below.refl _ _) _) _
    · skip
      go_enter Try.func29, Try.ntmps29
      go_wp2
      refine bodyPost_ret (v := .agg #[.int .i64 k, .bool neg, .int .i64 s, .int .u64 hi, .int .u64 0, .bool true]) (by simp [results, Try.results29, go_sem, h]) rfl (hQ.out _ _ ⟨by simp, ?_⟩)
      exact cmore (cmore (Below.refl _ _) _) _
set_option maxHeartbeats 2000000 in
theorem exact11_bad1 (k : Int) (neg : Bool) (s : Int) (f : Nat) (k' : Int) (neg' : Bool) (s' : Int) (g : Nat) (h1 : soundN k neg s f = false) (w : World) :
    Calls Try.prog 10 #[numV k neg s f, numV k' neg' s' g] w fun e w' => e = .returned (.tuple #[exV 0 false 0 0 0 false, .int .i64 1]) ∧ Below w.heap.size w w' := by
  have k1 := sound6_any k neg s f
  have k2 := sound6_any k' neg' s' g
  rw [h1] at k1
  generalize soundN k' neg' s' g = b2 at *
  clear h1
  unfold numV exV at *
  rw [show ((0 : Nat) : Int) = 0 from rfl] at *
  refine cps fun Q hQ => ?_
  go_enter Try.func10, Try.ntmps10
  go_wp2_with (first
    | (go_at_call_of 25 f; go_must (refine (k1 _).mono ?_); rintro e w1 ⟨rfl, hb1⟩; have R1_0 := (hb1.block (w.heap.size) (by first | (simp; done) | (simp; omega) | omega)).trans ((Below.heap_alloc _ _ _ (by first | (simp; done) | (simp; omega) | omega)).trans ((Below.heap_alloc _ _ _ (by first | (simp; done) | (simp; omega) | omega)).trans (rownew' _ _ _ _ (by simp)))); have z1_0 : w.heap.size < w1.heap.size := Nat.lt_of_lt_of_le (by first | (simp; done) | (simp; omega) | omega) hb1.size; have HR1_0 : Hid _ := R1_0; clear R1_0; have R1_1 := (hb1.block (w.heap.size + 1) (by first | (simp; done) | (simp; omega) | omega)).trans ((Below.heap_alloc _ _ _ (by first | (simp; done) | (simp; omega) | omega)).trans (rownew' _ _ _ _ (by simp))); have z1_1 : w.heap.size + 1 < w1.heap.size := Nat.lt_of_lt_of_le (by first | (simp; done) | (simp; omega) | omega) hb1.size; have c1_1_0 := rowcell R1_1 0; have c1_1_1 := rowcell R1_1 1; have c1_1_2 := rowcell R1_1 2; have c1_1_3 := rowcell R1_1 3; simp only [List.getElem?_toArray, List.getElem?_cons_zero, List.getElem?_cons_succ] at c1_1_0 c1_1_1 c1_1_2 c1_1_3; have HR1_1 : Hid _ := R1_1; clear R1_1; have R1_2 := (hb1.block (w.heap.size + 1 + 1) (by first | (simp; done) | (simp; omega) | omega)).trans (rownew' _ _ _ _ (by simp)); have z1_2 : w.heap.size + 1 + 1 < w1.heap.size := Nat.lt_of_lt_of_le (by first | (simp; done) | (simp; omega) | omega) hb1.size; have HR1_2 : Hid _ := R1_2; clear R1_2; have HB1 : Hid (Below _ _ _) := hb1; clear hb1)
    | (go_at_call_of 25 g; go_must (refine (k2 _).mono ?_); rintro e w2 ⟨rfl, hb2⟩; have R2_0 := (hb2.block (w.heap.size) (by first | (simp; done) | (simp; omega) | omega)).trans HR1_0.out; have z2_0 : w.heap.size < w2.heap.size := Nat.lt_of_lt_of_le (by first | (simp; done) | (simp; omega) | omega) hb2.size; have c2_0_0 := rowcell R2_0 0; have c2_0_1 := rowcell R2_0 1; have c2_0_2 := rowcell R2_0 2; have c2_0_3 := rowcell R2_0 3; simp only [List.getElem?_toArray, List.getElem?_cons_zero, List.getElem?_cons_succ] at c2_0_0 c2_0_1 c2_0_2 c2_0_3; have HR2_0 : Hid _ := R2_0; clear R2_0; have R2_1 := (hb2.block (w.heap.size + 1) (by first | (simp; done) | (simp; omega) | omega)).trans HR1_1.out; have z2_1 : w.heap.size + 1 < w2.heap.size := Nat.lt_of_lt_of_le (by first | (simp; done) | (simp; omega) | omega) hb2.size; have c2_1_0 := rowcell R2_1 0; have c2_1_1 := rowcell R2_1 1; have c2_1_2 := rowcell R2_1 2; have c2_1_3 := rowcell R2_1 3; simp only [List.getElem?_toArray, List.getElem?_cons_zero, List.getElem?_cons_succ] at c2_1_0 c2_1_1 c2_1_2 c2_1_3; have HR2_1 : Hid _ := R2_1; clear R2_1; have R2_2 := (hb2.block (w.heap.size + 1 + 1) (by first | (simp; done) | (simp; omega) | omega)).trans HR1_2.out; have z2_2 : w.heap.size + 1 + 1 < w2.heap.size := Nat.lt_of_lt_of_le (by first | (simp; done) | (simp; omega) | omega) hb2.size; have c2_2_0 := rowcell R2_2 0; have c2_2_1 := rowcell R2_2 1; have c2_2_2 := rowcell R2_2 2; have c2_2_3 := rowcell R2_2 3; have c2_2_4 := rowcell R2_2 4; have c2_2_5 := rowcell R2_2 5; simp only [List.getElem?_toArray, List.getElem?_cons_zero, List.getElem?_cons_succ] at c2_2_0 c2_2_1 c2_2_2 c2_2_3 c2_2_4 c2_2_5; have rf := rowfree R2_2; have HR2_2 : Hid _ := R2_2; clear R2_2; have HB2 : Hid (Below _ _ _) := hb2; clear hb2))
  all_goals
    refine bodyPost_ret (v := .tuple #[.agg #[.int .i64 0, .bool false, .int .i64 0, .int .u64 0, .int .u64 0, .bool false], .int .i64 1]) (by simp [results, Try.results10, go_sem, rf, z2_2, c2_2_0, c2_2_1, c2_2_2, c2_2_3, c2_2_4, c2_2_5]) rfl (hQ.out _ _ ⟨by simp, ?_⟩)
    exact cset6 (cthen (cthen (cmore (cmore (cmore (Below.refl _ _) _) _) _) HB1.out) HB2.out) (by omega)
set_option maxHeartbeats 2000000 in
theorem exact11_bad2 (k : Int) (neg : Bool) (s : Int) (f : Nat) (k' : Int) (neg' : Bool) (s' : Int) (g : Nat) (h1 : soundN k neg s f = true) (h2 : soundN k' neg' s' g = false) (w : World) :
    Calls Try.prog 10 #[numV k neg s f, numV k' neg' s' g] w fun e w' => e = .returned (.tuple #[exV 0 false 0 0 0 false, .int .i64 1]) ∧ Below w.heap.size w w' := by
  have k1 := sound6_any k neg s f
  have k2 := sound6_any k' neg' s' g
  rw [h1] at k1
  rw [h2] at k2
  clear h1 h2
  unfold numV exV at *
  rw [show ((0 : Nat) : Int) = 0 from rfl] at *
  refine cps fun Q hQ => ?_
  go_enter Try.func10, Try.ntmps10
  go_wp2_with (first
    | (go_at_call_of 25 f; go_must (refine (k1 _).mono ?_); rintro e w1 ⟨rfl, hb1⟩; have R1_0 := (hb1.block (w.heap.size) (by first | (simp; done) | (simp; omega) | omega)).trans ((Below.heap_alloc _ _ _ (by first | (simp; done) | (simp; omega) | omega)).trans ((Below.heap_alloc _ _ _ (by first | (simp; done) | (simp; omega) | omega)).trans (rownew' _ _ _ _ (by simp)))); have z1_0 : w.heap.size < w1.heap.size := Nat.lt_of_lt_of_le (by first | (simp; done) | (simp; omega) | omega) hb1.size; have HR1_0 : Hid _ := R1_0; clear R1_0; have R1_1 := (hb1.block (w.heap.size + 1) (by first | (simp; done) | (simp; omega) | omega)).trans ((Below.heap_alloc _ _ _ (by first | (simp; done) | (simp; omega) | omega)).trans (rownew' _ _ _ _ (by simp))); have z1_1 : w.heap.size + 1 < w1.heap.size := Nat.lt_of_lt_of_le (by first | (simp; done) | (simp; omega) | omega) hb1.size; have c1_1_0 := rowcell R1_1 0; have c1_1_1 := rowcell R1_1 1; have c1_1_2 := rowcell R1_1 2; have c1_1_3 := rowcell R1_1 3; simp only [List.getElem?_toArray, List.getElem?_cons_zero, List.getElem?_cons_succ] at c1_1_0 c1_1_1 c1_1_2 c1_1_3; have HR1_1 : Hid _ := R1_1; clear R1_1; have R1_2 := (hb1.block (w.heap.size + 1 + 1) (by first | (simp; done) | (simp; omega) | omega)).trans (rownew' _ _ _ _ (by simp)); have z1_2 : w.heap.size + 1 + 1 < w1.heap.size := Nat.lt_of_lt_of_le (by first | (simp; done) | (simp; omega) | omega) hb1.size; have HR1_2 : Hid _ := R1_2; clear R1_2; have HB1 : Hid (Below _ _ _) := hb1; clear hb1)
    | (go_at_call_of 25 g; go_must (refine (k2 _).mono ?_); rintro e w2 ⟨rfl, hb2⟩; have R2_0 := (hb2.block (w.heap.size) (by first | (simp; done) | (simp; omega) | omega)).trans HR1_0.out; have z2_0 : w.heap.size < w2.heap.size := Nat.lt_of_lt_of_le (by first | (simp; done) | (simp; omega) | omega) hb2.size; have c2_0_0 := rowcell R2_0 0; have c2_0_1 := rowcell R2_0 1; have c2_0_2 := rowcell R2_0 2; have c2_0_3 := rowcell R2_0 3; simp only [List.getElem?_toArray, List.getElem?_cons_zero, List.getElem?_cons_succ] at c2_0_0 c2_0_1 c2_0_2 c2_0_3; have HR2_0 : Hid _ := R2_0; clear R2_0; have R2_1 := (hb2.block (w.heap.size + 1) (by first | (simp; done) | (simp; omega) | omega)).trans HR1_1.out; have z2_1 : w.heap.size + 1 < w2.heap.size := Nat.lt_of_lt_of_le (by first | (simp; done) | (simp; omega) | omega) hb2.size; have c2_1_0 := rowcell R2_1 0; have c2_1_1 := rowcell R2_1 1; have c2_1_2 := rowcell R2_1 2; have c2_1_3 := rowcell R2_1 3; simp only [List.getElem?_toArray, List.getElem?_cons_zero, List.getElem?_cons_succ] at c2_1_0 c2_1_1 c2_1_2 c2_1_3; have HR2_1 : Hid _ := R2_1; clear R2_1; have R2_2 := (hb2.block (w.heap.size + 1 + 1) (by first | (simp; done) | (simp; omega) | omega)).trans HR1_2.out; have z2_2 : w.heap.size + 1 + 1 < w2.heap.size := Nat.lt_of_lt_of_le (by first | (simp; done) | (simp; omega) | omega) hb2.size; have c2_2_0 := rowcell R2_2 0; have c2_2_1 := rowcell R2_2 1; have c2_2_2 := rowcell R2_2 2; have c2_2_3 := rowcell R2_2 3; have c2_2_4 := rowcell R2_2 4; have c2_2_5 := rowcell R2_2 5; simp only [List.getElem?_toArray, List.getElem?_cons_zero, List.getElem?_cons_succ] at c2_2_0 c2_2_1 c2_2_2 c2_2_3 c2_2_4 c2_2_5; have rf := rowfree R2_2; have HR2_2 : Hid _ := R2_2; clear R2_2; have HB2 : Hid (Below _ _ _) := hb2; clear hb2))
  all_goals
    refine bodyPost_ret (v := .tuple #[.agg #[.int .i64 0, .bool false, .int .i64 0, .int .u64 0, .int .u64 0, .bool false], .int .i64 1]) (by simp [results, Try.results10, go_sem, rf, z2_2, c2_2_0, c2_2_1, c2_2_2, c2_2_3, c2_2_4, c2_2_5]) rfl (hQ.out _ _ ⟨by simp, ?_⟩)
    exact cset6 (cthen (cthen (cmore (cmore (cmore (Below.refl _ _) _) _) _) HB1.out) HB2.out) (by omega)
set_option maxHeartbeats 2000000 in
theorem exact11_nar1 (k : Int) (neg : Bool) (s : Int) (f : Nat) (k' : Int) (neg' : Bool) (s' : Int) (g : Nat) (h1 : soundN k neg s f = true) (h2 : soundN k' neg' s' g = true) (hk : k = 2) (w : World) :
    Calls Try.prog 10 #[numV k neg s f, numV k' neg' s' g] w fun e w' => e = .returned (.tuple #[exV 2 false 0 0 0 false, .int .i64 0]) ∧ Below w.heap.size w w' := by
  have k1 := sound6_any k neg s f
  have k2 := sound6_any k' neg' s' g
  rw [h1] at k1
  rw [h2] at k2
  clear h1 h2
  subst hk
  unfold numV exV at *
  rw [show ((0 : Nat) : Int) = 0 from rfl] at *
  refine cps fun Q hQ => ?_
  go_enter Try.func10, Try.ntmps10
  go_wp2_with (first
    | (go_at_call_of 25 f; go_must (refine (k1 _).mono ?_); rintro e w1 ⟨rfl, hb1⟩; have R1_0 := (hb1.block (w.heap.size) (by first | (simp; done) | (simp; omega) | omega)).trans ((Below.heap_alloc _ _ _ (by first | (simp; done) | (simp; omega) | omega)).trans ((Below.heap_alloc _ _ _ (by first | (simp; done) | (simp; omega) | omega)).trans (rownew' _ _ _ _ (by simp)))); have z1_0 : w.heap.size < w1.heap.size := Nat.lt_of_lt_of_le (by first | (simp; done) | (simp; omega) | omega) hb1.size; have HR1_0 : Hid _ := R1_0; clear R1_0; have R1_1 := (hb1.block (w.heap.size + 1) (by first | (simp; done) | (simp; omega) | omega)).trans ((Below.heap_alloc _ _ _ (by first | (simp; done) | (simp; omega) | omega)).trans (rownew' _ _ _ _ (by simp))); have z1_1 : w.heap.size + 1 < w1.heap.size := Nat.lt_of_lt_of_le (by first | (simp; done) | (simp; omega) | omega) hb1.size; have c1_1_0 := rowcell R1_1 0; have c1_1_1 := rowcell R1_1 1; have c1_1_2 := rowcell R1_1 2; have c1_1_3 := rowcell R1_1 3; simp only [List.getElem?_toArray, List.getElem?_cons_zero, List.getElem?_cons_succ] at c1_1_0 c1_1_1 c1_1_2 c1_1_3; have HR1_1 : Hid _ := R1_1; clear R1_1; have R1_2 := (hb1.block (w.heap.size + 1 + 1) (by first | (simp; done) | (simp; omega) | omega)).trans (rownew' _ _ _ _ (by simp)); have z1_2 : w.heap.size + 1 + 1 < w1.heap.size := Nat.lt_of_lt_of_le (by first | (simp; done) | (simp; omega) | omega) hb1.size; have HR1_2 : Hid _ := R1_2; clear R1_2; have HB1 : Hid (Below _ _ _) := hb1; clear hb1)
    | (go_at_call_of 25 g; go_must (refine (k2 _).mono ?_); rintro e w2 ⟨rfl, hb2⟩; have R2_0 := (hb2.block (w.heap.size) (by first | (simp; done) | (simp; omega) | omega)).trans HR1_0.out; have z2_0 : w.heap.size < w2.heap.size := Nat.lt_of_lt_of_le (by first | (simp; done) | (simp; omega) | omega) hb2.size; have c2_0_0 := rowcell R2_0 0; have c2_0_1 := rowcell R2_0 1; have c2_0_2 := rowcell R2_0 2; have c2_0_3 := rowcell R2_0 3; simp only [List.getElem?_toArray, List.getElem?_cons_zero, List.getElem?_cons_succ] at c2_0_0 c2_0_1 c2_0_2 c2_0_3; have HR2_0 : Hid _ := R2_0; clear R2_0; have R2_1 := (hb2.block (w.heap.size + 1) (by first | (simp; done) | (simp; omega) | omega)).trans HR1_1.out; have z2_1 : w.heap.size + 1 < w2.heap.size := Nat.lt_of_lt_of_le (by first | (simp; done) | (simp; omega) | omega) hb2.size; have c2_1_0 := rowcell R2_1 0; have c2_1_1 := rowcell R2_1 1; have c2_1_2 := rowcell R2_1 2; have c2_1_3 := rowcell R2_1 3; simp only [List.getElem?_toArray, List.getElem?_cons_zero, List.getElem?_cons_succ] at c2_1_0 c2_1_1 c2_1_2 c2_1_3; have HR2_1 : Hid _ := R2_1; clear R2_1; have R2_2 := (hb2.block (w.heap.size + 1 + 1) (by first | (simp; done) | (simp; omega) | omega)).trans HR1_2.out; have z2_2 : w.heap.size + 1 + 1 < w2.heap.size := Nat.lt_of_lt_of_le (by first | (simp; done) | (simp; omega) | omega) hb2.size; have c2_2_0 := rowcell R2_2 0; have c2_2_1 := rowcell R2_2 1; have c2_2_2 := rowcell R2_2 2; have c2_2_3 := rowcell R2_2 3; have c2_2_4 := rowcell R2_2 4; have c2_2_5 := rowcell R2_2 5; simp only [List.getElem?_toArray, List.getElem?_cons_zero, List.getElem?_cons_succ] at c2_2_0 c2_2_1 c2_2_2 c2_2_3 c2_2_4 c2_2_5; have rf := rowfree R2_2; have HR2_2 : Hid _ := R2_2; clear R2_2; have HB2 : Hid (Below _ _ _) := hb2; clear hb2))
  all_goals
    refine bodyPost_ret (v := .tuple #[.agg #[.int .i64 2, .bool false, .int .i64 0, .int .u64 0, .int .u64 0, .bool false], .int .i64 0]) (by simp [results, Try.results10, go_sem, rf, z2_2, c2_2_0, c2_2_1, c2_2_2, c2_2_3, c2_2_4, c2_2_5]) rfl (hQ.out _ _ ⟨by simp, ?_⟩)
    exact cset6 (cthen (cthen (cmore (cmore (cmore (Below.refl _ _) _) _) _) HB1.out) HB2.out) (by omega)
set_option maxHeartbeats 2000000 in
theorem exact11_nar2 (k : Int) (neg : Bool) (s : Int) (f : Nat) (k' : Int) (neg' : Bool) (s' : Int) (g : Nat) (h1 : soundN k neg s f = true) (h2 : soundN k' neg' s' g = true) (hk : k ≠ 2) (hk' : k' ≠ 1) (w : World) :
    Calls Try.prog 10 #[numV k neg s f, numV k' neg' s' g] w fun e w' => e = .returned (.tuple #[exV 2 false 0 0 0 false, .int .i64 0]) ∧ Below w.heap.size w w' := by
  have k1 := sound6_any k neg s f
  have k2 := sound6_any k' neg' s' g
  rw [h1] at k1
  rw [h2] at k2
  clear h1 h2
  have d0 : (k == 2) = false := beq_eq_false_iff_ne.2 hk
  have d1 : (k' == 1) = false := beq_eq_false_iff_ne.2 hk'
  clear hk hk'
  unfold numV exV at *
  rw [show ((0 : Nat) : Int) = 0 from rfl] at *
  refine cps fun Q hQ => ?_
  go_enter Try.func10, Try.ntmps10
  go_wp2_with (first
    | (go_at_call_of 25 f; go_must (refine (k1 _).mono ?_); rintro e w1 ⟨rfl, hb1⟩; have R1_0 := (hb1.block (w.heap.size) (by first | (simp; done) | (simp; omega) | omega)).trans ((Below.heap_alloc _ _ _ (by first | (simp; done) | (simp; omega) | omega)).trans ((Below.heap_alloc _ _ _ (by first | (simp; done) | (simp; omega) | omega)).trans (rownew' _ _ _ _ (by simp)))); have z1_0 : w.heap.size < w1.heap.size := Nat.lt_of_lt_of_le (by first | (simp; done) | (simp; omega) | omega) hb1.size; have HR1_0 : Hid _ := R1_0; clear R1_0; have R1_1 := (hb1.block (w.heap.size + 1) (by first | (simp; done) | (simp; omega) | omega)).trans ((Below.heap_alloc _ _ _ (by first | (simp; done) | (simp; omega) | omega)).trans (rownew' _ _ _ _ (by simp))); have z1_1 : w.heap.size + 1 < w1.heap.size := Nat.lt_of_lt_of_le (by first | (simp; done) | (simp; omega) | omega) hb1.size; have c1_1_0 := rowcell R1_1 0; have c1_1_1 := rowcell R1_1 1; have c1_1_2 := rowcell R1_1 2; have c1_1_3 := rowcell R1_1 3; simp only [List.getElem?_toArray, List.getElem?_cons_zero, List.getElem?_cons_succ] at c1_1_0 c1_1_1 c1_1_2 c1_1_3; have HR1_1 : Hid _ := R1_1; clear R1_1; have R1_2 := (hb1.block (w.heap.size + 1 + 1) (by first | (simp; done) | (simp; omega) | omega)).trans (rownew' _ _ _ _ (by simp)); have z1_2 : w.heap.size + 1 + 1 < w1.heap.size := Nat.lt_of_lt_of_le (by first | (simp; done) | (simp; omega) | omega) hb1.size; have HR1_2 : Hid _ := R1_2; clear R1_2; have HB1 : Hid (Below _ _ _) := hb1; clear hb1)
    | (go_at_call_of 25 g; go_must (refine (k2 _).mono ?_); rintro e w2 ⟨rfl, hb2⟩; have R2_0 := (hb2.block (w.heap.size) (by first | (simp; done) | (simp; omega) | omega)).trans HR1_0.out; have z2_0 : w.heap.size < w2.heap.size := Nat.lt_of_lt_of_le (by first | (simp; done) | (simp; omega) | omega) hb2.size; have c2_0_0 := rowcell R2_0 0; have c2_0_1 := rowcell R2_0 1; have c2_0_2 := rowcell R2_0 2; have c2_0_3 := rowcell R2_0 3; simp only [List.getElem?_toArray, List.getElem?_cons_zero, List.getElem?_cons_succ] at c2_0_0 c2_0_1 c2_0_2 c2_0_3; have HR2_0 : Hid _ := R2_0; clear R2_0; have R2_1 := (hb2.block (w.heap.size + 1) (by first | (simp; done) | (simp; omega) | omega)).trans HR1_1.out; have z2_1 : w.heap.size + 1 < w2.heap.size := Nat.lt_of_lt_of_le (by first | (simp; done) | (simp; omega) | omega) hb2.size; have c2_1_0 := rowcell R2_1 0; have c2_1_1 := rowcell R2_1 1; have c2_1_2 := rowcell R2_1 2; have c2_1_3 := rowcell R2_1 3; simp only [List.getElem?_toArray, List.getElem?_cons_zero, List.getElem?_cons_succ] at c2_1_0 c2_1_1 c2_1_2 c2_1_3; have HR2_1 : Hid _ := R2_1; clear R2_1; have R2_2 := (hb2.block (w.heap.size + 1 + 1) (by first | (simp; done) | (simp; omega) | omega)).trans HR1_2.out; have z2_2 : w.heap.size + 1 + 1 < w2.heap.size := Nat.lt_of_lt_of_le (by first | (simp; done) | (simp; omega) | omega) hb2.size; have c2_2_0 := rowcell R2_2 0; have c2_2_1 := rowcell R2_2 1; have c2_2_2 := rowcell R2_2 2; have c2_2_3 := rowcell R2_2 3; have c2_2_4 := rowcell R2_2 4; have c2_2_5 := rowcell R2_2 5; simp only [List.getElem?_toArray, List.getElem?_cons_zero, List.getElem?_cons_succ] at c2_2_0 c2_2_1 c2_2_2 c2_2_3 c2_2_4 c2_2_5; have rf := rowfree R2_2; have HR2_2 : Hid _ := R2_2; clear R2_2; have HB2 : Hid (Below _ _ _) := hb2; clear hb2))
  all_goals
    refine bodyPost_ret (v := .tuple #[.agg #[.int .i64 2, .bool false, .int .i64 0, .int .u64 0, .int .u64 0, .bool false], .int .i64 0]) (by simp [results, Try.results10, go_sem, rf, z2_2, c2_2_0, c2_2_1, c2_2_2, c2_2_3, c2_2_4, c2_2_5]) rfl (hQ.out _ _ ⟨by simp, ?_⟩)
    exact cset6 (cthen (cthen (cmore (cmore (cmore (Below.refl _ _) _) _) _) HB1.out) HB2.out) (by omega)
set_option maxHeartbeats 2000000 in
theorem exact11_zero1 (k : Int) (neg : Bool) (s : Int) (f : Nat) (k' : Int) (neg' : Bool) (s' : Int) (g : Nat) (h1 : soundN k neg s f = true) (h2 : soundN k' neg' s' g = true) (hk : k = 0) (hk' : k' = 1) (w : World) :
    Calls Try.prog 10 #[numV k neg s f, numV k' neg' s' g] w fun e w' => e = .returned (.tuple #[exV 0 false 0 0 0 false, .int .i64 0]) ∧ Below w.heap.size w w' := by
  subst hk hk'
  have k1 := sound6_any 0 neg s f
  have k2 := sound6_any 1 neg' s' g
  rw [h1] at k1
  rw [h2] at k2
  clear h1 h2
  unfold numV exV at *
  rw [show ((0 : Nat) : Int) = 0 from rfl] at *
  refine cps fun Q hQ => ?_
  go_enter Try.func10, Try.ntmps10
  go_wp2_with (first
    | (go_at_call_of 25 f; go_must (refine (k1 _).mono ?_); rintro e w1 ⟨rfl, hb1⟩; have R1_0 := (hb1.block (w.heap.size) (by first | (simp; done) | (simp; omega) | omega)).trans ((Below.heap_alloc _ _ _ (by first | (simp; done) | (simp; omega) | omega)).trans ((Below.heap_alloc _ _ _ (by first | (simp; done) | (simp; omega) | omega)).trans (rownew' _ _ _ _ (by simp)))); have z1_0 : w.heap.size < w1.heap.size := Nat.lt_of_lt_of_le (by first | (simp; done) | (simp; omega) | omega) hb1.size; have HR1_0 : Hid _ := R1_0; clear R1_0; have R1_1 := (hb1.block (w.heap.size + 1) (by first | (simp; done) | (simp; omega) | omega)).trans ((Below.heap_alloc _ _ _ (by first | (simp; done) | (simp; omega) | omega)).trans (rownew' _ _ _ _ (by simp))); have z1_1 : w.heap.size + 1 < w1.heap.size := Nat.lt_of_lt_of_le (by first | (simp; done) | (simp; omega) | omega) hb1.size; have c1_1_0 := rowcell R1_1 0; have c1_1_1 := rowcell R1_1 1; have c1_1_2 := rowcell R1_1 2; have c1_1_3 := rowcell R1_1 3; simp only [List.getElem?_toArray, List.getElem?_cons_zero, List.getElem?_cons_succ] at c1_1_0 c1_1_1 c1_1_2 c1_1_3; have HR1_1 : Hid _ := R1_1; clear R1_1; have R1_2 := (hb1.block (w.heap.size + 1 + 1) (by first | (simp; done) | (simp; omega) | omega)).trans (rownew' _ _ _ _ (by simp)); have z1_2 : w.heap.size + 1 + 1 < w1.heap.size := Nat.lt_of_lt_of_le (by first | (simp; done) | (simp; omega) | omega) hb1.size; have HR1_2 : Hid _ := R1_2; clear R1_2; have HB1 : Hid (Below _ _ _) := hb1; clear hb1)
    | (go_at_call_of 25 g; go_must (refine (k2 _).mono ?_); rintro e w2 ⟨rfl, hb2⟩; have R2_0 := (hb2.block (w.heap.size) (by first | (simp; done) | (simp; omega) | omega)).trans HR1_0.out; have z2_0 : w.heap.size < w2.heap.size := Nat.lt_of_lt_of_le (by first | (simp; done) | (simp; omega) | omega) hb2.size; have c2_0_0 := rowcell R2_0 0; have c2_0_1 := rowcell R2_0 1; have c2_0_2 := rowcell R2_0 2; have c2_0_3 := rowcell R2_0 3; simp only [List.getElem?_toArray, List.getElem?_cons_zero, List.getElem?_cons_succ] at c2_0_0 c2_0_1 c2_0_2 c2_0_3; have HR2_0 : Hid _ := R2_0; clear R2_0; have R2_1 := (hb2.block (w.heap.size + 1) (by first | (simp; done) | (simp; omega) | omega)).trans HR1_1.out; have z2_1 : w.heap.size + 1 < w2.heap.size := Nat.lt_of_lt_of_le (by first | (simp; done) | (simp; omega) | omega) hb2.size; have c2_1_0 := rowcell R2_1 0; have c2_1_1 := rowcell R2_1 1; have c2_1_2 := rowcell R2_1 2; have c2_1_3 := rowcell R2_1 3; simp only [List.getElem?_toArray, List.getElem?_cons_zero, List.getElem?_cons_succ] at c2_1_0 c2_1_1 c2_1_2 c2_1_3; have HR2_1 : Hid _ := R2_1; clear R2_1; have R2_2 := (hb2.block (w.heap.size + 1 + 1) (by first | (simp; done) | (simp; omega) | omega)).trans HR1_2.out; have z2_2 : w.heap.size + 1 + 1 < w2.heap.size := Nat.lt_of_lt_of_le (by first | (simp; done) | (simp; omega) | omega) hb2.size; have c2_2_0 := rowcell R2_2 0; have c2_2_1 := rowcell R2_2 1; have c2_2_2 := rowcell R2_2 2; have c2_2_3 := rowcell R2_2 3; have c2_2_4 := rowcell R2_2 4; have c2_2_5 := rowcell R2_2 5; simp only [List.getElem?_toArray, List.getElem?_cons_zero, List.getElem?_cons_succ] at c2_2_0 c2_2_1 c2_2_2 c2_2_3 c2_2_4 c2_2_5; have rf := rowfree R2_2; have HR2_2 : Hid _ := R2_2; clear R2_2; have HB2 : Hid (Below _ _ _) := hb2; clear hb2))
  all_goals
    refine bodyPost_ret (v := .tuple #[.agg #[.int .i64 0, .bool false, .int .i64 0, .int .u64 0, .int .u64 0, .bool false], .int .i64 0]) (by simp [results, Try.results10, go_sem, rf, z2_2, c2_2_0, c2_2_1, c2_2_2, c2_2_3, c2_2_4, c2_2_5]) rfl (hQ.out _ _ ⟨by simp, ?_⟩)
    exact cset6 (cthen (cthen (cmore (cmore (cmore (Below.refl _ _) _) _) _) HB1.out) HB2.out) (by omega)
set_option maxHeartbeats 2000000 in
theorem exact11_real (k : Int) (neg : Bool) (s : Int) (f : Nat) (k' : Int) (neg' : Bool) (s' : Int) (g : Nat) (hf : f < 2 ^ 64) (hg : g < 2 ^ 64) (h1 : soundN k neg s f = true) (h2 : soundN k' neg' s' g = true) (hk : k = 1) (hk' : k' = 1) (w : World) :
    Calls Try.prog 10 #[numV k neg s f, numV k' neg' s' g] w fun e w' => e = .returned (.tuple #[cutV (xorB neg neg') (quoN f g) (s - s' - 200) (quoR f g), .int .i64 0]) ∧ Below w.heap.size w w' := by
  subst hk hk'
  have hb1 : -1073741824 ≤ s ∧ s ≤ 1073741824 := by
    unfold soundN at h1; rw [if_neg (by decide)] at h1; exact (of_decide_eq_true h1).2.2
  have hb2 : -1073741824 ≤ s' ∧ s' ≤ 1073741824 := by
    unfold soundN at h2; rw [if_neg (by decide)] at h2; exact (of_decide_eq_true h2).2.2
  have k1 := sound6_any 1 neg s f
  have k2 := sound6_any 1 neg' s' g
  rw [h1] at k1
  rw [h2] at k2
  have hg0 : 0 < g := by
    unfold soundN at h2; rw [if_neg (by decide)] at h2; have := (of_decide_eq_true h2).2.1; omega
  have hf0 : 9223372036854775808 ≤ f := by
    unfold soundN at h1; rw [if_neg (by decide)] at h1; exact (of_decide_eq_true h1).2.1
  obtain ⟨m1, m2, m3⟩ := @quo_blen f g hf
  have hN0 := quo_pos hf0 hg hg0
  have k3 := of_any f hf
  have k4 := of_any g hg
  have hdf := dlen_of_blen (Nat.le_trans m2 (by decide : 264 ≤ 1099511627776))
  have hdf2 : dlen (f * 2 ^ 200) ≤ 549755813888 := Nat.le_trans (dlen_le_blen _) (Nat.le_trans m2 (by decide))
  have hdg : dlen g ≤ 549755813888 := Nat.le_trans (dlen_small (by omega)) (by decide)
  have k3s := fun v w hr => nshl_any v f 200 (by decide) (Nat.le_trans (dlen_small (by omega)) (by decide)) w hr
  rw [show ((200 : Nat) : Int) = 200 from rfl] at k3s
  have k5 := fun va vb w ha hb => ndivmod_any va vb (f * 2 ^ 200) g hg0 hdf2 hdg w ha hb
  have k6 := fun v w hr => exactly7_any (xorB neg neg') v (quoN f g) (s - s' - 200) (quoR f g) (Nat.le_trans m1 (by decide)) (by omega) w hr
  have hform : exactV (xorB neg neg') (quoN f g) (s - s' - 200) (quoR f g) = exV 1 (xorB neg neg') (heldX (s - s' - 200 + blen (quoN f g) - 1)) (normN (quoN f g) / 2 ^ 64 % 2 ^ 64) (normN (quoN f g) % 2 ^ 64) (quoR f g || lostN (quoN f g)) := by unfold exactV; rw [if_neg hN0]
  have k7 := cut11_any 1 (xorB neg neg') (heldX (s - s' - 200 + blen (quoN f g) - 1)) (normN (quoN f g) / 2 ^ 64 % 2 ^ 64) (normN (quoN f g) % 2 ^ 64) (quoR f g || lostN (quoN f g))
  rw [hform] at k6
  unfold cutV
  have hds := dlen_some (f * 2 ^ 200 % g)
  change decide ((0 : Int) < ((dlen (f * 2 ^ 200 % g) : Nat) : Int)) = quoR f g at hds
  have hds2 : decide (0 < dlen (f * 2 ^ 200 % g)) = quoR f g := by rw [← hds]; exact decide_eq_decide.2 ⟨fun h => by omega, fun h => by omega⟩
  change ∀ (va vb : Value) (w : World), Row w va (dig (f * 2 ^ 200)) → Row w vb (dig g) → Calls Try.prog 26 #[va, vb] w fun e w' => ∃ v1 v2, e = .returned (.tuple #[v1, v2]) ∧ Row w' v1 (dig (quoN f g)) ∧ Row w' v2 (dig (f * 2 ^ 200 % g)) ∧ Below w.heap.size w w' at k5
  generalize ((quoR f g || lostN (quoN f g)) || decide (normN (quoN f g) % 2 ^ 64 ≠ 0)) = R at *
  generalize (quoR f g || lostN (quoN f g)) = R0 at *
  generalize normN (quoN f g) / 2 ^ 64 % 2 ^ 64 = H at *
  generalize normN (quoN f g) % 2 ^ 64 = L0 at *
  generalize heldX (s - s' - 200 + blen (quoN f g) - 1) = S at *
  generalize quoR f g = qr at *
  generalize quoN f g = M at *
  generalize f * 2 ^ 200 % g = rr at *
  generalize f * 2 ^ 200 = FF at *
  obtain ⟨xb, hxb⟩ : ∃ xb, xorB neg neg' = xb := ⟨_, rfl⟩
  have x1 : (neg != neg') = xb := by rw [← hxb]; cases neg <;> cases neg' <;> rfl
  have x2 : (!(neg == neg')) = xb := by rw [← hxb]; cases neg <;> cases neg' <;> rfl
  have x3 : (!decide (neg = neg')) = xb := by rw [← hxb]; cases neg <;> cases neg' <;> rfl
  rw [hxb] at k6 k7 ⊢
  have e1 : IntKind.i64.wrap (s - s') = s - s' := wrapI (by omega)
  have e2 : IntKind.i64.wrap (s - s' - 200) = s - s' - 200 := wrapI (by omega)
  clear h1 h2 hb1 hb2 m1 m2 m3 hN0 hform hf hg hxb hg0 hf0 hdf hdf2 hdg
  unfold numV exV at *
  refine cps fun Q hQ => ?_
  go_enter Try.func10, Try.ntmps10
  go_wp2_with (first
    | (go_at_call_of 25 f; go_must (refine (k1 _).mono ?_); rintro e w1 ⟨rfl, hb1⟩; have R1_0 := (hb1.block (w.heap.size) (by first | (simp; done) | (simp; omega) | omega)).trans ((Below.heap_alloc _ _ _ (by first | (simp; done) | (simp; omega) | omega)).trans ((Below.heap_alloc _ _ _ (by first | (simp; done) | (simp; omega) | omega)).trans (rownew' _ _ _ _ (by simp)))); have z1_0 : w.heap.size < w1.heap.size := Nat.lt_of_lt_of_le (by first | (simp; done) | (simp; omega) | omega) hb1.size; have HR1_0 : Hid _ := R1_0; clear R1_0; have R1_1 := (hb1.block (w.heap.size + 1) (by first | (simp; done) | (simp; omega) | omega)).trans ((Below.heap_alloc _ _ _ (by first | (simp; done) | (simp; omega) | omega)).trans (rownew' _ _ _ _ (by simp))); have z1_1 : w.heap.size + 1 < w1.heap.size := Nat.lt_of_lt_of_le (by first | (simp; done) | (simp; omega) | omega) hb1.size; have c1_1_0 := rowcell R1_1 0; have c1_1_1 := rowcell R1_1 1; have c1_1_2 := rowcell R1_1 2; have c1_1_3 := rowcell R1_1 3; simp only [List.getElem?_toArray, List.getElem?_cons_zero, List.getElem?_cons_succ] at c1_1_0 c1_1_1 c1_1_2 c1_1_3; have HR1_1 : Hid _ := R1_1; clear R1_1; have R1_2 := (hb1.block (w.heap.size + 1 + 1) (by first | (simp; done) | (simp; omega) | omega)).trans (rownew' _ _ _ _ (by simp)); have z1_2 : w.heap.size + 1 + 1 < w1.heap.size := Nat.lt_of_lt_of_le (by first | (simp; done) | (simp; omega) | omega) hb1.size; have HR1_2 : Hid _ := R1_2; clear R1_2; have HB1 : Hid (Below _ _ _) := hb1; clear hb1)
    | (go_at_call_of 25 g; go_must (refine (k2 _).mono ?_); rintro e w2 ⟨rfl, hb2⟩; have R2_0 := (hb2.block (w.heap.size) (by first | (simp; done) | (simp; omega) | omega)).trans HR1_0.out; have z2_0 : w.heap.size < w2.heap.size := Nat.lt_of_lt_of_le (by first | (simp; done) | (simp; omega) | omega) hb2.size; have c2_0_0 := rowcell R2_0 0; have c2_0_1 := rowcell R2_0 1; have c2_0_2 := rowcell R2_0 2; have c2_0_3 := rowcell R2_0 3; simp only [List.getElem?_toArray, List.getElem?_cons_zero, List.getElem?_cons_succ] at c2_0_0 c2_0_1 c2_0_2 c2_0_3; have HR2_0 : Hid _ := R2_0; clear R2_0; have R2_1 := (hb2.block (w.heap.size + 1) (by first | (simp; done) | (simp; omega) | omega)).trans HR1_1.out; have z2_1 : w.heap.size + 1 < w2.heap.size := Nat.lt_of_lt_of_le (by first | (simp; done) | (simp; omega) | omega) hb2.size; have c2_1_0 := rowcell R2_1 0; have c2_1_1 := rowcell R2_1 1; have c2_1_2 := rowcell R2_1 2; have c2_1_3 := rowcell R2_1 3; simp only [List.getElem?_toArray, List.getElem?_cons_zero, List.getElem?_cons_succ] at c2_1_0 c2_1_1 c2_1_2 c2_1_3; have HR2_1 : Hid _ := R2_1; clear R2_1; have R2_2 := (hb2.block (w.heap.size + 1 + 1) (by first | (simp; done) | (simp; omega) | omega)).trans HR1_2.out; have z2_2 : w.heap.size + 1 + 1 < w2.heap.size := Nat.lt_of_lt_of_le (by first | (simp; done) | (simp; omega) | omega) hb2.size; have c2_2_0 := rowcell R2_2 0; have c2_2_1 := rowcell R2_2 1; have c2_2_2 := rowcell R2_2 2; have c2_2_3 := rowcell R2_2 3; have c2_2_4 := rowcell R2_2 4; have c2_2_5 := rowcell R2_2 5; simp only [List.getElem?_toArray, List.getElem?_cons_zero, List.getElem?_cons_succ] at c2_2_0 c2_2_1 c2_2_2 c2_2_3 c2_2_4 c2_2_5; have rf := rowfree R2_2; have HR2_2 : Hid _ := R2_2; clear R2_2; have HB2 : Hid (Below _ _ _) := hb2; clear hb2))
  have cls : ∀ W, Below w2.heap.size w2 W → W.cell? ⟨w.heap.size, 3, none⟩ = some (.int .u64 f) ∧ W.cell? ⟨w.heap.size + 1, 3, none⟩ = some (.int .u64 g) := fun W hW => ⟨(hW.cell (p := ⟨w.heap.size, 3, none⟩) z2_0).trans c2_0_3, (hW.cell (p := ⟨w.heap.size + 1, 3, none⟩) z2_1).trans c2_1_3⟩
  refine wpC_region (fun W => W.cell? ⟨w.heap.size, 3, none⟩ = some (.int .u64 f) ∧ W.cell? ⟨w.heap.size + 1, 3, none⟩ = some (.int .u64 g)) (by kernel_rfl) ?_
  refine wpC_take 0 (v := ?_) rfl (by kernel_rfl) (fun _ _ _ h => h) (by kernel_rfl) ?_ ?_; rotate_left; · (intro wC hC; obtain ⟨c1, c2⟩ := hC; go_simp <;> with_reducible rfl)
  refine wpC_take 1 (v := ?_) rfl (by kernel_rfl) (fun _ _ _ h => h) (by kernel_rfl) ?_ ?_; rotate_left; · (intro wC hC; obtain ⟨c1, c2⟩ := hC; go_simp <;> with_reducible rfl)
  refine wpC_take 4 (v := ?_) rfl (by kernel_rfl) (fun _ _ _ h => h) (by kernel_rfl) ?_ ?_; rotate_left; · (intro wC hC; obtain ⟨c1, c2⟩ := hC; go_simp <;> with_reducible rfl)
  refine wpC_take 5 (v := ?_) rfl (by kernel_rfl) (fun _ _ _ h => h) (by kernel_rfl) ?_ ?_; rotate_left; · (intro wC hC; obtain ⟨c1, c2⟩ := hC; go_simp <;> with_reducible rfl)
  have b2 := cdrew (Below.refl w2.heap.size w2)
  refine wpC_step 2 rfl (by kernel_rfl) (by kernel_rfl) (cls _ b2) (fun K hK => ?_)
  go_simp
  go_wp2_with ((go_at_call_of 28 f; go_must (refine (k3 _).mono ?_); rintro e w3 ⟨v3, rfl, hr3, hb3⟩))
  try (refine hK _ _ ?_; clear hK K)
  have b3 : Below w2.heap.size w2 w3 := cthen b2 hb3
  refine wpC_step 3 rfl (by kernel_rfl) (by kernel_rfl) (cls _ b3) (fun K hK => ?_)
  go_simp
  go_wp2_with ((go_at_call 27; go_must (refine (k3s _ _ hr3).mono ?_); rintro e w3s ⟨v3s, rfl, hr3s, hb3s⟩))
  try (refine hK _ _ ?_; clear hK K)
  have b3s : Below w2.heap.size w2 w3s := cthen b3 hb3s
  refine wpC_step 6 rfl (by kernel_rfl) (by kernel_rfl) (cls _ b3s) (fun K hK => ?_)
  go_simp
  go_wp2_with ((go_at_call_of 28 g; go_must (refine (k4 _).mono ?_); rintro e w4 ⟨v4, rfl, hr4, hb4⟩))
  try (refine hK _ _ ?_; clear hK K)
  have b4 : Below w2.heap.size w2 w4 := cthen b3s hb4
  refine wpC_step 7 rfl (by kernel_rfl) (by kernel_rfl) (cls _ b4) (fun K hK => ?_)
  go_simp
  go_wp2_with ((go_at_call 26; go_must (refine (k5 _ _ _ (hr3s.below hb4) hr4).mono ?_); rintro e w5 ⟨v5, v6, rfl, hr5, hr6, hb5⟩))
  try (refine hK _ _ ?_; clear hK K)
  have b5 : Below w2.heap.size w2 w5 := cthen b4 hb5
  obtain ⟨ao, cc, rfl, hcc1, hcc2⟩ := hr6.num
  refine wpC_take 8 (v := ?_) rfl (by kernel_rfl) (fun _ _ _ h => h) (by kernel_rfl) ?_ ?_; rotate_left; · (intro wC hC; obtain ⟨c1, c2⟩ := hC; go_simp <;> with_reducible rfl)
  refine wpC_take 9 (v := ?_) rfl (by kernel_rfl) (fun _ _ _ h => h) (by kernel_rfl) ?_ ?_; rotate_left; · (intro wC hC; obtain ⟨c1, c2⟩ := hC; go_simp <;> with_reducible rfl)
  refine wpC_take 10 (v := ?_) rfl (by kernel_rfl) (fun _ _ _ h => h) (by kernel_rfl) ?_ ?_; rotate_left; · (intro wC hC; obtain ⟨c1, c2⟩ := hC; go_simp <;> with_reducible rfl)
  refine wpC_take 11 (v := ?_) rfl (by kernel_rfl) (fun _ _ _ h => h) (by kernel_rfl) ?_ ?_; rotate_left; · (intro wC hC; obtain ⟨c1, c2⟩ := hC; go_simp <;> with_reducible rfl)
  refine wpC_take 12 (v := ?_) rfl (by kernel_rfl) (fun _ _ _ h => h) (by kernel_rfl) ?_ ?_; rotate_left; · (intro wC hC; obtain ⟨c1, c2⟩ := hC; go_simp <;> with_reducible rfl)
  refine wpC_done (by kernel_rfl) (cls _ b5) ?_
  have X0 := (b5.block w.heap.size z2_0).trans HR2_0.out
  have X1 := (b5.block (w.heap.size + 1) z2_1).trans HR2_1.out
  have a1 := rowcell X0 1
  have a2 := rowcell X0 2
  have d1 := rowcell X1 1
  have d2 := rowcell X1 2
  simp only [List.getElem?_toArray, List.getElem?_cons_zero, List.getElem?_cons_succ] at a1 a2 d1 d2
  have y2 : w.heap.size + 1 + 1 < w5.heap.size := Nat.lt_of_lt_of_le z2_2 b5.size
  have HV5 : Hid (Row w5 v5 (dig M)) := hr5
  have HB5 : Hid (Below w2.heap.size w2 w5) := b5
  clear cls X0 X1 b2 b3 b3s b4 b5 hb3 hb3s hb4 hb5 hr3 hr3s hr4 hr5 hr6 k3 k3s k4 k5 hcc1 hcc2
  go_wp2_with (first
    | (go_at_call 30; go_must (refine (k6 _ _ HV5.out).mono ?_); rintro e w5x ⟨rfl, hb5x⟩; have HB5X : Hid (Below w2.heap.size w2 w5x) := cthen HB5.out hb5x; have y2x : w.heap.size + 1 + 1 < w5x.heap.size := Nat.lt_of_lt_of_le y2 hb5x.size; clear hb5x)
    | (go_at_call 29; go_must (refine (k7 _).mono ?_); rintro e w6 ⟨rfl, hb6⟩; have RR := (hb6.block (w.heap.size + 1 + 1) y2x).trans ((HB5X.out.block (w.heap.size + 1 + 1) z2_2).trans HR2_2.out); have y6 : w.heap.size + 1 + 1 < w6.heap.size := rowlt RR; have r0 := rowcell RR 0; have r1 := rowcell RR 1; have r2 := rowcell RR 2; have r3 := rowcell RR 3; have r4 := rowcell RR 4; have r5 := rowcell RR 5; have rg := rowfree RR; simp only [List.getElem?_toArray, List.getElem?_cons_zero, List.getElem?_cons_succ] at r0 r1 r2 r3 r4 r5; have HB6 : Hid (Below _ _ _) := hb6; clear hb6 RR))
  refine bodyPost_ret (v := .tuple #[.agg #[.int .i64 1, .bool xb, .int .i64 S, .int .u64 H, .int .u64 0, .bool R], .int .i64 0]) (by simp [results, Try.results10, go_sem, rg, y6, r0, r1, r2, r3, r4, r5]) rfl (hQ.out _ _ ⟨by simp, ?_⟩)
  exact cset6 (cthen (cthen (cthen (cthen (cmore (cmore (cmore (Below.refl _ _) _) _) _) HB1.out) HB2.out) HB5X.out) HB6.out) (by omega)
theorem exact11_bad (k : Int) (neg : Bool) (s : Int) (f : Nat) (k' : Int) (neg' : Bool) (s' : Int) (g : Nat) (h : (soundN k neg s f && soundN k' neg' s' g) = false) (w : World) :
    Calls Try.prog 10 #[numV k neg s f, numV k' neg' s' g] w fun e w' => e = .returned (.tuple #[exV 0 false 0 0 0 false, .int .i64 1]) ∧ Below w.heap.size w w' := by
  cases h1 : soundN k neg s f
  · exact exact11_bad1 k neg s f k' neg' s' g h1 w
  · rw [h1] at h
    exact exact11_bad2 k neg s f k' neg' s' g h1 h w
theorem soundN_kindsQ {k : Int} {neg : Bool} {s : Int} {f : Nat} (h : soundN k neg s f = true) : k = 0 ∨ k = 2 ∨ k = 1 := by
  rcases sound_cases h with ⟨a, _⟩ | ⟨a, _⟩ | a
  · exact .inl a
  · exact .inr (.inl a)
  · exact .inr (.inr a)
theorem exact11_ok (k : Int) (neg : Bool) (s : Int) (f : Nat) (k' : Int) (neg' : Bool) (s' : Int) (g : Nat) (hf : f < 2 ^ 64) (hg : g < 2 ^ 64) (h1 : soundN k neg s f = true) (h2 : soundN k' neg' s' g = true) (w : World) :
    Calls Try.prog 10 #[numV k neg s f, numV k' neg' s' g] w fun e w' => e = .returned (.tuple #[quot11 k neg s f k' neg' s' g, .int .i64 0]) ∧ Below w.heap.size w w' := by
  unfold quot11
  by_cases a2 : k = 2
  · rw [if_pos (.inl a2)]; exact exact11_nar1 k neg s f k' neg' s' g h1 h2 a2 w
  · by_cases b1 : k' = 1
    · rw [if_neg (by rintro (c | c); exact a2 c; exact c b1)]
      by_cases a0 : k = 0
      · rw [if_pos a0]; exact exact11_zero1 k neg s f k' neg' s' g h1 h2 a0 b1 w
      · rw [if_neg a0]
        have ka : k = 1 := by rcases soundN_kindsQ h1 with c | c | c; exact absurd c a0; exact absurd c a2; exact c
        exact exact11_real k neg s f k' neg' s' g hf hg h1 h2 ka b1 w
    · rw [if_pos (.inr b1)]; exact exact11_nar2 k neg s f k' neg' s' g h1 h2 a2 b1 w
theorem round7_via (n : Nat) (V : Value) (P : Nat) (hV : ∃ k b s h l r, V = exV k b s h l r) (k1 : ∀ w, Calls Try.prog 65 #[.int .i64 n, V] w fun r w' => r = .returned (.tuple #[.int .u64 P, .int .i64 0]) ∧ Below w.heap.size w w') (w : World) :
    Calls Try.prog 36 #[.int .i64 n, V] w fun r w' => r = .returned (.int .u64 P) ∧ Below w.heap.size w w' := by
  obtain ⟨k, b, s, h, l, r, rfl⟩ := hV
  unfold exV at *
  refine cps fun Q hQ => ?_
  go_enter Try.func36, Try.ntmps36
  go_wp2_with (go_at_call 65; refine (k1 _).mono ?_; rintro e w1 ⟨rfl, hb1⟩)
  exact hQ.out _ _ ⟨rfl, cthen (cmore (Below.refl _ _) _) hb1⟩
theorem round7_quot (n a b : Nat) (hn : Wd n) (ha : a < 2 ^ 64) (hb : b < 2 ^ 64) (w : World) :
    Calls Try.prog 36 #[.int .i64 n, quot11 (vK n a) (vB n a) (vS n a) (vF n a) (vK n b) (vB n b) (vS n b) (vF n b)] w fun r w' => r = .returned (.int .u64 (patQ n a b : Nat)) ∧ Below w.heap.size w w' := by
  refine round7_via n _ _ (quot11_form _ _ _ _ _ _ _ _) (fun w => ?_) w
  unfold quot11 patQ
  by_cases h : vK n a = 2 ∨ vK n b ≠ 1
  · rw [if_pos h, if_pos h]
    exact rounds7_plain n 2 (2 ^ (n - 1)) w (cut7_nar n hn)
  · rw [if_neg h, if_neg h]
    by_cases h0 : vK n a = 0
    · rw [if_pos h0, if_pos h0]
      exact rounds7_plain n 0 0 w (cut7_zero n hn)
    · rw [if_neg h0, if_neg h0]
      have a1 := real_or n a hn (fun c => h (.inl c)) h0
      have b1 : vK n b = 1 := Classical.not_not.1 fun c => h (.inr c)
      obtain ⟨_, _, _, _, _, _, wa, _⟩ := v_real n a hn ha a1
      obtain ⟨_, _, _, _, _, _, wb, _⟩ := v_real n b hn hb b1
      have hN0 := quo_pos wa.top wb.hi64 (show 0 < vF n b by have := wb.top; omega)
      have hwd := normN_words hN0
      have hh := heldX_bounds (vS n a - vS n b - 200 + blen (quoN (vF n a) (vF n b)) - 1)
      unfold cutV mgC
      refine rounds7_real n _ _ _ 0 _ hn ?_ ⟨hwd.top, hwd.hi64, by decide⟩ w
      unfold soundX
      rw [if_neg (by decide)]
      exact decide_eq_true ⟨rfl, hwd.top, hh.1, hh.2⟩
theorem div11_any (n a b : Nat) (hn : Wd n) (ha : a < 2 ^ 64) (hb : b < 2 ^ 64) (w : World) :
    Calls Try.prog 16 #[.int .i64 n, .int .u64 a, .int .u64 b] w fun e w' => e = .returned (.int .u64 (patQ n a b)) ∧ Below w.heap.size w w' := by
  have k1 := decode6_v n a hn ha
  have k2 := decode6_v n b hn hb
  have k3 := exact11_ok (vK n a) (vB n a) (vS n a) (vF n a) (vK n b) (vB n b) (vS n b) (vF n b) (vF_lt n a) (vF_lt n b) (sound_v n a hn ha) (sound_v n b hn hb)
  have k4 := round7_quot n a b hn ha hb
  obtain ⟨K, B, S, H, L, R, hform⟩ := quot11_form (vK n a) (vB n a) (vS n a) (vF n a) (vK n b) (vB n b) (vS n b) (vF n b)
  rw [hform] at k3 k4
  clear hform hn ha hb
  generalize patQ n a b = P at *
  generalize vK n a = ka at *
  generalize vB n a = ba at *
  generalize vS n a = sa at *
  generalize vF n a = fa at *
  generalize vK n b = kb at *
  generalize vB n b = bb at *
  generalize vS n b = sb at *
  generalize vF n b = fb at *
  unfold numV exV at *
  refine cps fun Q hQ => ?_
  go_enter Try.func16, Try.ntmps16
  go_wp2_with (first
    | (go_at_call_of 35 a; go_must (refine (k1 _).mono ?_); rintro e w1 ⟨rfl, hb1⟩; have HB1 : Hid (Below _ _ _) := hb1; clear hb1)
    | (go_at_call_of 35 b; go_must (refine (k2 _).mono ?_); rintro e w2 ⟨rfl, hb2⟩; have HB2 : Hid (Below _ _ _) := hb2; clear hb2)
    | (go_at_call 10; go_must (refine (k3 _).mono ?_); rintro e w3 ⟨rfl, hb3⟩; have HB3 : Hid (Below _ _ _) := hb3; clear hb3)
    | (go_at_call 36; go_must (refine (k4 _).mono ?_); rintro e w4 ⟨rfl, hb4⟩; have R4_0 := (hb4.block (w3.heap.size) (by first | (simp; done) | (simp; omega) | omega)).trans (rownew' _ _ _ _ (by simp)); have z4_0 : w3.heap.size < w4.heap.size := Nat.lt_of_lt_of_le (by first | (simp; done) | (simp; omega) | omega) hb4.size; have ne4_0 : ¬ w3.heap.size = w4.heap.size := (by omega); have en4_0 : ¬ w4.heap.size = w3.heap.size := (by omega); have c4_0_0 := rowcell R4_0 0; have c4_0_1 := rowcell R4_0 1; have c4_0_2 := rowcell R4_0 2; have c4_0_3 := rowcell R4_0 3; have c4_0_4 := rowcell R4_0 4; have c4_0_5 := rowcell R4_0 5; have cf4_0 := rowfree R4_0; simp only [List.getElem?_toArray, List.getElem?_cons_zero, List.getElem?_cons_succ] at c4_0_0 c4_0_1 c4_0_2 c4_0_3 c4_0_4 c4_0_5; have HR4_0 : Hid _ := R4_0; clear R4_0; have HB4 : Hid (Below _ _ _) := hb4; clear hb4))
  exact hQ.out _ _ ⟨rfl, cthen (cmore (cthen (cthen (cthen (Below.refl _ _) HB1.out) HB2.out) HB3.out) _) HB4.out⟩
theorem divs11_no (n : Int) (a b : Nat) (hn : isW n = false) (w : World) :
    Calls Try.prog 13 #[.int .i64 n, .int .u64 a, .int .u64 b] w fun e w' => e = .returned (.tuple #[.int .u64 0, .int .i64 2]) ∧ Below w.heap.size w w' := by
  have kis := is_width n
  rw [hn] at kis
  clear hn
  refine cps fun Q hQ => ?_
  go_enter Try.func13, Try.ntmps13
  go_wp2_with (go_at_call 15; refine (kis _).mono ?_; rintro e wx ⟨rfl, hwx⟩; rw [hwx]; clear hwx wx)
  exact hQ.out _ _ ⟨rfl, Below.refl _ _⟩
theorem divs11_ok (n a b : Nat) (hn : Wd n) (ha : a < 2 ^ 64) (hb : b < 2 ^ 64) (w : World) :
    Calls Try.prog 13 #[.int .i64 n, .int .u64 a, .int .u64 b] w fun e w' => e = .returned (.tuple #[.int .u64 (patQ n a b : Nat), .int .i64 0]) ∧ Below w.heap.size w w' := by
  have kis := is_width n
  rw [isW_of hn] at kis
  have k1 := div11_any n a b hn ha hb
  clear hn ha hb
  generalize patQ n a b = P at *
  refine cps fun Q hQ => ?_
  go_enter Try.func13, Try.ntmps13
  go_wp2_with (first
    | (go_at_call 15; refine (kis _).mono ?_; rintro e wx ⟨rfl, hwx⟩; rw [hwx]; clear hwx wx)
    | (go_at_call 16; refine (k1 _).mono ?_; rintro e w1 ⟨rfl, hb1⟩))
  exact hQ.out _ _ ⟨rfl, hb1⟩
end Go.Proofs.Ytkojldnafffghaa

namespace Go.Proofs.Ytkojldnafffghaa
open Go.ChangeShapes Go.WideShapes Go.ChangeAt Go.RowKit
set_option linter.unusedVariables false

/-! ### one digit (32 bits) of a quotient, as the library's Div64 finds it -/
theorem kn_up {u t a b T : Nat} (ha : 0 < a) (ht : t < 4294967296) (hT : T * (a * 4294967296 + b) ≤ u * 4294967296 + t) : T ≤ u / a := by
  rw [Nat.le_div_iff_mul_le ha]
  rw [Nat.mul_add, ← Nat.mul_assoc] at hT
  generalize T * a = x at *
  generalize T * b = z at *
  omega
theorem kn_more {q r u t a b T : Nat} (hq : q * a + r = u) (hlt : u < a * 4294967296 + b) (ht : t < 4294967296) (hT : T * (a * 4294967296 + b) ≤ u * 4294967296 + t)
    (hc : 4294967296 ≤ q ∨ r * 4294967296 + t < q * b) : T < q := by
  by_cases h : T < q
  · exact h
  · have h1 := Nat.mul_le_mul (Nat.le_of_not_lt h) (Nat.le_refl (a * 4294967296 + b))
    rcases hc with h2 | h2
    · have h3 := Nat.mul_le_mul h2 (Nat.le_refl (a * 4294967296 + b))
      omega
    · rw [Nat.mul_add q, ← Nat.mul_assoc] at h1
      generalize q * a = x at *
      generalize q * b = z at *
      omega
theorem kn_stop {q r u t a b T : Nat} (hq : q * a + r = u) (hc : q * b ≤ r * 4294967296 + t) (hT : u * 4294967296 + t < (T + 1) * (a * 4294967296 + b)) (h : T ≤ q) : q = T := by
  have h1 : q * (a * 4294967296 + b) < (T + 1) * (a * 4294967296 + b) := by
    refine Nat.lt_of_le_of_lt ?_ hT
    rw [Nat.mul_add q, ← Nat.mul_assoc]
    generalize q * a = x at *
    generalize q * b = z at *
    omega
  have := Nat.lt_of_mul_lt_mul_right h1
  omega
theorem kn_break {q r u t a b : Nat} (hq : q * a + r = u) (hlt : u < a * 4294967296 + b) (hb : b < 4294967296) (hr : 4294967296 ≤ r) : q * b ≤ r * 4294967296 + t := by
  have h1 : q < 4294967296 := by
    by_cases h : q < 4294967296
    · exact h
    · have := Nat.mul_le_mul (Nat.le_of_not_lt h) (Nat.le_refl a)
      omega
  have h2 := Nat.mul_le_mul (Nat.le_of_lt h1) (Nat.le_of_lt hb)
  omega
theorem div_at {U y q : Nat} (h1 : q * y ≤ U) (h2 : U < (q + 1) * y) : U / y = q := by
  rw [Nat.mul_comm] at h1 h2
  exact Nat.div_eq_of_lt_le (by rw [Nat.mul_comm]; exact h1) (by rw [Nat.mul_comm]; exact h2)

theorem lz64_any (x : Nat) (hx : x ≤ 18446744073709551615) (w : World) :
    Calls Try.prog 87 #[.int .u64 x] w fun e w' => e = .returned (.int .i64 ((64 - blen x : Nat) : Int)) ∧ w' = w := by
  have r2 := fun w => len64_any x (by omega) w
  rw [bitLen_eq x hx] at r2
  have hb : blen x ≤ 64 := blen_le.2 (by omega)
  generalize blen x = L at *
  refine cps fun Q hQ => ?_
  go_enter Try.func87, Try.ntmps87
  go_wp2_with (go_at_call 88; refine (r2 _).mono ?_; rintro e w' ⟨rfl, hw⟩; rw [hw]; clear hw w')
  exact hQ.out _ _ ⟨ret_i (by omega), rfl⟩
set_option maxHeartbeats 2000000 in
set_option maxRecDepth 100000 in
theorem div64_any (hi lo y : Nat) (hh : hi < y) (hl : lo ≤ 18446744073709551615) (hy : y ≤ 18446744073709551615) (w : World) :
    Calls Try.prog 70 #[.int .u64 hi, .int .u64 lo, .int .u64 y] w fun e w' => (∃ q r : Nat, e = .returned (.tuple #[.int .u64 q, .int .u64 r]) ∧ q = (hi * 18446744073709551616 + lo) / y ∧ r = (hi * 18446744073709551616 + lo) % y) ∧ ∃ n, w' = w.drewN n := by
  refine cps fun Q hQ => ?_
  by_cases h0 : hi = 0
  · subst h0
    have e1 : (0 * 18446744073709551616 + lo) / y = lo / y := by rw [Nat.zero_mul, Nat.zero_add]
    have e2 : (0 * 18446744073709551616 + lo) % y = lo % y := by rw [Nat.zero_mul, Nat.zero_add]
    rw [e1, e2] at hQ
    have h1 : lo / y ≤ lo := Nat.div_le_self _ _
    have h2 : lo % y < y := Nat.mod_lt _ (by omega)
    clear e1 e2
    have h3 : ¬ ((y : Int) = 0) := by omega
    obtain ⟨d, hd⟩ : ∃ d, d = lo / y := ⟨_, rfl⟩
    obtain ⟨m, hm⟩ : ∃ d, d = lo % y := ⟨_, rfl⟩
    have h4 : (lo : Int) / y = d := by rw [hd]; exact (Int.natCast_ediv lo y).symm
    have h5 : (lo : Int) % y = m := by rw [hm]; exact (Int.natCast_emod lo y).symm
    have h6 : IntKind.u64.wrap (d : Int) = d := wrapU d (by omega)
    rw [← hd, ← hm] at hQ
    clear hd hm h1 h2
    go_enter Try.func70, Try.ntmps70
    go_wp2
    go_region
    all_goals
      go_wp2
      exact hQ.out _ _ ⟨⟨d, m, (by rw [← h5]; rfl), rfl, rfl⟩, 1, rfl⟩
  · obtain ⟨s, hs⟩ : ∃ s, s = 64 - blen y := ⟨_, rfl⟩
    have k1 := fun w => lz64_any y (by omega) w
    rw [← hs] at k1
    have hb : blen y ≤ 64 := blen_le.2 (by omega)
    have hb0 : ¬ blen y ≤ 0 := fun h => by have := blen_le.1 h; omega
    have hb1 : ¬ y < 2 ^ (blen y - 1) := fun h => by have := blen_le.2 h; omega
    have hb2 : y < 2 ^ blen y := blen_le.1 (Nat.le_refl _)
    have hs1 : s < 64 := by omega
    obtain ⟨P, hP⟩ : ∃ P, P = 2 ^ s := ⟨_, rfl⟩
    have e1 : 2 ^ blen y * P = 2 ^ 64 := by rw [hP, ← Nat.pow_add]; congr 1; omega
    have e2 : 2 ^ (blen y - 1) * P = 2 ^ 63 := by rw [hP, ← Nat.pow_add]; congr 1; omega
    have p0 : 0 < P := by rw [hP]; exact Nat.pow_pos (by decide)
    have y1 : y * P < 2 ^ 64 := by rw [← e1]; exact Nat.mul_lt_mul_of_pos_right hb2 p0
    have y2 : 2 ^ 63 ≤ y * P := by rw [← e2]; exact Nat.mul_le_mul_right _ (Nat.le_of_not_lt hb1)
    clear e1 e2 hb hb0 hb1 hb2 hs
    obtain ⟨Y, hY⟩ : ∃ Y, Y = y * P := ⟨_, rfl⟩
    rw [← hY] at y1 y2
    have v1 : IntKind.u64.wrap ((y : Int) * 2 ^ s) = (Y : Int) := by
      rw [show ((y : Int) * 2 ^ s) = ((y * P : Nat) : Int) by rw [hP]; simp, ← hY]; exact wrapU Y (by omega)
    obtain ⟨a, ha⟩ : ∃ a, a = Y / 4294967296 := ⟨_, rfl⟩
    obtain ⟨b, hb⟩ : ∃ b, b = Y % 4294967296 := ⟨_, rfl⟩
    have v2 : (Y : Int) / 4294967296 = a := by omega
    have v3 := maskN Y (by omega)
    rw [← hb] at v3
    have a0 : 0 < a := by omega
    have a1 : a < 4294967296 := by omega
    have b1 : b < 4294967296 := by omega
    have ut := up_near hi lo s (by omega) (by omega) hs1
    have v4 := wrapShl hi s
    have v5 := shrN lo (64 - s)
    have v6 := u64_or_nat ((hi <<< s) % 2 ^ 64) (lo >>> (64 - s)) (Nat.mod_lt _ (by decide)) (Nat.lt_of_le_of_lt (Nat.shiftRight_le _ _) (by omega))
    have v7 := wrapShl lo s
    have hU : (hi * 18446744073709551616 + lo) * P < y * P * 18446744073709551616 := by
      have h1 : hi * 18446744073709551616 + lo < y * 18446744073709551616 := by omega
      have h2 := Nat.mul_lt_mul_of_pos_right h1 p0
      rw [Nat.mul_right_comm] at h2
      exact h2
    rw [← hY] at hU
    rw [← hP, Nat.mod_eq_of_lt (by omega)] at ut
    obtain ⟨X1, hX1⟩ : ∃ X, X = (hi <<< s) % 2 ^ 64 := ⟨_, rfl⟩
    obtain ⟨X2, hX2⟩ : ∃ X, X = lo >>> (64 - s) := ⟨_, rfl⟩
    rw [← hX1] at v4 v6 ut
    rw [← hX2] at v5 v6 ut
    obtain ⟨u, hu⟩ : ∃ X, X = X1 ||| X2 := ⟨_, rfl⟩
    obtain ⟨z, hz⟩ : ∃ X, X = (lo <<< s) % 2 ^ 64 := ⟨_, rfl⟩
    rw [← hu] at v6 ut
    rw [← hz] at v7 ut
    obtain ⟨ue, u1, z1⟩ := ut
    clear hX1 hX2 hu hz
    generalize hUP : (hi * 18446744073709551616 + lo) * P = UP at *
    have huY : u < Y := by omega
    obtain ⟨t1, ht1⟩ : ∃ X, X = z / 4294967296 := ⟨_, rfl⟩
    obtain ⟨t0, ht0⟩ : ∃ X, X = z % 4294967296 := ⟨_, rfl⟩
    have v8 : (z : Int) / 4294967296 = t1 := by omega
    have v9 := maskN z (by omega)
    rw [← ht0] at v9
    have hab : Y = a * 4294967296 + b := by omega
    obtain ⟨g, hg⟩ : ∃ X, X = u / a := ⟨_, rfl⟩
    have hg2 : g * a + u % a = u := by rw [hg]; exact Nat.div_add_mod' u a
    have hg3 : u % a < a := Nat.mod_lt _ a0
    obtain ⟨r0, hr0⟩ : ∃ X, X = u % a := ⟨_, rfl⟩
    rw [← hr0] at hg2 hg3
    have v10 : (u : Int).tdiv a = g := by rw [hg]; rfl
    have hgu : g ≤ u := by rw [hg]; exact Nat.div_le_self _ _
    have v11 := wrapU g (by omega)
    obtain ⟨m, hm⟩ : ∃ X, X = g * a := ⟨_, rfl⟩
    have v12 : IntKind.u64.wrap ((g : Int) * a) = m := by rw [mulN, ← hm]; exact wrapU m (by omega)
    have v13 : IntKind.u64.wrap ((u : Int) - m) = r0 := by rw [show (u : Int) - m = r0 by omega]; exact wrapU r0 (by omega)
    have hT1 := Nat.div_add_mod' (u * 4294967296 + t1) Y
    have hT2 := Nat.mod_lt (u * 4294967296 + t1) (show 0 < Y by omega)
    obtain ⟨T1, eT1⟩ : ∃ X, X = (u * 4294967296 + t1) / Y := ⟨_, rfl⟩
    obtain ⟨R1, eR1⟩ : ∃ X, X = (u * 4294967296 + t1) % Y := ⟨_, rfl⟩
    rw [← eT1, ← eR1] at hT1
    rw [← eR1] at hT2
    have HY : Hid (Y = y * P ∧ P = 2 ^ s ∧ Y < 2 ^ 64 ∧ 2 ^ 63 ≤ Y ∧ Y = a * 4294967296 + b ∧ 0 < P) := ⟨hY, hP, y1, y2, hab, p0⟩
    have HU : Hid ((hi * 18446744073709551616 + lo) * P = u * 18446744073709551616 + z ∧ z = t1 * 4294967296 + t0 ∧ u < Y) := ⟨by omega, by omega, huY⟩
    have HT : Hid (T1 * Y + R1 = u * 4294967296 + t1 ∧ R1 < Y) := ⟨hT1, hT2⟩
    have HV : Hid (T1 * Y ≤ u * 4294967296 + t1 ∧ u * 4294967296 + t1 < T1 * Y + Y ∧ u < Y) := ⟨by omega, by omega, huY⟩
    have u64 : u ≤ 18446744073709551615 := u1
    have HG : Hid (g = u / a ∧ g * a + r0 = u ∧ r0 < a) := ⟨hg, by omega, hg3⟩
    have t1b : t1 < 4294967296 := by omega
    have t0b : t0 < 4294967296 := by omega
    clear hY hP y1 y2 ha hb ue u1 z1 huY ht1 ht0 hab hg hg2 hg3 hr0 hgu hm hT1 hT2 eT1 eR1 p0 hUP hU
    go_enter Try.func70, Try.ntmps70
    go_upto_block 0 with (go_at_call 87; refine (k1 _).mono ?_; rintro e w' ⟨rfl, hw⟩; rw [hw]; clear hw w')
    go_cut [15, 16] from 67 (fun s15 s16 wx => s15 = .int .u64 T1 ∧ (∃ r : Nat, s16 = .int .u64 r) ∧ wx = w)
    case first =>
      go_wp2_with fail
      go_loopw [15, 16] (fun s15 s16 wr => ∃ q r : Nat, s15 = .int .u64 q ∧ s16 = .int .u64 r ∧ wr = w ∧ Hid (T1 ≤ q ∧ q * a + r = u ∧ r < 4294967296)) (fun q _ _ => (intOf q).toNat)
      case atStart =>
        exact ⟨g, r0, rfl, rfl, rfl, (by
          obtain ⟨y1, y2, y3, y4, y5, y6⟩ := HY.out
          obtain ⟨g1, g2, g3⟩ := HG.out
          obtain ⟨c1, c2⟩ := HT.out
          refine ⟨?_, g2, by omega⟩
          rw [g1]
          exact kn_up a0 t1b (by rw [← y5]; omega))⟩
      case round =>
        obtain ⟨q, r, rfl, rfl, rfl, hr⟩ := hrel
        have q64 : q < 18446744073709551616 := by
          obtain ⟨e1, e2, e3⟩ := hr.out
          have := u64
          have := Nat.mul_le_mul (Nat.le_refl q) (show 1 ≤ a by omega)
          omega
        have r64 : r < 4294967296 := hr.out.2.2
        have w1 : 1 ≤ q → IntKind.u64.wrap ((q : Int) - 1) = ((q - 1 : Nat) : Int) := fun h => by rw [show (q : Int) - 1 = ((q - 1 : Nat) : Int) by omega]; exact wrapU _ (by omega)
        have w2 : IntKind.u64.wrap ((r : Int) + a) = ((r + a : Nat) : Int) := by rw [addN]; exact wrapU _ (by omega)
        obtain ⟨q', hq'⟩ : ∃ x, x = q - 1 := ⟨_, rfl⟩
        obtain ⟨r', hr'⟩ : ∃ x, x = r + a := ⟨_, rfl⟩
        rw [← hq'] at w1
        rw [← hr'] at w2
        have HE : Hid (q' = q - 1 ∧ r' = r + a) := ⟨hq', hr'⟩
        -- what holds behind one step down
        have down : Hid ((4294967296 ≤ q ∨ r * 4294967296 + t1 < q * b) → 1 ≤ q ∧ T1 ≤ q' ∧ q' * a + r' = u) := fun h => by
          obtain ⟨e1, e2, e3⟩ := hr.out
          obtain ⟨y1, y2, y3, y4, y5, y6⟩ := HY.out
          obtain ⟨k1, k2, k3⟩ := HV.out
          have g := kn_more (T := T1) e2 (by rw [← y5]; exact k3) t1b (by rw [← y5]; omega) h
          obtain ⟨i, rfl⟩ : ∃ i, q = i + 1 := ⟨q - 1, by omega⟩
          have e4 : q' = i := by omega
          subst e4
          refine ⟨by omega, by omega, ?_⟩
          rw [← e2, Nat.add_mul, Nat.one_mul]; omega
        have stop : Hid (∀ q r : Nat, T1 ≤ q → q * a + r = u → q * b ≤ r * 4294967296 + t1 → q = T1) := fun q r e1 e2 e3 => by
          obtain ⟨y1, y2, y3, y4, y5, y6⟩ := HY.out
          obtain ⟨k1, k2, k3⟩ := HV.out
          exact kn_stop e2 e3 (by rw [← y5, Nat.add_mul, Nat.one_mul]; omega) e1
        have last : Hid (4294967296 ≤ r' → T1 ≤ q' → q' * a + r' = u → q' = T1) := fun h1 h2 h3 => by
          obtain ⟨y1, y2, y3, y4, y5, y6⟩ := HY.out
          obtain ⟨k1, k2, k3⟩ := HV.out
          exact stop.out q' r' h2 h3 (kn_break h3 (by rw [← y5]; exact k3) b1 h1)
        clear hq' hr'
        by_cases c1 : 4294967296 ≤ q
        · have o1 : decide ((4294967296 : Int) ≤ (q : Int)) = true := decide_eq_true (by omega)
          obtain ⟨d1, d2, d3⟩ := down.out (.inl c1)
          have w1 := w1 d1
          have HD : Hid (T1 ≤ q' ∧ q' * a + r' = u) := ⟨d2, d3⟩
          clear d2 d3
          by_cases c3 : 4294967296 ≤ r'
          · have o3 : decide ((4294967296 : Int) ≤ (r' : Int)) = true := decide_eq_true (by omega)
            have fin : q' = T1 := last.out c3 HD.out.1 HD.out.2
            subst fin
            go_wp2
            go_meet
            case rel => exact ⟨rfl, ⟨_, rfl⟩, rfl⟩
          · have o3 : decide ((4294967296 : Int) ≤ (r' : Int)) = false := decide_eq_false (by omega)
            go_wp2
            go_roundw
            case measure => simp [intOf]; have := HE.out; omega
            case rel => exact ⟨q', r', rfl, rfl, (by first | rfl | trivial), ⟨HD.out.1, HD.out.2, by omega⟩⟩
        · have o1 : decide ((4294967296 : Int) ≤ (q : Int)) = false := decide_eq_false (by omega)
          have m0 : q * b < 18446744073709551616 := by
            have := Nat.mul_le_mul (show q ≤ 4294967295 by omega) (show b ≤ 4294967295 by omega); omega
          have n1 : IntKind.u64.wrap ((q : Int) * b) = ((q * b : Nat) : Int) := by rw [mulN]; exact wrapU _ m0
          obtain ⟨n, hn⟩ : ∃ x, x = q * b := ⟨_, rfl⟩
          rw [← hn] at n1
          obtain ⟨k, hk⟩ : ∃ x, x = r * 4294967296 := ⟨_, rfl⟩
          have n2 : IntKind.u64.wrap (4294967296 * (r : Int)) = (k : Int) := by rw [show 4294967296 * (r : Int) = (k : Int) by omega]; exact wrapU _ (by omega)
          have n3 : IntKind.u64.wrap ((k : Int) + t1) = ((k + t1 : Nat) : Int) := by rw [addN]; exact wrapU _ (by omega)
          obtain ⟨v, hv⟩ : ∃ x, x = k + t1 := ⟨_, rfl⟩
          rw [← hv] at n3
          have HN : Hid (n = q * b ∧ v = r * 4294967296 + t1) := ⟨hn, by omega⟩
          clear hn hk hv m0
          by_cases c2 : v < n
          · have o2 : decide ((v : Int) < (n : Int)) = true := decide_eq_true (by omega)
            obtain ⟨d1, d2, d3⟩ := down.out (.inr (by have := HN.out; omega))
            have w1 := w1 d1
            have HD : Hid (T1 ≤ q' ∧ q' * a + r' = u) := ⟨d2, d3⟩
            clear d2 d3
            by_cases c3 : 4294967296 ≤ r'
            · have o3 : decide ((4294967296 : Int) ≤ (r' : Int)) = true := decide_eq_true (by omega)
              have fin : q' = T1 := last.out c3 HD.out.1 HD.out.2
              subst fin
              go_wp2
              go_meet
              case rel => exact ⟨rfl, ⟨_, rfl⟩, rfl⟩
            · have o3 : decide ((4294967296 : Int) ≤ (r' : Int)) = false := decide_eq_false (by omega)
              go_wp2
              go_roundw
              case measure => simp [intOf]; have := HE.out; omega
              case rel => exact ⟨q', r', rfl, rfl, (by first | rfl | trivial), ⟨HD.out.1, HD.out.2, by omega⟩⟩
          · have o2 : decide ((v : Int) < (n : Int)) = false := decide_eq_false (by omega)
            have fin : q = T1 := stop.out q r hr.out.1 hr.out.2.1 (by have := HN.out; omega)
            subst fin
            go_wp2
            go_meet
            case rel => exact ⟨rfl, ⟨_, rfl⟩, rfl⟩
    case rest =>
      obtain ⟨rfl, ⟨r, rfl⟩, hwc⟩ := hcut; rw [hwc]; clear hwc wc
      have hT0 := Nat.div_add_mod' (R1 * 4294967296 + t0) Y
      have hY0 : 0 < Y := by obtain ⟨y1, y2, y3, y4, y5, y6⟩ := HY.out; omega
      have hT3 := Nat.mod_lt (R1 * 4294967296 + t0) hY0
      obtain ⟨T0, eT0⟩ : ∃ X, X = (R1 * 4294967296 + t0) / Y := ⟨_, rfl⟩
      obtain ⟨R0, eR0⟩ : ∃ X, X = (R1 * 4294967296 + t0) % Y := ⟨_, rfl⟩
      rw [← eT0, ← eR0] at hT0
      rw [← eR0] at hT3
      obtain ⟨ht1, ht2⟩ := HT.out
      obtain ⟨y1, y2, y3, y4, y5, y6⟩ := HY.out
      obtain ⟨c1, c2, c3⟩ := HU.out
      have lt32 : ∀ T u t R : Nat, T * Y + R = u * 4294967296 + t → u < Y → t < 4294967296 → T < 4294967296 := fun T u t R h1 h2 h3 => by
        by_cases h : T < 4294967296
        · exact h
        · have := Nat.mul_le_mul (Nat.le_of_not_lt h) (Nat.le_refl Y)
          omega
      have hT1b := lt32 T1 u t1 R1 ht1 c3 t1b
      have hT0b := lt32 T0 R1 t0 R0 hT0 ht2 t0b
      clear lt32
      -- what the code reckons
      obtain ⟨A1, eA1⟩ : ∃ X, X = u * 4294967296 % 18446744073709551616 := ⟨_, rfl⟩
      have x1 : IntKind.u64.wrap ((u : Int) * 4294967296) = A1 := by rw [IntKind.wrap_u64]; omega
      obtain ⟨A2, eA2⟩ : ∃ X, X = (A1 + t1) % 18446744073709551616 := ⟨_, rfl⟩
      have x2 : IntKind.u64.wrap ((A1 : Int) + t1) = A2 := by rw [IntKind.wrap_u64]; omega
      obtain ⟨A3, eA3⟩ : ∃ X, X = T1 * Y % 18446744073709551616 := ⟨_, rfl⟩
      have x3 : IntKind.u64.wrap ((T1 : Int) * Y) = A3 := by rw [mulN, wrapM, ← eA3]
      have x4 : IntKind.u64.wrap ((A2 : Int) - A3) = R1 := by
        generalize T1 * Y = Z at *
        rw [IntKind.wrap_u64]; omega
      obtain ⟨g0, hg⟩ : ∃ X, X = R1 / a := ⟨_, rfl⟩
      have hg2 : g0 * a + R1 % a = R1 := by rw [hg]; exact Nat.div_add_mod' R1 a
      have hg3 : R1 % a < a := Nat.mod_lt _ a0
      obtain ⟨r1, hr1⟩ : ∃ X, X = R1 % a := ⟨_, rfl⟩
      rw [← hr1] at hg2 hg3
      have x5 : (R1 : Int).tdiv a = g0 := by rw [hg]; rfl
      have hgu : g0 ≤ R1 := by rw [hg]; exact Nat.div_le_self _ _
      have x6 := wrapU g0 (by omega)
      obtain ⟨m0, hm⟩ : ∃ X, X = g0 * a := ⟨_, rfl⟩
      have x7 : IntKind.u64.wrap ((g0 : Int) * a) = m0 := by rw [mulN, ← hm]; exact wrapU m0 (by omega)
      have x8 : IntKind.u64.wrap ((R1 : Int) - m0) = r1 := by rw [show (R1 : Int) - m0 = r1 by omega]; exact wrapU r1 (by omega)
      obtain ⟨B1, eB1⟩ : ∃ X, X = T1 * 4294967296 := ⟨_, rfl⟩
      have x9 : IntKind.u64.wrap ((T1 : Int) * 4294967296) = B1 := by rw [IntKind.wrap_u64]; omega
      obtain ⟨qq, eqq⟩ : ∃ X, X = B1 + T0 := ⟨_, rfl⟩
      have x10 : IntKind.u64.wrap ((B1 : Int) + T0) = qq := by rw [IntKind.wrap_u64]; omega
      obtain ⟨C1, eC1⟩ : ∃ X, X = R1 * 4294967296 % 18446744073709551616 := ⟨_, rfl⟩
      have x11 : IntKind.u64.wrap ((R1 : Int) * 4294967296) = C1 := by rw [IntKind.wrap_u64]; omega
      obtain ⟨C2, eC2⟩ : ∃ X, X = (C1 + t0) % 18446744073709551616 := ⟨_, rfl⟩
      have x12 : IntKind.u64.wrap ((C1 : Int) + t0) = C2 := by rw [IntKind.wrap_u64]; omega
      obtain ⟨C3, eC3⟩ : ∃ X, X = T0 * Y % 18446744073709551616 := ⟨_, rfl⟩
      have x13 : IntKind.u64.wrap ((T0 : Int) * Y) = C3 := by rw [mulN, wrapM, ← eC3]
      have x14 : IntKind.u64.wrap ((C2 : Int) - C3) = R0 := by
        generalize T0 * Y = Z at *
        rw [IntKind.wrap_u64]; omega
      obtain ⟨rr, err⟩ : ∃ X, X = R0 / P := ⟨_, rfl⟩
      have x15 : (R0 : Int) / 2 ^ s = rr := by rw [err, y2]; simp
      have HW : Hid (T0 * Y ≤ R1 * 4294967296 + t0 ∧ R1 * 4294967296 + t0 < T0 * Y + Y ∧ R1 < Y) := ⟨by omega, by omega, ht2⟩
      have R164 : R1 ≤ 18446744073709551615 := by omega
      have HG0 : Hid (g0 = R1 / a ∧ g0 * a + r1 = R1 ∧ r1 < a) := ⟨hg, by omega, hg3⟩
      have HF : Hid (qq = (hi * 18446744073709551616 + lo) / y ∧ rr = (hi * 18446744073709551616 + lo) % y) := by
        have e0 : (hi * 18446744073709551616 + lo) * P = qq * Y + R0 := by
          rw [c1, eqq, eB1, Nat.add_mul, Nat.mul_right_comm]
          generalize T1 * Y = Z1 at *
          generalize T0 * Y = Z0 at *
          omega
        constructor
        · rw [← Nat.mul_div_mul_right _ y y6, e0, ← y1, Nat.add_comm, Nat.add_mul_div_right _ _ hY0, Nat.div_eq_of_lt hT3, Nat.zero_add]
        · have e2 := Nat.mul_mod_mul_right P (hi * 18446744073709551616 + lo) y
          rw [e0, ← y1, Nat.add_comm, Nat.add_mul_mod_self_right, Nat.mod_eq_of_lt hT3] at e2
          rw [err, e2, Nat.mul_div_cancel _ y6]
      clear hT0 hT3 eT0 eR0 ht1 ht2 y1 y2 y3 y4 y5 y6 c1 c2 c3 hT1b hT0b eA1 eA2 eA3 hg hg2 hg3 hr1 hgu hm eB1 eqq eC1 eC2 eC3 err hY0
      clear v1 v2 v3 v4 v5 v6 v7 v8 v9 v10 v11 v12 v13
      go_upto_block 2 with fail
      go_cut [18, 16] from 102 (fun s15 s16 wx => s15 = .int .u64 T0 ∧ (∃ r : Nat, s16 = .int .u64 r) ∧ wx = w)
      case first =>
        go_wp2_with fail
        go_loopw [18, 16] (fun s15 s16 wr => ∃ q r : Nat, s15 = .int .u64 q ∧ s16 = .int .u64 r ∧ wr = w ∧ Hid (T0 ≤ q ∧ q * a + r = R1 ∧ r < 4294967296)) (fun q _ _ => (intOf q).toNat)
        case atStart =>
          exact ⟨g0, r1, rfl, rfl, rfl, (by
            obtain ⟨y1, y2, y3, y4, y5, y6⟩ := HY.out
            obtain ⟨g1, g2, g3⟩ := HG0.out
            obtain ⟨c1, c2, c3⟩ := HW.out
            refine ⟨?_, g2, by omega⟩
            rw [g1]
            exact kn_up a0 t0b (by rw [← y5]; omega))⟩
        case round =>
          obtain ⟨q, r, rfl, rfl, rfl, hr⟩ := hrel
          have q64 : q < 18446744073709551616 := by
            obtain ⟨e1, e2, e3⟩ := hr.out
            have := R164
            have := Nat.mul_le_mul (Nat.le_refl q) (show 1 ≤ a by omega)
            omega
          have r64 : r < 4294967296 := hr.out.2.2
          have w1 : 1 ≤ q → IntKind.u64.wrap ((q : Int) - 1) = ((q - 1 : Nat) : Int) := fun h => by rw [show (q : Int) - 1 = ((q - 1 : Nat) : Int) by omega]; exact wrapU _ (by omega)
          have w2 : IntKind.u64.wrap ((r : Int) + a) = ((r + a : Nat) : Int) := by rw [addN]; exact wrapU _ (by omega)
          obtain ⟨q', hq'⟩ : ∃ x, x = q - 1 := ⟨_, rfl⟩
          obtain ⟨r', hr'⟩ : ∃ x, x = r + a := ⟨_, rfl⟩
          rw [← hq'] at w1
          rw [← hr'] at w2
          have HE : Hid (q' = q - 1 ∧ r' = r + a) := ⟨hq', hr'⟩
          -- what holds behind one step down
          have down : Hid ((4294967296 ≤ q ∨ r * 4294967296 + t0 < q * b) → 1 ≤ q ∧ T0 ≤ q' ∧ q' * a + r' = R1) := fun h => by
            obtain ⟨e1, e2, e3⟩ := hr.out
            obtain ⟨y1, y2, y3, y4, y5, y6⟩ := HY.out
            obtain ⟨k1, k2, k3⟩ := HW.out
            have g := kn_more (T := T0) e2 (by rw [← y5]; exact k3) t0b (by rw [← y5]; omega) h
            obtain ⟨i, rfl⟩ : ∃ i, q = i + 1 := ⟨q - 1, by omega⟩
            have e4 : q' = i := by omega
            subst e4
            refine ⟨by omega, by omega, ?_⟩
            rw [← e2, Nat.add_mul, Nat.one_mul]; omega
          have stop : Hid (∀ q r : Nat, T0 ≤ q → q * a + r = R1 → q * b ≤ r * 4294967296 + t0 → q = T0) := fun q r e1 e2 e3 => by
            obtain ⟨y1, y2, y3, y4, y5, y6⟩ := HY.out
            obtain ⟨k1, k2, k3⟩ := HW.out
            exact kn_stop e2 e3 (by rw [← y5, Nat.add_mul, Nat.one_mul]; omega) e1
          have last : Hid (4294967296 ≤ r' → T0 ≤ q' → q' * a + r' = R1 → q' = T0) := fun h1 h2 h3 => by
            obtain ⟨y1, y2, y3, y4, y5, y6⟩ := HY.out
            obtain ⟨k1, k2, k3⟩ := HW.out
            exact stop.out q' r' h2 h3 (kn_break h3 (by rw [← y5]; exact k3) b1 h1)
          clear hq' hr'
          by_cases c1 : 4294967296 ≤ q
          · have o1 : decide ((4294967296 : Int) ≤ (q : Int)) = true := decide_eq_true (by omega)
            obtain ⟨d1, d2, d3⟩ := down.out (.inl c1)
            have w1 := w1 d1
            have HD : Hid (T0 ≤ q' ∧ q' * a + r' = R1) := ⟨d2, d3⟩
            clear d2 d3
            by_cases c3 : 4294967296 ≤ r'
            · have o3 : decide ((4294967296 : Int) ≤ (r' : Int)) = true := decide_eq_true (by omega)
              have fin : q' = T0 := last.out c3 HD.out.1 HD.out.2
              subst fin
              go_wp2
              go_meet
              case rel => exact ⟨rfl, ⟨_, rfl⟩, rfl⟩
            · have o3 : decide ((4294967296 : Int) ≤ (r' : Int)) = false := decide_eq_false (by omega)
              go_wp2
              go_roundw
              case measure => simp [intOf]; have := HE.out; omega
              case rel => exact ⟨q', r', rfl, rfl, (by first | rfl | trivial), ⟨HD.out.1, HD.out.2, by omega⟩⟩
          · have o1 : decide ((4294967296 : Int) ≤ (q : Int)) = false := decide_eq_false (by omega)
            have m0 : q * b < 18446744073709551616 := by
              have := Nat.mul_le_mul (show q ≤ 4294967295 by omega) (show b ≤ 4294967295 by omega); omega
            have n1 : IntKind.u64.wrap ((q : Int) * b) = ((q * b : Nat) : Int) := by rw [mulN]; exact wrapU _ m0
            obtain ⟨n, hn⟩ : ∃ x, x = q * b := ⟨_, rfl⟩
            rw [← hn] at n1
            obtain ⟨k, hk⟩ : ∃ x, x = r * 4294967296 := ⟨_, rfl⟩
            have n2 : IntKind.u64.wrap (4294967296 * (r : Int)) = (k : Int) := by rw [show 4294967296 * (r : Int) = (k : Int) by omega]; exact wrapU _ (by omega)
            have n3 : IntKind.u64.wrap ((k : Int) + t0) = ((k + t0 : Nat) : Int) := by rw [addN]; exact wrapU _ (by omega)
            obtain ⟨v, hv⟩ : ∃ x, x = k + t0 := ⟨_, rfl⟩
            rw [← hv] at n3
            have HN : Hid (n = q * b ∧ v = r * 4294967296 + t0) := ⟨hn, by omega⟩
            clear hn hk hv m0
            by_cases c2 : v < n
            · have o2 : decide ((v : Int) < (n : Int)) = true := decide_eq_true (by omega)
              obtain ⟨d1, d2, d3⟩ := down.out (.inr (by have := HN.out; omega))
              have w1 := w1 d1
              have HD : Hid (T0 ≤ q' ∧ q' * a + r' = R1) := ⟨d2, d3⟩
              clear d2 d3
              by_cases c3 : 4294967296 ≤ r'
              · have o3 : decide ((4294967296 : Int) ≤ (r' : Int)) = true := decide_eq_true (by omega)
                have fin : q' = T0 := last.out c3 HD.out.1 HD.out.2
                subst fin
                go_wp2
                go_meet
                case rel => exact ⟨rfl, ⟨_, rfl⟩, rfl⟩
              · have o3 : decide ((4294967296 : Int) ≤ (r' : Int)) = false := decide_eq_false (by omega)
                go_wp2
                go_roundw
                case measure => simp [intOf]; have := HE.out; omega
                case rel => exact ⟨q', r', rfl, rfl, (by first | rfl | trivial), ⟨HD.out.1, HD.out.2, by omega⟩⟩
            · have o2 : decide ((v : Int) < (n : Int)) = false := decide_eq_false (by omega)
              have fin : q = T0 := stop.out q r hr.out.1 hr.out.2.1 (by have := HN.out; omega)
              subst fin
              go_wp2
              go_meet
              case rel => exact ⟨rfl, ⟨_, rfl⟩, rfl⟩
      case rest =>
        obtain ⟨rfl, ⟨r, rfl⟩, hwc⟩ := hcut; rw [hwc]; clear hwc wc
        go_wp2
        exact hQ.out _ _ ⟨⟨qq, rr, rfl, HF.out.1, HF.out.2⟩, 0, rfl⟩
end Go.Proofs.Ytkojldnafffghaa

namespace Go.Proofs.Ytkojldnafffghaa
set_option maxRecDepth 100000
open Go.ChangeShapes Go.WideShapes Go.ChangeAt Go.RowKit
set_option linter.unusedVariables false

theorem div64_q {a hi lo y q r : Nat} (ha : a = hi * 18446744073709551616 + lo) (hh : hi < y) (hl : lo ≤ 18446744073709551615) (hy : y ≤ 18446744073709551615) (hq : q = a / y) (hr : r = a % y) (w : World) :
    Calls Try.prog 70 #[.int .u64 hi, .int .u64 lo, .int .u64 y] w fun e w' => e = .returned (.tuple #[.int .u64 q, .int .u64 r]) ∧ ∃ n, w' = w.drewN n := by
  refine (div64_any hi lo y hh hl hy w).mono ?_
  rintro e w' ⟨⟨q', r', rfl, h1, h2⟩, hw⟩
  refine ⟨?_, hw⟩
  rw [h1, h2, hq, hr, ha]
theorem pdiv_zero (h1 l1 : Nat) (w : World) :
    Calls Try.prog 44 #[.agg #[.int .u64 h1, .int .u64 l1], .int .u64 0] w fun e w' => e = .returned (.tuple #[.int .u64 0, .int .u64 0, .iface 43 (.int .i64 4)]) ∧ Below w.heap.size w w' := by
  refine cps fun Q hQ => ?_
  go_enter Try.func44, Try.ntmps44
  go_wp2
  go_ret3
  exact hQ.out _ _ ⟨rfl, bmore (Below.refl _ _) _⟩
theorem pdiv_big (h1 l1 d : Nat) (hd : 0 < d) (hb : d ≤ h1) (w : World) :
    Calls Try.prog 44 #[.agg #[.int .u64 h1, .int .u64 l1], .int .u64 d] w fun e w' => e = .returned (.tuple #[.int .u64 0, .int .u64 0, .iface 43 (.int .i64 5)]) ∧ Below w.heap.size w w' := by
  refine cps fun Q hQ => ?_
  go_enter Try.func44, Try.ntmps44
  go_wp2
  go_ret3
  exact hQ.out _ _ ⟨rfl, bmore (Below.refl _ _) _⟩
theorem pdiv_any {a h1 l1 d q r : Nat} (ha : Tw a h1 l1) (hd : d ≤ 18446744073709551615) (hb : h1 < d) (hq : q = a / d) (hr : r = a % d) (w : World) :
    Calls Try.prog 44 #[.agg #[.int .u64 h1, .int .u64 l1], .int .u64 d] w fun e w' => e = .returned (.tuple #[.int .u64 q, .int .u64 r, .nilIface]) ∧ Below w.heap.size w w' := by
  refine cps fun Q hQ => ?_
  have k1 := fun w => div64_q ha.eq hb ha.lo hd hq hr w
  clear ha hq hr
  go_enter Try.func44, Try.ntmps44
  go_wp2_with (go_at_call 70; refine (k1 _).mono ?_; rintro e w' ⟨rfl, n, rfl⟩)
  go_ret3
  exact hQ.out _ _ ⟨rfl, bdrewN (bmore (Below.refl _ _) _) _⟩
/-- the guess that leaves room for one more -/
theorem pguess_math {a d j T v q : Nat} (ha : a < 340282366920938463463374607431768211456) (hT : T = 2 ^ (j + 1)) (hv : v = d / T) (hv2 : 9223372036854775808 ≤ v)
    (hq : q = a / 2 / v / 2 ^ j) : (q - min q 1) * d ≤ a ∧ a < (q - min q 1 + 2) * d := by
  have hT2 : T = 2 ∨ 4 ≤ T := by
    rcases Nat.eq_zero_or_pos j with h | h
    · left; rw [hT, h]
    · right; rw [hT]; exact Nat.le_trans (show 4 ≤ 2 ^ 2 by decide) (Nat.pow_le_pow_right (by decide) (by omega))
  have hT0 : 0 < T := by omega
  have hD : v * T ≤ d := by rw [hv]; exact Nat.div_mul_le_self d T
  have hD2 : d < v * T + T := by
    have := Nat.mod_lt d hT0
    have h2 := Nat.div_add_mod' d T
    rw [← hv] at h2
    omega
  have hD3 : 9223372036854775808 * T ≤ v * T := Nat.mul_le_mul_right T hv2
  have hq2 : q = a / (v * T) := by
    rw [hq, Nat.div_div_eq_div_mul, Nat.div_div_eq_div_mul]
    congr 1
    rw [hT, Nat.pow_succ, Nat.mul_left_comm, Nat.mul_comm 2]
  obtain ⟨D, eD⟩ : ∃ D, D = v * T := ⟨_, rfl⟩
  rw [← eD] at hD hD2 hD3 hq2
  have hD0 : 0 < D := by omega
  have q1 : q * D ≤ a := by rw [hq2]; exact Nat.div_mul_le_self a D
  have q2 : a < (q + 1) * D := by
    have := Nat.lt_div_mul_add (a := a) hD0
    rw [← hq2] at this
    rw [Nat.add_mul, Nat.one_mul]
    exact this
  clear hq hq2 hv eD hT
  by_cases h0 : q = 0
  · subst h0
    simp only [Nat.zero_min, Nat.sub_self, Nat.zero_mul, Nat.zero_add]
    refine ⟨Nat.zero_le _, ?_⟩
    omega
  · obtain ⟨i, rfl⟩ : ∃ i, q = i + 1 := ⟨q - 1, by omega⟩
    rw [show min (i + 1) 1 = 1 by omega, Nat.add_sub_cancel]
    constructor
    · have h1 : (i + 1) * (9223372036854775808 * T) ≤ (i + 1) * D := Nat.mul_le_mul_left _ hD3
      have h2 : i * d ≤ i * (D + (T - 1)) := Nat.mul_le_mul_left _ (by omega)
      have h3 : i * (T - 1) ≤ D := by
        rcases hT2 with h | h
        · subst h; omega
        · have h4 : i * (T - 1) ≤ (i + 1) * T := Nat.mul_le_mul (by omega) (by omega)
          have h5 : (i + 1) * (9223372036854775808 * T) = 9223372036854775808 * ((i + 1) * T) := Nat.mul_left_comm _ _ _
          rw [h5] at h1
          generalize (i + 1) * T = X at *
          omega
      rw [Nat.mul_add] at h2
      rw [Nat.add_mul, Nat.one_mul] at q1
      generalize i * D = Y at *
      omega
    · have h1 : (i + 1 + 1) * D ≤ (i + 2) * d := Nat.mul_le_mul (by omega) hD
      omega
end Go.Proofs.Ytkojldnafffghaa
