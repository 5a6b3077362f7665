import Derived.Test.YtheliihkkoohnabJoin2
namespace Go.Proofs.Ytheliihkkoohnab
set_option linter.unusedVariables false
set_option linter.unusedSimpArgs false
set_option maxRecDepth 100000

/-! ### the root of a square, as patterns (plain mathematics) -/
end Go.Proofs.Ytheliihkkoohnab

namespace Go.Proofs.Ytheliihkkoohnab
set_option linter.unusedVariables false
set_option linter.unusedSimpArgs false
set_option maxRecDepth 100000

/-! ### sums of products, exactly (plain mathematics) -/
/-- what is told of a number T times 2^e of at most 128 digits -/
def Prt (e T k : Int) (neg : Bool) (s : Int) (hi lo : Nat) : Prop :=
  (k = 0 ∧ neg = false ∧ s = 0 ∧ hi = 0 ∧ lo = 0 ∧ T = 0) ∨
  (k = 1 ∧ WordsX hi lo ∧ (-1099511627776 ≤ s ∧ s ≤ 1099511627776) ∧ ∃ j : Nat, e + 127 + j = s ∧ T = sg neg (manX hi lo) * ((2 ^ j : Nat) : Int))
theorem Prt.exv {e T k : Int} {neg : Bool} {s : Int} {hi lo : Nat} (h : Prt e T k neg s hi lo) : exV k neg s hi lo false = exI T e := by
  rcases h with ⟨rfl, rfl, rfl, rfl, rfl, rfl⟩ | ⟨rfl, wd, hs, j, hj, rfl⟩
  · exact (exactV_zero _ _ _).symm
  · have := exI_real neg s hi lo wd hs (e + 127) j hj
    rw [show e + 127 - 127 = e by omega] at this
    exact this.symm
theorem Prt.kind {e T k : Int} {neg : Bool} {s : Int} {hi lo : Nat} (h : Prt e T k neg s hi lo) : k = 0 ∨ k = 1 := by
  rcases h with ⟨h, _⟩ | ⟨h, _⟩
  · exact .inl h
  · exact .inr h
theorem Prt.words {e T k : Int} {neg : Bool} {s : Int} {hi lo : Nat} (h : Prt e T k neg s hi lo) : hi < 2 ^ 64 ∧ lo < 2 ^ 64 := by
  rcases h with ⟨rfl, rfl, rfl, rfl, rfl, rfl⟩ | ⟨rfl, wd, _⟩
  · exact ⟨by decide, by decide⟩
  · exact ⟨wd.hi64, wd.lo64⟩
theorem Prt.sound {e T k : Int} {neg : Bool} {s : Int} {hi lo : Nat} (h : Prt e T k neg s hi lo) : soundX k neg s hi lo false = true := by
  rcases h with ⟨rfl, rfl, rfl, rfl, rfl, rfl⟩ | ⟨rfl, wd, hs, _⟩
  · rfl
  · unfold soundX
    rw [if_neg (by decide)]
    exact decide_eq_true ⟨rfl, wd.top, hs.1, hs.2⟩
theorem Prt.sum {e T k : Int} {neg : Bool} {s : Int} {hi lo : Nat} {T' k' : Int} {neg' : Bool} {s' : Int} {hi' lo' : Nat} (h : Prt e T k neg s hi lo) (h' : Prt e T' k' neg' s' hi' lo') :
    sum9 k neg s hi lo k' neg' s' hi' lo' = exI (T + T') e := by
  have q := h.kind
  have q' := h'.kind
  unfold sum9
  rw [if_neg (by omega)]
  rcases h with ⟨rfl, rfl, rfl, rfl, rfl, rfl⟩ | ⟨rfl, wd, hs, j, hj, rfl⟩
  · rw [if_pos rfl, h'.exv, Int.zero_add]
  · rw [if_neg (by decide)]
    rcases h' with ⟨rfl, rfl, rfl, rfl, rfl, rfl⟩ | ⟨rfl, wd', hs', j', hj', rfl⟩
    · rw [if_pos rfl, Int.add_zero]
      exact Prt.exv (.inr ⟨rfl, wd, hs, j, hj, rfl⟩)
    · rw [if_neg (by decide)]
      have := sumR_int neg s (manX hi lo) neg' s' (manX hi' lo') wd.mant wd'.mant (e + 127) j j' hj hj'
      rw [show e + 127 - 127 = e by omega] at this
      exact this
theorem val_prt2 (n a : Nat) (hn : Wd n) (ha : a < 2 ^ 64) (ka : vK n a ≠ 2) : Prt (eN + eN) (valI n a * ((2 ^ 375 : Nat) : Int)) (vK n a) (vB n a) (vS n a) (vF n a) 0 := by
  by_cases h0 : vK n a = 0
  · obtain ⟨a1, a2, a3⟩ := v_other n a (by rw [h0]; decide)
    exact .inl ⟨h0, a1, a2, a3, rfl, by rw [val_zero n a (by rw [h0]; decide), Int.zero_mul]⟩
  · have k1 := real_or n a hn ka h0
    obtain ⟨_, _, _, _, _, _, wd, s1, s2⟩ := v_real n a hn ha k1
    have hw := wd_le hn
    refine .inr ⟨k1, wd, by omega, (vS n a + 623).toNat, by unfold eN; omega, ?_⟩
    unfold valI
    obtain ⟨q, hq⟩ : ∃ q : Nat, q = 375 := ⟨_, rfl⟩
    rw [if_pos k1, Int.mul_assoc, ← hq, ← Int.natCast_mul, ← Nat.pow_add]
    congr 3
    omega
theorem val_mul (n a b : Nat) (hn : Wd n) (ha : a < 2 ^ 64) (hb : b < 2 ^ 64) (ka : vK n a = 1) (kb : vK n b = 1) :
    valI n a * valI n b = sg (xorB (vB n a) (vB n b)) (vF n a * vF n b) * ((2 ^ (vS n a + vS n b + 624).toNat : Nat) : Int) := by
  obtain ⟨_, _, _, _, _, _, _, sa1, sa2⟩ := v_real n a hn ha ka
  obtain ⟨_, _, _, _, _, _, _, sb1, sb2⟩ := v_real n b hn hb kb
  have hw := wd_le hn
  unfold valI
  rw [if_pos ka, if_pos kb, manX_zero, manX_zero, ← sg_mul, ← sg_mul, sg_times, ← sg_mul]
  congr 1
  rw [Nat.mul_assoc (vF n a), ← Nat.pow_add, Nat.mul_assoc (vF n b), ← Nat.pow_add]
  rw [show (vS n a + vS n b + 624).toNat = 64 + (vS n a + 248).toNat + (64 + (vS n b + 248).toNat) by omega, Nat.pow_add 2 (64 + (vS n a + 248).toNat)]
  simp only [Nat.mul_assoc, Nat.mul_left_comm, Nat.mul_comm]
theorem prod_prt (n a b : Nat) (hn : Wd n) (ha : a < 2 ^ 64) (hb : b < 2 ^ 64) (ka : vK n a ≠ 2) (kb : vK n b ≠ 2) :
    ∃ k neg s hi lo, prod10 (vK n a) (vB n a) (vS n a) (vF n a) (vK n b) (vB n b) (vS n b) (vF n b) = exV k neg s hi lo false ∧ Prt (eN + eN) (valI n a * valI n b) k neg s hi lo := by
  unfold prod10
  rw [if_neg (by rintro (c | c); exact ka c; exact kb c)]
  by_cases h0 : vK n a = 0 ∨ vK n b = 0
  · rw [if_pos h0]
    refine ⟨0, false, 0, 0, 0, rfl, .inl ⟨rfl, rfl, rfl, rfl, rfl, ?_⟩⟩
    rcases h0 with c | c
    · rw [val_zero n a (by rw [c]; decide), Int.zero_mul]
    · rw [val_zero n b (by rw [c]; decide), Int.mul_zero]
  · rw [if_neg h0]
    have a1 := real_or n a hn ka (fun c => h0 (.inl c))
    have b1 := real_or n b hn kb (fun c => h0 (.inr c))
    obtain ⟨_, _, _, _, _, _, wa, sa1, sa2⟩ := v_real n a hn ha a1
    obtain ⟨_, _, _, _, _, _, wb, sb1, sb2⟩ := v_real n b hn hb b1
    have hw := wd_le hn
    have hT := val_mul n a b hn ha hb a1 b1
    have hl : 2 ^ 126 ≤ vF n a * vF n b := Nat.le_trans (by decide) (Nat.mul_le_mul wa.top wb.top)
    have hu : vF n a * vF n b < 2 ^ 128 := Nat.lt_of_lt_of_le (Nat.mul_lt_mul_of_lt_of_lt wa.hi64 wb.hi64) (by decide)
    generalize vF n a * vF n b = N at *
    generalize xorB (vB n a) (vB n b) = x at *
    have hN : N ≠ 0 := by
      have : 0 < 2 ^ 126 := by decide
      omega
    have hwd := normN_words hN
    have hman := man_norm hN
    by_cases c : N < 2 ^ 127
    · have hb : blen N = 127 := blen_at (m := 126) hl c
      have hn2 : normN N = N * 2 ^ 1 := by unfold normN; rw [hb, if_pos (by decide)]
      have hlo : lostN N = false := by unfold lostN; rw [hb, decide_eq_false (by decide), Bool.false_and]
      refine ⟨1, x, vS n a + vS n b, normN N / 2 ^ 64 % 2 ^ 64, normN N % 2 ^ 64, ?_, .inr ⟨rfl, hwd, by omega, (vS n a + vS n b + 623).toNat, by unfold eN; omega, ?_⟩⟩
      · unfold exactV
        rw [if_neg hN, hb, hlo, show heldX (vS n a + vS n b - 126 + ((127 : Nat) : Int) - 1) = vS n a + vS n b by unfold heldX; rw [if_neg (by omega), if_neg (by omega)]; omega]
        rfl
      · rw [hman, hT, hn2, sg_mul, Int.mul_assoc, ← Int.natCast_mul, ← Nat.pow_add]
        congr 3
        omega
    · have hb : blen N = 128 := blen_at (m := 127) (by omega) hu
      have hn2 : normN N = N := by unfold normN; rw [hb, if_neg (by decide)]; simp
      have hlo : lostN N = false := by unfold lostN; rw [hb, decide_eq_false (by decide), Bool.false_and]
      refine ⟨1, x, vS n a + vS n b + 1, normN N / 2 ^ 64 % 2 ^ 64, normN N % 2 ^ 64, ?_, .inr ⟨rfl, hwd, by omega, (vS n a + vS n b + 624).toNat, by unfold eN; omega, ?_⟩⟩
      · unfold exactV
        rw [if_neg hN, hb, hlo, show heldX (vS n a + vS n b - 126 + ((128 : Nat) : Int) - 1) = vS n a + vS n b + 1 by unfold heldX; rw [if_neg (by omega), if_neg (by omega)]; omega]
        rfl
      · rw [hman, hT, hn2]
/-! ### the patterns of what is rounded once -/
def patF (n a b c : Nat) : Nat := if vK n a = 2 ∨ vK n b = 2 ∨ vK n c = 2 then 2 ^ (n - 1) else patI n (valI n a * valI n b + valI n c * ((2 ^ 375 : Nat) : Int)) (eN + eN)
end Go.Proofs.Ytheliihkkoohnab

namespace Go.Proofs.Ytheliihkkoohnab
set_option linter.unusedVariables false
set_option linter.unusedSimpArgs false
set_option maxRecDepth 100000

/-! ### where a number lies beside a tie, at every width (plain mathematics) -/
/-! ### a quotient N / D times 2^e, and its first digits -/
/-- Y times 2^(S - 127) is the most that isn't above N / D times 2^e in steps of w; r: there is more -/
def Lies (N D : Nat) (e S : Int) (Y : Nat) (r : Bool) (w : Nat) : Prop :=
  ∀ a b : Nat, (a : Int) - b = e - S + 127 → Y * D * 2 ^ b ≤ N * 2 ^ a ∧ N * 2 ^ a < (Y + w) * D * 2 ^ b ∧ (r = false ↔ N * 2 ^ a = Y * D * 2 ^ b)
theorem mul_stepK {x y K : Nat} (h : x * K < y * K) : x * K + K ≤ y * K := by
  have h1 := Nat.lt_of_mul_lt_mul_right h
  rw [← Nat.succ_mul]
  exact Nat.mul_le_mul_right _ h1
theorem mul_room {x K : Nat} (h : x < K) : x * K + K ≤ K * K := by
  rw [← Nat.succ_mul]
  exact Nat.mul_le_mul_right _ h
theorem twice_le {B x k : Nat} (h : B ≤ 2 * x) : B ≤ x * 2 ^ (1 + k) := by
  have e : x * 2 ^ (1 + k) = 2 * x * 2 ^ k := by rw [Nat.pow_add, Nat.pow_one, ← Nat.mul_assoc, Nat.mul_comm x 2]
  rw [e]
  exact Nat.le_trans h (Nat.le_mul_of_pos_right _ (Nat.pow_pos (by decide)))
theorem quo_core {F g q rr Y P lo2 Z lo1 K A : Nat} (h0 : 0 < g) (hqd : g * q + rr = F) (hrm : rr < g) (hdm : P * Y + lo2 = q) (hm : lo2 < P) (hdm2 : K * Z + lo1 = Y) (hm2 : lo1 < K) (hA : 0 < A) :
    Z * K * P * g * A ≤ F * A ∧ F * A < (Z * K + K) * P * g * A ∧ (((rr = 0 ∧ lo2 = 0) ∧ lo1 = 0) ↔ F * A = Z * K * P * g * A) := by
  have hP : 0 < P := by omega
  rw [Nat.mul_comm K] at hdm2
  rw [Nat.mul_comm P] at hdm
  rw [Nat.mul_comm g] at hqd
  have hY : Z * K ≤ Y := by omega
  have hY2 : Y + 1 ≤ Z * K + K := by omega
  have c1 : Z * K * P ≤ q := Nat.le_trans (Nat.mul_le_mul_right _ hY) (by omega)
  have c2 : q + 1 ≤ (Z * K + K) * P := by
    refine Nat.le_trans ?_ (Nat.mul_le_mul_right _ hY2)
    rw [Nat.succ_mul]; omega
  have c3 : Z * K * P * g ≤ F := Nat.le_trans (Nat.mul_le_mul_right _ c1) (by omega)
  have c4 : F < (Z * K + K) * P * g := by
    refine Nat.lt_of_lt_of_le ?_ (Nat.mul_le_mul_right _ c2)
    rw [Nat.succ_mul]; omega
  refine ⟨Nat.mul_le_mul_right _ c3, Nat.mul_lt_mul_of_pos_right c4 hA, ?_⟩
  have hc : F * A = Z * K * P * g * A ↔ F = Z * K * P * g := ⟨fun h => Nat.eq_of_mul_eq_mul_right hA h, fun h => by rw [h]⟩
  rw [hc]
  constructor
  · rintro ⟨⟨rfl, rfl⟩, rfl⟩
    rw [← hqd, ← hdm, ← hdm2]
    simp only [Nat.add_zero]
  · intro hF
    have f1 : q = Z * K * P := by
      refine Nat.le_antisymm ?_ c1
      refine Nat.le_of_mul_le_mul_right (c := g) ?_ h0
      rw [← hF]; omega
    have f2 : rr = 0 := by rw [hF, f1] at hqd; omega
    have f3 : Y = Z * K := by
      refine Nat.le_antisymm ?_ hY
      refine Nat.le_of_mul_le_mul_right (c := P) ?_ hP
      rw [← f1]; omega
    have f4 : lo2 = 0 := by rw [f1, f3] at hdm; omega
    exact ⟨⟨f2, f4⟩, by omega⟩
/-- a quotient's first 64 digits -/
theorem lies_quo {f g : Nat} (hf : 9223372036854775808 ≤ f) (hg : g < 2 ^ 64) (h0 : 0 < g) (e : Int) (q : Nat) (hq : q = quoN f g) :
    Lies (f * 2 ^ 200) g e (e + blen q - 1) (manX (normN q / 2 ^ 64 % 2 ^ 64) 0) ((quoR f g || lostN q) || decide (normN q % 2 ^ 64 ≠ 0)) (2 ^ 64) := by
  have hq0 : q ≠ 0 := by rw [hq]; exact quo_pos hf hg h0
  have hqd := Nat.div_add_mod (f * 2 ^ 200) g
  have hrm := Nat.mod_lt (f * 2 ^ 200) h0
  rw [show f * 2 ^ 200 / g = q from hq.symm] at hqd
  have hbl : 128 ≤ blen q := by
    have h1 : 2 ^ 199 * g ≤ f * 2 ^ 200 := by
      have : g ≤ 2 * f := by omega
      calc 2 ^ 199 * g ≤ 2 ^ 199 * (2 * f) := Nat.mul_le_mul_left _ this
        _ = f * 2 ^ 200 := by rw [← Nat.mul_assoc, ← Nat.pow_succ, Nat.mul_comm]
    have h2 : 2 ^ 199 ≤ q := by rw [hq]; exact (Nat.le_div_iff_mul_le h0).2 h1
    refine Nat.le_of_not_lt fun c => ?_
    have := Nat.lt_of_lt_of_le (blen_hi q) (Nat.pow_le_pow_right (show 0 < 2 by decide) (show blen q ≤ 127 by omega))
    have h3 : 2 ^ 127 ≤ 2 ^ 199 := Nat.pow_le_pow_right (by decide) (by decide)
    omega
  obtain ⟨d, hd⟩ : ∃ d, d = blen q - 128 := ⟨_, rfl⟩
  have hn : normN q = q / 2 ^ d := by unfold normN; rw [if_neg (by omega), hd]
  have hl : lostN q = decide (q % 2 ^ d ≠ 0) := by
    unfold lostN
    rw [← hd]
    by_cases c : 128 < blen q
    · rw [decide_eq_true c, Bool.true_and]
    · rw [decide_eq_false c, Bool.false_and, show d = 0 by omega, Nat.pow_zero, Nat.mod_one]; rfl
  have hmt := (normN_words hq0).mant
  rw [man_norm hq0] at hmt
  have hhi : normN q / 2 ^ 64 % 2 ^ 64 = normN q / 2 ^ 64 := by
    refine Nat.mod_eq_of_lt (Nat.div_lt_of_lt_mul ?_)
    rw [← Nat.pow_add]
    exact hmt.2
  rw [hhi, manX_zero, hl]
  intro a b hab
  have hbb : b = d + a := by omega
  have hdm := Nat.div_add_mod q (2 ^ d)
  rw [← hn] at hdm
  obtain ⟨g1, g2, g3⟩ := quo_core h0 hqd hrm hdm (Nat.mod_lt q (Nat.pow_pos (by decide))) (Nat.div_add_mod (normN q) (2 ^ 64)) (Nat.mod_lt (normN q) (Nat.pow_pos (by decide))) (show 0 < 2 ^ a from Nat.pow_pos (by decide))
  have e1 : ∀ X : Nat, X * g * 2 ^ b = X * 2 ^ d * g * 2 ^ a := fun X => by rw [hbb, Nat.pow_add]; simp only [Nat.mul_assoc, Nat.mul_left_comm, Nat.mul_comm]
  rw [e1, e1]
  refine ⟨g1, g2, ?_⟩
  rw [← g3]
  unfold quoR
  simp only [Bool.or_eq_false_iff, decide_eq_false_iff_not, Classical.not_not]
end Go.Proofs.Ytheliihkkoohnab

namespace Go.Proofs.Ytheliihkkoohnab
set_option linter.unusedVariables false
set_option linter.unusedSimpArgs false
set_option maxRecDepth 100000

/-! ### what is rounded once rises and falls as it must (plain mathematics) -/
theorem lies_rise {N N' D : Nat} {e e' S S' : Int} {hi lo hi' lo' : Nat} {r r' : Bool} {w : Nat} (hL : Lies N D e S (manX hi lo) r w) (hL' : Lies N' D e' S' (manX hi' lo') r' w)
    (h : WordsX hi lo) (h' : WordsX hi' lo') (hD : 0 < D) (hw : w = 1 ∨ (w = 2 ^ 64 ∧ lo = 0 ∧ lo' = 0)) (hle : ∀ a b : Nat, (a : Int) - b = e - e' → N * 2 ^ a ≤ N' * 2 ^ b) :
    S < S' ∨ (S = S' ∧ 2 * manX hi lo + r.toNat ≤ 2 * manX hi' lo' + r'.toNat) := by
  obtain ⟨m1, m2⟩ := h.mant
  obtain ⟨t1, t2⟩ := h'.mant
  have hstep : manX hi' lo' < manX hi lo → manX hi' lo' + w ≤ manX hi lo := fun c => by
    rcases hw with rfl | ⟨rfl, rfl, rfl⟩
    · exact c
    · rw [manX_zero, manX_zero] at c
      rw [manX_zero, manX_zero]
      exact mul_stepK c
  have hwle : manX hi' lo' + w ≤ 2 ^ 128 := by
    rcases hw with rfl | ⟨rfl, rfl, rfl⟩
    · exact t2
    · rw [manX_zero, show (2 : Nat) ^ 128 = 2 ^ 64 * 2 ^ 64 by rw [← Nat.pow_add]]
      exact mul_room h'.hi64
  have e2 : (2 : Nat) ^ 128 = 2 * 2 ^ 127 := by rw [← Nat.pow_succ']
  have hB : 2 ^ 128 ≤ 2 * manX hi lo := by rw [e2]; exact Nat.mul_le_mul_left _ m1
  generalize manX hi lo = Y at *
  generalize manX hi' lo' = Y' at *
  generalize 2 ^ 128 = B at *
  obtain ⟨b, a, a', hab, ha'b⟩ : ∃ b a a' : Nat, (a : Int) - b = e - S + 127 ∧ (a' : Int) - b = e' - S + 127 :=
    ⟨(-(e - S + 127)).toNat + (-(e' - S + 127)).toNat, ((e - S + 127) + ((-(e - S + 127)).toNat + (-(e' - S + 127)).toNat : Nat)).toNat, ((e' - S + 127) + ((-(e - S + 127)).toNat + (-(e' - S + 127)).toNat : Nat)).toNat, by omega, by omega⟩
  have hx := hle a a' (by omega)
  obtain ⟨l1, l2, l3⟩ := hL a b hab
  have hDb : 0 < D * 2 ^ b := Nat.mul_pos hD (Nat.pow_pos (by decide))
  rcases Int.lt_trichotomy S S' with c | c | c
  · exact .inl c
  · refine .inr ⟨c, ?_⟩
    obtain ⟨k1, k2, k3⟩ := hL' a' b (by omega)
    have hr : ∀ x : Bool, x.toNat ≤ 1 := fun x => by cases x <;> decide
    have hYY : Y ≤ Y' := by
      refine Nat.le_of_not_lt fun g => ?_
      have := hstep g
      have q : (Y' + w) * D * 2 ^ b ≤ Y * D * 2 ^ b := by
        rw [Nat.mul_assoc, Nat.mul_assoc]; exact Nat.mul_le_mul_right _ this
      omega
    by_cases g : Y = Y'
    · subst g
      cases hr' : r'
      · have q := k3.1 hr'
        have : r = false := l3.2 (by omega)
        rw [this]
        exact Nat.le_refl _
      · have := hr r
        simp only [Bool.toNat_true]
        omega
    · have := hr r
      omega
  · exfalso
    obtain ⟨k, hk⟩ : ∃ k : Nat, S = S' + 1 + k := ⟨(S - S' - 1).toNat, by omega⟩
    obtain ⟨bb, aa, aa', q1, q2⟩ : ∃ bb aa aa' : Nat, (aa : Int) - (bb + (1 + k) : Nat) = e - S + 127 ∧ (aa' : Int) - bb = e' - S' + 127 :=
      ⟨b, a + (1 + k), a' + (1 + k), by omega, by omega⟩
    obtain ⟨p1, _, _⟩ := hL aa (bb + (1 + k)) q1
    obtain ⟨_, p2, _⟩ := hL' aa' bb q2
    have hy := hle aa aa' (by omega)
    have e1 : Y * D * 2 ^ (bb + (1 + k)) = Y * 2 ^ (1 + k) * (D * 2 ^ bb) := by rw [Nat.pow_add]; simp only [Nat.mul_assoc, Nat.mul_left_comm, Nat.mul_comm]
    have e3 : (Y' + w) * D * 2 ^ bb ≤ Y * 2 ^ (1 + k) * (D * 2 ^ bb) := by
      rw [Nat.mul_assoc]
      exact Nat.mul_le_mul_right _ (Nat.le_trans hwle (twice_le hB))
    omega
/-! ### quotients -/
def qmag (n a b : Nat) : Nat := mgC n (quoN (vF n a) (vF n b)) (vS n a - vS n b - 200) (quoR (vF n a) (vF n b))
def qkP (n a b : Nat) : Int := if vK n a = 0 then 0 else if vB n a = true then -(qmag n a b : Int) else qmag n a b
theorem qmag_rise (n a d b : Nat) (hn : Wd n) (ha : a < 2 ^ 64) (hd : d < 2 ^ 64) (hb : b < 2 ^ 64) (ka : vK n a = 1) (kd : vK n d = 1) (kb : vK n b = 1)
    (h : vS n a < vS n d ∨ (vS n a = vS n d ∧ manX (vF n a) 0 ≤ manX (vF n d) 0)) : qmag n a b ≤ qmag n d b := by
  obtain ⟨_, _, _, _, _, _, wa, sa1, sa2⟩ := v_real n a hn ha ka
  obtain ⟨_, _, _, _, _, _, wd, sd1, sd2⟩ := v_real n d hn hd kd
  obtain ⟨_, _, _, _, _, _, wb, sb1, sb2⟩ := v_real n b hn hb kb
  have hw := wd_le hn
  have hg0 : 0 < vF n b := by have := wb.top; omega
  have la := lies_quo wa.top wb.hi64 hg0 (vS n a - vS n b - 200) _ rfl
  have ld := lies_quo wd.top wb.hi64 hg0 (vS n d - vS n b - 200) _ rfl
  have hqa := quo_pos wa.top wb.hi64 hg0
  have hqd := quo_pos wd.top wb.hi64 hg0
  have na := normN_words hqa
  have nd := normN_words hqd
  have bnd : ∀ f g j : Nat, f < 2 ^ 64 → blen (f * 2 ^ j / g) ≤ 64 + j := fun f g j hf => by
    refine Nat.le_trans (blen_mono (Nat.div_le_self _ _)) (blen_le.2 ?_)
    rw [Nat.pow_add]
    exact Nat.mul_lt_mul_of_pos_right hf (Nat.pow_pos (by decide))
  have ba : blen (quoN (vF n a) (vF n b)) ≤ 264 := bnd _ (vF n b) 200 wa.hi64
  have bd : blen (quoN (vF n d) (vF n b)) ≤ 264 := bnd _ (vF n b) 200 wd.hi64
  have ha2 : heldX (vS n a - vS n b - 200 + blen (quoN (vF n a) (vF n b)) - 1) = vS n a - vS n b - 200 + blen (quoN (vF n a) (vF n b)) - 1 := by unfold heldX; rw [if_neg (by omega), if_neg (by omega)]
  have hd2 : heldX (vS n d - vS n b - 200 + blen (quoN (vF n d) (vF n b)) - 1) = vS n d - vS n b - 200 + blen (quoN (vF n d) (vF n b)) - 1 := by unfold heldX; rw [if_neg (by omega), if_neg (by omega)]
  unfold qmag mgC
  rw [ha2, hd2]
  refine rnd_riseR n _ _ _ _ _ _ _ _ hn ⟨na.top, na.hi64, by decide⟩ ⟨nd.top, nd.hi64, by decide⟩ ?_
  refine lies_rise la ld ⟨na.top, na.hi64, by decide⟩ ⟨nd.top, nd.hi64, by decide⟩ hg0 (.inr ⟨rfl, rfl, rfl⟩) (fun x y hxy => ?_)
  have hp : 0 < 2 ^ 200 := Nat.pow_pos (by decide)
  have ht : ∀ f, f * 2 ^ 200 * 2 ^ x = f * 2 ^ x * 2 ^ 200 := fun f => by simp only [Nat.mul_assoc, Nat.mul_left_comm, Nat.mul_comm]
  have ht' : ∀ f, f * 2 ^ 200 * 2 ^ y = f * 2 ^ y * 2 ^ 200 := fun f => by simp only [Nat.mul_assoc, Nat.mul_left_comm, Nat.mul_comm]
  rw [ht, ht']
  refine Nat.mul_le_mul_right _ ?_
  rcases h with c | ⟨c, d2⟩
  · obtain ⟨k, hk⟩ : ∃ k : Nat, y = x + (1 + k) := ⟨y - x - 1, by omega⟩
    have h1 : vF n a ≤ vF n d * 2 ^ (1 + k) := by
      refine Nat.le_trans (Nat.le_of_lt wa.hi64) (twice_le ?_)
      have := wd.top
      omega
    rw [hk, Nat.pow_add, Nat.mul_comm (2 ^ x), ← Nat.mul_assoc]
    exact Nat.mul_le_mul_right _ h1
  · rw [show y = x by omega]
    rw [manX_zero, manX_zero] at d2
    exact Nat.mul_le_mul_right _ (Nat.le_of_mul_le_mul_right d2 (Nat.pow_pos (by decide)))
theorem sign_val (n a : Nat) (hn : Wd n) (ha : a < 2 ^ 64) (ka : vK n a = 1) : (vB n a = false → 0 < valI n a) ∧ (vB n a = true → valI n a < 0) := by
  obtain ⟨_, _, _, _, _, _, wa, _⟩ := v_real n a hn ha ka
  have h1 := wa.mant.1
  have h2 : 0 < manX (vF n a) 0 * 2 ^ (vS n a + 248).toNat := Nat.mul_pos (Nat.lt_of_lt_of_le (by decide) h1) (Nat.pow_pos (by decide))
  unfold valI
  rw [if_pos ka, ← sg_mul]
  generalize manX (vF n a) 0 * 2 ^ (vS n a + 248).toNat = X at *
  unfold sg
  constructor
  · intro h; rw [h, if_neg (by decide)]; omega
  · intro h; rw [h, if_pos rfl]; omega
theorem qkP_rise (n a d b : Nat) (hn : Wd n) (ha : a < 2 ^ 64) (hd : d < 2 ^ 64) (hb : b < 2 ^ 64) (ka : vK n a ≠ 2) (kd : vK n d ≠ 2) (kb : vK n b = 1) (h : extOf a n ≤ extOf d n) : qkP n a b ≤ qkP n d b := by
  have hv := val_le n a d hn ha hd ka kd h
  unfold qkP
  by_cases a0 : vK n a = 0
  · rw [if_pos a0]
    rw [val_zero n a (by rw [a0]; decide)] at hv
    by_cases d0 : vK n d = 0
    · rw [if_pos d0]; exact Int.le_refl _
    · rw [if_neg d0]
      have d1 := real_or n d hn kd d0
      cases hs : vB n d
      · rw [if_neg (by decide)]; omega
      · have := (sign_val n d hn hd d1).2 hs; omega
  · rw [if_neg a0]
    have a1 := real_or n a hn ka a0
    by_cases d0 : vK n d = 0
    · rw [if_pos d0]
      rw [val_zero n d (by rw [d0]; decide)] at hv
      cases hs : vB n a
      · have := (sign_val n a hn ha a1).1 hs; omega
      · rw [if_pos rfl]; omega
    · rw [if_neg d0]
      have d1 := real_or n d hn kd d0
      cases hs : vB n a
      · cases ht : vB n d
        · rw [if_neg (by decide), if_neg (by decide)]
          have := qmag_rise n a d b hn ha hd hb a1 d1 kb (val_order hn ha hd a1 d1 hs ht h)
          omega
        · have := (sign_val n a hn ha a1).1 hs
          have := (sign_val n d hn hd d1).2 ht
          omega
      · cases ht : vB n d
        · rw [if_pos rfl, if_neg (by decide)]; omega
        · rw [if_pos rfl, if_pos rfl]
          obtain ⟨A1, _, A3, A4, A5⟩ := val_neg n a (negO n a) hn ha (negO_lt64 n a hn) (by rw [negO_eq n a hn ha, Nat.mod_mod])
          obtain ⟨D1, _, D3, D4, D5⟩ := val_neg n d (negO n d) hn hd (negO_lt64 n d hn) (by rw [negO_eq n d hn hd, Nat.mod_mod])
          have na : narB n a = false := by rw [narB_kind n a hn]; exact decide_eq_false ka
          have nd : narB n d = false := by rw [narB_kind n d hn]; exact decide_eq_false kd
          have ho := val_order hn (negO_lt64 n d hn) (negO_lt64 n a hn) (by rw [D1, d1]) (by rw [A1, a1]) (by rw [D3 d1, ht]; rfl) (by rw [A3 a1, hs]; rfl) (by rw [rank_neg n d hn hd nd, rank_neg n a hn ha na]; omega)
          rw [D4, D5, A4, A5] at ho
          have := qmag_rise n d a b hn hd ha hb d1 a1 kb ho
          omega
theorem patQ_rank (n a b : Nat) (hn : Wd n) (ha : a < 2 ^ 64) (hb : b < 2 ^ 64) (ka : vK n a ≠ 2) (kb : vK n b = 1) : extOf (patQ n a b) n = if vB n b = true then -(qkP n a b) else qkP n a b := by
  unfold qkP
  by_cases a0 : vK n a = 0
  · rw [patQ_zero n a b a0 kb, if_pos a0, extOf_nought]; split <;> rfl
  · have a1 := real_or n a hn ka a0
    obtain ⟨R, r1, r2, e0, e⟩ := patQ_real n a b hn ha hb a1 kb
    have hR : R = qmag n a b := e0
    rw [e, extOf_patR n hn _ _ r1 r2, if_neg a0, ← hR]
    cases vB n a <;> cases vB n b <;> simp [xorB]
/-! ### fused products -/
theorem blen_mul' (x y : Nat) {i j : Nat} (hx : blen x ≤ i) (hy : blen y ≤ j) : blen (x * y) ≤ i + j := by
  refine blen_le.2 ?_
  rw [Nat.pow_add]
  have h1 := Nat.lt_of_lt_of_le (blen_hi x) (Nat.pow_le_pow_right (show 0 < 2 by decide) hx)
  have h2 := Nat.lt_of_lt_of_le (blen_hi y) (Nat.pow_le_pow_right (show 0 < 2 by decide) hy)
  exact Nat.mul_lt_mul_of_lt_of_lt h1 h2
theorem fma_near (n a b c : Nat) (hn : Wd n) (ha : a < 2 ^ 64) (hb : b < 2 ^ 64) (hc : c < 2 ^ 64) : Near (valI n a * valI n b + valI n c * ((2 ^ 375 : Nat) : Int)).natAbs (eN + eN) := by
  have na := val_blen n a hn ha
  have nb := val_blen n b hn hb
  have nc := val_blen n c hn hc
  have h1 : blen (valI n a * valI n b).natAbs ≤ 1248 := by rw [Int.natAbs_mul]; exact blen_mul' _ _ na nb
  have h2 : blen (valI n c * ((2 ^ 375 : Nat) : Int)).natAbs ≤ 1248 := by
    rw [Int.natAbs_mul, Int.natAbs_natCast]
    have h3 : ∀ k : Nat, blen (2 ^ k) ≤ k + 1 := fun k => blen_le.2 (Nat.pow_lt_pow_right (by decide) (by omega))
    exact Nat.le_trans (blen_mul' _ _ nc (h3 375)) (by decide)
  have h3 := abs_add _ _ h1 h2
  exact near_of (by omega) (by decide)
theorem patF_real (n a b c : Nat) (ka : vK n a ≠ 2) (kb : vK n b ≠ 2) (kc : vK n c ≠ 2) : patF n a b c = patI n (valI n a * valI n b + valI n c * ((2 ^ 375 : Nat) : Int)) (eN + eN) := by
  unfold patF; rw [if_neg (by rintro (x | x | x); exact ka x; exact kb x; exact kc x)]
theorem patF_rise (n a d b c : Nat) (hn : Wd n) (ha : a < 2 ^ 64) (hd : d < 2 ^ 64) (hb : b < 2 ^ 64) (hc : c < 2 ^ 64) (ka : vK n a ≠ 2) (kd : vK n d ≠ 2) (kb : vK n b ≠ 2) (kc : vK n c ≠ 2) (h : extOf a n ≤ extOf d n) :
    (0 ≤ extOf b n → extOf (patF n a b c) n ≤ extOf (patF n d b c) n) ∧ (extOf b n ≤ 0 → extOf (patF n d b c) n ≤ extOf (patF n a b c) n) := by
  have hv := val_le n a d hn ha hd ka kd h
  have k0 : vK n 0 ≠ 2 := by rw [vK_zero]; decide
  have v0 : valI n 0 = 0 := val_zero n 0 (by rw [vK_zero]; decide)
  rw [patF_real n a b c ka kb kc, patF_real n d b c kd kb kc, patI_rank _ _ hn, patI_rank _ _ hn]
  have n1 := fma_near n a b c hn ha hb hc
  have n2 := fma_near n d b c hn hd hb hc
  constructor
  · intro h0
    have hb0 := val_le n 0 b hn (by decide) hb k0 kb (by rw [extOf_nought]; exact h0)
    rw [v0] at hb0
    exact rkI_mono hn (Int.add_le_add_right (Int.mul_le_mul_of_nonneg_right hv hb0) _) n1 n2
  · intro h0
    have hb0 := val_le n b 0 hn hb (by decide) kb k0 (by rw [extOf_nought]; exact h0)
    rw [v0] at hb0
    exact rkI_mono hn (Int.add_le_add_right (Int.mul_le_mul_of_nonpos_right hv hb0) _) n2 n1
/-- the three ways at once, as ranks are compared -/
theorem rises_all (n a d b c : Nat) (hn : Wd n) (ha : a < 2 ^ 64) (hd : d < 2 ^ 64) (hb : b < 2 ^ 64) (hc : c < 2 ^ 64) (ka : vK n a ≠ 2) (kd : vK n d ≠ 2) (kb : vK n b ≠ 2) (kc : vK n c ≠ 2) :
    cmpR n (patS n c (negO n a)) (patS n c (negO n d)) * cmpR n a d ≤ 0 ∧
    (cmpR n b 0 = 0 → cmpR n (patF n a b c) (patF n d b c) = 0 ∧ patQ n a b = 2 ^ (n - 1) ∧ patQ n d b = 2 ^ (n - 1)) ∧
    (cmpR n b 0 ≠ 0 → 0 ≤ cmpR n (patF n a b c) (patF n d b c) * cmpR n a d * cmpR n b 0 ∧ 0 ≤ cmpR n (patQ n a b) (patQ n d b) * cmpR n a d * cmpR n b 0) := by
  have na : narB n a = false := by rw [narB_kind n a hn]; exact decide_eq_false ka
  have nd : narB n d = false := by rw [narB_kind n d hn]; exact decide_eq_false kd
  have ra := rank_neg n a hn ha na
  have rd := rank_neg n d hn hd nd
  obtain ⟨A1, _⟩ := val_negO n a hn ha
  obtain ⟨D1, _⟩ := val_negO n d hn hd
  have sAD : extOf a n ≤ extOf d n → extOf (patS n c (negO n d)) n ≤ extOf (patS n c (negO n a)) n := fun h =>
    patS_rise n c (negO n d) (negO n a) hn hc (negO_lt64 n d hn) (negO_lt64 n a hn) kc (by rw [D1]; exact kd) (by rw [A1]; exact ka) (by omega)
  have sDA : extOf d n ≤ extOf a n → extOf (patS n c (negO n a)) n ≤ extOf (patS n c (negO n d)) n := fun h =>
    patS_rise n c (negO n a) (negO n d) hn hc (negO_lt64 n a hn) (negO_lt64 n d hn) kc (by rw [A1]; exact ka) (by rw [D1]; exact kd) (by omega)
  have fAD := fun h => patF_rise n a d b c hn ha hd hb hc ka kd kb kc h
  have fDA := fun h => patF_rise n d a b c hn hd ha hb hc kd ka kb kc h
  have cad := cmpR_cases n a d
  have cb := cmpR_cases n b 0
  rw [extOf_nought] at cb
  have cs := cmpR_cases n (patS n c (negO n a)) (patS n c (negO n d))
  have cf := cmpR_cases n (patF n a b c) (patF n d b c)
  have cq := cmpR_cases n (patQ n a b) (patQ n d b)
  have hz : extOf b n = 0 → vK n b = 0 := fun h => by
    refine Classical.byContradiction fun g => ?_
    have b1 := real_or n b hn kb g
    have hv := val_le n b 0 hn hb (by decide) kb (by rw [vK_zero]; decide) (by rw [extOf_nought]; omega)
    have hv2 := val_le n 0 b hn (by decide) hb (by rw [vK_zero]; decide) kb (by rw [extOf_nought]; omega)
    rw [val_zero n 0 (by rw [vK_zero]; decide)] at hv hv2
    have sv := sign_val n b hn hb b1
    cases e : vB n b
    · have := sv.1 e; omega
    · have := sv.2 e; omega
  have hq : extOf b n ≠ 0 → (extOf a n ≤ extOf d n → if 0 < extOf b n then extOf (patQ n a b) n ≤ extOf (patQ n d b) n else extOf (patQ n d b) n ≤ extOf (patQ n a b) n) ∧ (extOf d n ≤ extOf a n → if 0 < extOf b n then extOf (patQ n d b) n ≤ extOf (patQ n a b) n else extOf (patQ n a b) n ≤ extOf (patQ n d b) n) := fun hne => by
    have b1 : vK n b = 1 := real_or n b hn kb (fun g => hne (by
      rcases v_kinds n b hn with ⟨_, q⟩ | q | ⟨q, _⟩
      · exact rank_zero n b hn q
      · rw [g] at q; exact absurd q (by decide)
      · exact absurd q kb))
    have sv := sign_val n b hn hb b1
    have hsg : (0 < extOf b n ∧ vB n b = false) ∨ (extOf b n < 0 ∧ vB n b = true) := by
      cases e : vB n b
      · refine .inl ⟨?_, rfl⟩
        have := sv.1 e
        refine Int.lt_of_not_ge fun g => ?_
        have hv := val_le n b 0 hn hb (by decide) kb (by rw [vK_zero]; decide) (by rw [extOf_nought]; exact g)
        rw [val_zero n 0 (by rw [vK_zero]; decide)] at hv
        omega
      · refine .inr ⟨?_, rfl⟩
        have := sv.2 e
        refine Int.lt_of_not_ge fun g => ?_
        have hv := val_le n 0 b hn (by decide) hb (by rw [vK_zero]; decide) kb (by rw [extOf_nought]; exact g)
        rw [val_zero n 0 (by rw [vK_zero]; decide)] at hv
        omega
    have r1 := patQ_rank n a b hn ha hb ka b1
    have r2 := patQ_rank n d b hn hd hb kd b1
    have m1 := fun h => qkP_rise n a d b hn ha hd hb ka kd b1 h
    have m2 := fun h => qkP_rise n d a b hn hd ha hb kd ka b1 h
    rcases hsg with ⟨g1, g2⟩ | ⟨g1, g2⟩
    · rw [if_pos g1, if_pos g1]
      rw [g2, if_neg (by decide)] at r1 r2
      rw [r1, r2]
      exact ⟨m1, m2⟩
    · rw [if_neg (by omega), if_neg (by omega)]
      rw [g2, if_pos rfl] at r1 r2
      rw [r1, r2]
      exact ⟨fun h => by have := m1 h; omega, fun h => by have := m2 h; omega⟩
  have hnz : cmpR n b 0 = 0 → vK n b = 0 := fun h => hz (by omega)
  generalize cmpR n a d = way at *
  generalize hby : cmpR n b 0 = by' at *
  generalize cmpR n (patS n c (negO n a)) (patS n c (negO n d)) = three at *
  generalize cmpR n (patF n a b c) (patF n d b c) = one at *
  generalize cmpR n (patQ n a b) (patQ n d b) = two at *
  refine ⟨?_, ?_, ?_⟩
  · rcases cad with ⟨rfl, g⟩ | ⟨rfl, g⟩ | ⟨rfl, g⟩
    · have := sAD (by omega); omega
    · have := sDA (by omega); omega
    · omega
  · intro h
    have b0 := hnz h
    refine ⟨?_, patQ_nar n a b (.inr (by rw [b0]; decide)), patQ_nar n d b (.inr (by rw [b0]; decide))⟩
    have e : extOf b n = 0 := by omega
    rcases Int.le_total (extOf a n) (extOf d n) with g | g
    · have h1 := (fAD g).1 (by omega)
      have h2 := (fAD g).2 (by omega)
      omega
    · have h1 := (fDA g).1 (by omega)
      have h2 := (fDA g).2 (by omega)
      omega
  · intro h
    obtain ⟨q1, q2⟩ := hq (by omega)
    rcases cb with ⟨rfl, gb⟩ | ⟨rfl, gb⟩ | ⟨rfl, gb⟩
    · rw [if_neg (by omega)] at q1 q2
      rcases cad with ⟨rfl, g⟩ | ⟨rfl, g⟩ | ⟨rfl, g⟩
      · have h1 := (fAD (by omega)).2 (by omega)
        have h2 := q1 (by omega)
        omega
      · have h1 := (fDA (by omega)).2 (by omega)
        have h2 := q2 (by omega)
        omega
      · omega
    · rw [if_pos gb] at q1 q2
      rcases cad with ⟨rfl, g⟩ | ⟨rfl, g⟩ | ⟨rfl, g⟩
      · have h1 := (fAD (by omega)).1 (by omega)
        have h2 := q1 (by omega)
        omega
      · have h1 := (fDA (by omega)).1 (by omega)
        have h2 := q2 (by omega)
        omega
      · omega
    · exact absurd rfl h
end Go.Proofs.Ytheliihkkoohnab

namespace Go.Proofs.Ytheliihkkoohnab
open Go.ChangeShapes Go.WideShapes Go.ChangeAt Go.RowKit
set_option linter.unusedVariables false
set_option linter.unusedSimpArgs false
set_option maxRecDepth 100000

/-! ### package sum: two reals held against each other, their signs apart -/
def cmpZ (x y : Int) : Int := if x < y then -1 else if y < x then 1 else 0
theorem mnan_any (x : Int) (w : World) : Calls Try.prog 80 #[.int .i64 x] w fun e w' => e = .returned (.bool false) ∧ w' = w := by
  refine cps fun Q hQ => ?_
  go_enter Try.func80, Try.ntmps80
  go_wp2
  exact hQ.out _ _ ⟨by simp, rfl⟩
theorem mcompare_any (x y : Int) (w : World) : Calls Try.prog 60 #[.int .i64 x, .int .i64 y] w fun e w' => e = .returned (.int .i64 (cmpZ x y)) ∧ w' = w := by
  refine cps fun Q hQ => ?_
  have hE : (x < y ∧ cmpZ x y = -1) ∨ (y < x ∧ cmpZ x y = 1) ∨ (x = y ∧ cmpZ x y = 0) := by
    unfold cmpZ; split
    · exact .inl ⟨by assumption, rfl⟩
    · split
      · exact .inr (.inl ⟨by assumption, rfl⟩)
      · exact .inr (.inr ⟨by omega, rfl⟩)
  rcases hE with ⟨h, hE⟩ | ⟨h, hE⟩ | ⟨rfl, hE⟩
  · have d1 : decide (x < y) = true := decide_eq_true h
    rw [hE] at hQ
    clear h hE
    go_enter Try.func60, Try.ntmps60
    go_wp2_with (go_at_call 80; refine (mnan_any _ _).mono ?_; rintro e w' ⟨rfl, hw⟩; rw [hw]; clear hw w')
    exact hQ.out _ _ ⟨rfl, rfl⟩
  · have d1 : decide (x < y) = false := decide_eq_false (by omega)
    have d2 : decide (y < x) = true := decide_eq_true h
    rw [hE] at hQ
    clear h hE
    go_enter Try.func60, Try.ntmps60
    go_wp2_with (go_at_call 80; refine (mnan_any _ _).mono ?_; rintro e w' ⟨rfl, hw⟩; rw [hw]; clear hw w')
    exact hQ.out _ _ ⟨rfl, rfl⟩
  · have d1 : decide (x < x) = false := decide_eq_false (by omega)
    rw [hE] at hQ
    clear hE
    go_enter Try.func60, Try.ntmps60
    go_wp2_with (go_at_call 80; refine (mnan_any _ _).mono ?_; rintro e w' ⟨rfl, hw⟩; rw [hw]; clear hw w')
    exact hQ.out _ _ ⟨rfl, rfl⟩
/-- below 0 just where the second is the greater -/
def cmpR2 (s : Int) (f : Nat) (s' : Int) (g : Nat) : Int := if cmpZ s s' = 0 then cmpN f g else cmpZ s s'
theorem cmpR2_lt (s : Int) (f : Nat) (s' : Int) (g : Nat) : cmpR2 s f s' g < 0 ↔ s < s' ∨ (s = s' ∧ f < g) := by
  unfold cmpR2 cmpZ cmpN
  repeat' split
  all_goals constructor <;> intro h <;> omega
set_option maxHeartbeats 2000000 in
theorem scompare_any (k : Int) (neg : Bool) (s : Int) (f : Nat) (k' : Int) (neg' : Bool) (s' : Int) (g : Nat) (w : World) :
    Calls Try.prog 74 #[numV k neg s f, numV k' neg' s' g] w fun e w' => e = .returned (.int .i64 (cmpR2 s f s' g)) ∧ Below w.heap.size w w' := by
  unfold cmpR2 numV at *
  refine cps fun Q hQ => ?_
  obtain ⟨x, hx⟩ : ∃ x, x = cmpZ s s' := ⟨_, rfl⟩
  obtain ⟨y, hy⟩ : ∃ x, x = cmpN f g := ⟨_, rfl⟩
  have r1 := mcompare_any s s'
  have r2 := compare_any f g
  rw [← hx] at r1 hQ
  rw [← hy] at r2 hQ
  obtain ⟨z, hz⟩ : ∃ z, z = if x = 0 then y else x := ⟨_, rfl⟩
  rw [← hz] at hQ
  have HZ : Hid (z = if x = 0 then y else x) := hz
  clear hx hy hz
  go_enter Try.func74, Try.ntmps74
  go_wp2
  refine wpC_region (fun W => W.cell? ⟨w.heap.size, 2, none⟩ = some (.int .i64 s) ∧ W.cell? ⟨w.heap.size, 3, none⟩ = some (.int .u64 f) ∧ W.cell? ⟨w.heap.size + 1, 2, none⟩ = some (.int .i64 s') ∧ W.cell? ⟨w.heap.size + 1, 3, none⟩ = some (.int .u64 g)) (by kernel_rfl) ?_
  refine wpC_take 0 (v := ?_) rfl (by kernel_rfl) (fun _ _ _ h => h) (by kernel_rfl) ?_ ?_; rotate_left; · (intro wC hC; obtain ⟨c1, c2, c3, c4⟩ := hC; go_simp <;> with_reducible rfl)
  refine wpC_take 1 (v := ?_) rfl (by kernel_rfl) (fun _ _ _ h => h) (by kernel_rfl) ?_ ?_; rotate_left; · (intro wC hC; obtain ⟨c1, c2, c3, c4⟩ := hC; go_simp <;> with_reducible rfl)
  refine wpC_take 2 (v := ?_) rfl (by kernel_rfl) (fun _ _ _ h => h) (by kernel_rfl) ?_ ?_; rotate_left; · (intro wC hC; obtain ⟨c1, c2, c3, c4⟩ := hC; go_simp <;> with_reducible rfl)
  refine wpC_take 3 (v := ?_) rfl (by kernel_rfl) (fun _ _ _ h => h) (by kernel_rfl) ?_ ?_; rotate_left; · (intro wC hC; obtain ⟨c1, c2, c3, c4⟩ := hC; go_simp <;> with_reducible rfl)
  refine wpC_take 5 (v := ?_) rfl (by kernel_rfl) (fun _ _ _ h => h) (by kernel_rfl) ?_ ?_; rotate_left; · (intro wC hC; obtain ⟨c1, c2, c3, c4⟩ := hC; go_simp <;> with_reducible rfl)
  refine wpC_take 6 (v := ?_) rfl (by kernel_rfl) (fun _ _ _ h => h) (by kernel_rfl) ?_ ?_; rotate_left; · (intro wC hC; obtain ⟨c1, c2, c3, c4⟩ := hC; go_simp <;> with_reducible rfl)
  refine wpC_take 7 (v := ?_) rfl (by kernel_rfl) (fun _ _ _ h => h) (by kernel_rfl) ?_ ?_; rotate_left; · (intro wC hC; obtain ⟨c1, c2, c3, c4⟩ := hC; go_simp <;> with_reducible rfl)
  refine wpC_take 8 (v := ?_) rfl (by kernel_rfl) (fun _ _ _ h => h) (by kernel_rfl) ?_ ?_; rotate_left; · (intro wC hC; obtain ⟨c1, c2, c3, c4⟩ := hC; go_simp <;> with_reducible rfl)
  refine wpC_step 4 rfl (by kernel_rfl) (by kernel_rfl) (by simp [go_sem]) (fun K hK => ?_)
  go_simp
  go_wp2_with ((go_at_call 60; refine (r1 _).mono ?_; rintro e w' ⟨rfl, hw⟩; rw [hw]; clear hw w'))
  try (refine hK _ _ ?_; clear hK K)
  refine wpC_step 9 rfl (by kernel_rfl) (by kernel_rfl) (by simp [go_sem]) (fun K hK => ?_)
  go_simp
  go_wp2_with ((go_at_call 81; refine (r2 _).mono ?_; rintro e w' ⟨rfl, hw⟩; rw [hw]; clear hw w'))
  try (refine hK _ _ ?_; clear hK K)
  refine wpC_step 10 rfl (by kernel_rfl) (by kernel_rfl) (by simp [go_sem]) (fun K hK => ?_)
  go_simp
  try (refine hK _ _ ?_; clear hK K)
  refine wpC_step 11 rfl (by kernel_rfl) (by kernel_rfl) (by simp [go_sem]) (fun K hK => ?_)
  go_simp
  go_wp2_with ((go_at_call 59; refine (or_any' x y z HZ.out _ _ (drew_at _ _ _ _ 0 (by simp)) (drew_at _ _ _ _ 1 (by simp))).mono ?_; rintro e w' ⟨rfl, hw⟩; rw [hw]; clear hw w'))
  try (refine hK _ _ ?_; clear hK K)
  refine wpC_step 12 rfl (by kernel_rfl) (by kernel_rfl) (by simp [go_sem]) (fun K hK => ?_)
  go_simp
  try (refine hK _ _ ?_; clear hK K)
  refine wpC_done (by kernel_rfl) (by simp [go_sem]) ?_
  go_wp2
  refine hQ.out _ _ ⟨rfl, ?_⟩
  exact (bmore (bmore (bmore (Below.refl _ _) _) _) _).drew
end Go.Proofs.Ytheliihkkoohnab

namespace Go.Proofs.Ytheliihkkoohnab
open Go.ChangeShapes Go.WideShapes Go.ChangeAt Go.RowKit
set_option linter.unusedVariables false
set_option linter.unusedSimpArgs false
set_option maxRecDepth 100000

/-! ### numbers of 256 bits, the lowest word first -/
def wdV (a b c d : Nat) : Value := .agg #[.int .u64 a, .int .u64 b, .int .u64 c, .int .u64 d]
/-- a word times 2^k, laid into four words -/
theorem splaced_at (f : Nat) (k q r h l : Nat) (u0 u1 u2 u3 : Nat) (hr : r ≤ 63) (hk : k = 64 * q + r) (hs : Tw (f * 2 ^ r) h l) (hf : f ≤ 18446744073709551615)
    (hq : (q = 0 ∧ l = u0 ∧ h = u1 ∧ u2 = 0 ∧ u3 = 0) ∨ (q = 1 ∧ u0 = 0 ∧ l = u1 ∧ h = u2 ∧ u3 = 0) ∨ (q = 2 ∧ u0 = 0 ∧ u1 = 0 ∧ l = u2 ∧ h = u3)) (w : World) :
    Calls Try.prog 75 #[.int .u64 f, .int .i64 k] w fun e w' => e = .returned (wdV u0 u1 u2 u3) ∧ Below w.heap.size w w' := by
  have k1 := tshl_any (a := f) (h1 := 0) (l1 := f) (c := false) r (by omega) ⟨by omega, by omega, hf⟩ ((Nat.mod_eq_of_lt hs.lt).symm ▸ hs) (by rw [decide_eq_false (by have := hs.lt; omega)])
  have m1 : Int.tmod (k : Int) 64 = (r : Int) := by rw [Int.tmod_eq_emod_of_nonneg (by omega)]; omega
  have m2 : Int.tdiv (k : Int) 64 = (q : Int) := by rw [Int.tdiv_eq_ediv_of_nonneg (by omega)]; omega
  have m3 : (k : Int) % 64 = (r : Int) := by omega
  have m4 : (k : Int) / 64 = (q : Int) := by omega
  rw [show ((0 : Nat) : Int) = 0 from rfl] at k1
  clear hs hk hf hr
  have v0 : IntKind.i64.wrap 0 = 0 := rfl
  have v1 : IntKind.i64.wrap 1 = 1 := rfl
  have v2 : IntKind.i64.wrap 2 = 2 := rfl
  have v3 : IntKind.i64.wrap 3 = 3 := rfl
  unfold wdV
  refine cps fun Q hQ => ?_
  rcases hq with ⟨rfl, rfl, rfl, rfl, rfl⟩ | ⟨rfl, rfl, rfl, rfl, rfl⟩ | ⟨rfl, rfl, rfl, rfl, rfl⟩
  all_goals
    go_enter Try.func75, Try.ntmps75
    go_wp2_with (go_at_call 62; go_must (refine (k1 _).mono ?_); rintro e w1 ⟨rfl, hb1⟩; have HB1 : Hid (Below _ _ _) := hb1; have R0 := (hb1.block w.heap.size (by simp)).trans (rownew w _ _); have HR0 : Hid _ := R0; have z1 : w.heap.size < w1.heap.size := (by have := hb1.size; simp at this; omega); clear hb1 R0)
    have y0 := rowcell (rownew' (w1.alloc (.cells #[.int .u64 h, .int .u64 l] 71)) #[.int .u64 0, .int .u64 0, .int .u64 0, .int .u64 0] 122 (w1.heap.size + 1) (by simp))
    have X0 := (Below.heap_alloc (w1.alloc (.cells #[.int .u64 h, .int .u64 l] 71)) (.cells #[.int .u64 0, .int .u64 0, .int .u64 0, .int .u64 0] 122) w1.heap.size (by simp)).trans (rownew w1 _ _)
    have x0 := rowcell X0 0
    have x1 := rowcell X0 1
    simp only [List.getElem?_toArray, List.getElem?_cons_zero, List.getElem?_cons_succ] at x0 x1
    refine wpC_region (fun W => W.cell? ⟨w1.heap.size, 0, none⟩ = some (.int .u64 h) ∧ W.cell? ⟨w1.heap.size, 1, none⟩ = some (.int .u64 l)) (by kernel_rfl) ?_
    refine wpC_take 0 (v := ?_) rfl (by kernel_rfl) (fun _ _ _ h => h) (by kernel_rfl) ?_ ?_; rotate_left; · (intro wC hC; obtain ⟨c0, c1⟩ := hC; go_simp <;> with_reducible rfl)
    refine wpC_take 1 (v := ?_) rfl (by kernel_rfl) (fun _ _ _ h => h) (by kernel_rfl) ?_ ?_; rotate_left; · (intro wC hC; obtain ⟨c0, c1⟩ := hC; go_simp <;> with_reducible rfl)
    refine wpC_take 2 (v := ?_) rfl (by kernel_rfl) (fun _ _ _ h => h) (by kernel_rfl) ?_ ?_; rotate_left; · (intro wC hC; obtain ⟨c0, c1⟩ := hC; go_simp <;> with_reducible rfl)
    refine wpC_take 3 (v := ?_) rfl (by kernel_rfl) (fun _ _ _ h => h) (by kernel_rfl) ?_ ?_; rotate_left; · (intro wC hC; obtain ⟨c0, c1⟩ := hC; go_simp <;> with_reducible rfl)
    refine wpC_take 4 (v := ?_) rfl (by kernel_rfl) (fun _ _ _ h => h) (by kernel_rfl) ?_ ?_; rotate_left; · (intro wC hC; obtain ⟨c0, c1⟩ := hC; go_simp <;> with_reducible rfl)
    refine wpC_take 5 (v := ?_) rfl (by kernel_rfl) (fun _ _ _ h => h) (by kernel_rfl) ?_ ?_; rotate_left; · (intro wC hC; obtain ⟨c0, c1⟩ := hC; go_simp <;> with_reducible rfl)
    refine wpC_take 6 (v := ?_) rfl (by kernel_rfl) (fun _ _ _ h => h) (by kernel_rfl) ?_ ?_; rotate_left; · (intro wC hC; obtain ⟨c0, c1⟩ := hC; go_simp <;> with_reducible rfl)
    refine wpC_take 7 (v := ?_) rfl (by kernel_rfl) (fun _ _ _ h => h) (by kernel_rfl) ?_ ?_; rotate_left; · (intro wC hC; obtain ⟨c0, c1⟩ := hC; go_simp <;> with_reducible rfl)
    refine wpC_take 8 (v := ?_) rfl (by kernel_rfl) (fun _ _ _ h => h) (by kernel_rfl) ?_ ?_; rotate_left; · (intro wC hC; obtain ⟨c0, c1⟩ := hC; go_simp <;> with_reducible rfl)
    refine wpC_take 9 (v := ?_) rfl (by kernel_rfl) (fun _ _ _ h => h) (by kernel_rfl) ?_ ?_; rotate_left; · (intro wC hC; obtain ⟨c0, c1⟩ := hC; go_simp <;> with_reducible rfl)
    refine wpC_step 10 rfl (by kernel_rfl) (by kernel_rfl) ⟨x0, x1⟩ (fun K hK => ?_)
    go_simp
    try (refine hK _ _ ?_; clear hK K)
    refine wpC_take 11 (v := ?_) rfl (by kernel_rfl) (fun _ _ _ h => h) (by kernel_rfl) ?_ ?_; rotate_left; · (intro wC hC; obtain ⟨c0, c1⟩ := hC; go_simp <;> with_reducible rfl)
    refine wpC_step 12 rfl (by kernel_rfl) (by kernel_rfl) (by simp [go_sem, x0, x1]) (fun K hK => ?_)
    go_simp
    try (refine hK _ _ ?_; clear hK K)
    refine wpC_done (by kernel_rfl) (by simp [go_sem, x0, x1]) ?_
    have b0 := rowcell HR0.out 0
    have b1 := rowcell HR0.out 1
    have b2 := rowcell HR0.out 2
    have b3 := rowcell HR0.out 3
    have bf := rowfree HR0.out
    have n1 : ¬ w.heap.size = w1.heap.size := by omega
    have n2 : ¬ w.heap.size = w1.heap.size + 1 := by omega
    simp only [List.getElem?_toArray, List.getElem?_cons_zero, List.getElem?_cons_succ] at b0 b1 b2 b3
    go_wp2
    refine bodyPost_ret (v := wdV _ _ _ _) (by simp [results, Try.results75, go_sem, b0, b1, b2, b3, z1, wdV]; done) rfl (hQ.out _ _ ⟨rfl, ?_⟩)
    refine cdrew (cmore (cmore (cset4 (cthen (cmore (Below.refl _ _) _) HB1.out) (Nat.le_refl _)) _) _)
end Go.Proofs.Ytheliihkkoohnab

namespace Go.Proofs.Ytheliihkkoohnab
open Go.ChangeShapes Go.WideShapes Go.ChangeAt Go.RowKit
set_option linter.unusedVariables false
set_option linter.unusedSimpArgs false
set_option maxRecDepth 100000

/-! ### sums and differences of 256 bits -/
theorem rowset_other {w : World} {m g : Nat} {c : Array Value} {t : TypeId} {o : Nat} {v : Value} (h : w.heap[m]? = some (.cells c t (0, 0))) (hne : m ≠ g) : (w.setCell ⟨g, o, none⟩ v).drew.heap[m]? = some (.cells c t (0, 0)) := by
  show (w.setCell ⟨g, o, none⟩ v).heap[m]? = _
  rw [heap_setCell_other w _ m _ hne]
  exact h
set_option maxHeartbeats 4000000 in
theorem splus_walk (x0 x1 x2 x3 y0 y1 y2 y3 s0 s1 s2 s3 c1 c2 c3 c4 : Nat)
    (r0 : ∀ w, (callFunc 63 #[.int .u64 x0, .int .u64 y0, .int .u64 0]).run Try.prog w = .ok (.value (.tuple #[.int .u64 s0, .int .u64 c1])) w)
    (r1 : ∀ w, (callFunc 63 #[.int .u64 x1, .int .u64 y1, .int .u64 c1]).run Try.prog w = .ok (.value (.tuple #[.int .u64 s1, .int .u64 c2])) w)
    (r2 : ∀ w, (callFunc 63 #[.int .u64 x2, .int .u64 y2, .int .u64 c2]).run Try.prog w = .ok (.value (.tuple #[.int .u64 s2, .int .u64 c3])) w)
    (r3 : ∀ w, (callFunc 63 #[.int .u64 x3, .int .u64 y3, .int .u64 c3]).run Try.prog w = .ok (.value (.tuple #[.int .u64 s3, .int .u64 c4])) w) (w : World) :
    Calls Try.prog 76 #[wdV x0 x1 x2 x3, wdV y0 y1 y2 y3] w fun e w' => e = .returned (wdV s0 s1 s2 s3) ∧ Below w.heap.size w w' := by
  unfold wdV
  have v0 : IntKind.i64.wrap 0 = 0 := rfl
  have v1 : IntKind.i64.wrap 1 = 1 := rfl
  have v2 : IntKind.i64.wrap 2 = 2 := rfl
  have v3 : IntKind.i64.wrap 3 = 3 := rfl
  refine cps fun Q hQ => ?_
  go_enter Try.func76, Try.ntmps76
  go_wp2
  go_loopw [6, 7, 8] (fun cv _ iv wr => Hid (Below w.heap.size w wr) ∧ wr.heap[w.heap.size]? = some (.cells #[.int .u64 x0, .int .u64 x1, .int .u64 x2, .int .u64 x3] 122 (0, 0)) ∧ wr.heap[w.heap.size + 1]? = some (.cells #[.int .u64 y0, .int .u64 y1, .int .u64 y2, .int .u64 y3] 122 (0, 0)) ∧ wr.heap[w.heap.size + 2]? = some (.cells #[.int .u64 0, .int .u64 0, .int .u64 0, .int .u64 0] 122 (0, 0)) ∧ ∃ a0 a1 a2 a3 c : Nat, wr.heap[w.heap.size + 3]? = some (.cells #[.int .u64 a0, .int .u64 a1, .int .u64 a2, .int .u64 a3] 122 (0, 0)) ∧ cv = .int .u64 c ∧ ((iv = .int .i64 0 ∧ 0 = c ∧ 0 = a0 ∧ 0 = a1 ∧ 0 = a2 ∧ 0 = a3) ∨ (iv = .int .i64 1 ∧ c1 = c ∧ s0 = a0 ∧ 0 = a1 ∧ 0 = a2 ∧ 0 = a3) ∨ (iv = .int .i64 2 ∧ c2 = c ∧ s0 = a0 ∧ s1 = a1 ∧ 0 = a2 ∧ 0 = a3) ∨ (iv = .int .i64 3 ∧ c3 = c ∧ s0 = a0 ∧ s1 = a1 ∧ s2 = a2 ∧ 0 = a3) ∨ (iv = .int .i64 4 ∧ s0 = a0 ∧ s1 = a1 ∧ s2 = a2 ∧ s3 = a3))) (fun _ _ iv _ => (4 - intOf iv).toNat)
  case atStart => exact ⟨cmore (cmore (cmore (cmore (Below.refl _ _) _) _) _) _, (Below.heap_alloc _ _ _ (by first | (simp; done) | (simp; omega))).trans ((Below.heap_alloc _ _ _ (by first | (simp; done) | (simp; omega))).trans ((Below.heap_alloc _ _ _ (by first | (simp; done) | (simp; omega))).trans (rownew' _ _ _ _ (by simp)))), (Below.heap_alloc _ _ _ (by first | (simp; done) | (simp; omega))).trans ((Below.heap_alloc _ _ _ (by first | (simp; done) | (simp; omega))).trans (rownew' _ _ _ _ (by simp))), (Below.heap_alloc _ _ _ (by first | (simp; done) | (simp; omega))).trans (rownew' _ _ _ _ (by simp)), 0, 0, 0, 0, 0, rownew' _ _ _ _ (by simp), rfl, .inl ⟨rfl, rfl, rfl, rfl, rfl, rfl⟩⟩
  case round =>
    obtain ⟨hB, hX, hY, hR, a0, a1, a2, a3, c, hS, rfl, hrel⟩ := hrel
    have HB : Hid (Below w.heap.size w wr) := hB.out
    have xx0 := rowcell hX 0
    have xx1 := rowcell hX 1
    have xx2 := rowcell hX 2
    have xx3 := rowcell hX 3
    have yy0 := rowcell hY 0
    have yy1 := rowcell hY 1
    have yy2 := rowcell hY 2
    have yy3 := rowcell hY 3
    have tt0 := rowcell hR 0
    have tt1 := rowcell hR 1
    have tt2 := rowcell hR 2
    have tt3 := rowcell hR 3
    have bb0 := rowcell hS 0
    have bb1 := rowcell hS 1
    have bb2 := rowcell hS 2
    have bb3 := rowcell hS 3
    have tf := rowfree hR
    have sf := rowfree hS
    simp only [List.getElem?_toArray, List.getElem?_cons_zero, List.getElem?_cons_succ] at xx0 xx1 xx2 xx3 yy0 yy1 yy2 yy3 tt0 tt1 tt2 tt3 bb0 bb1 bb2 bb3
    have GhX : Hid _ := hX
    have GhY : Hid _ := hY
    have GhR : Hid _ := hR
    have GhS : Hid _ := hS
    clear hX hY hR hS hB
    rcases hrel with ⟨rfl, rfl, rfl, rfl, rfl, rfl⟩ | ⟨rfl, rfl, rfl, rfl, rfl, rfl⟩ | ⟨rfl, rfl, rfl, rfl, rfl, rfl⟩ | ⟨rfl, rfl, rfl, rfl, rfl, rfl⟩ | ⟨rfl, rfl, rfl, rfl, rfl⟩
    · go_wp2
      refine wpC_region (fun W => W.cell? ⟨w.heap.size, 0, none⟩ = some (.int .u64 x0) ∧ W.cell? ⟨w.heap.size, 1, none⟩ = some (.int .u64 x1) ∧ W.cell? ⟨w.heap.size, 2, none⟩ = some (.int .u64 x2) ∧ W.cell? ⟨w.heap.size, 3, none⟩ = some (.int .u64 x3) ∧ W.cell? ⟨w.heap.size + 1, 0, none⟩ = some (.int .u64 y0) ∧ W.cell? ⟨w.heap.size + 1, 1, none⟩ = some (.int .u64 y1) ∧ W.cell? ⟨w.heap.size + 1, 2, none⟩ = some (.int .u64 y2) ∧ W.cell? ⟨w.heap.size + 1, 3, none⟩ = some (.int .u64 y3)) (by kernel_rfl) ?_
      refine wpC_take 0 (v := ?_) rfl (by kernel_rfl) (fun _ _ _ h => h) (by kernel_rfl) ?_ ?_; rotate_left; · (intro wC hC; obtain ⟨d0, d1, d2, d3, d4, d5, d6, d7⟩ := hC; go_simp <;> with_reducible rfl)
      refine wpC_take 1 (v := ?_) rfl (by kernel_rfl) (fun _ _ _ h => h) (by kernel_rfl) ?_ ?_; rotate_left; · (intro wC hC; obtain ⟨d0, d1, d2, d3, d4, d5, d6, d7⟩ := hC; go_simp <;> with_reducible rfl)
      refine wpC_take 2 (v := ?_) rfl (by kernel_rfl) (fun _ _ _ h => h) (by kernel_rfl) ?_ ?_; rotate_left; · (intro wC hC; obtain ⟨d0, d1, d2, d3, d4, d5, d6, d7⟩ := hC; go_simp <;> with_reducible rfl)
      refine wpC_take 3 (v := ?_) rfl (by kernel_rfl) (fun _ _ _ h => h) (by kernel_rfl) ?_ ?_; rotate_left; · (intro wC hC; obtain ⟨d0, d1, d2, d3, d4, d5, d6, d7⟩ := hC; go_simp <;> with_reducible rfl)
      refine wpC_take 4 (v := ?_) rfl (by kernel_rfl) (fun _ _ _ h => h) (by kernel_rfl) ?_ ?_; rotate_left; · (intro wC hC; obtain ⟨d0, d1, d2, d3, d4, d5, d6, d7⟩ := hC; go_simp <;> with_reducible rfl)
      refine wpC_take 5 (v := ?_) rfl (by kernel_rfl) (fun _ _ _ h => h) (by kernel_rfl) ?_ ?_; rotate_left; · (intro wC hC; obtain ⟨d0, d1, d2, d3, d4, d5, d6, d7⟩ := hC; go_simp <;> with_reducible rfl)
      refine wpC_take 6 (v := ?_) rfl (by kernel_rfl) (fun _ _ _ h => h) (by kernel_rfl) ?_ ?_; rotate_left; · (intro wC hC; obtain ⟨d0, d1, d2, d3, d4, d5, d6, d7⟩ := hC; go_simp <;> with_reducible rfl)
      refine wpC_take 7 (v := ?_) rfl (by kernel_rfl) (fun _ _ _ h => h) (by kernel_rfl) ?_ ?_; rotate_left; · (intro wC hC; obtain ⟨d0, d1, d2, d3, d4, d5, d6, d7⟩ := hC; go_simp <;> with_reducible rfl)
      refine wpC_take 8 (v := ?_) rfl (by kernel_rfl) (fun _ _ _ h => h) (by kernel_rfl) ?_ ?_; rotate_left; · (intro wC hC; obtain ⟨d0, d1, d2, d3, d4, d5, d6, d7⟩ := hC; go_simp <;> with_reducible rfl)
      refine wpC_take 9 (v := ?_) rfl (by kernel_rfl) (fun _ _ _ h => h) (by kernel_rfl) ?_ ?_; rotate_left; · (intro wC hC; obtain ⟨d0, d1, d2, d3, d4, d5, d6, d7⟩ := hC; go_simp <;> with_reducible rfl)
      refine wpC_take 10 (v := ?_) rfl (by kernel_rfl) (fun _ _ _ h => h) (by kernel_rfl) ?_ ?_; rotate_left; · (intro wC hC; obtain ⟨d0, d1, d2, d3, d4, d5, d6, d7⟩ := hC; go_simp <;> with_reducible rfl)
      refine wpC_take 11 (v := ?_) rfl (by kernel_rfl) (fun _ _ _ h => h) (by kernel_rfl) ?_ ?_; rotate_left; · (intro wC hC; obtain ⟨d0, d1, d2, d3, d4, d5, d6, d7⟩ := hC; go_simp <;> with_reducible rfl)
      refine wpC_take 12 (v := ?_) rfl (by kernel_rfl) (fun _ _ _ h => h) (by kernel_rfl) ?_ ?_; rotate_left; · (intro wC hC; obtain ⟨d0, d1, d2, d3, d4, d5, d6, d7⟩ := hC; go_simp <;> with_reducible rfl)
      refine wpC_step 13 rfl (by kernel_rfl) (by kernel_rfl) ⟨xx0, xx1, xx2, xx3, yy0, yy1, yy2, yy3⟩ (fun K hK => ?_)
      go_simp
      try (refine hK _ _ ?_; clear hK K)
      refine wpC_take 14 (v := ?_) rfl (by kernel_rfl) (fun _ _ _ h => h) (by kernel_rfl) ?_ ?_; rotate_left; · (intro wC hC; obtain _ := hC; go_simp <;> with_reducible rfl)
      refine wpC_done (by kernel_rfl) (by simp [go_sem, xx0, xx1, xx2, xx3, yy0, yy1, yy2, yy3]) ?_
      go_wp2
      go_roundw
      case measure => simp [intOf]
      case rel => exact ⟨cdrew (cset HB.out (by omega) _ _), (rowset_other GhX.out (by omega)), (rowset_other GhY.out (by omega)), (rowset_other GhR.out (by omega)), s0, 0, 0, 0, c1, (rowset GhS.out 0 _).trans (by simp only [List.setIfInBounds_toArray, List.set_cons_zero, List.set_cons_succ]), rfl, .inr (.inl ⟨rfl, rfl, rfl, rfl, rfl, rfl⟩)⟩
    · go_wp2
      refine wpC_region (fun W => W.cell? ⟨w.heap.size, 0, none⟩ = some (.int .u64 x0) ∧ W.cell? ⟨w.heap.size, 1, none⟩ = some (.int .u64 x1) ∧ W.cell? ⟨w.heap.size, 2, none⟩ = some (.int .u64 x2) ∧ W.cell? ⟨w.heap.size, 3, none⟩ = some (.int .u64 x3) ∧ W.cell? ⟨w.heap.size + 1, 0, none⟩ = some (.int .u64 y0) ∧ W.cell? ⟨w.heap.size + 1, 1, none⟩ = some (.int .u64 y1) ∧ W.cell? ⟨w.heap.size + 1, 2, none⟩ = some (.int .u64 y2) ∧ W.cell? ⟨w.heap.size + 1, 3, none⟩ = some (.int .u64 y3)) (by kernel_rfl) ?_
      refine wpC_take 0 (v := ?_) rfl (by kernel_rfl) (fun _ _ _ h => h) (by kernel_rfl) ?_ ?_; rotate_left; · (intro wC hC; obtain ⟨d0, d1, d2, d3, d4, d5, d6, d7⟩ := hC; go_simp <;> with_reducible rfl)
      refine wpC_take 1 (v := ?_) rfl (by kernel_rfl) (fun _ _ _ h => h) (by kernel_rfl) ?_ ?_; rotate_left; · (intro wC hC; obtain ⟨d0, d1, d2, d3, d4, d5, d6, d7⟩ := hC; go_simp <;> with_reducible rfl)
      refine wpC_take 2 (v := ?_) rfl (by kernel_rfl) (fun _ _ _ h => h) (by kernel_rfl) ?_ ?_; rotate_left; · (intro wC hC; obtain ⟨d0, d1, d2, d3, d4, d5, d6, d7⟩ := hC; go_simp <;> with_reducible rfl)
      refine wpC_take 3 (v := ?_) rfl (by kernel_rfl) (fun _ _ _ h => h) (by kernel_rfl) ?_ ?_; rotate_left; · (intro wC hC; obtain ⟨d0, d1, d2, d3, d4, d5, d6, d7⟩ := hC; go_simp <;> with_reducible rfl)
      refine wpC_take 4 (v := ?_) rfl (by kernel_rfl) (fun _ _ _ h => h) (by kernel_rfl) ?_ ?_; rotate_left; · (intro wC hC; obtain ⟨d0, d1, d2, d3, d4, d5, d6, d7⟩ := hC; go_simp <;> with_reducible rfl)
      refine wpC_take 5 (v := ?_) rfl (by kernel_rfl) (fun _ _ _ h => h) (by kernel_rfl) ?_ ?_; rotate_left; · (intro wC hC; obtain ⟨d0, d1, d2, d3, d4, d5, d6, d7⟩ := hC; go_simp <;> with_reducible rfl)
      refine wpC_take 6 (v := ?_) rfl (by kernel_rfl) (fun _ _ _ h => h) (by kernel_rfl) ?_ ?_; rotate_left; · (intro wC hC; obtain ⟨d0, d1, d2, d3, d4, d5, d6, d7⟩ := hC; go_simp <;> with_reducible rfl)
      refine wpC_take 7 (v := ?_) rfl (by kernel_rfl) (fun _ _ _ h => h) (by kernel_rfl) ?_ ?_; rotate_left; · (intro wC hC; obtain ⟨d0, d1, d2, d3, d4, d5, d6, d7⟩ := hC; go_simp <;> with_reducible rfl)
      refine wpC_take 8 (v := ?_) rfl (by kernel_rfl) (fun _ _ _ h => h) (by kernel_rfl) ?_ ?_; rotate_left; · (intro wC hC; obtain ⟨d0, d1, d2, d3, d4, d5, d6, d7⟩ := hC; go_simp <;> with_reducible rfl)
      refine wpC_take 9 (v := ?_) rfl (by kernel_rfl) (fun _ _ _ h => h) (by kernel_rfl) ?_ ?_; rotate_left; · (intro wC hC; obtain ⟨d0, d1, d2, d3, d4, d5, d6, d7⟩ := hC; go_simp <;> with_reducible rfl)
      refine wpC_take 10 (v := ?_) rfl (by kernel_rfl) (fun _ _ _ h => h) (by kernel_rfl) ?_ ?_; rotate_left; · (intro wC hC; obtain ⟨d0, d1, d2, d3, d4, d5, d6, d7⟩ := hC; go_simp <;> with_reducible rfl)
      refine wpC_take 11 (v := ?_) rfl (by kernel_rfl) (fun _ _ _ h => h) (by kernel_rfl) ?_ ?_; rotate_left; · (intro wC hC; obtain ⟨d0, d1, d2, d3, d4, d5, d6, d7⟩ := hC; go_simp <;> with_reducible rfl)
      refine wpC_take 12 (v := ?_) rfl (by kernel_rfl) (fun _ _ _ h => h) (by kernel_rfl) ?_ ?_; rotate_left; · (intro wC hC; obtain ⟨d0, d1, d2, d3, d4, d5, d6, d7⟩ := hC; go_simp <;> with_reducible rfl)
      refine wpC_step 13 rfl (by kernel_rfl) (by kernel_rfl) ⟨xx0, xx1, xx2, xx3, yy0, yy1, yy2, yy3⟩ (fun K hK => ?_)
      go_simp
      try (refine hK _ _ ?_; clear hK K)
      refine wpC_take 14 (v := ?_) rfl (by kernel_rfl) (fun _ _ _ h => h) (by kernel_rfl) ?_ ?_; rotate_left; · (intro wC hC; obtain _ := hC; go_simp <;> with_reducible rfl)
      refine wpC_done (by kernel_rfl) (by simp [go_sem, xx0, xx1, xx2, xx3, yy0, yy1, yy2, yy3]) ?_
      go_wp2
      go_roundw
      case measure => simp [intOf]
      case rel => exact ⟨cdrew (cset HB.out (by omega) _ _), (rowset_other GhX.out (by omega)), (rowset_other GhY.out (by omega)), (rowset_other GhR.out (by omega)), s0, s1, 0, 0, c2, (rowset GhS.out 1 _).trans (by simp only [List.setIfInBounds_toArray, List.set_cons_zero, List.set_cons_succ]), rfl, .inr (.inr (.inl ⟨rfl, rfl, rfl, rfl, rfl, rfl⟩))⟩
    · go_wp2
      refine wpC_region (fun W => W.cell? ⟨w.heap.size, 0, none⟩ = some (.int .u64 x0) ∧ W.cell? ⟨w.heap.size, 1, none⟩ = some (.int .u64 x1) ∧ W.cell? ⟨w.heap.size, 2, none⟩ = some (.int .u64 x2) ∧ W.cell? ⟨w.heap.size, 3, none⟩ = some (.int .u64 x3) ∧ W.cell? ⟨w.heap.size + 1, 0, none⟩ = some (.int .u64 y0) ∧ W.cell? ⟨w.heap.size + 1, 1, none⟩ = some (.int .u64 y1) ∧ W.cell? ⟨w.heap.size + 1, 2, none⟩ = some (.int .u64 y2) ∧ W.cell? ⟨w.heap.size + 1, 3, none⟩ = some (.int .u64 y3)) (by kernel_rfl) ?_
      refine wpC_take 0 (v := ?_) rfl (by kernel_rfl) (fun _ _ _ h => h) (by kernel_rfl) ?_ ?_; rotate_left; · (intro wC hC; obtain ⟨d0, d1, d2, d3, d4, d5, d6, d7⟩ := hC; go_simp <;> with_reducible rfl)
      refine wpC_take 1 (v := ?_) rfl (by kernel_rfl) (fun _ _ _ h => h) (by kernel_rfl) ?_ ?_; rotate_left; · (intro wC hC; obtain ⟨d0, d1, d2, d3, d4, d5, d6, d7⟩ := hC; go_simp <;> with_reducible rfl)
      refine wpC_take 2 (v := ?_) rfl (by kernel_rfl) (fun _ _ _ h => h) (by kernel_rfl) ?_ ?_; rotate_left; · (intro wC hC; obtain ⟨d0, d1, d2, d3, d4, d5, d6, d7⟩ := hC; go_simp <;> with_reducible rfl)
      refine wpC_take 3 (v := ?_) rfl (by kernel_rfl) (fun _ _ _ h => h) (by kernel_rfl) ?_ ?_; rotate_left; · (intro wC hC; obtain ⟨d0, d1, d2, d3, d4, d5, d6, d7⟩ := hC; go_simp <;> with_reducible rfl)
      refine wpC_take 4 (v := ?_) rfl (by kernel_rfl) (fun _ _ _ h => h) (by kernel_rfl) ?_ ?_; rotate_left; · (intro wC hC; obtain ⟨d0, d1, d2, d3, d4, d5, d6, d7⟩ := hC; go_simp <;> with_reducible rfl)
      refine wpC_take 5 (v := ?_) rfl (by kernel_rfl) (fun _ _ _ h => h) (by kernel_rfl) ?_ ?_; rotate_left; · (intro wC hC; obtain ⟨d0, d1, d2, d3, d4, d5, d6, d7⟩ := hC; go_simp <;> with_reducible rfl)
      refine wpC_take 6 (v := ?_) rfl (by kernel_rfl) (fun _ _ _ h => h) (by kernel_rfl) ?_ ?_; rotate_left; · (intro wC hC; obtain ⟨d0, d1, d2, d3, d4, d5, d6, d7⟩ := hC; go_simp <;> with_reducible rfl)
      refine wpC_take 7 (v := ?_) rfl (by kernel_rfl) (fun _ _ _ h => h) (by kernel_rfl) ?_ ?_; rotate_left; · (intro wC hC; obtain ⟨d0, d1, d2, d3, d4, d5, d6, d7⟩ := hC; go_simp <;> with_reducible rfl)
      refine wpC_take 8 (v := ?_) rfl (by kernel_rfl) (fun _ _ _ h => h) (by kernel_rfl) ?_ ?_; rotate_left; · (intro wC hC; obtain ⟨d0, d1, d2, d3, d4, d5, d6, d7⟩ := hC; go_simp <;> with_reducible rfl)
      refine wpC_take 9 (v := ?_) rfl (by kernel_rfl) (fun _ _ _ h => h) (by kernel_rfl) ?_ ?_; rotate_left; · (intro wC hC; obtain ⟨d0, d1, d2, d3, d4, d5, d6, d7⟩ := hC; go_simp <;> with_reducible rfl)
      refine wpC_take 10 (v := ?_) rfl (by kernel_rfl) (fun _ _ _ h => h) (by kernel_rfl) ?_ ?_; rotate_left; · (intro wC hC; obtain ⟨d0, d1, d2, d3, d4, d5, d6, d7⟩ := hC; go_simp <;> with_reducible rfl)
      refine wpC_take 11 (v := ?_) rfl (by kernel_rfl) (fun _ _ _ h => h) (by kernel_rfl) ?_ ?_; rotate_left; · (intro wC hC; obtain ⟨d0, d1, d2, d3, d4, d5, d6, d7⟩ := hC; go_simp <;> with_reducible rfl)
      refine wpC_take 12 (v := ?_) rfl (by kernel_rfl) (fun _ _ _ h => h) (by kernel_rfl) ?_ ?_; rotate_left; · (intro wC hC; obtain ⟨d0, d1, d2, d3, d4, d5, d6, d7⟩ := hC; go_simp <;> with_reducible rfl)
      refine wpC_step 13 rfl (by kernel_rfl) (by kernel_rfl) ⟨xx0, xx1, xx2, xx3, yy0, yy1, yy2, yy3⟩ (fun K hK => ?_)
      go_simp
      try (refine hK _ _ ?_; clear hK K)
      refine wpC_take 14 (v := ?_) rfl (by kernel_rfl) (fun _ _ _ h => h) (by kernel_rfl) ?_ ?_; rotate_left; · (intro wC hC; obtain _ := hC; go_simp <;> with_reducible rfl)
      refine wpC_done (by kernel_rfl) (by simp [go_sem, xx0, xx1, xx2, xx3, yy0, yy1, yy2, yy3]) ?_
      go_wp2
      go_roundw
      case measure => simp [intOf]
      case rel => exact ⟨cdrew (cset HB.out (by omega) _ _), (rowset_other GhX.out (by omega)), (rowset_other GhY.out (by omega)), (rowset_other GhR.out (by omega)), s0, s1, s2, 0, c3, (rowset GhS.out 2 _).trans (by simp only [List.setIfInBounds_toArray, List.set_cons_zero, List.set_cons_succ]), rfl, .inr (.inr (.inr (.inl ⟨rfl, rfl, rfl, rfl, rfl, rfl⟩)))⟩
    · go_wp2
      refine wpC_region (fun W => W.cell? ⟨w.heap.size, 0, none⟩ = some (.int .u64 x0) ∧ W.cell? ⟨w.heap.size, 1, none⟩ = some (.int .u64 x1) ∧ W.cell? ⟨w.heap.size, 2, none⟩ = some (.int .u64 x2) ∧ W.cell? ⟨w.heap.size, 3, none⟩ = some (.int .u64 x3) ∧ W.cell? ⟨w.heap.size + 1, 0, none⟩ = some (.int .u64 y0) ∧ W.cell? ⟨w.heap.size + 1, 1, none⟩ = some (.int .u64 y1) ∧ W.cell? ⟨w.heap.size + 1, 2, none⟩ = some (.int .u64 y2) ∧ W.cell? ⟨w.heap.size + 1, 3, none⟩ = some (.int .u64 y3)) (by kernel_rfl) ?_
      refine wpC_take 0 (v := ?_) rfl (by kernel_rfl) (fun _ _ _ h => h) (by kernel_rfl) ?_ ?_; rotate_left; · (intro wC hC; obtain ⟨d0, d1, d2, d3, d4, d5, d6, d7⟩ := hC; go_simp <;> with_reducible rfl)
      refine wpC_take 1 (v := ?_) rfl (by kernel_rfl) (fun _ _ _ h => h) (by kernel_rfl) ?_ ?_; rotate_left; · (intro wC hC; obtain ⟨d0, d1, d2, d3, d4, d5, d6, d7⟩ := hC; go_simp <;> with_reducible rfl)
      refine wpC_take 2 (v := ?_) rfl (by kernel_rfl) (fun _ _ _ h => h) (by kernel_rfl) ?_ ?_; rotate_left; · (intro wC hC; obtain ⟨d0, d1, d2, d3, d4, d5, d6, d7⟩ := hC; go_simp <;> with_reducible rfl)
      refine wpC_take 3 (v := ?_) rfl (by kernel_rfl) (fun _ _ _ h => h) (by kernel_rfl) ?_ ?_; rotate_left; · (intro wC hC; obtain ⟨d0, d1, d2, d3, d4, d5, d6, d7⟩ := hC; go_simp <;> with_reducible rfl)
      refine wpC_take 4 (v := ?_) rfl (by kernel_rfl) (fun _ _ _ h => h) (by kernel_rfl) ?_ ?_; rotate_left; · (intro wC hC; obtain ⟨d0, d1, d2, d3, d4, d5, d6, d7⟩ := hC; go_simp <;> with_reducible rfl)
      refine wpC_take 5 (v := ?_) rfl (by kernel_rfl) (fun _ _ _ h => h) (by kernel_rfl) ?_ ?_; rotate_left; · (intro wC hC; obtain ⟨d0, d1, d2, d3, d4, d5, d6, d7⟩ := hC; go_simp <;> with_reducible rfl)
      refine wpC_take 6 (v := ?_) rfl (by kernel_rfl) (fun _ _ _ h => h) (by kernel_rfl) ?_ ?_; rotate_left; · (intro wC hC; obtain ⟨d0, d1, d2, d3, d4, d5, d6, d7⟩ := hC; go_simp <;> with_reducible rfl)
      refine wpC_take 7 (v := ?_) rfl (by kernel_rfl) (fun _ _ _ h => h) (by kernel_rfl) ?_ ?_; rotate_left; · (intro wC hC; obtain ⟨d0, d1, d2, d3, d4, d5, d6, d7⟩ := hC; go_simp <;> with_reducible rfl)
      refine wpC_take 8 (v := ?_) rfl (by kernel_rfl) (fun _ _ _ h => h) (by kernel_rfl) ?_ ?_; rotate_left; · (intro wC hC; obtain ⟨d0, d1, d2, d3, d4, d5, d6, d7⟩ := hC; go_simp <;> with_reducible rfl)
      refine wpC_take 9 (v := ?_) rfl (by kernel_rfl) (fun _ _ _ h => h) (by kernel_rfl) ?_ ?_; rotate_left; · (intro wC hC; obtain ⟨d0, d1, d2, d3, d4, d5, d6, d7⟩ := hC; go_simp <;> with_reducible rfl)
      refine wpC_take 10 (v := ?_) rfl (by kernel_rfl) (fun _ _ _ h => h) (by kernel_rfl) ?_ ?_; rotate_left; · (intro wC hC; obtain ⟨d0, d1, d2, d3, d4, d5, d6, d7⟩ := hC; go_simp <;> with_reducible rfl)
      refine wpC_take 11 (v := ?_) rfl (by kernel_rfl) (fun _ _ _ h => h) (by kernel_rfl) ?_ ?_; rotate_left; · (intro wC hC; obtain ⟨d0, d1, d2, d3, d4, d5, d6, d7⟩ := hC; go_simp <;> with_reducible rfl)
      refine wpC_take 12 (v := ?_) rfl (by kernel_rfl) (fun _ _ _ h => h) (by kernel_rfl) ?_ ?_; rotate_left; · (intro wC hC; obtain ⟨d0, d1, d2, d3, d4, d5, d6, d7⟩ := hC; go_simp <;> with_reducible rfl)
      refine wpC_step 13 rfl (by kernel_rfl) (by kernel_rfl) ⟨xx0, xx1, xx2, xx3, yy0, yy1, yy2, yy3⟩ (fun K hK => ?_)
      go_simp
      try (refine hK _ _ ?_; clear hK K)
      refine wpC_take 14 (v := ?_) rfl (by kernel_rfl) (fun _ _ _ h => h) (by kernel_rfl) ?_ ?_; rotate_left; · (intro wC hC; obtain _ := hC; go_simp <;> with_reducible rfl)
      refine wpC_done (by kernel_rfl) (by simp [go_sem, xx0, xx1, xx2, xx3, yy0, yy1, yy2, yy3]) ?_
      go_wp2
      go_roundw
      case measure => simp [intOf]
      case rel => exact ⟨cdrew (cset HB.out (by omega) _ _), (rowset_other GhX.out (by omega)), (rowset_other GhY.out (by omega)), (rowset_other GhR.out (by omega)), s0, s1, s2, s3, c4, (rowset GhS.out 3 _).trans (by simp only [List.setIfInBounds_toArray, List.set_cons_zero, List.set_cons_succ]), rfl, .inr (.inr (.inr (.inr ⟨rfl, rfl, rfl, rfl, rfl⟩)))⟩
    · have zw : w.heap.size + 3 < wr.heap.size := rowlt GhS.out
      go_wp2
      refine bodyPost_ret (v := wdV s0 s1 s2 s3) (by simp [results, Try.results76, go_sem, tt0, tt1, tt2, tt3, bb0, bb1, bb2, bb3, tf, wdV]; done) rfl (hQ.out _ _ ⟨rfl, ?_⟩)
      exact cset4 HB.out (by omega)
set_option maxHeartbeats 4000000 in
theorem sminus_walk (x0 x1 x2 x3 y0 y1 y2 y3 s0 s1 s2 s3 c1 c2 c3 c4 : Nat)
    (r0 : ∀ w, (callFunc 64 #[.int .u64 x0, .int .u64 y0, .int .u64 0]).run Try.prog w = .ok (.value (.tuple #[.int .u64 s0, .int .u64 c1])) w)
    (r1 : ∀ w, (callFunc 64 #[.int .u64 x1, .int .u64 y1, .int .u64 c1]).run Try.prog w = .ok (.value (.tuple #[.int .u64 s1, .int .u64 c2])) w)
    (r2 : ∀ w, (callFunc 64 #[.int .u64 x2, .int .u64 y2, .int .u64 c2]).run Try.prog w = .ok (.value (.tuple #[.int .u64 s2, .int .u64 c3])) w)
    (r3 : ∀ w, (callFunc 64 #[.int .u64 x3, .int .u64 y3, .int .u64 c3]).run Try.prog w = .ok (.value (.tuple #[.int .u64 s3, .int .u64 c4])) w) (w : World) :
    Calls Try.prog 77 #[wdV x0 x1 x2 x3, wdV y0 y1 y2 y3] w fun e w' => e = .returned (wdV s0 s1 s2 s3) ∧ Below w.heap.size w w' := by
  unfold wdV
  have v0 : IntKind.i64.wrap 0 = 0 := rfl
  have v1 : IntKind.i64.wrap 1 = 1 := rfl
  have v2 : IntKind.i64.wrap 2 = 2 := rfl
  have v3 : IntKind.i64.wrap 3 = 3 := rfl
  refine cps fun Q hQ => ?_
  go_enter Try.func77, Try.ntmps77
  go_wp2
  go_loopw [6, 7, 8] (fun cv _ iv wr => Hid (Below w.heap.size w wr) ∧ wr.heap[w.heap.size]? = some (.cells #[.int .u64 x0, .int .u64 x1, .int .u64 x2, .int .u64 x3] 122 (0, 0)) ∧ wr.heap[w.heap.size + 1]? = some (.cells #[.int .u64 y0, .int .u64 y1, .int .u64 y2, .int .u64 y3] 122 (0, 0)) ∧ wr.heap[w.heap.size + 2]? = some (.cells #[.int .u64 0, .int .u64 0, .int .u64 0, .int .u64 0] 122 (0, 0)) ∧ ∃ a0 a1 a2 a3 c : Nat, wr.heap[w.heap.size + 3]? = some (.cells #[.int .u64 a0, .int .u64 a1, .int .u64 a2, .int .u64 a3] 122 (0, 0)) ∧ cv = .int .u64 c ∧ ((iv = .int .i64 0 ∧ 0 = c ∧ 0 = a0 ∧ 0 = a1 ∧ 0 = a2 ∧ 0 = a3) ∨ (iv = .int .i64 1 ∧ c1 = c ∧ s0 = a0 ∧ 0 = a1 ∧ 0 = a2 ∧ 0 = a3) ∨ (iv = .int .i64 2 ∧ c2 = c ∧ s0 = a0 ∧ s1 = a1 ∧ 0 = a2 ∧ 0 = a3) ∨ (iv = .int .i64 3 ∧ c3 = c ∧ s0 = a0 ∧ s1 = a1 ∧ s2 = a2 ∧ 0 = a3) ∨ (iv = .int .i64 4 ∧ s0 = a0 ∧ s1 = a1 ∧ s2 = a2 ∧ s3 = a3))) (fun _ _ iv _ => (4 - intOf iv).toNat)
  case atStart => exact ⟨cmore (cmore (cmore (cmore (Below.refl _ _) _) _) _) _, (Below.heap_alloc _ _ _ (by first | (simp; done) | (simp; omega))).trans ((Below.heap_alloc _ _ _ (by first | (simp; done) | (simp; omega))).trans ((Below.heap_alloc _ _ _ (by first | (simp; done) | (simp; omega))).trans (rownew' _ _ _ _ (by simp)))), (Below.heap_alloc _ _ _ (by first | (simp; done) | (simp; omega))).trans ((Below.heap_alloc _ _ _ (by first | (simp; done) | (simp; omega))).trans (rownew' _ _ _ _ (by simp))), (Below.heap_alloc _ _ _ (by first | (simp; done) | (simp; omega))).trans (rownew' _ _ _ _ (by simp)), 0, 0, 0, 0, 0, rownew' _ _ _ _ (by simp), rfl, .inl ⟨rfl, rfl, rfl, rfl, rfl, rfl⟩⟩
  case round =>
    obtain ⟨hB, hX, hY, hR, a0, a1, a2, a3, c, hS, rfl, hrel⟩ := hrel
    have HB : Hid (Below w.heap.size w wr) := hB.out
    have xx0 := rowcell hX 0
    have xx1 := rowcell hX 1
    have xx2 := rowcell hX 2
    have xx3 := rowcell hX 3
    have yy0 := rowcell hY 0
    have yy1 := rowcell hY 1
    have yy2 := rowcell hY 2
    have yy3 := rowcell hY 3
    have tt0 := rowcell hR 0
    have tt1 := rowcell hR 1
    have tt2 := rowcell hR 2
    have tt3 := rowcell hR 3
    have bb0 := rowcell hS 0
    have bb1 := rowcell hS 1
    have bb2 := rowcell hS 2
    have bb3 := rowcell hS 3
    have tf := rowfree hR
    have sf := rowfree hS
    simp only [List.getElem?_toArray, List.getElem?_cons_zero, List.getElem?_cons_succ] at xx0 xx1 xx2 xx3 yy0 yy1 yy2 yy3 tt0 tt1 tt2 tt3 bb0 bb1 bb2 bb3
    have GhX : Hid _ := hX
    have GhY : Hid _ := hY
    have GhR : Hid _ := hR
    have GhS : Hid _ := hS
    clear hX hY hR hS hB
    rcases hrel with ⟨rfl, rfl, rfl, rfl, rfl, rfl⟩ | ⟨rfl, rfl, rfl, rfl, rfl, rfl⟩ | ⟨rfl, rfl, rfl, rfl, rfl, rfl⟩ | ⟨rfl, rfl, rfl, rfl, rfl, rfl⟩ | ⟨rfl, rfl, rfl, rfl, rfl⟩
    · go_wp2
      refine wpC_region (fun W => W.cell? ⟨w.heap.size, 0, none⟩ = some (.int .u64 x0) ∧ W.cell? ⟨w.heap.size, 1, none⟩ = some (.int .u64 x1) ∧ W.cell? ⟨w.heap.size, 2, none⟩ = some (.int .u64 x2) ∧ W.cell? ⟨w.heap.size, 3, none⟩ = some (.int .u64 x3) ∧ W.cell? ⟨w.heap.size + 1, 0, none⟩ = some (.int .u64 y0) ∧ W.cell? ⟨w.heap.size + 1, 1, none⟩ = some (.int .u64 y1) ∧ W.cell? ⟨w.heap.size + 1, 2, none⟩ = some (.int .u64 y2) ∧ W.cell? ⟨w.heap.size + 1, 3, none⟩ = some (.int .u64 y3)) (by kernel_rfl) ?_
      refine wpC_take 0 (v := ?_) rfl (by kernel_rfl) (fun _ _ _ h => h) (by kernel_rfl) ?_ ?_; rotate_left; · (intro wC hC; obtain ⟨d0, d1, d2, d3, d4, d5, d6, d7⟩ := hC; go_simp <;> with_reducible rfl)
      refine wpC_take 1 (v := ?_) rfl (by kernel_rfl) (fun _ _ _ h => h) (by kernel_rfl) ?_ ?_; rotate_left; · (intro wC hC; obtain ⟨d0, d1, d2, d3, d4, d5, d6, d7⟩ := hC; go_simp <;> with_reducible rfl)
      refine wpC_take 2 (v := ?_) rfl (by kernel_rfl) (fun _ _ _ h => h) (by kernel_rfl) ?_ ?_; rotate_left; · (intro wC hC; obtain ⟨d0, d1, d2, d3, d4, d5, d6, d7⟩ := hC; go_simp <;> with_reducible rfl)
      refine wpC_take 3 (v := ?_) rfl (by kernel_rfl) (fun _ _ _ h => h) (by kernel_rfl) ?_ ?_; rotate_left; · (intro wC hC; obtain ⟨d0, d1, d2, d3, d4, d5, d6, d7⟩ := hC; go_simp <;> with_reducible rfl)
      refine wpC_take 4 (v := ?_) rfl (by kernel_rfl) (fun _ _ _ h => h) (by kernel_rfl) ?_ ?_; rotate_left; · (intro wC hC; obtain ⟨d0, d1, d2, d3, d4, d5, d6, d7⟩ := hC; go_simp <;> with_reducible rfl)
      refine wpC_take 5 (v := ?_) rfl (by kernel_rfl) (fun _ _ _ h => h) (by kernel_rfl) ?_ ?_; rotate_left; · (intro wC hC; obtain ⟨d0, d1, d2, d3, d4, d5, d6, d7⟩ := hC; go_simp <;> with_reducible rfl)
      refine wpC_take 6 (v := ?_) rfl (by kernel_rfl) (fun _ _ _ h => h) (by kernel_rfl) ?_ ?_; rotate_left; · (intro wC hC; obtain ⟨d0, d1, d2, d3, d4, d5, d6, d7⟩ := hC; go_simp <;> with_reducible rfl)
      refine wpC_take 7 (v := ?_) rfl (by kernel_rfl) (fun _ _ _ h => h) (by kernel_rfl) ?_ ?_; rotate_left; · (intro wC hC; obtain ⟨d0, d1, d2, d3, d4, d5, d6, d7⟩ := hC; go_simp <;> with_reducible rfl)
      refine wpC_take 8 (v := ?_) rfl (by kernel_rfl) (fun _ _ _ h => h) (by kernel_rfl) ?_ ?_; rotate_left; · (intro wC hC; obtain ⟨d0, d1, d2, d3, d4, d5, d6, d7⟩ := hC; go_simp <;> with_reducible rfl)
      refine wpC_take 9 (v := ?_) rfl (by kernel_rfl) (fun _ _ _ h => h) (by kernel_rfl) ?_ ?_; rotate_left; · (intro wC hC; obtain ⟨d0, d1, d2, d3, d4, d5, d6, d7⟩ := hC; go_simp <;> with_reducible rfl)
      refine wpC_take 10 (v := ?_) rfl (by kernel_rfl) (fun _ _ _ h => h) (by kernel_rfl) ?_ ?_; rotate_left; · (intro wC hC; obtain ⟨d0, d1, d2, d3, d4, d5, d6, d7⟩ := hC; go_simp <;> with_reducible rfl)
      refine wpC_take 11 (v := ?_) rfl (by kernel_rfl) (fun _ _ _ h => h) (by kernel_rfl) ?_ ?_; rotate_left; · (intro wC hC; obtain ⟨d0, d1, d2, d3, d4, d5, d6, d7⟩ := hC; go_simp <;> with_reducible rfl)
      refine wpC_take 12 (v := ?_) rfl (by kernel_rfl) (fun _ _ _ h => h) (by kernel_rfl) ?_ ?_; rotate_left; · (intro wC hC; obtain ⟨d0, d1, d2, d3, d4, d5, d6, d7⟩ := hC; go_simp <;> with_reducible rfl)
      refine wpC_step 13 rfl (by kernel_rfl) (by kernel_rfl) ⟨xx0, xx1, xx2, xx3, yy0, yy1, yy2, yy3⟩ (fun K hK => ?_)
      go_simp
      try (refine hK _ _ ?_; clear hK K)
      refine wpC_take 14 (v := ?_) rfl (by kernel_rfl) (fun _ _ _ h => h) (by kernel_rfl) ?_ ?_; rotate_left; · (intro wC hC; obtain _ := hC; go_simp <;> with_reducible rfl)
      refine wpC_done (by kernel_rfl) (by simp [go_sem, xx0, xx1, xx2, xx3, yy0, yy1, yy2, yy3]) ?_
      go_wp2
      go_roundw
      case measure => simp [intOf]
      case rel => exact ⟨cdrew (cset HB.out (by omega) _ _), (rowset_other GhX.out (by omega)), (rowset_other GhY.out (by omega)), (rowset_other GhR.out (by omega)), s0, 0, 0, 0, c1, (rowset GhS.out 0 _).trans (by simp only [List.setIfInBounds_toArray, List.set_cons_zero, List.set_cons_succ]), rfl, .inr (.inl ⟨rfl, rfl, rfl, rfl, rfl, rfl⟩)⟩
    · go_wp2
      refine wpC_region (fun W => W.cell? ⟨w.heap.size, 0, none⟩ = some (.int .u64 x0) ∧ W.cell? ⟨w.heap.size, 1, none⟩ = some (.int .u64 x1) ∧ W.cell? ⟨w.heap.size, 2, none⟩ = some (.int .u64 x2) ∧ W.cell? ⟨w.heap.size, 3, none⟩ = some (.int .u64 x3) ∧ W.cell? ⟨w.heap.size + 1, 0, none⟩ = some (.int .u64 y0) ∧ W.cell? ⟨w.heap.size + 1, 1, none⟩ = some (.int .u64 y1) ∧ W.cell? ⟨w.heap.size + 1, 2, none⟩ = some (.int .u64 y2) ∧ W.cell? ⟨w.heap.size + 1, 3, none⟩ = some (.int .u64 y3)) (by kernel_rfl) ?_
      refine wpC_take 0 (v := ?_) rfl (by kernel_rfl) (fun _ _ _ h => h) (by kernel_rfl) ?_ ?_; rotate_left; · (intro wC hC; obtain ⟨d0, d1, d2, d3, d4, d5, d6, d7⟩ := hC; go_simp <;> with_reducible rfl)
      refine wpC_take 1 (v := ?_) rfl (by kernel_rfl) (fun _ _ _ h => h) (by kernel_rfl) ?_ ?_; rotate_left; · (intro wC hC; obtain ⟨d0, d1, d2, d3, d4, d5, d6, d7⟩ := hC; go_simp <;> with_reducible rfl)
      refine wpC_take 2 (v := ?_) rfl (by kernel_rfl) (fun _ _ _ h => h) (by kernel_rfl) ?_ ?_; rotate_left; · (intro wC hC; obtain ⟨d0, d1, d2, d3, d4, d5, d6, d7⟩ := hC; go_simp <;> with_reducible rfl)
      refine wpC_take 3 (v := ?_) rfl (by kernel_rfl) (fun _ _ _ h => h) (by kernel_rfl) ?_ ?_; rotate_left; · (intro wC hC; obtain ⟨d0, d1, d2, d3, d4, d5, d6, d7⟩ := hC; go_simp <;> with_reducible rfl)
      refine wpC_take 4 (v := ?_) rfl (by kernel_rfl) (fun _ _ _ h => h) (by kernel_rfl) ?_ ?_; rotate_left; · (intro wC hC; obtain ⟨d0, d1, d2, d3, d4, d5, d6, d7⟩ := hC; go_simp <;> with_reducible rfl)
      refine wpC_take 5 (v := ?_) rfl (by kernel_rfl) (fun _ _ _ h => h) (by kernel_rfl) ?_ ?_; rotate_left; · (intro wC hC; obtain ⟨d0, d1, d2, d3, d4, d5, d6, d7⟩ := hC; go_simp <;> with_reducible rfl)
      refine wpC_take 6 (v := ?_) rfl (by kernel_rfl) (fun _ _ _ h => h) (by kernel_rfl) ?_ ?_; rotate_left; · (intro wC hC; obtain ⟨d0, d1, d2, d3, d4, d5, d6, d7⟩ := hC; go_simp <;> with_reducible rfl)
      refine wpC_take 7 (v := ?_) rfl (by kernel_rfl) (fun _ _ _ h => h) (by kernel_rfl) ?_ ?_; rotate_left; · (intro wC hC; obtain ⟨d0, d1, d2, d3, d4, d5, d6, d7⟩ := hC; go_simp <;> with_reducible rfl)
      refine wpC_take 8 (v := ?_) rfl (by kernel_rfl) (fun _ _ _ h => h) (by kernel_rfl) ?_ ?_; rotate_left; · (intro wC hC; obtain ⟨d0, d1, d2, d3, d4, d5, d6, d7⟩ := hC; go_simp <;> with_reducible rfl)
      refine wpC_take 9 (v := ?_) rfl (by kernel_rfl) (fun _ _ _ h => h) (by kernel_rfl) ?_ ?_; rotate_left; · (intro wC hC; obtain ⟨d0, d1, d2, d3, d4, d5, d6, d7⟩ := hC; go_simp <;> with_reducible rfl)
      refine wpC_take 10 (v := ?_) rfl (by kernel_rfl) (fun _ _ _ h => h) (by kernel_rfl) ?_ ?_; rotate_left; · (intro wC hC; obtain ⟨d0, d1, d2, d3, d4, d5, d6, d7⟩ := hC; go_simp <;> with_reducible rfl)
      refine wpC_take 11 (v := ?_) rfl (by kernel_rfl) (fun _ _ _ h => h) (by kernel_rfl) ?_ ?_; rotate_left; · (intro wC hC; obtain ⟨d0, d1, d2, d3, d4, d5, d6, d7⟩ := hC; go_simp <;> with_reducible rfl)
      refine wpC_take 12 (v := ?_) rfl (by kernel_rfl) (fun _ _ _ h => h) (by kernel_rfl) ?_ ?_; rotate_left; · (intro wC hC; obtain ⟨d0, d1, d2, d3, d4, d5, d6, d7⟩ := hC; go_simp <;> with_reducible rfl)
      refine wpC_step 13 rfl (by kernel_rfl) (by kernel_rfl) ⟨xx0, xx1, xx2, xx3, yy0, yy1, yy2, yy3⟩ (fun K hK => ?_)
      go_simp
      try (refine hK _ _ ?_; clear hK K)
      refine wpC_take 14 (v := ?_) rfl (by kernel_rfl) (fun _ _ _ h => h) (by kernel_rfl) ?_ ?_; rotate_left; · (intro wC hC; obtain _ := hC; go_simp <;> with_reducible rfl)
      refine wpC_done (by kernel_rfl) (by simp [go_sem, xx0, xx1, xx2, xx3, yy0, yy1, yy2, yy3]) ?_
      go_wp2
      go_roundw
      case measure => simp [intOf]
      case rel => exact ⟨cdrew (cset HB.out (by omega) _ _), (rowset_other GhX.out (by omega)), (rowset_other GhY.out (by omega)), (rowset_other GhR.out (by omega)), s0, s1, 0, 0, c2, (rowset GhS.out 1 _).trans (by simp only [List.setIfInBounds_toArray, List.set_cons_zero, List.set_cons_succ]), rfl, .inr (.inr (.inl ⟨rfl, rfl, rfl, rfl, rfl, rfl⟩))⟩
    · go_wp2
      refine wpC_region (fun W => W.cell? ⟨w.heap.size, 0, none⟩ = some (.int .u64 x0) ∧ W.cell? ⟨w.heap.size, 1, none⟩ = some (.int .u64 x1) ∧ W.cell? ⟨w.heap.size, 2, none⟩ = some (.int .u64 x2) ∧ W.cell? ⟨w.heap.size, 3, none⟩ = some (.int .u64 x3) ∧ W.cell? ⟨w.heap.size + 1, 0, none⟩ = some (.int .u64 y0) ∧ W.cell? ⟨w.heap.size + 1, 1, none⟩ = some (.int .u64 y1) ∧ W.cell? ⟨w.heap.size + 1, 2, none⟩ = some (.int .u64 y2) ∧ W.cell? ⟨w.heap.size + 1, 3, none⟩ = some (.int .u64 y3)) (by kernel_rfl) ?_
      refine wpC_take 0 (v := ?_) rfl (by kernel_rfl) (fun _ _ _ h => h) (by kernel_rfl) ?_ ?_; rotate_left; · (intro wC hC; obtain ⟨d0, d1, d2, d3, d4, d5, d6, d7⟩ := hC; go_simp <;> with_reducible rfl)
      refine wpC_take 1 (v := ?_) rfl (by kernel_rfl) (fun _ _ _ h => h) (by kernel_rfl) ?_ ?_; rotate_left; · (intro wC hC; obtain ⟨d0, d1, d2, d3, d4, d5, d6, d7⟩ := hC; go_simp <;> with_reducible rfl)
      refine wpC_take 2 (v := ?_) rfl (by kernel_rfl) (fun _ _ _ h => h) (by kernel_rfl) ?_ ?_; rotate_left; · (intro wC hC; obtain ⟨d0, d1, d2, d3, d4, d5, d6, d7⟩ := hC; go_simp <;> with_reducible rfl)
      refine wpC_take 3 (v := ?_) rfl (by kernel_rfl) (fun _ _ _ h => h) (by kernel_rfl) ?_ ?_; rotate_left; · (intro wC hC; obtain ⟨d0, d1, d2, d3, d4, d5, d6, d7⟩ := hC; go_simp <;> with_reducible rfl)
      refine wpC_take 4 (v := ?_) rfl (by kernel_rfl) (fun _ _ _ h => h) (by kernel_rfl) ?_ ?_; rotate_left; · (intro wC hC; obtain ⟨d0, d1, d2, d3, d4, d5, d6, d7⟩ := hC; go_simp <;> with_reducible rfl)
      refine wpC_take 5 (v := ?_) rfl (by kernel_rfl) (fun _ _ _ h => h) (by kernel_rfl) ?_ ?_; rotate_left; · (intro wC hC; obtain ⟨d0, d1, d2, d3, d4, d5, d6, d7⟩ := hC; go_simp <;> with_reducible rfl)
      refine wpC_take 6 (v := ?_) rfl (by kernel_rfl) (fun _ _ _ h => h) (by kernel_rfl) ?_ ?_; rotate_left; · (intro wC hC; obtain ⟨d0, d1, d2, d3, d4, d5, d6, d7⟩ := hC; go_simp <;> with_reducible rfl)
      refine wpC_take 7 (v := ?_) rfl (by kernel_rfl) (fun _ _ _ h => h) (by kernel_rfl) ?_ ?_; rotate_left; · (intro wC hC; obtain ⟨d0, d1, d2, d3, d4, d5, d6, d7⟩ := hC; go_simp <;> with_reducible rfl)
      refine wpC_take 8 (v := ?_) rfl (by kernel_rfl) (fun _ _ _ h => h) (by kernel_rfl) ?_ ?_; rotate_left; · (intro wC hC; obtain ⟨d0, d1, d2, d3, d4, d5, d6, d7⟩ := hC; go_simp <;> with_reducible rfl)
      refine wpC_take 9 (v := ?_) rfl (by kernel_rfl) (fun _ _ _ h => h) (by kernel_rfl) ?_ ?_; rotate_left; · (intro wC hC; obtain ⟨d0, d1, d2, d3, d4, d5, d6, d7⟩ := hC; go_simp <;> with_reducible rfl)
      refine wpC_take 10 (v := ?_) rfl (by kernel_rfl) (fun _ _ _ h => h) (by kernel_rfl) ?_ ?_; rotate_left; · (intro wC hC; obtain ⟨d0, d1, d2, d3, d4, d5, d6, d7⟩ := hC; go_simp <;> with_reducible rfl)
      refine wpC_take 11 (v := ?_) rfl (by kernel_rfl) (fun _ _ _ h => h) (by kernel_rfl) ?_ ?_; rotate_left; · (intro wC hC; obtain ⟨d0, d1, d2, d3, d4, d5, d6, d7⟩ := hC; go_simp <;> with_reducible rfl)
      refine wpC_take 12 (v := ?_) rfl (by kernel_rfl) (fun _ _ _ h => h) (by kernel_rfl) ?_ ?_; rotate_left; · (intro wC hC; obtain ⟨d0, d1, d2, d3, d4, d5, d6, d7⟩ := hC; go_simp <;> with_reducible rfl)
      refine wpC_step 13 rfl (by kernel_rfl) (by kernel_rfl) ⟨xx0, xx1, xx2, xx3, yy0, yy1, yy2, yy3⟩ (fun K hK => ?_)
      go_simp
      try (refine hK _ _ ?_; clear hK K)
      refine wpC_take 14 (v := ?_) rfl (by kernel_rfl) (fun _ _ _ h => h) (by kernel_rfl) ?_ ?_; rotate_left; · (intro wC hC; obtain _ := hC; go_simp <;> with_reducible rfl)
      refine wpC_done (by kernel_rfl) (by simp [go_sem, xx0, xx1, xx2, xx3, yy0, yy1, yy2, yy3]) ?_
      go_wp2
      go_roundw
      case measure => simp [intOf]
      case rel => exact ⟨cdrew (cset HB.out (by omega) _ _), (rowset_other GhX.out (by omega)), (rowset_other GhY.out (by omega)), (rowset_other GhR.out (by omega)), s0, s1, s2, 0, c3, (rowset GhS.out 2 _).trans (by simp only [List.setIfInBounds_toArray, List.set_cons_zero, List.set_cons_succ]), rfl, .inr (.inr (.inr (.inl ⟨rfl, rfl, rfl, rfl, rfl, rfl⟩)))⟩
    · go_wp2
      refine wpC_region (fun W => W.cell? ⟨w.heap.size, 0, none⟩ = some (.int .u64 x0) ∧ W.cell? ⟨w.heap.size, 1, none⟩ = some (.int .u64 x1) ∧ W.cell? ⟨w.heap.size, 2, none⟩ = some (.int .u64 x2) ∧ W.cell? ⟨w.heap.size, 3, none⟩ = some (.int .u64 x3) ∧ W.cell? ⟨w.heap.size + 1, 0, none⟩ = some (.int .u64 y0) ∧ W.cell? ⟨w.heap.size + 1, 1, none⟩ = some (.int .u64 y1) ∧ W.cell? ⟨w.heap.size + 1, 2, none⟩ = some (.int .u64 y2) ∧ W.cell? ⟨w.heap.size + 1, 3, none⟩ = some (.int .u64 y3)) (by kernel_rfl) ?_
      refine wpC_take 0 (v := ?_) rfl (by kernel_rfl) (fun _ _ _ h => h) (by kernel_rfl) ?_ ?_; rotate_left; · (intro wC hC; obtain ⟨d0, d1, d2, d3, d4, d5, d6, d7⟩ := hC; go_simp <;> with_reducible rfl)
      refine wpC_take 1 (v := ?_) rfl (by kernel_rfl) (fun _ _ _ h => h) (by kernel_rfl) ?_ ?_; rotate_left; · (intro wC hC; obtain ⟨d0, d1, d2, d3, d4, d5, d6, d7⟩ := hC; go_simp <;> with_reducible rfl)
      refine wpC_take 2 (v := ?_) rfl (by kernel_rfl) (fun _ _ _ h => h) (by kernel_rfl) ?_ ?_; rotate_left; · (intro wC hC; obtain ⟨d0, d1, d2, d3, d4, d5, d6, d7⟩ := hC; go_simp <;> with_reducible rfl)
      refine wpC_take 3 (v := ?_) rfl (by kernel_rfl) (fun _ _ _ h => h) (by kernel_rfl) ?_ ?_; rotate_left; · (intro wC hC; obtain ⟨d0, d1, d2, d3, d4, d5, d6, d7⟩ := hC; go_simp <;> with_reducible rfl)
      refine wpC_take 4 (v := ?_) rfl (by kernel_rfl) (fun _ _ _ h => h) (by kernel_rfl) ?_ ?_; rotate_left; · (intro wC hC; obtain ⟨d0, d1, d2, d3, d4, d5, d6, d7⟩ := hC; go_simp <;> with_reducible rfl)
      refine wpC_take 5 (v := ?_) rfl (by kernel_rfl) (fun _ _ _ h => h) (by kernel_rfl) ?_ ?_; rotate_left; · (intro wC hC; obtain ⟨d0, d1, d2, d3, d4, d5, d6, d7⟩ := hC; go_simp <;> with_reducible rfl)
      refine wpC_take 6 (v := ?_) rfl (by kernel_rfl) (fun _ _ _ h => h) (by kernel_rfl) ?_ ?_; rotate_left; · (intro wC hC; obtain ⟨d0, d1, d2, d3, d4, d5, d6, d7⟩ := hC; go_simp <;> with_reducible rfl)
      refine wpC_take 7 (v := ?_) rfl (by kernel_rfl) (fun _ _ _ h => h) (by kernel_rfl) ?_ ?_; rotate_left; · (intro wC hC; obtain ⟨d0, d1, d2, d3, d4, d5, d6, d7⟩ := hC; go_simp <;> with_reducible rfl)
      refine wpC_take 8 (v := ?_) rfl (by kernel_rfl) (fun _ _ _ h => h) (by kernel_rfl) ?_ ?_; rotate_left; · (intro wC hC; obtain ⟨d0, d1, d2, d3, d4, d5, d6, d7⟩ := hC; go_simp <;> with_reducible rfl)
      refine wpC_take 9 (v := ?_) rfl (by kernel_rfl) (fun _ _ _ h => h) (by kernel_rfl) ?_ ?_; rotate_left; · (intro wC hC; obtain ⟨d0, d1, d2, d3, d4, d5, d6, d7⟩ := hC; go_simp <;> with_reducible rfl)
      refine wpC_take 10 (v := ?_) rfl (by kernel_rfl) (fun _ _ _ h => h) (by kernel_rfl) ?_ ?_; rotate_left; · (intro wC hC; obtain ⟨d0, d1, d2, d3, d4, d5, d6, d7⟩ := hC; go_simp <;> with_reducible rfl)
      refine wpC_take 11 (v := ?_) rfl (by kernel_rfl) (fun _ _ _ h => h) (by kernel_rfl) ?_ ?_; rotate_left; · (intro wC hC; obtain ⟨d0, d1, d2, d3, d4, d5, d6, d7⟩ := hC; go_simp <;> with_reducible rfl)
      refine wpC_take 12 (v := ?_) rfl (by kernel_rfl) (fun _ _ _ h => h) (by kernel_rfl) ?_ ?_; rotate_left; · (intro wC hC; obtain ⟨d0, d1, d2, d3, d4, d5, d6, d7⟩ := hC; go_simp <;> with_reducible rfl)
      refine wpC_step 13 rfl (by kernel_rfl) (by kernel_rfl) ⟨xx0, xx1, xx2, xx3, yy0, yy1, yy2, yy3⟩ (fun K hK => ?_)
      go_simp
      try (refine hK _ _ ?_; clear hK K)
      refine wpC_take 14 (v := ?_) rfl (by kernel_rfl) (fun _ _ _ h => h) (by kernel_rfl) ?_ ?_; rotate_left; · (intro wC hC; obtain _ := hC; go_simp <;> with_reducible rfl)
      refine wpC_done (by kernel_rfl) (by simp [go_sem, xx0, xx1, xx2, xx3, yy0, yy1, yy2, yy3]) ?_
      go_wp2
      go_roundw
      case measure => simp [intOf]
      case rel => exact ⟨cdrew (cset HB.out (by omega) _ _), (rowset_other GhX.out (by omega)), (rowset_other GhY.out (by omega)), (rowset_other GhR.out (by omega)), s0, s1, s2, s3, c4, (rowset GhS.out 3 _).trans (by simp only [List.setIfInBounds_toArray, List.set_cons_zero, List.set_cons_succ]), rfl, .inr (.inr (.inr (.inr ⟨rfl, rfl, rfl, rfl, rfl⟩)))⟩
    · have zw : w.heap.size + 3 < wr.heap.size := rowlt GhS.out
      go_wp2
      refine bodyPost_ret (v := wdV s0 s1 s2 s3) (by simp [results, Try.results77, go_sem, tt0, tt1, tt2, tt3, bb0, bb1, bb2, bb3, tf, wdV]; done) rfl (hQ.out _ _ ⟨rfl, ?_⟩)
      exact cset4 HB.out (by omega)
end Go.Proofs.Ytheliihkkoohnab

namespace Go.Proofs.Ytheliihkkoohnab
open Go.ChangeShapes Go.WideShapes Go.ChangeAt Go.RowKit
set_option linter.unusedVariables false
set_option linter.unusedSimpArgs false
set_option maxRecDepth 100000

/-! ### numbers of four words (plain mathematics) -/
structure Qw (n a b c d : Nat) : Prop where
  eq : n = a + b * 18446744073709551616 + c * 340282366920938463463374607431768211456 + d * 6277101735386680763835789423207666416102355444464034512896
  h0 : a ≤ 18446744073709551615
  h1 : b ≤ 18446744073709551615
  h2 : c ≤ 18446744073709551615
  h3 : d ≤ 18446744073709551615
theorem Qw.one {n a b c d a' b' c' d' : Nat} (h : Qw n a b c d) (g : Qw n a' b' c' d') : a = a' ∧ b = b' ∧ c = c' ∧ d = d' := by
  obtain ⟨e, h0, h1, h2, h3⟩ := h
  obtain ⟨e', g0, g1, g2, g3⟩ := g
  omega
theorem qw_of {n : Nat} (h : n < 115792089237316195423570985008687907853269984665640564039457584007913129639936) :
    Qw n (n % 18446744073709551616) (n / 18446744073709551616 % 18446744073709551616) (n / 340282366920938463463374607431768211456 % 18446744073709551616) (n / 6277101735386680763835789423207666416102355444464034512896) := by
  refine ⟨by omega, by omega, by omega, by omega, by omega⟩
theorem Qw.lt {n a b c d : Nat} (h : Qw n a b c d) : n < 115792089237316195423570985008687907853269984665640564039457584007913129639936 := by
  obtain ⟨e, h0, h1, h2, h3⟩ := h
  omega
/-- a word shifted up, and what goes over -/
theorem word_up (x few G : Nat) (h : few + G = 64) : x * 2 ^ few = (x / 2 ^ G) * 18446744073709551616 + x * 2 ^ few % 18446744073709551616 := by
  have e : 18446744073709551616 = 2 ^ G * 2 ^ few := by rw [← Nat.pow_add, Nat.add_comm, h]
  have hp : 0 < 2 ^ few := Nat.pow_pos (by decide)
  have := Nat.div_add_mod (x * 2 ^ few) 18446744073709551616
  rw [show x * 2 ^ few / 18446744073709551616 = x / 2 ^ G by rw [e, Nat.mul_div_mul_right _ _ hp]] at this
  omega
theorem word_join (x y few G : Nat) (h : few + G = 64) (hy : y ≤ 18446744073709551615) :
    (x * 2 ^ few % 18446744073709551616) ||| (y / 2 ^ G) = x * 2 ^ few % 18446744073709551616 + y / 2 ^ G ∧ x * 2 ^ few % 18446744073709551616 + y / 2 ^ G ≤ 18446744073709551615 := by
  have e : 18446744073709551616 = 2 ^ G * 2 ^ few := by rw [← Nat.pow_add, Nat.add_comm, h]
  have hp : 0 < 2 ^ few := Nat.pow_pos (by decide)
  have hg : 0 < 2 ^ G := Nat.pow_pos (by decide)
  have h1 : y / 2 ^ G < 2 ^ few := Nat.div_lt_of_lt_mul (by rw [← e]; omega)
  have h2 : x * 2 ^ few % 18446744073709551616 = (x % 2 ^ G) * 2 ^ few := by rw [e, Nat.mul_mod_mul_right]
  rw [h2]
  refine ⟨by rw [← Nat.shiftLeft_eq, ← Nat.shiftLeft_add_eq_or_of_lt h1], ?_⟩
  have h3 := Nat.mod_lt x hg
  have h4 : (x % 2 ^ G + 1) * 2 ^ few ≤ 2 ^ G * 2 ^ few := Nat.mul_le_mul h3 (Nat.le_refl _)
  rw [Nat.add_mul, Nat.one_mul, ← e] at h4
  omega
/-- four words shifted up together -/
theorem qw_up {n p q r s : Nat} (few G : Nat) (h : few + G = 64) (hq : Qw n p q r s) (ht : s * 2 ^ few ≤ 18446744073709551615) :
    Qw (n * 2 ^ few) (p * 2 ^ few % 18446744073709551616) ((q * 2 ^ few % 18446744073709551616) ||| (p / 2 ^ G)) ((r * 2 ^ few % 18446744073709551616) ||| (q / 2 ^ G)) ((s * 2 ^ few % 18446744073709551616) ||| (r / 2 ^ G)) := by
  obtain ⟨e, h0, h1, h2, h3⟩ := hq
  obtain ⟨j1, k1⟩ := word_join q p few G h h0
  obtain ⟨j2, k2⟩ := word_join r q few G h h1
  obtain ⟨j3, k3⟩ := word_join s r few G h h2
  rw [j1, j2, j3]
  have u0 := word_up p few G h
  have u1 := word_up q few G h
  have u2 := word_up r few G h
  have u3 := Nat.mod_eq_of_lt (show s * 2 ^ few < 18446744073709551616 by omega)
  have en : n * 2 ^ few = p * 2 ^ few + q * 2 ^ few * 18446744073709551616 + r * 2 ^ few * 340282366920938463463374607431768211456 + s * 2 ^ few * 6277101735386680763835789423207666416102355444464034512896 := by
    rw [e, Nat.add_mul, Nat.add_mul, Nat.add_mul, Nat.mul_right_comm q, Nat.mul_right_comm r, Nat.mul_right_comm s]
  have m0 := Nat.mod_lt (p * 2 ^ few) (show 0 < 18446744073709551616 by decide)
  rw [u3] at k3 ⊢
  rw [en]
  generalize p * 2 ^ few = P at *
  generalize q * 2 ^ few = Q at *
  generalize r * 2 ^ few = R at *
  generalize s * 2 ^ few = S at *
  generalize p / 2 ^ G = p1 at *
  generalize q / 2 ^ G = q1 at *
  generalize r / 2 ^ G = r1 at *
  generalize P % 18446744073709551616 = P0 at *
  generalize Q % 18446744073709551616 = Q0 at *
  generalize R % 18446744073709551616 = R0 at *
  clear j1 j2 j3 u3 e en
  refine ⟨by omega, by omega, by omega, by omega, by omega⟩
theorem mlz_any (x : Nat) (hx : x ≤ 18446744073709551615) (w : World) :
    Calls Try.prog 56 #[.int .u64 x] w fun e w' => e = .returned (.int .i64 (64 - (blen x : Int))) ∧ w' = w := by
  have hl : blen x ≤ 64 := blen_le.2 (by omega)
  have k1 := fun w => len64_any x (by omega) w
  rw [bitLen_eq x hx] at k1
  generalize blen x = L at *
  refine cps fun Q hQ => ?_
  go_enter Try.func56, Try.ntmps56
  go_wp2_with (go_at_call 79; refine (k1 _).mono ?_; rintro e w' ⟨rfl, rfl⟩)
  exact hQ.out _ _ ⟨rfl, rfl⟩
/-- what the last steps reckon -/
theorem risen_facts {n p q r s : Nat} (h : Qw n p q r s) (hs : s ≠ 0) :
    ∃ few G A0 A1 A2 A3 B1 B2 B3 n0 n1 n2 n3 : Nat, few + G = 64 ∧ few ≤ 63 ∧ (64 : Int) - (blen s : Int) = (few : Int) ∧ blen n + few = 256 ∧ Qw (n * 2 ^ few) n0 n1 n2 n3 ∧
      IntKind.u64.wrap ((p : Int) * 2 ^ few) = (n0 : Int) ∧ IntKind.u64.wrap ((q : Int) * 2 ^ few) = (A1 : Int) ∧ IntKind.u64.wrap ((r : Int) * 2 ^ few) = (A2 : Int) ∧ IntKind.u64.wrap ((s : Int) * 2 ^ few) = (A3 : Int) ∧
      (p : Int) / 2 ^ G = (B1 : Int) ∧ (q : Int) / 2 ^ G = (B2 : Int) ∧ (r : Int) / 2 ^ G = (B3 : Int) ∧
      bits BinOp.or IntKind.u64 (A1 : Int) (B1 : Int) = (n1 : Int) ∧ bits BinOp.or IntKind.u64 (A2 : Int) (B2 : Int) = (n2 : Int) ∧ bits BinOp.or IntKind.u64 (A3 : Int) (B3 : Int) = (n3 : Int) := by
  have hb : 1 ≤ blen s := by rw [blen_pos hs]; omega
  have hb2 : blen s ≤ 64 := blen_le.2 (by have := h.h3; omega)
  obtain ⟨few, hf⟩ : ∃ few, few + blen s = 64 := ⟨64 - blen s, by omega⟩
  have h1 : s < 2 ^ blen s := blen_le.1 (Nat.le_refl _)
  have hp : 0 < 2 ^ few := Nat.pow_pos (by decide)
  have ht : s * 2 ^ few ≤ 18446744073709551615 := by
    have a : s * 2 ^ few < 2 ^ blen s * 2 ^ few := (Nat.mul_lt_mul_right hp).2 h1
    rw [← Nat.pow_add, Nat.add_comm, hf] at a
    omega
  have hw : ∀ x : Nat, IntKind.u64.wrap ((x : Int) * 2 ^ few) = ((x * 2 ^ few % 18446744073709551616 : Nat) : Int) := fun x => by
    have e : ((x : Int) * 2 ^ few) = ((x * 2 ^ few : Nat) : Int) := by simp
    rw [e, wrapN]
  have hd : ∀ x : Nat, (x : Int) / 2 ^ (64 - few) = ((x / 2 ^ (64 - few) : Nat) : Int) := fun x => by simp
  have hor : ∀ x y : Nat, y ≤ 18446744073709551615 → bits BinOp.or IntKind.u64 ((x * 2 ^ few % 18446744073709551616 : Nat) : Int) ((y / 2 ^ (64 - few) : Nat) : Int) = (((x * 2 ^ few % 18446744073709551616) ||| (y / 2 ^ (64 - few)) : Nat) : Int) := fun x y hy =>
    u64_or_nat _ _ (by have := Nat.mod_lt (x * 2 ^ few) (show 0 < 18446744073709551616 by decide); omega) (by have := Nat.div_le_self y (2 ^ (64 - few)); omega)
  have hbl : blen n + few = 256 := by
    have e : n / 2 ^ 192 = s := by
      obtain ⟨e, a0, a1, a2, a3⟩ := h
      rw [show (2 : Nat) ^ 192 = 6277101735386680763835789423207666416102355444464034512896 by decide]
      omega
    have := @blen_shift n 192 (by rw [e]; exact hs)
    rw [e] at this
    omega
  exact ⟨few, 64 - few, 0, _, _, _, _, _, _, _, _, _, _, by omega, by omega, by omega, hbl, qw_up few (64 - few) (by omega) h ht, hw p, hw q, hw r, hw s, hd p, hd q, hd r, hor q p h.h0, hor r q h.h1, hor s r h.h2⟩
end Go.Proofs.Ytheliihkkoohnab

namespace Go.Proofs.Ytheliihkkoohnab
open Go.ChangeShapes Go.WideShapes Go.ChangeAt Go.RowKit
set_option linter.unusedVariables false
set_option linter.unusedSimpArgs false
set_option maxRecDepth 100000

/-! ### a number shifted up till its highest bit is 1 -/
theorem row4_other {w : World} {m g : Nat} {c : Array Value} {v0 v1 v2 v3 : Value} {t : TypeId} (h : w.heap[m]? = some (.cells c t (0, 0))) (hne : m ≠ g) :
    ((((w.setCell ⟨g, 0, none⟩ v0).setCell ⟨g, 1, none⟩ v1).setCell ⟨g, 2, none⟩ v2).setCell ⟨g, 3, none⟩ v3).heap[m]? = some (.cells c t (0, 0)) := by
  rw [heap_setCell_other _ _ m _ hne, heap_setCell_other _ _ m _ hne, heap_setCell_other _ _ m _ hne, heap_setCell_other _ _ m _ hne]
  exact h
set_option maxHeartbeats 8000000 in
theorem srisen_any {n a b c d a' b' c' d' k : Nat} (h : Qw n a b c d) (hn : n ≠ 0) (hk : k + blen n = 256) (h' : Qw (n * 2 ^ k) a' b' c' d') (w : World) :
    Calls Try.prog 78 #[wdV a b c d] w fun e w' => e = .returned (.tuple #[wdV a' b' c' d', .int .i64 k]) ∧ Below w.heap.size w w' := by
  unfold wdV
  have HN : Hid (n ≠ 0 ∧ k + blen n = 256 ∧ Qw (n * 2 ^ k) a' b' c' d') := ⟨hn, hk, h'⟩
  have HW : Hid (Qw n a b c d) := h
  have v0 : IntKind.i64.wrap 0 = 0 := rfl
  have v1 : IntKind.i64.wrap 1 = 1 := rfl
  have v2 : IntKind.i64.wrap 2 = 2 := rfl
  have v3 : IntKind.i64.wrap 3 = 3 := rfl
  clear h hn hk h'
  refine cps fun Q hQ => ?_
  go_enter Try.func78, Try.ntmps78
  go_wp2
  go_loopw [4] (fun kv wr => Hid (Below w.heap.size w wr) ∧ wr.heap[w.heap.size + 1]? = some (.cells #[.int .u64 0, .int .u64 0, .int .u64 0, .int .u64 0] 122 (0, 0)) ∧
    ∃ p q r s j : Nat, wr.heap[w.heap.size]? = some (.cells #[.int .u64 p, .int .u64 q, .int .u64 r, .int .u64 s] 122 (0, 0)) ∧ kv = .int .i64 j ∧ j ≤ 255 ∧ Hid (Qw (n * 2 ^ j) p q r s)) (fun kv _ => (256 - intOf kv).toNat)
  case atStart => exact ⟨cmore (cmore (Below.refl _ _) _) _, rownew' _ _ _ _ (by simp), a, b, c, d, 0, (Below.heap_alloc _ _ _ (by first | (simp; done) | (simp; omega))).trans (rownew' _ _ _ _ (by simp)), rfl, Nat.zero_le _, by rw [Nat.pow_zero, Nat.mul_one]; exact HW.out⟩
  case round =>
    obtain ⟨hB, hR, p, q, r, s, j, hX, rfl, hj, hq⟩ := hrel
    have HB : Hid (Below w.heap.size w wr) := hB.out
    have xx0 := rowcell hX 0
    have xx1 := rowcell hX 1
    have xx2 := rowcell hX 2
    have xx3 := rowcell hX 3
    have xf := rowfree hX
    have tt0 := rowcell hR 0
    have tt1 := rowcell hR 1
    have tt2 := rowcell hR 2
    have tt3 := rowcell hR 3
    have tf := rowfree hR
    simp only [List.getElem?_toArray, List.getElem?_cons_zero, List.getElem?_cons_succ] at xx0 xx1 xx2 xx3 tt0 tt1 tt2 tt3
    have GX : Hid _ := hX
    have GR : Hid _ := hR
    clear hX hR hB
    by_cases h0 : s = 0
    · subst h0
      have hj2 : j ≤ 191 := by
        obtain ⟨e, a0, a1, a2, a3⟩ := hq.out
        have h1 : n * 2 ^ j < 2 ^ 192 := by rw [show (2 : Nat) ^ 192 = 6277101735386680763835789423207666416102355444464034512896 by decide]; omega
        have h2 : 2 ^ j ≤ n * 2 ^ j := Nat.le_mul_of_pos_left _ (Nat.pos_of_ne_zero HN.out.1)
        have h3 : j < 192 := (Nat.pow_lt_pow_iff_right (by decide : 1 < 2)).1 (Nat.lt_of_le_of_lt h2 h1)
        omega
      have hnew : Qw (n * 2 ^ (j + 64)) 0 p q r := by
        obtain ⟨e, a0, a1, a2, a3⟩ := hq.out
        refine ⟨?_, by omega, by omega, by omega, by omega⟩
        rw [Nat.pow_add, ← Nat.mul_assoc, e, show (2 : Nat) ^ 64 = 18446744073709551616 by decide]
        omega
      have HNew : Hid (Qw (n * 2 ^ (j + 64)) 0 p q r) := hnew
      clear hnew
      go_wp2
      go_roundw
      case measure => simp [intOf]; omega
      case rel => exact ⟨cset4 HB.out (Nat.le_refl _), row4_other GR.out (by omega), 0, p, q, r, j + 64, row4 GX.out, by go_num, by omega, HNew.out⟩
    · obtain ⟨few, G, A0, A1, A2, A3, B1, B2, B3, n0, n1, n2, n3, f1, f2, f3, f4, f5, e0, e1, e2, e3, g1, g2, g3, o1, o2, o3⟩ := risen_facts hq.out h0
      have hs0 : ((s : Int) == 0) = false := beq_eq_false_iff_ne.2 (by omega)
      have k1 := mlz_any s hq.out.h3
      rw [f3] at k1
      have fG : IntKind.i64.wrap (64 - (few : Int)) = (G : Int) := by rw [wrapI (by omega)]; omega
      have mf : min few 64 = few := by omega
      have mg : min G 64 = G := by omega
      rw [← mf] at e0 e1 e2 e3
      rw [← mg] at g1 g2 g3
      clear mf mg
      have fg0 : (0 : Int) ≤ (few : Int) := Int.natCast_nonneg _
      have fg1 : (0 : Int) ≤ (G : Int) := Int.natCast_nonneg _
      have HF : Hid (few + G = 64 ∧ few ≤ 63 ∧ blen (n * 2 ^ j) + few = 256 ∧ Qw (n * 2 ^ j * 2 ^ few) n0 n1 n2 n3) := ⟨f1, f2, f4, f5⟩
      have hsum : IntKind.i64.wrap ((j : Int) + (few : Int)) = ((j + few : Nat) : Int) := by rw [wrapI (by omega)]; omega
      clear f1 f2 f3 f4 f5 h0
      go_wp2_with (go_at_call 56; go_must (refine (k1 _).mono ?_); rintro e w' ⟨rfl, hw'⟩; rw [hw']; clear hw' w')
      obtain ⟨wo, hwo⟩ : ∃ wo : World, wo = wr := ⟨_, rfl⟩
      rw [← hwo] at HB GR
      have hB2 : Hid (Below w.heap.size wo wr) := by show Below _ _ _; rw [hwo]; exact Below.refl _ _
      have hR2 : Hid (wr.heap[w.heap.size + 1]? = some (.cells #[.int .u64 0, .int .u64 0, .int .u64 0, .int .u64 0] 122 (0, 0))) := by show _ = _; rw [← hwo]; exact GR.out
      have hX2 := GX.out
      have HJ : Hid (Qw (n * 2 ^ j) p q r s) := hq.out
      have zo : w.heap.size < wo.heap.size := by have := rowlt GR.out; omega
      clear GX xx0 xx1 xx2 xx3 tt0 tt1 tt2 tt3 xf tf hq hwo
      go_loopw [6] (fun iv wr => Hid (Below w.heap.size wo wr) ∧ ∃ y0 y1 y2 y3 : Nat, wr.heap[w.heap.size]? = some (.cells #[.int .u64 y0, .int .u64 y1, .int .u64 y2, .int .u64 y3] 122 (0, 0)) ∧ wr.heap[w.heap.size + 1]? = some (.cells #[.int .u64 0, .int .u64 0, .int .u64 0, .int .u64 0] 122 (0, 0)) ∧ ((iv = .int .i64 3 ∧ p = y0 ∧ q = y1 ∧ r = y2 ∧ s = y3) ∨ (iv = .int .i64 2 ∧ p = y0 ∧ q = y1 ∧ r = y2 ∧ n3 = y3) ∨ (iv = .int .i64 1 ∧ p = y0 ∧ q = y1 ∧ n2 = y2 ∧ n3 = y3) ∨ (iv = .int .i64 0 ∧ p = y0 ∧ n1 = y1 ∧ n2 = y2 ∧ n3 = y3))) (fun iv _ => (intOf iv).toNat)
      case atStart => exact ⟨hB2.out, p, q, r, s, hX2, hR2.out, .inl ⟨rfl, rfl, rfl, rfl, rfl⟩⟩
      case round =>
        obtain ⟨hB3, y0, y1, y2, y3, hX3, hR3, hrel⟩ := hrel
        have HB3 : Hid (Below w.heap.size wo wr) := hB3.out
        have xx0 := rowcell hX3 0
        have xx1 := rowcell hX3 1
        have xx2 := rowcell hX3 2
        have xx3 := rowcell hX3 3
        have tt0 := rowcell hR3 0
        have tt1 := rowcell hR3 1
        have tt2 := rowcell hR3 2
        have tt3 := rowcell hR3 3
        have xf := rowfree hX3
        have tf := rowfree hR3
        simp only [List.getElem?_toArray, List.getElem?_cons_zero, List.getElem?_cons_succ] at xx0 xx1 xx2 xx3 tt0 tt1 tt2 tt3
        have GX3 : Hid _ := hX3
        have GR3 : Hid _ := hR3
        clear hX3 hR3 hB3 hX2
        rcases hrel with ⟨rfl, rfl, rfl, rfl, rfl⟩ | ⟨rfl, rfl, rfl, rfl, rfl⟩ | ⟨rfl, rfl, rfl, rfl, rfl⟩ | ⟨rfl, rfl, rfl, rfl, rfl⟩
        · go_wp2
          refine wpC_region (fun W => W.cell? ⟨w.heap.size, 2, none⟩ = some (.int .u64 r)) (by kernel_rfl) ?_
          refine wpC_take 0 (v := ?_) rfl (by kernel_rfl) (fun _ _ _ h => h) (by kernel_rfl) ?_ ?_; rotate_left; · (intro wC hC; obtain d0 := hC; go_simp <;> with_reducible rfl)
          refine wpC_take 1 (v := ?_) rfl (by kernel_rfl) (fun _ _ _ h => h) (by kernel_rfl) ?_ ?_; rotate_left; · (intro wC hC; obtain d0 := hC; go_simp <;> with_reducible rfl)
          refine wpC_take 2 (v := ?_) rfl (by kernel_rfl) (fun _ _ _ h => h) (by kernel_rfl) ?_ ?_; rotate_left; · (intro wC hC; obtain d0 := hC; go_simp <;> with_reducible rfl)
          refine wpC_take 4 (v := ?_) rfl (by kernel_rfl) (fun _ _ _ h => h) (by kernel_rfl) ?_ ?_; rotate_left; · (intro wC hC; obtain d0 := hC; go_simp <;> with_reducible rfl)
          refine wpC_take 6 (v := ?_) rfl (by kernel_rfl) (fun _ _ _ h => h) (by kernel_rfl) ?_ ?_; rotate_left; · (intro wC hC; obtain d0 := hC; go_simp <;> with_reducible rfl)
          refine wpC_take 7 (v := ?_) rfl (by kernel_rfl) (fun _ _ _ h => h) (by kernel_rfl) ?_ ?_; rotate_left; · (intro wC hC; obtain d0 := hC; go_simp <;> with_reducible rfl)
          refine wpC_take 8 (v := ?_) rfl (by kernel_rfl) (fun _ _ _ h => h) (by kernel_rfl) ?_ ?_; rotate_left; · (intro wC hC; obtain d0 := hC; go_simp <;> with_reducible rfl)
          refine wpC_take 9 (v := ?_) rfl (by kernel_rfl) (fun _ _ _ h => h) (by kernel_rfl) ?_ ?_; rotate_left; · (intro wC hC; obtain d0 := hC; go_simp <;> with_reducible rfl)
          refine wpC_take 10 (v := ?_) rfl (by kernel_rfl) (fun _ _ _ h => h) (by kernel_rfl) ?_ ?_; rotate_left; · (intro wC hC; obtain d0 := hC; go_simp <;> with_reducible rfl)
          refine wpC_take 11 (v := ?_) rfl (by kernel_rfl) (fun _ _ _ h => h) (by kernel_rfl) ?_ ?_; rotate_left; · (intro wC hC; obtain d0 := hC; go_simp <;> with_reducible rfl)
          refine wpC_take 12 (v := ?_) rfl (by kernel_rfl) (fun _ _ _ h => h) (by kernel_rfl) ?_ ?_; rotate_left; · (intro wC hC; obtain d0 := hC; go_simp <;> with_reducible rfl)
          refine wpC_step 3 rfl (by kernel_rfl) (by kernel_rfl) xx2 (fun K hK => ?_)
          go_simp
          try (refine hK _ _ ?_; clear hK K)
          refine wpC_take 5 (v := ?_) rfl (by kernel_rfl) (fun _ _ _ h => h) (by kernel_rfl) ?_ ?_; rotate_left; · (intro wC hC; obtain d0 := hC; go_simp <;> with_reducible rfl)
          refine wpC_take 13 (v := ?_) rfl (by kernel_rfl) (fun _ _ _ h => h) (by kernel_rfl) ?_ ?_; rotate_left; · (intro wC hC; obtain d0 := hC; go_simp <;> with_reducible rfl)
          refine wpC_take 14 (v := ?_) rfl (by kernel_rfl) (fun _ _ _ h => h) (by kernel_rfl) ?_ ?_; rotate_left; · (intro wC hC; obtain d0 := hC; go_simp <;> with_reducible rfl)
          refine wpC_step 15 rfl (by kernel_rfl) (by kernel_rfl) xx2 (fun K hK => ?_)
          go_simp
          try (refine hK _ _ ?_; clear hK K)
          refine wpC_done (by kernel_rfl) (by simp [go_sem, xx2]) ?_
          go_wp2
          go_roundw
          case measure => simp [intOf]
          case rel => exact ⟨(HB3.out.setCell (Nat.le_refl _) _).drew, p, q, r, n3, (rowset GX3.out 3 _).trans (by simp only [List.setIfInBounds_toArray, List.set_cons_zero, List.set_cons_succ]), rowset_other GR3.out (by omega), .inr (.inl ⟨rfl, rfl, rfl, rfl, rfl⟩)⟩
        · go_wp2
          refine wpC_region (fun W => W.cell? ⟨w.heap.size, 1, none⟩ = some (.int .u64 q)) (by kernel_rfl) ?_
          refine wpC_take 0 (v := ?_) rfl (by kernel_rfl) (fun _ _ _ h => h) (by kernel_rfl) ?_ ?_; rotate_left; · (intro wC hC; obtain d0 := hC; go_simp <;> with_reducible rfl)
          refine wpC_take 1 (v := ?_) rfl (by kernel_rfl) (fun _ _ _ h => h) (by kernel_rfl) ?_ ?_; rotate_left; · (intro wC hC; obtain d0 := hC; go_simp <;> with_reducible rfl)
          refine wpC_take 2 (v := ?_) rfl (by kernel_rfl) (fun _ _ _ h => h) (by kernel_rfl) ?_ ?_; rotate_left; · (intro wC hC; obtain d0 := hC; go_simp <;> with_reducible rfl)
          refine wpC_take 4 (v := ?_) rfl (by kernel_rfl) (fun _ _ _ h => h) (by kernel_rfl) ?_ ?_; rotate_left; · (intro wC hC; obtain d0 := hC; go_simp <;> with_reducible rfl)
          refine wpC_take 6 (v := ?_) rfl (by kernel_rfl) (fun _ _ _ h => h) (by kernel_rfl) ?_ ?_; rotate_left; · (intro wC hC; obtain d0 := hC; go_simp <;> with_reducible rfl)
          refine wpC_take 7 (v := ?_) rfl (by kernel_rfl) (fun _ _ _ h => h) (by kernel_rfl) ?_ ?_; rotate_left; · (intro wC hC; obtain d0 := hC; go_simp <;> with_reducible rfl)
          refine wpC_take 8 (v := ?_) rfl (by kernel_rfl) (fun _ _ _ h => h) (by kernel_rfl) ?_ ?_; rotate_left; · (intro wC hC; obtain d0 := hC; go_simp <;> with_reducible rfl)
          refine wpC_take 9 (v := ?_) rfl (by kernel_rfl) (fun _ _ _ h => h) (by kernel_rfl) ?_ ?_; rotate_left; · (intro wC hC; obtain d0 := hC; go_simp <;> with_reducible rfl)
          refine wpC_take 10 (v := ?_) rfl (by kernel_rfl) (fun _ _ _ h => h) (by kernel_rfl) ?_ ?_; rotate_left; · (intro wC hC; obtain d0 := hC; go_simp <;> with_reducible rfl)
          refine wpC_take 11 (v := ?_) rfl (by kernel_rfl) (fun _ _ _ h => h) (by kernel_rfl) ?_ ?_; rotate_left; · (intro wC hC; obtain d0 := hC; go_simp <;> with_reducible rfl)
          refine wpC_take 12 (v := ?_) rfl (by kernel_rfl) (fun _ _ _ h => h) (by kernel_rfl) ?_ ?_; rotate_left; · (intro wC hC; obtain d0 := hC; go_simp <;> with_reducible rfl)
          refine wpC_step 3 rfl (by kernel_rfl) (by kernel_rfl) xx1 (fun K hK => ?_)
          go_simp
          try (refine hK _ _ ?_; clear hK K)
          refine wpC_take 5 (v := ?_) rfl (by kernel_rfl) (fun _ _ _ h => h) (by kernel_rfl) ?_ ?_; rotate_left; · (intro wC hC; obtain d0 := hC; go_simp <;> with_reducible rfl)
          refine wpC_take 13 (v := ?_) rfl (by kernel_rfl) (fun _ _ _ h => h) (by kernel_rfl) ?_ ?_; rotate_left; · (intro wC hC; obtain d0 := hC; go_simp <;> with_reducible rfl)
          refine wpC_take 14 (v := ?_) rfl (by kernel_rfl) (fun _ _ _ h => h) (by kernel_rfl) ?_ ?_; rotate_left; · (intro wC hC; obtain d0 := hC; go_simp <;> with_reducible rfl)
          refine wpC_step 15 rfl (by kernel_rfl) (by kernel_rfl) xx1 (fun K hK => ?_)
          go_simp
          try (refine hK _ _ ?_; clear hK K)
          refine wpC_done (by kernel_rfl) (by simp [go_sem, xx1]) ?_
          go_wp2
          go_roundw
          case measure => simp [intOf]
          case rel => exact ⟨(HB3.out.setCell (Nat.le_refl _) _).drew, p, q, n2, n3, (rowset GX3.out 2 _).trans (by simp only [List.setIfInBounds_toArray, List.set_cons_zero, List.set_cons_succ]), rowset_other GR3.out (by omega), .inr (.inr (.inl ⟨rfl, rfl, rfl, rfl, rfl⟩))⟩
        · go_wp2
          refine wpC_region (fun W => W.cell? ⟨w.heap.size, 0, none⟩ = some (.int .u64 p)) (by kernel_rfl) ?_
          refine wpC_take 0 (v := ?_) rfl (by kernel_rfl) (fun _ _ _ h => h) (by kernel_rfl) ?_ ?_; rotate_left; · (intro wC hC; obtain d0 := hC; go_simp <;> with_reducible rfl)
          refine wpC_take 1 (v := ?_) rfl (by kernel_rfl) (fun _ _ _ h => h) (by kernel_rfl) ?_ ?_; rotate_left; · (intro wC hC; obtain d0 := hC; go_simp <;> with_reducible rfl)
          refine wpC_take 2 (v := ?_) rfl (by kernel_rfl) (fun _ _ _ h => h) (by kernel_rfl) ?_ ?_; rotate_left; · (intro wC hC; obtain d0 := hC; go_simp <;> with_reducible rfl)
          refine wpC_take 4 (v := ?_) rfl (by kernel_rfl) (fun _ _ _ h => h) (by kernel_rfl) ?_ ?_; rotate_left; · (intro wC hC; obtain d0 := hC; go_simp <;> with_reducible rfl)
          refine wpC_take 6 (v := ?_) rfl (by kernel_rfl) (fun _ _ _ h => h) (by kernel_rfl) ?_ ?_; rotate_left; · (intro wC hC; obtain d0 := hC; go_simp <;> with_reducible rfl)
          refine wpC_take 7 (v := ?_) rfl (by kernel_rfl) (fun _ _ _ h => h) (by kernel_rfl) ?_ ?_; rotate_left; · (intro wC hC; obtain d0 := hC; go_simp <;> with_reducible rfl)
          refine wpC_take 8 (v := ?_) rfl (by kernel_rfl) (fun _ _ _ h => h) (by kernel_rfl) ?_ ?_; rotate_left; · (intro wC hC; obtain d0 := hC; go_simp <;> with_reducible rfl)
          refine wpC_take 9 (v := ?_) rfl (by kernel_rfl) (fun _ _ _ h => h) (by kernel_rfl) ?_ ?_; rotate_left; · (intro wC hC; obtain d0 := hC; go_simp <;> with_reducible rfl)
          refine wpC_take 10 (v := ?_) rfl (by kernel_rfl) (fun _ _ _ h => h) (by kernel_rfl) ?_ ?_; rotate_left; · (intro wC hC; obtain d0 := hC; go_simp <;> with_reducible rfl)
          refine wpC_take 11 (v := ?_) rfl (by kernel_rfl) (fun _ _ _ h => h) (by kernel_rfl) ?_ ?_; rotate_left; · (intro wC hC; obtain d0 := hC; go_simp <;> with_reducible rfl)
          refine wpC_take 12 (v := ?_) rfl (by kernel_rfl) (fun _ _ _ h => h) (by kernel_rfl) ?_ ?_; rotate_left; · (intro wC hC; obtain d0 := hC; go_simp <;> with_reducible rfl)
          refine wpC_step 3 rfl (by kernel_rfl) (by kernel_rfl) xx0 (fun K hK => ?_)
          go_simp
          try (refine hK _ _ ?_; clear hK K)
          refine wpC_take 5 (v := ?_) rfl (by kernel_rfl) (fun _ _ _ h => h) (by kernel_rfl) ?_ ?_; rotate_left; · (intro wC hC; obtain d0 := hC; go_simp <;> with_reducible rfl)
          refine wpC_take 13 (v := ?_) rfl (by kernel_rfl) (fun _ _ _ h => h) (by kernel_rfl) ?_ ?_; rotate_left; · (intro wC hC; obtain d0 := hC; go_simp <;> with_reducible rfl)
          refine wpC_take 14 (v := ?_) rfl (by kernel_rfl) (fun _ _ _ h => h) (by kernel_rfl) ?_ ?_; rotate_left; · (intro wC hC; obtain d0 := hC; go_simp <;> with_reducible rfl)
          refine wpC_step 15 rfl (by kernel_rfl) (by kernel_rfl) xx0 (fun K hK => ?_)
          go_simp
          try (refine hK _ _ ?_; clear hK K)
          refine wpC_done (by kernel_rfl) (by simp [go_sem, xx0]) ?_
          go_wp2
          go_roundw
          case measure => simp [intOf]
          case rel => exact ⟨(HB3.out.setCell (Nat.le_refl _) _).drew, p, n1, n2, n3, (rowset GX3.out 1 _).trans (by simp only [List.setIfInBounds_toArray, List.set_cons_zero, List.set_cons_succ]), rowset_other GR3.out (by omega), .inr (.inr (.inr (⟨rfl, rfl, rfl, rfl, rfl⟩)))⟩
        · obtain ⟨hn0, hkb, hqk⟩ := HN.out
          obtain ⟨h1, h2, h3, h4⟩ := HF.out
          have ek : k = j + few := by rw [blen_two j hn0] at h3; omega
          subst ek
          rw [Nat.mul_assoc, ← Nat.pow_add] at h4
          obtain ⟨rfl, rfl, rfl, rfl⟩ := hqk.one h4
          have zw : w.heap.size + 1 < wr.heap.size := rowlt GR3.out
          clear hn0 hkb hqk h1 h2 h3 h4
          go_wp2
          refine bodyPost_ret (v := .tuple #[wdV a' b' c' d', .int .i64 (j + few : Nat)]) (by simp [results, Try.results78, go_sem, tt0, tt1, tt2, tt3, xx1, xx2, xx3, tf, wdV]; done) rfl (hQ.out _ _ ⟨rfl, ?_⟩)
          exact cset4 ((HB.out.trans HB3.out).setCell (Nat.le_refl _) _) (by omega)
end Go.Proofs.Ytheliihkkoohnab

namespace Go.Proofs.Ytheliihkkoohnab
open Go.ChangeShapes Go.WideShapes Go.ChangeAt Go.RowKit
set_option linter.unusedVariables false
set_option linter.unusedSimpArgs false
set_option maxRecDepth 100000

/-! ### rows of five cells -/
theorem row5 {w : World} {m : Nat} {u0 u1 u2 u3 u4 v0 v1 v2 v3 v4 : Value} {t : TypeId} (h : w.heap[m]? = some (.cells #[u0, u1, u2, u3, u4] t (0, 0))) :
    (((((w.setCell ⟨m, 0, none⟩ v0).setCell ⟨m, 1, none⟩ v1).setCell ⟨m, 2, none⟩ v2).setCell ⟨m, 3, none⟩ v3).setCell ⟨m, 4, none⟩ v4).heap[m]? = some (.cells #[v0, v1, v2, v3, v4] t (0, 0)) := by
  have h := rowset h 0 v0
  simp only [List.setIfInBounds_toArray, List.set_cons_zero, List.set_cons_succ] at h
  have h := rowset h 1 v1
  simp only [List.setIfInBounds_toArray, List.set_cons_zero, List.set_cons_succ] at h
  have h := rowset h 2 v2
  simp only [List.setIfInBounds_toArray, List.set_cons_zero, List.set_cons_succ] at h
  have h := rowset h 3 v3
  simp only [List.setIfInBounds_toArray, List.set_cons_zero, List.set_cons_succ] at h
  have h := rowset h 4 v4
  simp only [List.setIfInBounds_toArray, List.set_cons_zero, List.set_cons_succ] at h
  exact h
theorem cset5 {a W : World} {m : Nat} {v0 v1 v2 v3 v4 : Value} (h : Below a.heap.size a W) (hb : a.heap.size ≤ m) :
    Below a.heap.size a (((((W.setCell ⟨m, 0, none⟩ v0).setCell ⟨m, 1, none⟩ v1).setCell ⟨m, 2, none⟩ v2).setCell ⟨m, 3, none⟩ v3).setCell ⟨m, 4, none⟩ v4) :=
  cset (cset (cset (cset (cset h hb 0 v0) hb 1 v1) hb 2 v2) hb 3 v3) hb 4 v4
theorem row5_other {w : World} {m g : Nat} {c : Array Value} {v0 v1 v2 v3 v4 : Value} {t : TypeId} (h : w.heap[m]? = some (.cells c t (0, 0))) (hne : m ≠ g) :
    (((((w.setCell ⟨g, 0, none⟩ v0).setCell ⟨g, 1, none⟩ v1).setCell ⟨g, 2, none⟩ v2).setCell ⟨g, 3, none⟩ v3).setCell ⟨g, 4, none⟩ v4).heap[m]? = some (.cells c t (0, 0)) := by
  rw [heap_setCell_other _ _ m _ hne, heap_setCell_other _ _ m _ hne, heap_setCell_other _ _ m _ hne, heap_setCell_other _ _ m _ hne, heap_setCell_other _ _ m _ hne]
  exact h
theorem rowE6 {w : World} {m : Nat} {u0 u1 u2 u3 u4 u5 v0 v1 v2 v3 v4 v5 : Value} {t : TypeId} (h : w.heap[m]? = some (.cells #[u0, u1, u2, u3, u4, u5] t (0, 0))) :
    ((((((w.setCell ⟨m, 0, none⟩ v0).setCell ⟨m, 1, none⟩ v1).setCell ⟨m, 2, none⟩ v2).setCell ⟨m, 3, none⟩ v3).setCell ⟨m, 4, none⟩ v4).setCell ⟨m, 5, none⟩ v5).heap[m]? = some (.cells #[v0, v1, v2, v3, v4, v5] t (0, 0)) := by
  have h := rowset h 0 v0
  simp only [List.setIfInBounds_toArray, List.set_cons_zero, List.set_cons_succ] at h
  have h := rowset h 1 v1
  simp only [List.setIfInBounds_toArray, List.set_cons_zero, List.set_cons_succ] at h
  have h := rowset h 2 v2
  simp only [List.setIfInBounds_toArray, List.set_cons_zero, List.set_cons_succ] at h
  have h := rowset h 3 v3
  simp only [List.setIfInBounds_toArray, List.set_cons_zero, List.set_cons_succ] at h
  have h := rowset h 4 v4
  simp only [List.setIfInBounds_toArray, List.set_cons_zero, List.set_cons_succ] at h
  have h := rowset h 5 v5
  simp only [List.setIfInBounds_toArray, List.set_cons_zero, List.set_cons_succ] at h
  exact h
theorem rowE6_other {w : World} {m g : Nat} {c : Array Value} {v0 v1 v2 v3 v4 v5 : Value} {t : TypeId} (h : w.heap[m]? = some (.cells c t (0, 0))) (hne : m ≠ g) :
    ((((((w.setCell ⟨g, 0, none⟩ v0).setCell ⟨g, 1, none⟩ v1).setCell ⟨g, 2, none⟩ v2).setCell ⟨g, 3, none⟩ v3).setCell ⟨g, 4, none⟩ v4).setCell ⟨g, 5, none⟩ v5).heap[m]? = some (.cells c t (0, 0)) := by
  rw [heap_setCell_other _ _ m _ hne, heap_setCell_other _ _ m _ hne, heap_setCell_other _ _ m _ hne, heap_setCell_other _ _ m _ hne, heap_setCell_other _ _ m _ hne, heap_setCell_other _ _ m _ hne]
  exact h
/-! ### numbers of five words (plain mathematics) -/
def w5V (a0 a1 a2 a3 a4 : Nat) : Value := .agg #[.int .u64 a0, .int .u64 a1, .int .u64 a2, .int .u64 a3, .int .u64 a4]
structure Q5 (n a0 a1 a2 a3 a4 : Nat) : Prop where
  eq : n = a0 + a1 * 18446744073709551616 + a2 * 340282366920938463463374607431768211456 + a3 * 6277101735386680763835789423207666416102355444464034512896 + a4 * 115792089237316195423570985008687907853269984665640564039457584007913129639936
  h0 : a0 ≤ 18446744073709551615
  h1 : a1 ≤ 18446744073709551615
  h2 : a2 ≤ 18446744073709551615
  h3 : a3 ≤ 18446744073709551615
  h4 : a4 ≤ 18446744073709551615
theorem Q5.one {n a0 a1 a2 a3 a4 b0 b1 b2 b3 b4 : Nat} (h : Q5 n a0 a1 a2 a3 a4) (g : Q5 n b0 b1 b2 b3 b4) : a0 = b0 ∧ a1 = b1 ∧ a2 = b2 ∧ a3 = b3 ∧ a4 = b4 := by
  obtain ⟨e, h0, h1, h2, h3, h4⟩ := h
  obtain ⟨e', g0, g1, g2, g3, g4⟩ := g
  omega
theorem q5_of {n : Nat} (h : n < 2135987035920910082395021706169552114602704522356652769947041607822219725780640550022962086936576) :
    Q5 n (n % 18446744073709551616) (n / 18446744073709551616 % 18446744073709551616) (n / 340282366920938463463374607431768211456 % 18446744073709551616) (n / 6277101735386680763835789423207666416102355444464034512896 % 18446744073709551616) (n / 115792089237316195423570985008687907853269984665640564039457584007913129639936) := by
  refine ⟨by omega, by omega, by omega, by omega, by omega, by omega⟩
theorem Q5.lt {n a0 a1 a2 a3 a4 : Nat} (h : Q5 n a0 a1 a2 a3 a4) : n < 2135987035920910082395021706169552114602704522356652769947041607822219725780640550022962086936576 := by
  obtain ⟨e, h0, h1, h2, h3, h4⟩ := h
  omega
/-- five words shifted up together -/
theorem q5_up {n p q r s u : Nat} (few G : Nat) (h : few + G = 64) (hq : Q5 n p q r s u) (ht : u * 2 ^ few ≤ 18446744073709551615) :
    Q5 (n * 2 ^ few) (p * 2 ^ few % 18446744073709551616) ((q * 2 ^ few % 18446744073709551616) ||| (p / 2 ^ G)) ((r * 2 ^ few % 18446744073709551616) ||| (q / 2 ^ G)) ((s * 2 ^ few % 18446744073709551616) ||| (r / 2 ^ G)) ((u * 2 ^ few % 18446744073709551616) ||| (s / 2 ^ G)) := by
  obtain ⟨e, h0, h1, h2, h3, h4⟩ := hq
  obtain ⟨j1, k1⟩ := word_join q p few G h h0
  obtain ⟨j2, k2⟩ := word_join r q few G h h1
  obtain ⟨j3, k3⟩ := word_join s r few G h h2
  obtain ⟨j4, k4⟩ := word_join u s few G h h3
  rw [j1, j2, j3, j4]
  have u0 := word_up p few G h
  have u1 := word_up q few G h
  have u2 := word_up r few G h
  have u3 := word_up s few G h
  have u4 := Nat.mod_eq_of_lt (show u * 2 ^ few < 18446744073709551616 by omega)
  have en : n * 2 ^ few = p * 2 ^ few + q * 2 ^ few * 18446744073709551616 + r * 2 ^ few * 340282366920938463463374607431768211456 + s * 2 ^ few * 6277101735386680763835789423207666416102355444464034512896 + u * 2 ^ few * 115792089237316195423570985008687907853269984665640564039457584007913129639936 := by
    rw [e, Nat.add_mul, Nat.add_mul, Nat.add_mul, Nat.add_mul, Nat.mul_right_comm q, Nat.mul_right_comm r, Nat.mul_right_comm s, Nat.mul_right_comm u]
  have m0 := Nat.mod_lt (p * 2 ^ few) (show 0 < 18446744073709551616 by decide)
  rw [u4] at k4 ⊢
  rw [en]
  generalize p * 2 ^ few = P at *
  generalize q * 2 ^ few = Q at *
  generalize r * 2 ^ few = R at *
  generalize s * 2 ^ few = S at *
  generalize u * 2 ^ few = U at *
  generalize p / 2 ^ G = p1 at *
  generalize q / 2 ^ G = q1 at *
  generalize r / 2 ^ G = r1 at *
  generalize s / 2 ^ G = s1 at *
  generalize P % 18446744073709551616 = P0 at *
  generalize Q % 18446744073709551616 = Q0 at *
  generalize R % 18446744073709551616 = R0 at *
  generalize S % 18446744073709551616 = S0 at *
  clear j1 j2 j3 j4 u4 e en
  refine ⟨by omega, by omega, by omega, by omega, by omega, by omega⟩
/-- what the last steps reckon -/
theorem risen5_facts {n p q r s u : Nat} (h : Q5 n p q r s u) (hs : u ≠ 0) :
    ∃ few G A1 A2 A3 A4 B1 B2 B3 B4 n0 n1 n2 n3 n4 : Nat, few + G = 64 ∧ few ≤ 63 ∧ (64 : Int) - (blen u : Int) = (few : Int) ∧ blen n + few = 320 ∧ Q5 (n * 2 ^ few) n0 n1 n2 n3 n4 ∧
      IntKind.u64.wrap ((p : Int) * 2 ^ few) = (n0 : Int) ∧ IntKind.u64.wrap ((q : Int) * 2 ^ few) = (A1 : Int) ∧ IntKind.u64.wrap ((r : Int) * 2 ^ few) = (A2 : Int) ∧ IntKind.u64.wrap ((s : Int) * 2 ^ few) = (A3 : Int) ∧ IntKind.u64.wrap ((u : Int) * 2 ^ few) = (A4 : Int) ∧
      (p : Int) / 2 ^ G = (B1 : Int) ∧ (q : Int) / 2 ^ G = (B2 : Int) ∧ (r : Int) / 2 ^ G = (B3 : Int) ∧ (s : Int) / 2 ^ G = (B4 : Int) ∧
      bits BinOp.or IntKind.u64 (A1 : Int) (B1 : Int) = (n1 : Int) ∧ bits BinOp.or IntKind.u64 (A2 : Int) (B2 : Int) = (n2 : Int) ∧ bits BinOp.or IntKind.u64 (A3 : Int) (B3 : Int) = (n3 : Int) ∧ bits BinOp.or IntKind.u64 (A4 : Int) (B4 : Int) = (n4 : Int) := by
  have hb : 1 ≤ blen u := by rw [blen_pos hs]; omega
  have hb2 : blen u ≤ 64 := blen_le.2 (by have := h.h4; omega)
  obtain ⟨few, hf⟩ : ∃ few, few + blen u = 64 := ⟨64 - blen u, by omega⟩
  have h1 : u < 2 ^ blen u := blen_le.1 (Nat.le_refl _)
  have hp : 0 < 2 ^ few := Nat.pow_pos (by decide)
  have ht : u * 2 ^ few ≤ 18446744073709551615 := by
    have a : u * 2 ^ few < 2 ^ blen u * 2 ^ few := (Nat.mul_lt_mul_right hp).2 h1
    rw [← Nat.pow_add, Nat.add_comm, hf] at a
    omega
  have hw : ∀ x : Nat, IntKind.u64.wrap ((x : Int) * 2 ^ few) = ((x * 2 ^ few % 18446744073709551616 : Nat) : Int) := fun x => by
    have e : ((x : Int) * 2 ^ few) = ((x * 2 ^ few : Nat) : Int) := by simp
    rw [e, wrapN]
  have hd : ∀ x : Nat, (x : Int) / 2 ^ (64 - few) = ((x / 2 ^ (64 - few) : Nat) : Int) := fun x => by simp
  have hor : ∀ x y : Nat, y ≤ 18446744073709551615 → bits BinOp.or IntKind.u64 ((x * 2 ^ few % 18446744073709551616 : Nat) : Int) ((y / 2 ^ (64 - few) : Nat) : Int) = (((x * 2 ^ few % 18446744073709551616) ||| (y / 2 ^ (64 - few)) : Nat) : Int) := fun x y hy =>
    u64_or_nat _ _ (by have := Nat.mod_lt (x * 2 ^ few) (show 0 < 18446744073709551616 by decide); omega) (by have := Nat.div_le_self y (2 ^ (64 - few)); omega)
  have hbl : blen n + few = 320 := by
    have e : n / 2 ^ 256 = u := by
      obtain ⟨e, a0, a1, a2, a3, a4⟩ := h
      rw [show (2 : Nat) ^ 256 = 115792089237316195423570985008687907853269984665640564039457584007913129639936 by decide]
      omega
    have := @blen_shift n 256 (by rw [e]; exact hs)
    rw [e] at this
    omega
  exact ⟨few, 64 - few, _, _, _, _, _, _, _, _, _, _, _, _, _, by omega, by omega, by omega, hbl, q5_up few (64 - few) (by omega) h ht, hw p, hw q, hw r, hw s, hw u, hd p, hd q, hd r, hd s, hor q p h.h0, hor r q h.h1, hor s r h.h2, hor u s h.h3⟩
/-- the bounds, written out -/
theorem pow320 (E : Nat) (h : E = 256 + 64) : 2 ^ E = 2135987035920910082395021706169552114602704522356652769947041607822219725780640550022962086936576 := (congrArg (fun e => 2 ^ e) h).trans ((Nat.pow_add 2 256 64).trans (by decide))
theorem pow319 (E : Nat) (h : E = 255 + 64) : 2 ^ E = 1067993517960455041197510853084776057301352261178326384973520803911109862890320275011481043468288 := (congrArg (fun e => 2 ^ e) h).trans ((Nat.pow_add 2 255 64).trans (by decide))
theorem blen320 {n : Nat} : blen n ≤ 320 ↔ n < 2135987035920910082395021706169552114602704522356652769947041607822219725780640550022962086936576 := by
  obtain ⟨E, hE⟩ : ∃ E, E = 256 + 64 := ⟨_, rfl⟩
  rw [← pow320 E hE, ← blen_le]
  omega
theorem q5_ex {n : Nat} (h : n < 2135987035920910082395021706169552114602704522356652769947041607822219725780640550022962086936576) : ∃ a0 a1 a2 a3 a4, Q5 n a0 a1 a2 a3 a4 :=
  ⟨_, _, _, _, _, q5_of h⟩
theorem q5_zero {n a0 a1 a2 a3 a4 : Nat} (h : Q5 n a0 a1 a2 a3 a4) : (decide ((a0 : Int) = 0) && decide ((a1 : Int) = 0) && decide ((a2 : Int) = 0) && decide ((a3 : Int) = 0) && decide ((a4 : Int) = 0)) = decide (n = 0) := by
  obtain ⟨e, h0, h1, h2, h3, h4⟩ := h
  rw [← Bool.decide_and, ← Bool.decide_and, ← Bool.decide_and, ← Bool.decide_and]
  refine decide_eq_decide.2 ?_
  omega
theorem or_rest3 (a b c : Nat) (ha : a ≤ 18446744073709551615) (hb : b ≤ 18446744073709551615) (hc : c ≤ 18446744073709551615) : ∃ o o2 : Nat, bits BinOp.or IntKind.u64 (c : Int) (b : Int) = (o : Int) ∧ bits BinOp.or IntKind.u64 (o : Int) (a : Int) = (o2 : Int) ∧ ((o2 : Int) != 0) = decide (a ≠ 0 ∨ b ≠ 0 ∨ c ≠ 0) := by
  have hob : c ||| b < 2 ^ 64 := Nat.or_lt_two_pow (by omega) (by omega)
  refine ⟨c ||| b, (c ||| b) ||| a, u64_or_nat c b (by omega) (by omega), u64_or_nat _ a (by omega) (by omega), ?_⟩
  have e : c ||| b ||| a = 0 ↔ (c = 0 ∧ b = 0) ∧ a = 0 := by rw [Nat.or_eq_zero_iff, Nat.or_eq_zero_iff]
  by_cases h : c ||| b ||| a = 0
  · obtain ⟨⟨rfl, rfl⟩, rfl⟩ := e.1 h
    rfl
  · rw [decide_eq_true (by
      by_cases h0 : a = 0
      · by_cases h1 : b = 0
        · exact .inr (.inr (fun c2 => h (e.2 ⟨⟨c2, h1⟩, h0⟩)))
        · exact .inr (.inl h1)
      · exact .inl h0)]
    rw [bne_iff_ne]
    omega
theorem risen5_at {n : Nat} (h : n ≠ 0) (h2 : n < 2135987035920910082395021706169552114602704522356652769947041607822219725780640550022962086936576) : ∃ k a0 a1 a2 a3 a4, k + blen n = 320 ∧ Q5 (n * 2 ^ k) a0 a1 a2 a3 a4 := by
  have hb : blen n ≤ 320 := blen320.2 h2
  obtain ⟨k, hk⟩ : ∃ k, k + blen n = 320 := ⟨320 - blen n, by omega⟩
  have e := blen_two k h
  obtain ⟨a0, a1, a2, a3, a4, hq⟩ := q5_ex (n := n * 2 ^ k) (blen320.1 (by omega))
  exact ⟨k, a0, a1, a2, a3, a4, hk, hq⟩
end Go.Proofs.Ytheliihkkoohnab

namespace Go.Proofs.Ytheliihkkoohnab
open Go.ChangeShapes Go.WideShapes Go.ChangeAt Go.RowKit
set_option linter.unusedVariables false
set_option linter.unusedSimpArgs false
set_option maxRecDepth 100000

/-! ### package fuse: digits, compare, placed -/
theorem fdigits_any (k : Int) (neg : Bool) (s : Int) (hi lo : Nat) (rest : Bool) (w : World) :
    Calls Try.prog 42 #[exV k neg s hi lo rest] w fun e w' => e = .returned (.agg #[.int .u64 hi, .int .u64 lo]) ∧ Below w.heap.size w w' := by
  unfold exV
  refine cps fun Q hQ => ?_
  go_enter Try.func42, Try.ntmps42
  go_wp2
  first
  | exact hQ.out _ _ ⟨rfl, cmore (Below.refl _ _) _⟩
  | (refine bodyPost_ret (v := .agg #[.int .u64 hi, .int .u64 lo]) (by simp [results, Try.results42, go_sem]; done) rfl (hQ.out _ _ ⟨rfl, ?_⟩); first | exact bset (bset (cmore (cmore (Below.refl _ _) _) _) (by omega) _ _) (by omega) _ _ | exact cmore (cmore (Below.refl _ _) _) _)
set_option maxHeartbeats 4000000 in
theorem fcompare_any (k : Int) (neg : Bool) (s : Int) {a hi lo : Nat} (rest : Bool) (k' : Int) (neg' : Bool) (s' : Int) {b hi' lo' : Nat} (rest' : Bool) (ha : Tw a hi lo) (hb : Tw b hi' lo') (w : World) :
    Calls Try.prog 40 #[exV k neg s hi lo rest, exV k' neg' s' hi' lo' rest'] w fun e w' => e = .returned (.int .i64 (cmpR2 s a s' b)) ∧ Below w.heap.size w w' := by
  have d1 := fdigits_any k neg s hi lo rest
  have d2 := fdigits_any k' neg' s' hi' lo' rest'
  unfold cmpR2 exV at *
  refine cps fun Q hQ => ?_
  obtain ⟨x, hx⟩ : ∃ x, x = cmpZ s s' := ⟨_, rfl⟩
  obtain ⟨y, hy⟩ : ∃ x, x = cmpN a b := ⟨_, rfl⟩
  have r1 := mcompare_any s s'
  have r2 := fun w => tcmp_any ha hb w
  rw [← hx] at r1 hQ
  rw [← hy] at r2 hQ
  obtain ⟨z, hz⟩ : ∃ z, z = if x = 0 then y else x := ⟨_, rfl⟩
  rw [← hz] at hQ
  have HZ : Hid (z = if x = 0 then y else x) := hz
  clear hx hy hz ha hb
  go_enter Try.func40, Try.ntmps40
  go_wp2
  have B0 : Below w.heap.size w ((w.alloc (.cells #[.int .i64 k, .bool neg, .int .i64 s, .int .u64 hi, .int .u64 lo, .bool rest] 35)).alloc (.cells #[.int .i64 k', .bool neg', .int .i64 s', .int .u64 hi', .int .u64 lo', .bool rest'] 35)) := cmore (cmore (Below.refl _ _) _) _
  have X1 := rownew' (w.alloc (.cells #[.int .i64 k, .bool neg, .int .i64 s, .int .u64 hi, .int .u64 lo, .bool rest] 35)) #[.int .i64 k', .bool neg', .int .i64 s', .int .u64 hi', .int .u64 lo', .bool rest'] 35 (w.heap.size + 1) (by simp)
  have X0 := (Below.heap_alloc (w.alloc (.cells #[.int .i64 k, .bool neg, .int .i64 s, .int .u64 hi, .int .u64 lo, .bool rest] 35)) (.cells #[.int .i64 k', .bool neg', .int .i64 s', .int .u64 hi', .int .u64 lo', .bool rest'] 35) w.heap.size (by simp)).trans (rownew w _ _)
  generalize (w.alloc (.cells #[.int .i64 k, .bool neg, .int .i64 s, .int .u64 hi, .int .u64 lo, .bool rest] 35)).alloc (.cells #[.int .i64 k', .bool neg', .int .i64 s', .int .u64 hi', .int .u64 lo', .bool rest'] 35) = W0 at *
  have y0 : w.heap.size < W0.heap.size := rowlt X0
  have y1 : w.heap.size + 1 < W0.heap.size := rowlt X1
  have cls : ∀ V, Below W0.heap.size W0 V → V.cell? ⟨w.heap.size, 0, none⟩ = some (.int .i64 k) ∧ V.cell? ⟨w.heap.size, 1, none⟩ = some (.bool neg) ∧ V.cell? ⟨w.heap.size, 2, none⟩ = some (.int .i64 s) ∧ V.cell? ⟨w.heap.size, 3, none⟩ = some (.int .u64 hi) ∧ V.cell? ⟨w.heap.size, 4, none⟩ = some (.int .u64 lo) ∧ V.cell? ⟨w.heap.size, 5, none⟩ = some (.bool rest) ∧ V.cell? ⟨w.heap.size + 1, 0, none⟩ = some (.int .i64 k') ∧ V.cell? ⟨w.heap.size + 1, 1, none⟩ = some (.bool neg') ∧ V.cell? ⟨w.heap.size + 1, 2, none⟩ = some (.int .i64 s') ∧ V.cell? ⟨w.heap.size + 1, 3, none⟩ = some (.int .u64 hi') ∧ V.cell? ⟨w.heap.size + 1, 4, none⟩ = some (.int .u64 lo') ∧ V.cell? ⟨w.heap.size + 1, 5, none⟩ = some (.bool rest') := fun V hV => by
    have q0 := (hV.block w.heap.size y0).trans X0
    have q1 := (hV.block (w.heap.size + 1) y1).trans X1
    exact ⟨rowcell q0 0, rowcell q0 1, rowcell q0 2, rowcell q0 3, rowcell q0 4, rowcell q0 5, rowcell q1 0, rowcell q1 1, rowcell q1 2, rowcell q1 3, rowcell q1 4, rowcell q1 5⟩
  have B1 : Below W0.heap.size W0 W0 := Below.refl _ _
  clear X0 X1
  refine wpC_region (fun V => V.cell? ⟨w.heap.size, 0, none⟩ = some (.int .i64 k) ∧ V.cell? ⟨w.heap.size, 1, none⟩ = some (.bool neg) ∧ V.cell? ⟨w.heap.size, 2, none⟩ = some (.int .i64 s) ∧ V.cell? ⟨w.heap.size, 3, none⟩ = some (.int .u64 hi) ∧ V.cell? ⟨w.heap.size, 4, none⟩ = some (.int .u64 lo) ∧ V.cell? ⟨w.heap.size, 5, none⟩ = some (.bool rest) ∧ V.cell? ⟨w.heap.size + 1, 0, none⟩ = some (.int .i64 k') ∧ V.cell? ⟨w.heap.size + 1, 1, none⟩ = some (.bool neg') ∧ V.cell? ⟨w.heap.size + 1, 2, none⟩ = some (.int .i64 s') ∧ V.cell? ⟨w.heap.size + 1, 3, none⟩ = some (.int .u64 hi') ∧ V.cell? ⟨w.heap.size + 1, 4, none⟩ = some (.int .u64 lo') ∧ V.cell? ⟨w.heap.size + 1, 5, none⟩ = some (.bool rest')) (by kernel_rfl) ?_
  refine wpC_take 0 (v := ?_) rfl (by kernel_rfl) (fun _ _ _ h => h) (by kernel_rfl) ?_ ?_; rotate_left; · (intro wC hC; obtain ⟨c0, c1, c2, c3, c4, c5, e0, e1, e2, e3, e4, e5⟩ := hC; go_simp <;> with_reducible rfl)
  refine wpC_take 1 (v := ?_) rfl (by kernel_rfl) (fun _ _ _ h => h) (by kernel_rfl) ?_ ?_; rotate_left; · (intro wC hC; obtain ⟨c0, c1, c2, c3, c4, c5, e0, e1, e2, e3, e4, e5⟩ := hC; go_simp <;> with_reducible rfl)
  refine wpC_take 2 (v := ?_) rfl (by kernel_rfl) (fun _ _ _ h => h) (by kernel_rfl) ?_ ?_; rotate_left; · (intro wC hC; obtain ⟨c0, c1, c2, c3, c4, c5, e0, e1, e2, e3, e4, e5⟩ := hC; go_simp <;> with_reducible rfl)
  refine wpC_take 3 (v := ?_) rfl (by kernel_rfl) (fun _ _ _ h => h) (by kernel_rfl) ?_ ?_; rotate_left; · (intro wC hC; obtain ⟨c0, c1, c2, c3, c4, c5, e0, e1, e2, e3, e4, e5⟩ := hC; go_simp <;> with_reducible rfl)
  refine wpC_take 5 (v := ?_) rfl (by kernel_rfl) (fun _ _ _ h => h) (by kernel_rfl) ?_ ?_; rotate_left; · (intro wC hC; obtain ⟨c0, c1, c2, c3, c4, c5, e0, e1, e2, e3, e4, e5⟩ := hC; go_simp <;> with_reducible rfl)
  refine wpC_take 7 (v := ?_) rfl (by kernel_rfl) (fun _ _ _ h => h) (by kernel_rfl) ?_ ?_; rotate_left; · (intro wC hC; obtain ⟨c0, c1, c2, c3, c4, c5, e0, e1, e2, e3, e4, e5⟩ := hC; go_simp <;> with_reducible rfl)
  refine wpC_step 4 rfl (by kernel_rfl) (by kernel_rfl) (cls _ (bdrew B1)) (fun K hK => ?_)
  go_simp
  go_wp2_with ((go_at_call 60; refine (r1 _).mono ?_; rintro e w' ⟨rfl, hw⟩; rw [hw]; clear hw w'))
  try (refine hK _ _ ?_; clear hK K)
  refine wpC_step 6 rfl (by kernel_rfl) (by kernel_rfl) (cls _ (bdrew B1)) (fun K hK => ?_)
  go_simp
  go_wp2_with ((go_at_call 42; refine (d1 _).mono ?_; rintro e w2 ⟨rfl, hb2⟩; have B2 := bthen (bdrew B1) hb2))
  try (refine hK _ _ ?_; clear hK K)
  refine wpC_step 8 rfl (by kernel_rfl) (by kernel_rfl) (cls _ B2) (fun K hK => ?_)
  go_simp
  go_wp2_with ((go_at_call 42; refine (d2 _).mono ?_; rintro e w3 ⟨rfl, hb3⟩; have B3 := bthen B2 hb3))
  try (refine hK _ _ ?_; clear hK K)
  refine wpC_step 9 rfl (by kernel_rfl) (by kernel_rfl) (cls _ B3) (fun K hK => ?_)
  go_simp
  go_wp2_with ((go_at_call 61; refine (r2 _).mono ?_; rintro e w4 ⟨rfl, hb4⟩; have B4 := bthen B3 hb4))
  try (refine hK _ _ ?_; clear hK K)
  refine wpC_step 10 rfl (by kernel_rfl) (by kernel_rfl) (cls _ B4) (fun K hK => ?_)
  go_simp
  try (refine hK _ _ ?_; clear hK K)
  refine wpC_step 11 rfl (by kernel_rfl) (by kernel_rfl) (cls _ (bmore B4 _)) (fun K hK => ?_)
  go_simp
  go_wp2_with ((go_at_call 59; refine (or_any' x y z HZ.out _ _ (by simp [go_sem]) (by simp [go_sem])).mono ?_; rintro e w' ⟨rfl, hw⟩; rw [hw]; clear hw w'))
  try (refine hK _ _ ?_; clear hK K)
  refine wpC_step 12 rfl (by kernel_rfl) (by kernel_rfl) (cls _ (bmore B4 _)) (fun K hK => ?_)
  go_simp
  try (refine hK _ _ ?_; clear hK K)
  refine wpC_done (by kernel_rfl) (cls _ (bmore B4 _)) ?_
  go_wp2
  exact hQ.out _ _ ⟨rfl, bthen B0 (bmore B4 _)⟩
set_option maxHeartbeats 4000000 in
theorem fplaced_at {a hi lo : Nat} (k q r h l g g' : Nat) (c c' : Bool) (u0 u1 u2 u3 u4 : Nat) (hr : r ≤ 63) (hk : k = 64 * q + r) (ha : Tw a hi lo) (hs : Tw ((a * 2 ^ r) % 340282366920938463463374607431768211456) h l) (hc : c = decide (340282366920938463463374607431768211456 ≤ a * 2 ^ r))
    (hg : Tw (a / 2 ^ (128 - r)) g' g) (hc' : c' = decide (a % 2 ^ (128 - r) ≠ 0))
    (hq : (q = 0 ∧ l = u0 ∧ h = u1 ∧ g = u2 ∧ u3 = 0 ∧ u4 = 0) ∨ (q = 1 ∧ u0 = 0 ∧ l = u1 ∧ h = u2 ∧ g = u3 ∧ u4 = 0) ∨ (q = 2 ∧ u0 = 0 ∧ u1 = 0 ∧ l = u2 ∧ h = u3 ∧ g = u4)) (w : World) :
    Calls Try.prog 41 #[.agg #[.int .u64 hi, .int .u64 lo], .int .i64 k] w fun e w' => e = .returned (w5V u0 u1 u2 u3 u4) ∧ Below w.heap.size w w' := by
  have k1 := fun w => tshl_any r (by omega) ha hs hc w
  have k2 := fun w => tshr_any (128 - r) (by omega) ha hg hc' w
  have m1 : Int.tmod (k : Int) 64 = (r : Int) := by rw [Int.tmod_eq_emod_of_nonneg (by omega)]; omega
  have m2 : Int.tdiv (k : Int) 64 = (q : Int) := by rw [Int.tdiv_eq_ediv_of_nonneg (by omega)]; omega
  have m3 : (k : Int) % 64 = (r : Int) := by omega
  have m4 : (k : Int) / 64 = (q : Int) := by omega
  have m5 : IntKind.i64.wrap (128 - (r : Int)) = ((128 - r : Nat) : Int) := by rw [wrapI (by omega)]; omega
  have m6 : (128 : Int) - (r : Int) = ((128 - r : Nat) : Int) := by omega
  generalize 128 - r = G at *
  clear hs hk ha hr hc hg hc'
  have v0 : IntKind.i64.wrap 0 = 0 := rfl
  have v1 : IntKind.i64.wrap 1 = 1 := rfl
  have v2 : IntKind.i64.wrap 2 = 2 := rfl
  have v3 : IntKind.i64.wrap 3 = 3 := rfl
  have v4 : IntKind.i64.wrap 4 = 4 := rfl
  unfold w5V
  refine cps fun Q hQ => ?_
  rcases hq with ⟨rfl, rfl, rfl, rfl, rfl, rfl⟩ | ⟨rfl, rfl, rfl, rfl, rfl, rfl⟩ | ⟨rfl, rfl, rfl, rfl, rfl, rfl⟩
  all_goals
    go_enter Try.func41, Try.ntmps41
    go_upto_region 5 with (first
      | (go_at_call 49; have chk := HB1; go_must (refine (k2 _).mono ?_); rintro e w2 ⟨rfl, hb2⟩; have R2_0 := (hb2.block (w.heap.size) (by first | (simp; done) | (simp; omega) | omega)).trans ((Below.heap_alloc _ _ _ (by first | (simp; done) | (simp; omega) | omega)).trans HR1_0.out); have z2_0 : w.heap.size < w2.heap.size := Nat.lt_of_lt_of_le (by first | (simp; done) | (simp; omega) | omega) hb2.size; have HR2_0 : Hid _ := R2_0; clear R2_0; have R2_1 := (hb2.block (w.heap.size + 1) (by first | (simp; done) | (simp; omega) | omega)).trans ((Below.heap_alloc _ _ _ (by first | (simp; done) | (simp; omega) | omega)).trans HR1_1.out); have z2_1 : w.heap.size + 1 < w2.heap.size := Nat.lt_of_lt_of_le (by first | (simp; done) | (simp; omega) | omega) hb2.size; have c2_1_0 := rowcell R2_1 0; have c2_1_1 := rowcell R2_1 1; have c2_1_2 := rowcell R2_1 2; have c2_1_3 := rowcell R2_1 3; have c2_1_4 := rowcell R2_1 4; simp only [List.getElem?_toArray, List.getElem?_cons_zero, List.getElem?_cons_succ] at c2_1_0 c2_1_1 c2_1_2 c2_1_3 c2_1_4; have HR2_1 : Hid _ := R2_1; clear R2_1; have R2_2 := (hb2.block (w1.heap.size) (by first | (simp; done) | (simp; omega) | omega)).trans (rownew' _ _ _ _ (by simp)); have z2_2 : w1.heap.size < w2.heap.size := Nat.lt_of_lt_of_le (by first | (simp; done) | (simp; omega) | omega) hb2.size; have c2_2_0 := rowcell R2_2 0; have c2_2_1 := rowcell R2_2 1; simp only [List.getElem?_toArray, List.getElem?_cons_zero, List.getElem?_cons_succ] at c2_2_0 c2_2_1; have HR2_2 : Hid _ := R2_2; clear R2_2; have HB2 : Hid (Below _ _ _) := hb2; clear hb2; have f1 := rowfree HR2_1.out)
      | (go_at_call 62; go_must (refine (k1 _).mono ?_); rintro e w1 ⟨rfl, hb1⟩; have R1_0 := (hb1.block (w.heap.size) (by first | (simp; done) | (simp; omega) | omega)).trans ((Below.heap_alloc _ _ _ (by first | (simp; done) | (simp; omega) | omega)).trans (rownew' _ _ _ _ (by simp))); have z1_0 : w.heap.size < w1.heap.size := Nat.lt_of_lt_of_le (by first | (simp; done) | (simp; omega) | omega) hb1.size; have c1_0_0 := rowcell R1_0 0; have c1_0_1 := rowcell R1_0 1; simp only [List.getElem?_toArray, List.getElem?_cons_zero, List.getElem?_cons_succ] at c1_0_0 c1_0_1; have HR1_0 : Hid _ := R1_0; clear R1_0; have R1_1 := (hb1.block (w.heap.size + 1) (by first | (simp; done) | (simp; omega) | omega)).trans (rownew' _ _ _ _ (by simp)); have z1_1 : w.heap.size + 1 < w1.heap.size := Nat.lt_of_lt_of_le (by first | (simp; done) | (simp; omega) | omega) hb1.size; have HR1_1 : Hid _ := R1_1; clear R1_1; have HB1 : Hid (Below _ _ _) := hb1; clear hb1))
    have y0 := rowcell (rownew' (w2.alloc (.cells #[.int .u64 g', .int .u64 g] 71)) #[.int .u64 0, .int .u64 0, .int .u64 0, .int .u64 0, .int .u64 0] 82 (w2.heap.size + 1) (by simp))
    have X0 := (Below.heap_alloc (w2.alloc (.cells #[.int .u64 g', .int .u64 g] 71)) (.cells #[.int .u64 0, .int .u64 0, .int .u64 0, .int .u64 0, .int .u64 0] 82) w2.heap.size (by simp)).trans (rownew w2 _ _)
    have X1 := (Below.heap_alloc (w2.alloc (.cells #[.int .u64 g', .int .u64 g] 71)) (.cells #[.int .u64 0, .int .u64 0, .int .u64 0, .int .u64 0, .int .u64 0] 82) w1.heap.size (by simp; omega)).trans ((Below.heap_alloc w2 (.cells #[.int .u64 g', .int .u64 g] 71) w1.heap.size z2_2).trans HR2_2.out)
    have z2_3 : w1.heap.size < w2.heap.size + 1 := by omega
    have x0 := rowcell X0 1
    have x1 := rowcell X1 0
    have x2 := rowcell X1 1
    simp only [List.getElem?_toArray, List.getElem?_cons_zero, List.getElem?_cons_succ] at x0 x1 x2
    refine wpC_region (fun W => W.cell? ⟨w2.heap.size, 1, none⟩ = some (.int .u64 g) ∧ W.cell? ⟨w1.heap.size, 0, none⟩ = some (.int .u64 h) ∧ W.cell? ⟨w1.heap.size, 1, none⟩ = some (.int .u64 l)) (by kernel_rfl) ?_
    refine wpC_take 0 (v := ?_) rfl (by kernel_rfl) (fun _ _ _ h => h) (by kernel_rfl) ?_ ?_; rotate_left; · (intro wC hC; obtain ⟨d0, d1, d2⟩ := hC; go_simp <;> with_reducible rfl)
    refine wpC_take 1 (v := ?_) rfl (by kernel_rfl) (fun _ _ _ h => h) (by kernel_rfl) ?_ ?_; rotate_left; · (intro wC hC; obtain ⟨d0, d1, d2⟩ := hC; go_simp <;> with_reducible rfl)
    refine wpC_take 2 (v := ?_) rfl (by kernel_rfl) (fun _ _ _ h => h) (by kernel_rfl) ?_ ?_; rotate_left; · (intro wC hC; obtain ⟨d0, d1, d2⟩ := hC; go_simp <;> with_reducible rfl)
    refine wpC_take 3 (v := ?_) rfl (by kernel_rfl) (fun _ _ _ h => h) (by kernel_rfl) ?_ ?_; rotate_left; · (intro wC hC; obtain ⟨d0, d1, d2⟩ := hC; go_simp <;> with_reducible rfl)
    refine wpC_take 4 (v := ?_) rfl (by kernel_rfl) (fun _ _ _ h => h) (by kernel_rfl) ?_ ?_; rotate_left; · (intro wC hC; obtain ⟨d0, d1, d2⟩ := hC; go_simp <;> with_reducible rfl)
    refine wpC_take 5 (v := ?_) rfl (by kernel_rfl) (fun _ _ _ h => h) (by kernel_rfl) ?_ ?_; rotate_left; · (intro wC hC; obtain ⟨d0, d1, d2⟩ := hC; go_simp <;> with_reducible rfl)
    refine wpC_take 6 (v := ?_) rfl (by kernel_rfl) (fun _ _ _ h => h) (by kernel_rfl) ?_ ?_; rotate_left; · (intro wC hC; obtain ⟨d0, d1, d2⟩ := hC; go_simp <;> with_reducible rfl)
    refine wpC_take 7 (v := ?_) rfl (by kernel_rfl) (fun _ _ _ h => h) (by kernel_rfl) ?_ ?_; rotate_left; · (intro wC hC; obtain ⟨d0, d1, d2⟩ := hC; go_simp <;> with_reducible rfl)
    refine wpC_take 8 (v := ?_) rfl (by kernel_rfl) (fun _ _ _ h => h) (by kernel_rfl) ?_ ?_; rotate_left; · (intro wC hC; obtain ⟨d0, d1, d2⟩ := hC; go_simp <;> with_reducible rfl)
    refine wpC_take 9 (v := ?_) rfl (by kernel_rfl) (fun _ _ _ h => h) (by kernel_rfl) ?_ ?_; rotate_left; · (intro wC hC; obtain ⟨d0, d1, d2⟩ := hC; go_simp <;> with_reducible rfl)
    refine wpC_take 10 (v := ?_) rfl (by kernel_rfl) (fun _ _ _ h => h) (by kernel_rfl) ?_ ?_; rotate_left; · (intro wC hC; obtain ⟨d0, d1, d2⟩ := hC; go_simp <;> with_reducible rfl)
    refine wpC_take 11 (v := ?_) rfl (by kernel_rfl) (fun _ _ _ h => h) (by kernel_rfl) ?_ ?_; rotate_left; · (intro wC hC; obtain ⟨d0, d1, d2⟩ := hC; go_simp <;> with_reducible rfl)
    refine wpC_step 12 rfl (by kernel_rfl) (by kernel_rfl) ⟨x0, x1, x2⟩ (fun K hK => ?_)
    go_simp
    try (refine hK _ _ ?_; clear hK K)
    refine wpC_take 13 (v := ?_) rfl (by kernel_rfl) (fun _ _ _ h => h) (by kernel_rfl) ?_ ?_; rotate_left; · (intro wC hC; obtain ⟨d0, d1, d2⟩ := hC; go_simp <;> with_reducible rfl)
    refine wpC_step 14 rfl (by kernel_rfl) (by kernel_rfl) (by simp [go_sem, x0, c2_2_0, c2_2_1, z2_2, z2_3]) (fun K hK => ?_)
    go_simp
    try (refine hK _ _ ?_; clear hK K)
    refine wpC_take 15 (v := ?_) rfl (by kernel_rfl) (fun _ _ _ h => h) (by kernel_rfl) ?_ ?_; rotate_left; · (intro wC hC; obtain ⟨d0, d1, d2⟩ := hC; go_simp <;> with_reducible rfl)
    refine wpC_step 16 rfl (by kernel_rfl) (by kernel_rfl) (by simp [go_sem, x0, c2_2_0, c2_2_1, z2_2, z2_3]) (fun K hK => ?_)
    go_simp
    try (refine hK _ _ ?_; clear hK K)
    refine wpC_done (by kernel_rfl) (by simp [go_sem, x0, c2_2_0, c2_2_1, z2_2, z2_3]) ?_
    have n1 : ¬ w.heap.size + 1 = w2.heap.size := by omega
    have z2_4 : w.heap.size + 1 < w2.heap.size + 1 := by omega
    have n2 : ¬ w.heap.size + 1 = w2.heap.size + 1 := by omega
    have n3 : ¬ w.heap.size + 1 = w1.heap.size := by omega
    go_wp2
    refine bodyPost_ret (v := w5V _ _ _ _ _) (by simp [results, Try.results41, go_sem, c2_1_0, c2_1_1, c2_1_2, c2_1_3, c2_1_4, f1, z2_0, z2_1, z2_4, n1, n2, n3, w5V]; done) rfl (hQ.out _ _ ⟨rfl, ?_⟩)
    refine cdrew (cmore (cmore (cset5 (cthen (cmore (cthen (cmore (cmore (Below.refl _ _) _) _) HB1.out) _) HB2.out) (by omega)) _) _)
theorem fplaced_any {a hi lo k a0 a1 a2 a3 a4 : Nat} (ha : Tw a hi lo) (hk : k ≤ 191) (h : Q5 (a * 2 ^ k) a0 a1 a2 a3 a4) (w : World) :
    Calls Try.prog 41 #[.agg #[.int .u64 hi, .int .u64 lo], .int .i64 k] w fun e w' => e = .returned (w5V a0 a1 a2 a3 a4) ∧ Below w.heap.size w w' := by
  obtain ⟨q, r, hr, hq, e⟩ : ∃ q r, r ≤ 63 ∧ q ≤ 2 ∧ k = 64 * q + r := ⟨k / 64, k % 64, by omega, by omega, by omega⟩
  have hal := ha.lt
  have hv : a * 2 ^ k = a * 2 ^ r * 2 ^ (64 * q) := by rw [e, Nat.mul_assoc, ← Nat.pow_add, Nat.add_comm]
  have hp : 2 ^ r * 2 ^ (128 - r) = 340282366920938463463374607431768211456 := by rw [← Nat.pow_add, show r + (128 - r) = 128 by omega]
  have hd : a / 2 ^ (128 - r) = a * 2 ^ r / 340282366920938463463374607431768211456 := by
    rw [← hp, Nat.mul_comm (2 ^ r), Nat.mul_div_mul_right _ _ (Nat.pow_pos (by decide))]
  have hr2 : 2 ^ r ≤ 9223372036854775808 := Nat.le_trans (Nat.pow_le_pow_right (by decide) hr) (by decide)
  have hlt : a * 2 ^ r < 340282366920938463463374607431768211456 * 9223372036854775808 := Nat.lt_of_lt_of_le ((Nat.mul_lt_mul_right (Nat.pow_pos (by decide))).2 hal) (Nat.mul_le_mul (Nat.le_refl _) hr2)
  obtain ⟨h1, l1, t⟩ : ∃ h l, Tw ((a * 2 ^ r) % 340282366920938463463374607431768211456) h l := ⟨_ / 18446744073709551616, _ % 18446744073709551616, ⟨(Nat.div_add_mod' _ _).symm, by omega, by omega⟩⟩
  obtain ⟨g, hg⟩ : ∃ g, g = a * 2 ^ r / 340282366920938463463374607431768211456 := ⟨_, rfl⟩
  have t2 : Tw (a / 2 ^ (128 - r)) 0 g := ⟨by rw [hd, ← hg]; omega, by decide, by omega⟩
  have ht := t
  obtain ⟨te, th, tl⟩ := t
  have hfull : a * 2 ^ r = g * 340282366920938463463374607431768211456 + h1 * 18446744073709551616 + l1 := by omega
  rw [hv, hfull] at h
  have hc : q = 0 ∨ q = 1 ∨ q = 2 := by omega
  rcases hc with rfl | rfl | rfl
  · obtain ⟨rfl, rfl, rfl, rfl, rfl⟩ := h.one (show Q5 _ l1 h1 g 0 0 from ⟨by omega, by omega, by omega, by omega, by omega, by omega⟩)
    exact fplaced_at k 0 r _ _ _ _ _ _ _ _ _ _ _ hr e ha ht rfl t2 rfl (.inl ⟨rfl, rfl, rfl, rfl, rfl, rfl⟩) w
  · obtain ⟨rfl, rfl, rfl, rfl, rfl⟩ := h.one (show Q5 _ 0 l1 h1 g 0 from ⟨by rw [show 64 * 1 = 64 from rfl, show (2 : Nat) ^ 64 = 18446744073709551616 by decide]; omega, by omega, by omega, by omega, by omega, by omega⟩)
    exact fplaced_at k 1 r _ _ _ _ _ _ _ _ _ _ _ hr e ha ht rfl t2 rfl (.inr (.inl ⟨rfl, rfl, rfl, rfl, rfl, rfl⟩)) w
  · obtain ⟨rfl, rfl, rfl, rfl, rfl⟩ := h.one (show Q5 _ 0 0 l1 h1 g from ⟨by rw [show 64 * 2 = 128 from rfl, show (2 : Nat) ^ 128 = 340282366920938463463374607431768211456 by decide]; omega, by omega, by omega, by omega, by omega, by omega⟩)
    exact fplaced_at k 2 r _ _ _ _ _ _ _ _ _ _ _ hr e ha ht rfl t2 rfl (.inr (.inr ⟨rfl, rfl, rfl, rfl, rfl, rfl⟩)) w
end Go.Proofs.Ytheliihkkoohnab
