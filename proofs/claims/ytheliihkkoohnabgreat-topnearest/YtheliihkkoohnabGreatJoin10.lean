import Derived.Test.YtheliihkkoohnabGreatJoin9
import Derived.Test.YtheliihkkoohnabGreatJoin3
import Derived.Test.YtheliihkkoohnabGreatJoin8
import Derived.Test.YtheliihkkoohnabGreatJoin1
import Derived.Test.YtheliihkkoohnabGreatJoin4
namespace Go.Proofs.YtheliihkkoohnabGreat
open Go.ChangeShapes Go.WideShapes Go.ChangeAt Go.RowKit
set_option linter.unusedVariables false
set_option linter.unusedSimpArgs false
set_option maxRecDepth 100000

/-! ### the first 256 bits of a sum are enough (plain mathematics) -/
/-- where the lesser term stands -/
def lowK (s s' : Int) : Nat := (191 - (s - s')).toNat
def sumW (same : Bool) (f g k : Nat) : Nat := if same then f * 2 ^ 191 + g * 2 ^ k else f * 2 ^ 191 - g * 2 ^ k
theorem man_frac (f : Nat) : manX f 0 = f * 2 ^ 64 := by
  unfold manX
  rw [show (2 : Nat) ^ 64 = 18446744073709551616 by decide]
  omega
theorem frac_le {f g d : Nat} (hf : 9223372036854775808 ≤ f) (hg : g ≤ 18446744073709551615) (h : d = 0 → g ≤ f) : g ≤ f * 2 ^ d := by
  by_cases h0 : d = 0
  · subst h0; rw [Nat.pow_zero, Nat.mul_one]; exact h rfl
  · obtain ⟨e, rfl⟩ : ∃ e, d = e + 1 := ⟨d - 1, by omega⟩
    have : 1 ≤ 2 ^ e := Nat.one_le_two_pow
    have h2 : f * 1 ≤ f * 2 ^ e := Nat.mul_le_mul (Nat.le_refl _) this
    rw [Nat.pow_succ, ← Nat.mul_assoc]
    omega
theorem sumD_words (ng : Bool) (s : Int) (f : Nat) (nl : Bool) (s' : Int) (g : Nat) (hf : 9223372036854775808 ≤ f) (hf2 : f ≤ 18446744073709551615) (hg : 9223372036854775808 ≤ g) (hg2 : g ≤ 18446744073709551615)
    (hle : s' ≤ s) (heq : s = s' → g ≤ f) : sumD ng s (manX f 0) nl s' (manX g 0) = exactV ng (sumW (ng == nl) f g (lowK s s')) (s - 254) false := by
  obtain ⟨d, hd⟩ : ∃ d : Nat, (d : Int) = s - s' := ⟨(s - s').toNat, by omega⟩
  have hM : Mant (manX f 0) := by rw [man_frac]; unfold Mant; omega
  have hM' : Mant (manX g 0) := by rw [man_frac]; unfold Mant; omega
  rw [sumD_near ng s _ nl s' _ hM hM' hle d hd]
  have hgd : g ≤ f * 2 ^ d := frac_le hf hg2 (fun h0 => heq (by omega))
  have hle2 : manX g 0 ≤ manX f 0 * 2 ^ d := by
    rw [man_frac, man_frac, Nat.mul_right_comm]
    exact Nat.mul_le_mul hgd (Nat.le_refl _)
  rw [if_pos hle2]
  by_cases hs : ng = nl
  · rw [if_pos hs]
    have hb : (ng == nl) = true := by rw [hs]; simp
    unfold sumW
    rw [hb, if_pos rfl]
    by_cases hd2 : d ≤ 191
    · have hk : lowK s s' = 191 - d := by unfold lowK; omega
      have e1 : manX f 0 * 2 ^ d + manX g 0 = (f * 2 ^ d + g) * 2 ^ 64 := by rw [man_frac, man_frac, Nat.add_mul, Nat.mul_right_comm]
      have e2 : f * 2 ^ 191 + g * 2 ^ (191 - d) = (f * 2 ^ d + g) * 2 ^ (191 - d) := by rw [Nat.add_mul, Nat.mul_assoc, ← Nat.pow_add, show d + (191 - d) = 191 by omega]
      rw [hk, e1, e2, show s - 127 - (d : Int) = (s - 63 - d) - (64 : Nat) by omega, exactV_two, show s - 254 = (s - 63 - d) - ((191 - d : Nat) : Int) by omega, exactV_two]
    · have hk : lowK s s' = 0 := by unfold lowK; omega
      have hlt : manX g 0 < 2 ^ d := Nat.lt_of_lt_of_le hM'.2 (Nat.pow_le_pow_right (by decide) (by omega))
      have m0 : 1 ≤ manX g 0 := by rw [man_frac]; omega
      have a := far_add ng s (B := manX g 0) (d := d) hM m0 hlt
      have b := far_add ng s (M := manX f 0) (B := g) (d := 127) hM (by omega) (by omega)
      rw [hk, Nat.pow_zero, Nat.mul_one, a, ← b, man_frac, Nat.mul_assoc, ← Nat.pow_add, show s - 127 - ((127 : Nat) : Int) = s - 254 by omega]
  · rw [if_neg hs]
    have hb : (ng == nl) = false := beq_eq_false_iff_ne.2 hs
    unfold sumW
    rw [hb, if_neg (by decide)]
    by_cases hd2 : d ≤ 191
    · have hk : lowK s s' = 191 - d := by unfold lowK; omega
      have e1 : manX f 0 * 2 ^ d - manX g 0 = (f * 2 ^ d - g) * 2 ^ 64 := by rw [man_frac, man_frac, Nat.sub_mul, Nat.mul_right_comm]
      have e2 : f * 2 ^ 191 - g * 2 ^ (191 - d) = (f * 2 ^ d - g) * 2 ^ (191 - d) := by rw [Nat.sub_mul, Nat.mul_assoc, ← Nat.pow_add, show d + (191 - d) = 191 by omega]
      rw [hk, e1, e2, show s - 127 - (d : Int) = (s - 63 - d) - (64 : Nat) by omega, exactV_two, show s - 254 = (s - 63 - d) - ((191 - d : Nat) : Int) by omega, exactV_two]
    · have hk : lowK s s' = 0 := by unfold lowK; omega
      obtain ⟨e, rfl⟩ : ∃ e, d = e + 1 := ⟨d - 1, by omega⟩
      have hlt : manX g 0 < 2 ^ e := Nat.lt_of_lt_of_le hM'.2 (Nat.pow_le_pow_right (by decide) (by omega))
      have m0 : 1 ≤ manX g 0 := by rw [man_frac]; omega
      have a := far_sub ng s (B := manX g 0) (d := e) hM m0 hlt
      have b := far_sub ng s (M := manX f 0) (B := g) (d := 126) hM (by omega) (by omega)
      rw [hk, Nat.pow_zero, Nat.mul_one, a, ← b, show 126 + 1 = 127 from rfl, man_frac, Nat.mul_assoc, ← Nat.pow_add, show s - 127 - ((127 : Nat) : Int) = s - 254 by omega]
theorem sumW_lt {same : Bool} {f g k : Nat} (hf2 : f ≤ 18446744073709551615) (hg2 : g ≤ 18446744073709551615) (hk : k ≤ 191) : f * 2 ^ 191 < 2 ^ 255 ∧ g * 2 ^ k < 2 ^ 255 ∧ sumW same f g k < 2 ^ 256 := by
  have h1 : f * 2 ^ 191 < 2 ^ 255 := by
    rw [show 255 = 64 + 191 from rfl, Nat.pow_add 2 64 191]
    exact (Nat.mul_lt_mul_right (Nat.pow_pos (by decide))).2 (by omega)
  have h2 : g * 2 ^ k < 2 ^ 255 := by
    have a : 2 ^ k ≤ 2 ^ 191 := Nat.pow_le_pow_right (by decide) hk
    refine Nat.lt_of_le_of_lt (Nat.mul_le_mul (Nat.le_refl g) a) ?_
    rw [show 255 = 64 + 191 from rfl, Nat.pow_add 2 64 191]
    exact (Nat.mul_lt_mul_right (Nat.pow_pos (by decide))).2 (by omega)
  refine ⟨h1, h2, ?_⟩
  unfold sumW
  rw [show (2 : Nat) ^ 256 = 2 ^ 255 * 2 from Nat.pow_succ 2 255]
  generalize 2 ^ 255 = P at *
  generalize f * 2 ^ 191 = X at *
  generalize g * 2 ^ k = Y at *
  split <;> omega
/-- the first digits of a number that stands as high as it may -/
theorem exactV_top (neg : Bool) {n k a b c d : Nat} (s : Int) (hn : n ≠ 0) (hk : k + blen n = 256) (h : Qw (n * 2 ^ k) a b c d) (hs : -1073741824 ≤ s ∧ s ≤ 1073741824) :
    exactV neg n (s - 254) false = exV 1 neg (s + 1 - k) d c (decide (a ≠ 0 ∨ b ≠ 0)) := by
  obtain ⟨n1, n2⟩ := norm_two k hn
  have hb := blen_two k hn
  have hn0 : n * 2 ^ k ≠ 0 := fun c => by
    rcases Nat.mul_eq_zero.1 c with c | c
    · exact hn c
    · exact absurd c (Nat.pos_iff_ne_zero.1 (Nat.pow_pos (by decide)))
  have h256 : blen (n * 2 ^ k) = 256 := by omega
  have lo := blen_lo hn0
  rw [h256] at lo
  have hi : n * 2 ^ k < 2 ^ 256 := blen_le.1 (by omega)
  obtain ⟨_, m1, m2⟩ := @norm_at (n * 2 ^ k) 128 lo hi
  obtain ⟨e, h0, h1, h2, h3⟩ := h
  have w1 : n * 2 ^ k / 2 ^ 128 / 2 ^ 64 % 2 ^ 64 = d := by
    rw [show (2 : Nat) ^ 128 = 340282366920938463463374607431768211456 by decide, show (2 : Nat) ^ 64 = 18446744073709551616 by decide]
    omega
  have w2 : n * 2 ^ k / 2 ^ 128 % 2 ^ 64 = c := by
    rw [show (2 : Nat) ^ 128 = 340282366920938463463374607431768211456 by decide, show (2 : Nat) ^ 64 = 18446744073709551616 by decide]
    omega
  have w3 : decide (n * 2 ^ k % 2 ^ 128 ≠ 0) = decide (a ≠ 0 ∨ b ≠ 0) := by
    refine decide_eq_decide.2 ?_
    rw [show (2 : Nat) ^ 128 = 340282366920938463463374607431768211456 by decide]
    omega
  have hx : heldX (s - 254 + (blen n : Int) - 1) = s + 1 - (k : Int) := by
    have hk2 : 1 ≤ blen n := by rw [blen_pos hn]; omega
    unfold heldX
    rw [if_neg (by omega), if_neg (by omega)]
    omega
  unfold exactV
  rw [if_neg hn, hx, ← n1, ← n2, m1, m2, w1, w2, w3, Bool.false_or]
end Go.Proofs.YtheliihkkoohnabGreat

namespace Go.Proofs.YtheliihkkoohnabGreat
open Go.ChangeShapes Go.WideShapes Go.ChangeAt Go.RowKit
set_option linter.unusedVariables false
set_option linter.unusedSimpArgs false
set_option maxRecDepth 100000

/-! ### package sum: the sum of two reals -/
theorem qw_ex {n : Nat} (h : n < 2 ^ 256) : ∃ a b c d, Qw n a b c d :=
  ⟨_, _, _, _, qw_of (by rw [show (115792089237316195423570985008687907853269984665640564039457584007913129639936 : Nat) = 2 ^ 256 by decide]; exact h)⟩
theorem qw_zero {n a b c d : Nat} (h : Qw n a b c d) : (decide ((a : Int) = 0) && decide ((b : Int) = 0) && decide ((c : Int) = 0) && decide ((d : Int) = 0)) = decide (n = 0) := by
  obtain ⟨e, h0, h1, h2, h3⟩ := h
  rw [← Bool.decide_and, ← Bool.decide_and, ← Bool.decide_and]
  refine decide_eq_decide.2 ?_
  omega
theorem or_rest (a b : Nat) (ha : a ≤ 18446744073709551615) (hb : b ≤ 18446744073709551615) : bits BinOp.or IntKind.u64 (b : Int) (a : Int) = ((b ||| a : Nat) : Int) ∧ (((b ||| a : Nat) : Int) != 0) = decide (a ≠ 0 ∨ b ≠ 0) := by
  refine ⟨u64_or_nat b a (by omega) (by omega), ?_⟩
  have e : b ||| a = 0 ↔ b = 0 ∧ a = 0 := Nat.or_eq_zero_iff
  by_cases h : b ||| a = 0
  · obtain ⟨rfl, rfl⟩ := e.1 h
    rfl
  · rw [decide_eq_true (by
      by_cases h0 : a = 0
      · exact .inr (fun c => h (e.2 ⟨c, h0⟩))
      · exact .inl h0)]
    rw [bne_iff_ne]
    omega
theorem risen_at {n : Nat} (h : n ≠ 0) (h2 : n < 2 ^ 256) : ∃ k a b c d, k + blen n = 256 ∧ Qw (n * 2 ^ k) a b c d := by
  have hb : blen n ≤ 256 := blen_le.2 h2
  obtain ⟨k, hk⟩ : ∃ k, k + blen n = 256 := ⟨256 - blen n, by omega⟩
  have e := blen_two k h
  obtain ⟨a, b, c, d, hq⟩ := qw_ex (n := n * 2 ^ k) (blen_le.1 (by omega))
  exact ⟨k, a, b, c, d, hk, hq⟩
theorem sreals_up (ng : Bool) (s : Int) (f : Nat) (nl : Bool) (s' : Int) (g : Nat) (hf : 9223372036854775808 ≤ f) (hf2 : f ≤ 18446744073709551615) (hg : 9223372036854775808 ≤ g) (hg2 : g ≤ 18446744073709551615)
    (hs : -1073741824 ≤ s ∧ s ≤ 1073741824) (hs' : -1073741824 ≤ s' ∧ s' ≤ 1073741824) (hle : s' ≤ s) (heq : s = s' → g ≤ f) (w : World) :
    ((s = s' → g ≤ f) → Calls Tryz.prog 52 #[numV 1 ng s f, numV 1 nl s' g] w fun e w' => e = .returned (exactV ng (sumW (ng == nl) f g (lowK s s')) (s - 254) false) ∧ Below w.heap.size w w') ∧
    ((s = s' → g < f) → Calls Tryz.prog 52 #[numV 1 nl s' g, numV 1 ng s f] w fun e w' => e = .returned (exactV ng (sumW (ng == nl) f g (lowK s s')) (s - 254) false) ∧ Below w.heap.size w w') := by
  have hk : lowK s s' ≤ 191 := by unfold lowK; omega
  obtain ⟨b1, b2, b3⟩ := sumW_lt (same := (ng == nl)) hf2 hg2 hk
  obtain ⟨_, _, b4⟩ := sumW_lt (same := true) hf2 hg2 hk
  have b4' : f * 2 ^ 191 + g * 2 ^ lowK s s' < 2 ^ 256 := b4
  have bl : ∀ x, x < 2 ^ 255 → x < 2 ^ 256 := fun x h => Nat.lt_trans h (Nat.pow_lt_pow_right (by decide) (by decide))
  have hgf : g * 2 ^ lowK s s' ≤ f * 2 ^ 191 := by
    obtain ⟨d, hd⟩ : ∃ d : Nat, (d : Int) = s - s' := ⟨(s - s').toNat, by omega⟩
    by_cases hd2 : d ≤ 191
    · have e : lowK s s' = 191 - d := by unfold lowK; omega
      have h1 := Nat.mul_le_mul (frac_le hf hg2 (fun h0 => heq (by omega)) : g ≤ f * 2 ^ d) (Nat.le_refl (2 ^ (191 - d)))
      rw [Nat.mul_assoc, ← Nat.pow_add, show d + (191 - d) = 191 by omega] at h1
      rw [e]; exact h1
    · have e : lowK s s' = 0 := by unfold lowK; omega
      rw [e, Nat.pow_zero, Nat.mul_one]
      exact Nat.le_trans (Nat.le_trans hg2 (by omega)) (Nat.le_mul_of_pos_left _ (by omega))
  obtain ⟨a0, a1, a2, a3, ca⟩ := qw_ex (bl _ b1)
  obtain ⟨y0, y1, y2, y3, cy⟩ := qw_ex (bl _ b2)
  obtain ⟨p0, p1, p2, p3, cp⟩ := qw_ex b4'
  have k1 := fun w => splaced_any (k := 191) hf2 (Nat.le_refl _) ca w
  have k2 := fun w => splaced_any hg2 hk cy w
  have k3 := fun w => splus_any ca cy cp w
  have ks := fun w => scompare_any 1 ng s f 1 nl s' g w
  have kw := fun w => scompare_any 1 nl s' g 1 ng s f w
  have zs : (s = s' → g ≤ f) → decide (cmpR2 s f s' g < 0) = false := fun h => decide_eq_false (fun c => by
    rcases (cmpR2_lt s f s' g).1 c with c | ⟨c, d⟩
    · omega
    · have := h c
      omega)
  have zw : (s = s' → g < f) → decide (cmpR2 s' g s f < 0) = true := fun h => decide_eq_true ((cmpR2_lt s' g s f).2 (by
    by_cases c : s = s'
    · exact .inr ⟨c.symm, h c⟩
    · exact .inl (by omega)))
  have q1 : IntKind.i64.wrap (s - s') = s - s' := wrapI (by omega)
  have q2 : IntKind.i64.wrap (191 - (s - s')) = 191 - (s - s') := wrapI (by omega)
  have q3 : (if 191 - (s - s') < 0 then 0 else 191 - (s - s')) = ((lowK s s' : Nat) : Int) := by unfold lowK; split <;> omega
  have q4 : IntKind.i64.wrap (s + 1) = s + 1 := wrapI (by omega)
  have hX : 0 < f * 2 ^ 191 := Nat.mul_pos (by omega) (Nat.pow_pos (by decide))
  by_cases hn : ng = nl
  · have hb : (ng == nl) = true := by rw [hn]; simp
    have hv : sumW (ng == nl) f g (lowK s s') = f * 2 ^ 191 + g * 2 ^ lowK s s' := by unfold sumW; rw [hb, if_pos rfl]
    rw [hv]
    have h0 : f * 2 ^ 191 + g * 2 ^ lowK s s' ≠ 0 := by omega
    obtain ⟨k, r0, r1, r2, r3, hkb, cr⟩ := risen_at h0 b4'
    have hbl : 1 ≤ blen (f * 2 ^ 191 + g * 2 ^ lowK s s') := by rw [blen_pos h0]; omega
    have k5 := fun w => srisen_any cp h0 hkb cr w
    obtain ⟨q6, q7⟩ := or_rest r0 r1 cr.h0 cr.h1
    have q5 : IntKind.i64.wrap (s + 1 - (k : Int)) = s + 1 - k := wrapI (by omega)
    have hz := qw_zero cp
    rw [decide_eq_false h0] at hz
    rw [exactV_top ng s h0 hkb cr hs]
    exact ⟨fun h => sreals_stay_same ng s f nl s' g _ _ _ _ _ _ _ _ _ _ _ _ _ _ _ _ _ _ _ _ _ _ _ k _ ks (zs h) k1 q1 q2 q3 k2 k3 hb hz k5 q4 q5 q6 q7 w,
      fun h => sreals_swap_same ng s f nl s' g _ _ _ _ _ _ _ _ _ _ _ _ _ _ _ _ _ _ _ _ _ _ _ k _ kw (zw h) k1 q1 q2 q3 k2 k3 hb hz k5 q4 q5 q6 q7 w⟩
  · have hb : (ng == nl) = false := beq_eq_false_iff_ne.2 hn
    have hv : sumW (ng == nl) f g (lowK s s') = f * 2 ^ 191 - g * 2 ^ lowK s s' := by unfold sumW; rw [hb, if_neg (by decide)]
    rw [hv] at b3 ⊢
    obtain ⟨m0, m1, m2, m3, cm⟩ := qw_ex b3
    have k4 := fun w => sminus_any ca cy hgf cm w
    have hz := qw_zero cm
    by_cases h0 : f * 2 ^ 191 - g * 2 ^ lowK s s' = 0
    · rw [decide_eq_true h0] at hz
      have he : exactV ng (f * 2 ^ 191 - g * 2 ^ lowK s s') (s - 254) false = exV 0 false 0 0 0 false := by unfold exactV; rw [if_pos h0]
      rw [he]
      exact ⟨fun h => sreals_stay_zero ng s f nl s' g _ _ _ _ _ _ _ _ _ _ _ _ _ _ _ _ _ _ _ _ ks (zs h) k1 q1 q2 q3 k2 k3 hb k4 hz w,
        fun h => sreals_swap_zero ng s f nl s' g _ _ _ _ _ _ _ _ _ _ _ _ _ _ _ _ _ _ _ _ kw (zw h) k1 q1 q2 q3 k2 k3 hb k4 hz w⟩
    · rw [decide_eq_false h0] at hz
      obtain ⟨k, r0, r1, r2, r3, hkb, cr⟩ := risen_at h0 b3
      have hbl : 1 ≤ blen (f * 2 ^ 191 - g * 2 ^ lowK s s') := by rw [blen_pos h0]; omega
      have k5 := fun w => srisen_any cm h0 hkb cr w
      obtain ⟨q6, q7⟩ := or_rest r0 r1 cr.h0 cr.h1
      have q5 : IntKind.i64.wrap (s + 1 - (k : Int)) = s + 1 - k := wrapI (by omega)
      rw [exactV_top ng s h0 hkb cr hs]
      exact ⟨fun h => sreals_stay_diff ng s f nl s' g _ _ _ _ _ _ _ _ _ _ _ _ _ _ _ _ _ _ _ _ _ _ _ _ _ _ _ k _ ks (zs h) k1 q1 q2 q3 k2 k3 hb k4 hz k5 q4 q5 q6 q7 w,
        fun h => sreals_swap_diff ng s f nl s' g _ _ _ _ _ _ _ _ _ _ _ _ _ _ _ _ _ _ _ _ _ _ _ _ _ _ _ k _ kw (zw h) k1 q1 q2 q3 k2 k3 hb k4 hz k5 q4 q5 q6 q7 w⟩
end Go.Proofs.YtheliihkkoohnabGreat

namespace Go.Proofs.YtheliihkkoohnabGreat
open Go.ChangeShapes Go.WideShapes Go.ChangeAt Go.RowKit
set_option linter.unusedVariables false
set_option linter.unusedSimpArgs false
set_option maxRecDepth 100000

theorem sreals_any (neg : Bool) (s : Int) (f : Nat) (neg' : Bool) (s' : Int) (g : Nat) (hf : f < 2 ^ 64) (hg : g < 2 ^ 64) (h1 : soundN 1 neg s f = true) (h2 : soundN 1 neg' s' g = true) (w : World) :
    Calls Tryz.prog 52 #[numV 1 neg s f, numV 1 neg' s' g] w fun e w' => e = .returned (sumR neg s (manX f 0) neg' s' (manX g 0)) ∧ Below w.heap.size w w' := by
  unfold soundN at h1 h2
  rw [if_neg (by decide)] at h1 h2
  obtain ⟨_, f1, s1, s2⟩ := of_decide_eq_true h1
  obtain ⟨_, g1, t1, t2⟩ := of_decide_eq_true h2
  by_cases c : s < s' ∨ (s = s' ∧ f < g)
  · have hle : s ≤ s' := by omega
    have hw := (sreals_up neg' s' g neg s f g1 (by omega) f1 (by omega) ⟨t1, t2⟩ ⟨s1, s2⟩ hle (fun h => by omega) w).2 (fun h => by omega)
    rw [← sumD_words neg' s' g neg s f g1 (by omega) f1 (by omega) hle (fun h => by omega)] at hw
    have e : sumR neg s (manX f 0) neg' s' (manX g 0) = sumD neg' s' (manX g 0) neg s (manX f 0) := by
      unfold sumR
      by_cases c2 : s < s'
      · rw [if_pos c2]
      · rw [if_neg c2]
        obtain rfl : s = s' := by omega
        have hM : Mant (manX f 0) := by rw [man_frac]; unfold Mant; omega
        have hM' : Mant (manX g 0) := by rw [man_frac]; unfold Mant; omega
        rw [sumD_int neg s _ neg' s _ hM hM' (Int.le_refl _) s 0 0 (by omega) (by omega), sumD_int neg' s _ neg s _ hM' hM (Int.le_refl _) s 0 0 (by omega) (by omega), Int.add_comm]
    rw [e]
    exact hw
  · have hle : s' ≤ s := by omega
    have hw := (sreals_up neg s f neg' s' g f1 (by omega) g1 (by omega) ⟨s1, s2⟩ ⟨t1, t2⟩ hle (fun h => by omega) w).1 (fun h => by omega)
    rw [← sumD_words neg s f neg' s' g f1 (by omega) g1 (by omega) hle (fun h => by omega)] at hw
    have e : sumR neg s (manX f 0) neg' s' (manX g 0) = sumD neg s (manX f 0) neg' s' (manX g 0) := by
      unfold sumR; rw [if_neg (by omega)]
    rw [e]
    exact hw
/-! ### Exact -/
theorem ssum_a1 (k : Int) (neg : Bool) (s : Int) (f : Nat) (k' : Int) (neg' : Bool) (s' : Int) (g : Nat) (hf : f < 2 ^ 64) (hg : g < 2 ^ 64) (h1 : soundN k neg s f = true) (h2 : soundN k' neg' s' g = true) (hk : k = 2) (w : World) :
    Calls Tryz.prog 32 #[numV k neg s f, numV k' neg' s' g] w fun e w' => e = .returned (.tuple #[exV k neg s f 0 false, .nilIface]) ∧ Below w.heap.size w w' := by
  have k1 := rndof_ok k neg s f hf h1
  have k2 := rndof_ok k' neg' s' g hg h2
  have d1 : (k == 2) = true := by rw [hk]; rfl
  clear hk
  unfold numV exV at *
  rw [show ((0 : Nat) : Int) = 0 from rfl] at *
  refine cps fun Q hQ => ?_
  go_enter Tryz.func32, Tryz.ntmps32
  go_wp2_with (first
    | (go_at_call 36; have chk := HB1; go_must (refine (k2 _).mono ?_); rintro e w2 ⟨rfl, hb2⟩; have R2_0 := (hb2.block (w.heap.size) (by first | (simp; done) | (simp; omega) | omega)).trans ((Below.heap_alloc _ _ _ (by first | (simp; done) | (simp; omega) | omega)).trans HR1_0.out); have z2_0 : w.heap.size < w2.heap.size := Nat.lt_of_lt_of_le (by first | (simp; done) | (simp; omega) | omega) hb2.size; have c2_0_0 := rowcell R2_0 0; have c2_0_1 := rowcell R2_0 1; have c2_0_2 := rowcell R2_0 2; have c2_0_3 := rowcell R2_0 3; simp only [List.getElem?_toArray, List.getElem?_cons_zero, List.getElem?_cons_succ] at c2_0_0 c2_0_1 c2_0_2 c2_0_3; have HR2_0 : Hid _ := R2_0; clear R2_0; have R2_1 := (hb2.block (w.heap.size + 1) (by first | (simp; done) | (simp; omega) | omega)).trans ((Below.heap_alloc _ _ _ (by first | (simp; done) | (simp; omega) | omega)).trans HR1_1.out); have z2_1 : w.heap.size + 1 < w2.heap.size := Nat.lt_of_lt_of_le (by first | (simp; done) | (simp; omega) | omega) hb2.size; have c2_1_0 := rowcell R2_1 0; have c2_1_1 := rowcell R2_1 1; have c2_1_2 := rowcell R2_1 2; have c2_1_3 := rowcell R2_1 3; simp only [List.getElem?_toArray, List.getElem?_cons_zero, List.getElem?_cons_succ] at c2_1_0 c2_1_1 c2_1_2 c2_1_3; have HR2_1 : Hid _ := R2_1; clear R2_1; have R2_2 := (hb2.block (w.heap.size + 1 + 1) (by first | (simp; done) | (simp; omega) | omega)).trans ((Below.heap_alloc _ _ _ (by first | (simp; done) | (simp; omega) | omega)).trans HR1_2.out); have z2_2 : w.heap.size + 1 + 1 < w2.heap.size := Nat.lt_of_lt_of_le (by first | (simp; done) | (simp; omega) | omega) hb2.size; have c2_2_0 := rowcell R2_2 0; have c2_2_1 := rowcell R2_2 1; have c2_2_2 := rowcell R2_2 2; have c2_2_3 := rowcell R2_2 3; have c2_2_4 := rowcell R2_2 4; have c2_2_5 := rowcell R2_2 5; simp only [List.getElem?_toArray, List.getElem?_cons_zero, List.getElem?_cons_succ] at c2_2_0 c2_2_1 c2_2_2 c2_2_3 c2_2_4 c2_2_5; have HR2_2 : Hid _ := R2_2; clear R2_2; have R2_3 := (hb2.block (w1.heap.size) (by first | (simp; done) | (simp; omega) | omega)).trans (rownew' _ _ _ _ (by simp)); have z2_3 : w1.heap.size < w2.heap.size := Nat.lt_of_lt_of_le (by first | (simp; done) | (simp; omega) | omega) hb2.size; have c2_3_0 := rowcell R2_3 0; have c2_3_1 := rowcell R2_3 1; have c2_3_2 := rowcell R2_3 2; have c2_3_3 := rowcell R2_3 3; have c2_3_4 := rowcell R2_3 4; have c2_3_5 := rowcell R2_3 5; simp only [List.getElem?_toArray, List.getElem?_cons_zero, List.getElem?_cons_succ] at c2_3_0 c2_3_1 c2_3_2 c2_3_3 c2_3_4 c2_3_5; have HR2_3 : Hid _ := R2_3; clear R2_3; have HB2 : Hid (Below _ _ _) := hb2; clear hb2; have g2 := rowfree HR2_2.out)
    | (go_at_call 36; go_must (refine (k1 _).mono ?_); rintro e w1 ⟨rfl, hb1⟩; have R1_0 := (hb1.block (w.heap.size) (by first | (simp; done) | (simp; omega) | omega)).trans ((Below.heap_alloc _ _ _ (by first | (simp; done) | (simp; omega) | omega)).trans ((Below.heap_alloc _ _ _ (by first | (simp; done) | (simp; omega) | omega)).trans (rownew' _ _ _ _ (by simp)))); have z1_0 : w.heap.size < w1.heap.size := Nat.lt_of_lt_of_le (by first | (simp; done) | (simp; omega) | omega) hb1.size; have HR1_0 : Hid _ := R1_0; clear R1_0; have R1_1 := (hb1.block (w.heap.size + 1) (by first | (simp; done) | (simp; omega) | omega)).trans ((Below.heap_alloc _ _ _ (by first | (simp; done) | (simp; omega) | omega)).trans (rownew' _ _ _ _ (by simp))); have z1_1 : w.heap.size + 1 < w1.heap.size := Nat.lt_of_lt_of_le (by first | (simp; done) | (simp; omega) | omega) hb1.size; have c1_1_0 := rowcell R1_1 0; have c1_1_1 := rowcell R1_1 1; have c1_1_2 := rowcell R1_1 2; have c1_1_3 := rowcell R1_1 3; simp only [List.getElem?_toArray, List.getElem?_cons_zero, List.getElem?_cons_succ] at c1_1_0 c1_1_1 c1_1_2 c1_1_3; have HR1_1 : Hid _ := R1_1; clear R1_1; have R1_2 := (hb1.block (w.heap.size + 1 + 1) (by first | (simp; done) | (simp; omega) | omega)).trans (rownew' _ _ _ _ (by simp)); have z1_2 : w.heap.size + 1 + 1 < w1.heap.size := Nat.lt_of_lt_of_le (by first | (simp; done) | (simp; omega) | omega) hb1.size; have c1_2_0 := rowcell R1_2 0; have c1_2_1 := rowcell R1_2 1; have c1_2_2 := rowcell R1_2 2; have c1_2_3 := rowcell R1_2 3; have c1_2_4 := rowcell R1_2 4; have c1_2_5 := rowcell R1_2 5; simp only [List.getElem?_toArray, List.getElem?_cons_zero, List.getElem?_cons_succ] at c1_2_0 c1_2_1 c1_2_2 c1_2_3 c1_2_4 c1_2_5; have HR1_2 : Hid _ := R1_2; clear R1_2; have HB1 : Hid (Below _ _ _) := hb1; clear hb1; have f2 := rowfree HR1_2.out))
  refine bodyPost_ret (v := .tuple #[.agg #[.int .i64 k, .bool neg, .int .i64 s, .int .u64 f, .int .u64 0, .bool false], .nilIface]) (by simp [results, Tryz.results32, go_sem, c2_2_0, c2_2_1, c2_2_2, c2_2_3, c2_2_4, c2_2_5, g2, z2_2]; done) rfl (hQ.out _ _ ⟨rfl, ?_⟩)
  first | exact cmore (cset6 (cthen (cmore (cthen (cmore (cmore (cmore (Below.refl _ _) _) _) _) HB1.out) _) HB2.out) (by omega)) _ | exact cset6 (cmore (cthen (cmore (cthen (cmore (cmore (cmore (Below.refl _ _) _) _) _) HB1.out) _) HB2.out) _) (by omega)
theorem ssum_a2 (k : Int) (neg : Bool) (s : Int) (f : Nat) (k' : Int) (neg' : Bool) (s' : Int) (g : Nat) (hf : f < 2 ^ 64) (hg : g < 2 ^ 64) (h1 : soundN k neg s f = true) (h2 : soundN k' neg' s' g = true) (hk : k ≠ 2) (hk' : k' = 0) (w : World) :
    Calls Tryz.prog 32 #[numV k neg s f, numV k' neg' s' g] w fun e w' => e = .returned (.tuple #[exV k neg s f 0 false, .nilIface]) ∧ Below w.heap.size w w' := by
  have k1 := rndof_ok k neg s f hf h1
  have k2 := rndof_ok k' neg' s' g hg h2
  have d1 : (k == 2) = false := beq_eq_false_iff_ne.2 hk
  have d2 : (k' == 0) = true := by rw [hk']; rfl
  clear hk hk'
  unfold numV exV at *
  rw [show ((0 : Nat) : Int) = 0 from rfl] at *
  refine cps fun Q hQ => ?_
  go_enter Tryz.func32, Tryz.ntmps32
  go_wp2_with (first
    | (go_at_call 36; have chk := HB1; go_must (refine (k2 _).mono ?_); rintro e w2 ⟨rfl, hb2⟩; have R2_0 := (hb2.block (w.heap.size) (by first | (simp; done) | (simp; omega) | omega)).trans ((Below.heap_alloc _ _ _ (by first | (simp; done) | (simp; omega) | omega)).trans HR1_0.out); have z2_0 : w.heap.size < w2.heap.size := Nat.lt_of_lt_of_le (by first | (simp; done) | (simp; omega) | omega) hb2.size; have c2_0_0 := rowcell R2_0 0; have c2_0_1 := rowcell R2_0 1; have c2_0_2 := rowcell R2_0 2; have c2_0_3 := rowcell R2_0 3; simp only [List.getElem?_toArray, List.getElem?_cons_zero, List.getElem?_cons_succ] at c2_0_0 c2_0_1 c2_0_2 c2_0_3; have HR2_0 : Hid _ := R2_0; clear R2_0; have R2_1 := (hb2.block (w.heap.size + 1) (by first | (simp; done) | (simp; omega) | omega)).trans ((Below.heap_alloc _ _ _ (by first | (simp; done) | (simp; omega) | omega)).trans HR1_1.out); have z2_1 : w.heap.size + 1 < w2.heap.size := Nat.lt_of_lt_of_le (by first | (simp; done) | (simp; omega) | omega) hb2.size; have c2_1_0 := rowcell R2_1 0; have c2_1_1 := rowcell R2_1 1; have c2_1_2 := rowcell R2_1 2; have c2_1_3 := rowcell R2_1 3; simp only [List.getElem?_toArray, List.getElem?_cons_zero, List.getElem?_cons_succ] at c2_1_0 c2_1_1 c2_1_2 c2_1_3; have HR2_1 : Hid _ := R2_1; clear R2_1; have R2_2 := (hb2.block (w.heap.size + 1 + 1) (by first | (simp; done) | (simp; omega) | omega)).trans ((Below.heap_alloc _ _ _ (by first | (simp; done) | (simp; omega) | omega)).trans HR1_2.out); have z2_2 : w.heap.size + 1 + 1 < w2.heap.size := Nat.lt_of_lt_of_le (by first | (simp; done) | (simp; omega) | omega) hb2.size; have c2_2_0 := rowcell R2_2 0; have c2_2_1 := rowcell R2_2 1; have c2_2_2 := rowcell R2_2 2; have c2_2_3 := rowcell R2_2 3; have c2_2_4 := rowcell R2_2 4; have c2_2_5 := rowcell R2_2 5; simp only [List.getElem?_toArray, List.getElem?_cons_zero, List.getElem?_cons_succ] at c2_2_0 c2_2_1 c2_2_2 c2_2_3 c2_2_4 c2_2_5; have HR2_2 : Hid _ := R2_2; clear R2_2; have R2_3 := (hb2.block (w1.heap.size) (by first | (simp; done) | (simp; omega) | omega)).trans (rownew' _ _ _ _ (by simp)); have z2_3 : w1.heap.size < w2.heap.size := Nat.lt_of_lt_of_le (by first | (simp; done) | (simp; omega) | omega) hb2.size; have c2_3_0 := rowcell R2_3 0; have c2_3_1 := rowcell R2_3 1; have c2_3_2 := rowcell R2_3 2; have c2_3_3 := rowcell R2_3 3; have c2_3_4 := rowcell R2_3 4; have c2_3_5 := rowcell R2_3 5; simp only [List.getElem?_toArray, List.getElem?_cons_zero, List.getElem?_cons_succ] at c2_3_0 c2_3_1 c2_3_2 c2_3_3 c2_3_4 c2_3_5; have HR2_3 : Hid _ := R2_3; clear R2_3; have HB2 : Hid (Below _ _ _) := hb2; clear hb2; have g2 := rowfree HR2_2.out)
    | (go_at_call 36; go_must (refine (k1 _).mono ?_); rintro e w1 ⟨rfl, hb1⟩; have R1_0 := (hb1.block (w.heap.size) (by first | (simp; done) | (simp; omega) | omega)).trans ((Below.heap_alloc _ _ _ (by first | (simp; done) | (simp; omega) | omega)).trans ((Below.heap_alloc _ _ _ (by first | (simp; done) | (simp; omega) | omega)).trans (rownew' _ _ _ _ (by simp)))); have z1_0 : w.heap.size < w1.heap.size := Nat.lt_of_lt_of_le (by first | (simp; done) | (simp; omega) | omega) hb1.size; have HR1_0 : Hid _ := R1_0; clear R1_0; have R1_1 := (hb1.block (w.heap.size + 1) (by first | (simp; done) | (simp; omega) | omega)).trans ((Below.heap_alloc _ _ _ (by first | (simp; done) | (simp; omega) | omega)).trans (rownew' _ _ _ _ (by simp))); have z1_1 : w.heap.size + 1 < w1.heap.size := Nat.lt_of_lt_of_le (by first | (simp; done) | (simp; omega) | omega) hb1.size; have c1_1_0 := rowcell R1_1 0; have c1_1_1 := rowcell R1_1 1; have c1_1_2 := rowcell R1_1 2; have c1_1_3 := rowcell R1_1 3; simp only [List.getElem?_toArray, List.getElem?_cons_zero, List.getElem?_cons_succ] at c1_1_0 c1_1_1 c1_1_2 c1_1_3; have HR1_1 : Hid _ := R1_1; clear R1_1; have R1_2 := (hb1.block (w.heap.size + 1 + 1) (by first | (simp; done) | (simp; omega) | omega)).trans (rownew' _ _ _ _ (by simp)); have z1_2 : w.heap.size + 1 + 1 < w1.heap.size := Nat.lt_of_lt_of_le (by first | (simp; done) | (simp; omega) | omega) hb1.size; have c1_2_0 := rowcell R1_2 0; have c1_2_1 := rowcell R1_2 1; have c1_2_2 := rowcell R1_2 2; have c1_2_3 := rowcell R1_2 3; have c1_2_4 := rowcell R1_2 4; have c1_2_5 := rowcell R1_2 5; simp only [List.getElem?_toArray, List.getElem?_cons_zero, List.getElem?_cons_succ] at c1_2_0 c1_2_1 c1_2_2 c1_2_3 c1_2_4 c1_2_5; have HR1_2 : Hid _ := R1_2; clear R1_2; have HB1 : Hid (Below _ _ _) := hb1; clear hb1; have f2 := rowfree HR1_2.out))
  refine bodyPost_ret (v := .tuple #[.agg #[.int .i64 k, .bool neg, .int .i64 s, .int .u64 f, .int .u64 0, .bool false], .nilIface]) (by simp [results, Tryz.results32, go_sem, c2_2_0, c2_2_1, c2_2_2, c2_2_3, c2_2_4, c2_2_5, g2, z2_2]; done) rfl (hQ.out _ _ ⟨rfl, ?_⟩)
  first | exact cmore (cset6 (cthen (cmore (cthen (cmore (cmore (cmore (Below.refl _ _) _) _) _) HB1.out) _) HB2.out) (by omega)) _ | exact cset6 (cmore (cthen (cmore (cthen (cmore (cmore (cmore (Below.refl _ _) _) _) _) HB1.out) _) HB2.out) _) (by omega)
theorem ssum_b1 (k : Int) (neg : Bool) (s : Int) (f : Nat) (k' : Int) (neg' : Bool) (s' : Int) (g : Nat) (hf : f < 2 ^ 64) (hg : g < 2 ^ 64) (h1 : soundN k neg s f = true) (h2 : soundN k' neg' s' g = true) (hk : k ≠ 2) (hk' : k' ≠ 0) (hk2 : k' = 2) (w : World) :
    Calls Tryz.prog 32 #[numV k neg s f, numV k' neg' s' g] w fun e w' => e = .returned (.tuple #[exV k' neg' s' g 0 false, .nilIface]) ∧ Below w.heap.size w w' := by
  have k1 := rndof_ok k neg s f hf h1
  have k2 := rndof_ok k' neg' s' g hg h2
  have d1 : (k == 2) = false := beq_eq_false_iff_ne.2 hk
  have d2 : (k' == 0) = false := beq_eq_false_iff_ne.2 hk'
  have d3 : (k' == 2) = true := by rw [hk2]; rfl
  clear hk hk' hk2
  unfold numV exV at *
  rw [show ((0 : Nat) : Int) = 0 from rfl] at *
  refine cps fun Q hQ => ?_
  go_enter Tryz.func32, Tryz.ntmps32
  go_wp2_with (first
    | (go_at_call 36; have chk := HB1; go_must (refine (k2 _).mono ?_); rintro e w2 ⟨rfl, hb2⟩; have R2_0 := (hb2.block (w.heap.size) (by first | (simp; done) | (simp; omega) | omega)).trans ((Below.heap_alloc _ _ _ (by first | (simp; done) | (simp; omega) | omega)).trans HR1_0.out); have z2_0 : w.heap.size < w2.heap.size := Nat.lt_of_lt_of_le (by first | (simp; done) | (simp; omega) | omega) hb2.size; have c2_0_0 := rowcell R2_0 0; have c2_0_1 := rowcell R2_0 1; have c2_0_2 := rowcell R2_0 2; have c2_0_3 := rowcell R2_0 3; simp only [List.getElem?_toArray, List.getElem?_cons_zero, List.getElem?_cons_succ] at c2_0_0 c2_0_1 c2_0_2 c2_0_3; have HR2_0 : Hid _ := R2_0; clear R2_0; have R2_1 := (hb2.block (w.heap.size + 1) (by first | (simp; done) | (simp; omega) | omega)).trans ((Below.heap_alloc _ _ _ (by first | (simp; done) | (simp; omega) | omega)).trans HR1_1.out); have z2_1 : w.heap.size + 1 < w2.heap.size := Nat.lt_of_lt_of_le (by first | (simp; done) | (simp; omega) | omega) hb2.size; have c2_1_0 := rowcell R2_1 0; have c2_1_1 := rowcell R2_1 1; have c2_1_2 := rowcell R2_1 2; have c2_1_3 := rowcell R2_1 3; simp only [List.getElem?_toArray, List.getElem?_cons_zero, List.getElem?_cons_succ] at c2_1_0 c2_1_1 c2_1_2 c2_1_3; have HR2_1 : Hid _ := R2_1; clear R2_1; have R2_2 := (hb2.block (w.heap.size + 1 + 1) (by first | (simp; done) | (simp; omega) | omega)).trans ((Below.heap_alloc _ _ _ (by first | (simp; done) | (simp; omega) | omega)).trans HR1_2.out); have z2_2 : w.heap.size + 1 + 1 < w2.heap.size := Nat.lt_of_lt_of_le (by first | (simp; done) | (simp; omega) | omega) hb2.size; have c2_2_0 := rowcell R2_2 0; have c2_2_1 := rowcell R2_2 1; have c2_2_2 := rowcell R2_2 2; have c2_2_3 := rowcell R2_2 3; have c2_2_4 := rowcell R2_2 4; have c2_2_5 := rowcell R2_2 5; simp only [List.getElem?_toArray, List.getElem?_cons_zero, List.getElem?_cons_succ] at c2_2_0 c2_2_1 c2_2_2 c2_2_3 c2_2_4 c2_2_5; have HR2_2 : Hid _ := R2_2; clear R2_2; have R2_3 := (hb2.block (w1.heap.size) (by first | (simp; done) | (simp; omega) | omega)).trans (rownew' _ _ _ _ (by simp)); have z2_3 : w1.heap.size < w2.heap.size := Nat.lt_of_lt_of_le (by first | (simp; done) | (simp; omega) | omega) hb2.size; have c2_3_0 := rowcell R2_3 0; have c2_3_1 := rowcell R2_3 1; have c2_3_2 := rowcell R2_3 2; have c2_3_3 := rowcell R2_3 3; have c2_3_4 := rowcell R2_3 4; have c2_3_5 := rowcell R2_3 5; simp only [List.getElem?_toArray, List.getElem?_cons_zero, List.getElem?_cons_succ] at c2_3_0 c2_3_1 c2_3_2 c2_3_3 c2_3_4 c2_3_5; have HR2_3 : Hid _ := R2_3; clear R2_3; have HB2 : Hid (Below _ _ _) := hb2; clear hb2; have g2 := rowfree HR2_2.out)
    | (go_at_call 36; go_must (refine (k1 _).mono ?_); rintro e w1 ⟨rfl, hb1⟩; have R1_0 := (hb1.block (w.heap.size) (by first | (simp; done) | (simp; omega) | omega)).trans ((Below.heap_alloc _ _ _ (by first | (simp; done) | (simp; omega) | omega)).trans ((Below.heap_alloc _ _ _ (by first | (simp; done) | (simp; omega) | omega)).trans (rownew' _ _ _ _ (by simp)))); have z1_0 : w.heap.size < w1.heap.size := Nat.lt_of_lt_of_le (by first | (simp; done) | (simp; omega) | omega) hb1.size; have HR1_0 : Hid _ := R1_0; clear R1_0; have R1_1 := (hb1.block (w.heap.size + 1) (by first | (simp; done) | (simp; omega) | omega)).trans ((Below.heap_alloc _ _ _ (by first | (simp; done) | (simp; omega) | omega)).trans (rownew' _ _ _ _ (by simp))); have z1_1 : w.heap.size + 1 < w1.heap.size := Nat.lt_of_lt_of_le (by first | (simp; done) | (simp; omega) | omega) hb1.size; have c1_1_0 := rowcell R1_1 0; have c1_1_1 := rowcell R1_1 1; have c1_1_2 := rowcell R1_1 2; have c1_1_3 := rowcell R1_1 3; simp only [List.getElem?_toArray, List.getElem?_cons_zero, List.getElem?_cons_succ] at c1_1_0 c1_1_1 c1_1_2 c1_1_3; have HR1_1 : Hid _ := R1_1; clear R1_1; have R1_2 := (hb1.block (w.heap.size + 1 + 1) (by first | (simp; done) | (simp; omega) | omega)).trans (rownew' _ _ _ _ (by simp)); have z1_2 : w.heap.size + 1 + 1 < w1.heap.size := Nat.lt_of_lt_of_le (by first | (simp; done) | (simp; omega) | omega) hb1.size; have c1_2_0 := rowcell R1_2 0; have c1_2_1 := rowcell R1_2 1; have c1_2_2 := rowcell R1_2 2; have c1_2_3 := rowcell R1_2 3; have c1_2_4 := rowcell R1_2 4; have c1_2_5 := rowcell R1_2 5; simp only [List.getElem?_toArray, List.getElem?_cons_zero, List.getElem?_cons_succ] at c1_2_0 c1_2_1 c1_2_2 c1_2_3 c1_2_4 c1_2_5; have HR1_2 : Hid _ := R1_2; clear R1_2; have HB1 : Hid (Below _ _ _) := hb1; clear hb1; have f2 := rowfree HR1_2.out))
  refine bodyPost_ret (v := .tuple #[.agg #[.int .i64 k', .bool neg', .int .i64 s', .int .u64 g, .int .u64 0, .bool false], .nilIface]) (by simp [results, Tryz.results32, go_sem, c2_2_0, c2_2_1, c2_2_2, c2_2_3, c2_2_4, c2_2_5, g2, z2_2]; done) rfl (hQ.out _ _ ⟨rfl, ?_⟩)
  first | exact cmore (cset6 (cthen (cmore (cthen (cmore (cmore (cmore (Below.refl _ _) _) _) _) HB1.out) _) HB2.out) (by omega)) _ | exact cset6 (cmore (cthen (cmore (cthen (cmore (cmore (cmore (Below.refl _ _) _) _) _) HB1.out) _) HB2.out) _) (by omega)
theorem ssum_b2 (k : Int) (neg : Bool) (s : Int) (f : Nat) (k' : Int) (neg' : Bool) (s' : Int) (g : Nat) (hf : f < 2 ^ 64) (hg : g < 2 ^ 64) (h1 : soundN k neg s f = true) (h2 : soundN k' neg' s' g = true) (hk : k ≠ 2) (hk' : k' ≠ 0) (hk2 : k' ≠ 2) (hk0 : k = 0) (w : World) :
    Calls Tryz.prog 32 #[numV k neg s f, numV k' neg' s' g] w fun e w' => e = .returned (.tuple #[exV k' neg' s' g 0 false, .nilIface]) ∧ Below w.heap.size w w' := by
  have k1 := rndof_ok k neg s f hf h1
  have k2 := rndof_ok k' neg' s' g hg h2
  have d1 : (k == 2) = false := beq_eq_false_iff_ne.2 hk
  have d2 : (k' == 0) = false := beq_eq_false_iff_ne.2 hk'
  have d3 : (k' == 2) = false := beq_eq_false_iff_ne.2 hk2
  have d4 : (k == 0) = true := by rw [hk0]; rfl
  clear hk hk' hk2 hk0
  unfold numV exV at *
  rw [show ((0 : Nat) : Int) = 0 from rfl] at *
  refine cps fun Q hQ => ?_
  go_enter Tryz.func32, Tryz.ntmps32
  go_wp2_with (first
    | (go_at_call 36; have chk := HB1; go_must (refine (k2 _).mono ?_); rintro e w2 ⟨rfl, hb2⟩; have R2_0 := (hb2.block (w.heap.size) (by first | (simp; done) | (simp; omega) | omega)).trans ((Below.heap_alloc _ _ _ (by first | (simp; done) | (simp; omega) | omega)).trans HR1_0.out); have z2_0 : w.heap.size < w2.heap.size := Nat.lt_of_lt_of_le (by first | (simp; done) | (simp; omega) | omega) hb2.size; have c2_0_0 := rowcell R2_0 0; have c2_0_1 := rowcell R2_0 1; have c2_0_2 := rowcell R2_0 2; have c2_0_3 := rowcell R2_0 3; simp only [List.getElem?_toArray, List.getElem?_cons_zero, List.getElem?_cons_succ] at c2_0_0 c2_0_1 c2_0_2 c2_0_3; have HR2_0 : Hid _ := R2_0; clear R2_0; have R2_1 := (hb2.block (w.heap.size + 1) (by first | (simp; done) | (simp; omega) | omega)).trans ((Below.heap_alloc _ _ _ (by first | (simp; done) | (simp; omega) | omega)).trans HR1_1.out); have z2_1 : w.heap.size + 1 < w2.heap.size := Nat.lt_of_lt_of_le (by first | (simp; done) | (simp; omega) | omega) hb2.size; have c2_1_0 := rowcell R2_1 0; have c2_1_1 := rowcell R2_1 1; have c2_1_2 := rowcell R2_1 2; have c2_1_3 := rowcell R2_1 3; simp only [List.getElem?_toArray, List.getElem?_cons_zero, List.getElem?_cons_succ] at c2_1_0 c2_1_1 c2_1_2 c2_1_3; have HR2_1 : Hid _ := R2_1; clear R2_1; have R2_2 := (hb2.block (w.heap.size + 1 + 1) (by first | (simp; done) | (simp; omega) | omega)).trans ((Below.heap_alloc _ _ _ (by first | (simp; done) | (simp; omega) | omega)).trans HR1_2.out); have z2_2 : w.heap.size + 1 + 1 < w2.heap.size := Nat.lt_of_lt_of_le (by first | (simp; done) | (simp; omega) | omega) hb2.size; have c2_2_0 := rowcell R2_2 0; have c2_2_1 := rowcell R2_2 1; have c2_2_2 := rowcell R2_2 2; have c2_2_3 := rowcell R2_2 3; have c2_2_4 := rowcell R2_2 4; have c2_2_5 := rowcell R2_2 5; simp only [List.getElem?_toArray, List.getElem?_cons_zero, List.getElem?_cons_succ] at c2_2_0 c2_2_1 c2_2_2 c2_2_3 c2_2_4 c2_2_5; have HR2_2 : Hid _ := R2_2; clear R2_2; have R2_3 := (hb2.block (w1.heap.size) (by first | (simp; done) | (simp; omega) | omega)).trans (rownew' _ _ _ _ (by simp)); have z2_3 : w1.heap.size < w2.heap.size := Nat.lt_of_lt_of_le (by first | (simp; done) | (simp; omega) | omega) hb2.size; have c2_3_0 := rowcell R2_3 0; have c2_3_1 := rowcell R2_3 1; have c2_3_2 := rowcell R2_3 2; have c2_3_3 := rowcell R2_3 3; have c2_3_4 := rowcell R2_3 4; have c2_3_5 := rowcell R2_3 5; simp only [List.getElem?_toArray, List.getElem?_cons_zero, List.getElem?_cons_succ] at c2_3_0 c2_3_1 c2_3_2 c2_3_3 c2_3_4 c2_3_5; have HR2_3 : Hid _ := R2_3; clear R2_3; have HB2 : Hid (Below _ _ _) := hb2; clear hb2; have g2 := rowfree HR2_2.out)
    | (go_at_call 36; go_must (refine (k1 _).mono ?_); rintro e w1 ⟨rfl, hb1⟩; have R1_0 := (hb1.block (w.heap.size) (by first | (simp; done) | (simp; omega) | omega)).trans ((Below.heap_alloc _ _ _ (by first | (simp; done) | (simp; omega) | omega)).trans ((Below.heap_alloc _ _ _ (by first | (simp; done) | (simp; omega) | omega)).trans (rownew' _ _ _ _ (by simp)))); have z1_0 : w.heap.size < w1.heap.size := Nat.lt_of_lt_of_le (by first | (simp; done) | (simp; omega) | omega) hb1.size; have HR1_0 : Hid _ := R1_0; clear R1_0; have R1_1 := (hb1.block (w.heap.size + 1) (by first | (simp; done) | (simp; omega) | omega)).trans ((Below.heap_alloc _ _ _ (by first | (simp; done) | (simp; omega) | omega)).trans (rownew' _ _ _ _ (by simp))); have z1_1 : w.heap.size + 1 < w1.heap.size := Nat.lt_of_lt_of_le (by first | (simp; done) | (simp; omega) | omega) hb1.size; have c1_1_0 := rowcell R1_1 0; have c1_1_1 := rowcell R1_1 1; have c1_1_2 := rowcell R1_1 2; have c1_1_3 := rowcell R1_1 3; simp only [List.getElem?_toArray, List.getElem?_cons_zero, List.getElem?_cons_succ] at c1_1_0 c1_1_1 c1_1_2 c1_1_3; have HR1_1 : Hid _ := R1_1; clear R1_1; have R1_2 := (hb1.block (w.heap.size + 1 + 1) (by first | (simp; done) | (simp; omega) | omega)).trans (rownew' _ _ _ _ (by simp)); have z1_2 : w.heap.size + 1 + 1 < w1.heap.size := Nat.lt_of_lt_of_le (by first | (simp; done) | (simp; omega) | omega) hb1.size; have c1_2_0 := rowcell R1_2 0; have c1_2_1 := rowcell R1_2 1; have c1_2_2 := rowcell R1_2 2; have c1_2_3 := rowcell R1_2 3; have c1_2_4 := rowcell R1_2 4; have c1_2_5 := rowcell R1_2 5; simp only [List.getElem?_toArray, List.getElem?_cons_zero, List.getElem?_cons_succ] at c1_2_0 c1_2_1 c1_2_2 c1_2_3 c1_2_4 c1_2_5; have HR1_2 : Hid _ := R1_2; clear R1_2; have HB1 : Hid (Below _ _ _) := hb1; clear hb1; have f2 := rowfree HR1_2.out))
  refine bodyPost_ret (v := .tuple #[.agg #[.int .i64 k', .bool neg', .int .i64 s', .int .u64 g, .int .u64 0, .bool false], .nilIface]) (by simp [results, Tryz.results32, go_sem, c2_2_0, c2_2_1, c2_2_2, c2_2_3, c2_2_4, c2_2_5, g2, z2_2]; done) rfl (hQ.out _ _ ⟨rfl, ?_⟩)
  first | exact cmore (cset6 (cthen (cmore (cthen (cmore (cmore (cmore (Below.refl _ _) _) _) _) HB1.out) _) HB2.out) (by omega)) _ | exact cset6 (cmore (cthen (cmore (cthen (cmore (cmore (cmore (Below.refl _ _) _) _) _) HB1.out) _) HB2.out) _) (by omega)
theorem ssum_r (k : Int) (neg : Bool) (s : Int) (f : Nat) (k' : Int) (neg' : Bool) (s' : Int) (g : Nat) (hf : f < 2 ^ 64) (hg : g < 2 ^ 64) (h1 : soundN k neg s f = true) (h2 : soundN k' neg' s' g = true) (hk : k ≠ 2) (hk' : k' ≠ 0) (hk2 : k' ≠ 2) (hk0 : k ≠ 0) (K : Int) (B : Bool) (S : Int) (H L : Nat) (R : Bool) (k3 : ∀ w, Calls Tryz.prog 52 #[numV k neg s f, numV k' neg' s' g] w fun e w' => e = .returned (exV K B S H L R) ∧ Below w.heap.size w w') (w : World) :
    Calls Tryz.prog 32 #[numV k neg s f, numV k' neg' s' g] w fun e w' => e = .returned (.tuple #[exV K B S H L R, .nilIface]) ∧ Below w.heap.size w w' := by
  have k1 := rndof_ok k neg s f hf h1
  have k2 := rndof_ok k' neg' s' g hg h2
  have d1 : (k == 2) = false := beq_eq_false_iff_ne.2 hk
  have d2 : (k' == 0) = false := beq_eq_false_iff_ne.2 hk'
  have d3 : (k' == 2) = false := beq_eq_false_iff_ne.2 hk2
  have d4 : (k == 0) = false := beq_eq_false_iff_ne.2 hk0
  clear hk hk' hk2 hk0
  unfold numV exV at *
  rw [show ((0 : Nat) : Int) = 0 from rfl] at *
  refine cps fun Q hQ => ?_
  go_enter Tryz.func32, Tryz.ntmps32
  go_wp2_with (first
    | (go_at_call 36; have chk := HB1; go_must (refine (k2 _).mono ?_); rintro e w2 ⟨rfl, hb2⟩; have R2_0 := (hb2.block (w.heap.size) (by first | (simp; done) | (simp; omega) | omega)).trans ((Below.heap_alloc _ _ _ (by first | (simp; done) | (simp; omega) | omega)).trans HR1_0.out); have z2_0 : w.heap.size < w2.heap.size := Nat.lt_of_lt_of_le (by first | (simp; done) | (simp; omega) | omega) hb2.size; have c2_0_0 := rowcell R2_0 0; have c2_0_1 := rowcell R2_0 1; have c2_0_2 := rowcell R2_0 2; have c2_0_3 := rowcell R2_0 3; simp only [List.getElem?_toArray, List.getElem?_cons_zero, List.getElem?_cons_succ] at c2_0_0 c2_0_1 c2_0_2 c2_0_3; have HR2_0 : Hid _ := R2_0; clear R2_0; have R2_1 := (hb2.block (w.heap.size + 1) (by first | (simp; done) | (simp; omega) | omega)).trans ((Below.heap_alloc _ _ _ (by first | (simp; done) | (simp; omega) | omega)).trans HR1_1.out); have z2_1 : w.heap.size + 1 < w2.heap.size := Nat.lt_of_lt_of_le (by first | (simp; done) | (simp; omega) | omega) hb2.size; have c2_1_0 := rowcell R2_1 0; have c2_1_1 := rowcell R2_1 1; have c2_1_2 := rowcell R2_1 2; have c2_1_3 := rowcell R2_1 3; simp only [List.getElem?_toArray, List.getElem?_cons_zero, List.getElem?_cons_succ] at c2_1_0 c2_1_1 c2_1_2 c2_1_3; have HR2_1 : Hid _ := R2_1; clear R2_1; have R2_2 := (hb2.block (w.heap.size + 1 + 1) (by first | (simp; done) | (simp; omega) | omega)).trans ((Below.heap_alloc _ _ _ (by first | (simp; done) | (simp; omega) | omega)).trans HR1_2.out); have z2_2 : w.heap.size + 1 + 1 < w2.heap.size := Nat.lt_of_lt_of_le (by first | (simp; done) | (simp; omega) | omega) hb2.size; have c2_2_0 := rowcell R2_2 0; have c2_2_1 := rowcell R2_2 1; have c2_2_2 := rowcell R2_2 2; have c2_2_3 := rowcell R2_2 3; have c2_2_4 := rowcell R2_2 4; have c2_2_5 := rowcell R2_2 5; simp only [List.getElem?_toArray, List.getElem?_cons_zero, List.getElem?_cons_succ] at c2_2_0 c2_2_1 c2_2_2 c2_2_3 c2_2_4 c2_2_5; have HR2_2 : Hid _ := R2_2; clear R2_2; have R2_3 := (hb2.block (w1.heap.size) (by first | (simp; done) | (simp; omega) | omega)).trans (rownew' _ _ _ _ (by simp)); have z2_3 : w1.heap.size < w2.heap.size := Nat.lt_of_lt_of_le (by first | (simp; done) | (simp; omega) | omega) hb2.size; have c2_3_0 := rowcell R2_3 0; have c2_3_1 := rowcell R2_3 1; have c2_3_2 := rowcell R2_3 2; have c2_3_3 := rowcell R2_3 3; have c2_3_4 := rowcell R2_3 4; have c2_3_5 := rowcell R2_3 5; simp only [List.getElem?_toArray, List.getElem?_cons_zero, List.getElem?_cons_succ] at c2_3_0 c2_3_1 c2_3_2 c2_3_3 c2_3_4 c2_3_5; have HR2_3 : Hid _ := R2_3; clear R2_3; have HB2 : Hid (Below _ _ _) := hb2; clear hb2; have g2 := rowfree HR2_2.out)
    | (go_at_call 36; go_must (refine (k1 _).mono ?_); rintro e w1 ⟨rfl, hb1⟩; have R1_0 := (hb1.block (w.heap.size) (by first | (simp; done) | (simp; omega) | omega)).trans ((Below.heap_alloc _ _ _ (by first | (simp; done) | (simp; omega) | omega)).trans ((Below.heap_alloc _ _ _ (by first | (simp; done) | (simp; omega) | omega)).trans (rownew' _ _ _ _ (by simp)))); have z1_0 : w.heap.size < w1.heap.size := Nat.lt_of_lt_of_le (by first | (simp; done) | (simp; omega) | omega) hb1.size; have HR1_0 : Hid _ := R1_0; clear R1_0; have R1_1 := (hb1.block (w.heap.size + 1) (by first | (simp; done) | (simp; omega) | omega)).trans ((Below.heap_alloc _ _ _ (by first | (simp; done) | (simp; omega) | omega)).trans (rownew' _ _ _ _ (by simp))); have z1_1 : w.heap.size + 1 < w1.heap.size := Nat.lt_of_lt_of_le (by first | (simp; done) | (simp; omega) | omega) hb1.size; have c1_1_0 := rowcell R1_1 0; have c1_1_1 := rowcell R1_1 1; have c1_1_2 := rowcell R1_1 2; have c1_1_3 := rowcell R1_1 3; simp only [List.getElem?_toArray, List.getElem?_cons_zero, List.getElem?_cons_succ] at c1_1_0 c1_1_1 c1_1_2 c1_1_3; have HR1_1 : Hid _ := R1_1; clear R1_1; have R1_2 := (hb1.block (w.heap.size + 1 + 1) (by first | (simp; done) | (simp; omega) | omega)).trans (rownew' _ _ _ _ (by simp)); have z1_2 : w.heap.size + 1 + 1 < w1.heap.size := Nat.lt_of_lt_of_le (by first | (simp; done) | (simp; omega) | omega) hb1.size; have c1_2_0 := rowcell R1_2 0; have c1_2_1 := rowcell R1_2 1; have c1_2_2 := rowcell R1_2 2; have c1_2_3 := rowcell R1_2 3; have c1_2_4 := rowcell R1_2 4; have c1_2_5 := rowcell R1_2 5; simp only [List.getElem?_toArray, List.getElem?_cons_zero, List.getElem?_cons_succ] at c1_2_0 c1_2_1 c1_2_2 c1_2_3 c1_2_4 c1_2_5; have HR1_2 : Hid _ := R1_2; clear R1_2; have HB1 : Hid (Below _ _ _) := hb1; clear hb1; have f2 := rowfree HR1_2.out)
    | (go_at_call 52; go_must (refine (k3 _).mono ?_); rintro e w3 ⟨rfl, hb3⟩; have R3_0 := (hb3.block (w.heap.size) (by first | (simp; done) | (simp; omega) | omega)).trans ((Below.heap_alloc _ _ _ (by first | (simp; done) | (simp; omega) | omega)).trans HR2_0.out); have z3_0 : w.heap.size < w3.heap.size := Nat.lt_of_lt_of_le (by first | (simp; done) | (simp; omega) | omega) hb3.size; have HR3_0 : Hid _ := R3_0; clear R3_0; have R3_1 := (hb3.block (w.heap.size + 1) (by first | (simp; done) | (simp; omega) | omega)).trans ((Below.heap_alloc _ _ _ (by first | (simp; done) | (simp; omega) | omega)).trans HR2_1.out); have z3_1 : w.heap.size + 1 < w3.heap.size := Nat.lt_of_lt_of_le (by first | (simp; done) | (simp; omega) | omega) hb3.size; have HR3_1 : Hid _ := R3_1; clear R3_1; have R3_2 := (hb3.block (w.heap.size + 1 + 1) (by first | (simp; done) | (simp; omega) | omega)).trans ((Below.heap_alloc _ _ _ (by first | (simp; done) | (simp; omega) | omega)).trans HR2_2.out); have z3_2 : w.heap.size + 1 + 1 < w3.heap.size := Nat.lt_of_lt_of_le (by first | (simp; done) | (simp; omega) | omega) hb3.size; have c3_2_0 := rowcell R3_2 0; have c3_2_1 := rowcell R3_2 1; have c3_2_2 := rowcell R3_2 2; have c3_2_3 := rowcell R3_2 3; have c3_2_4 := rowcell R3_2 4; have c3_2_5 := rowcell R3_2 5; simp only [List.getElem?_toArray, List.getElem?_cons_zero, List.getElem?_cons_succ] at c3_2_0 c3_2_1 c3_2_2 c3_2_3 c3_2_4 c3_2_5; have HR3_2 : Hid _ := R3_2; clear R3_2; have R3_3 := (hb3.block (w1.heap.size) (by first | (simp; done) | (simp; omega) | omega)).trans ((Below.heap_alloc _ _ _ (by first | (simp; done) | (simp; omega) | omega)).trans HR2_3.out); have z3_3 : w1.heap.size < w3.heap.size := Nat.lt_of_lt_of_le (by first | (simp; done) | (simp; omega) | omega) hb3.size; have HR3_3 : Hid _ := R3_3; clear R3_3; have R3_4 := (hb3.block (w2.heap.size) (by first | (simp; done) | (simp; omega) | omega)).trans (rownew' _ _ _ _ (by simp)); have z3_4 : w2.heap.size < w3.heap.size := Nat.lt_of_lt_of_le (by first | (simp; done) | (simp; omega) | omega) hb3.size; have HR3_4 : Hid _ := R3_4; clear R3_4; have HB3 : Hid (Below _ _ _) := hb3; clear hb3; have e2 := rowfree HR3_2.out))
  refine bodyPost_ret (v := .tuple #[.agg #[.int .i64 K, .bool B, .int .i64 S, .int .u64 H, .int .u64 L, .bool R], .nilIface]) (by simp [results, Tryz.results32, go_sem, c3_2_0, c3_2_1, c3_2_2, c3_2_3, c3_2_4, c3_2_5, e2, z3_2]; done) rfl (hQ.out _ _ ⟨rfl, ?_⟩)
  exact cset6 (cthen (cmore (cthen (cmore (cthen (cmore (cmore (cmore (Below.refl _ _) _) _) _) HB1.out) _) HB2.out) _) HB3.out) (by omega)
theorem ssum_ok (k : Int) (neg : Bool) (s : Int) (f : Nat) (k' : Int) (neg' : Bool) (s' : Int) (g : Nat) (hf : f < 2 ^ 64) (hg : g < 2 ^ 64) (h1 : soundN k neg s f = true) (h2 : soundN k' neg' s' g = true) (w : World) :
    Calls Tryz.prog 32 #[numV k neg s f, numV k' neg' s' g] w fun e w' => e = .returned (.tuple #[sum9 k neg s f 0 k' neg' s' g 0, .nilIface]) ∧ Below w.heap.size w w' := by
  have cs : ∀ (k : Int) (neg : Bool) (s : Int) (f : Nat), soundN k neg s f = true → ((k = 0 ∨ k = 2) ∧ neg = false ∧ s = 0 ∧ f = 0) ∨ k = 1 := fun k neg s f h => by
    unfold soundN at h
    by_cases c : k = 0 ∨ k = 2
    · rw [if_pos c] at h; exact .inl ⟨c, of_decide_eq_true h⟩
    · rw [if_neg c] at h; exact .inr (of_decide_eq_true h).1
  unfold sum9
  by_cases a2 : k = 2
  · rw [if_pos (.inl a2)]
    rcases cs k neg s f h1 with ⟨_, rfl, rfl, rfl⟩ | c
    · have := ssum_a1 k false 0 0 k' neg' s' g hf hg h1 h2 a2 w
      rw [a2] at this ⊢; exact this
    · omega
  · by_cases b2 : k' = 2
    · rw [if_pos (.inr b2)]
      rcases cs k' neg' s' g h2 with ⟨_, rfl, rfl, rfl⟩ | c
      · have := ssum_b1 k neg s f k' false 0 0 hf hg h1 h2 a2 (by omega) b2 w
        rw [b2] at this ⊢; exact this
      · omega
    · rw [if_neg (by omega)]
      by_cases b0 : k' = 0
      · have hr : (if k = 0 then exV k' neg' s' g 0 false else if k' = 0 then exV k neg s f 0 false else sumR neg s (manX f 0) neg' s' (manX g 0)) = exV k neg s f 0 false := by
          by_cases a0 : k = 0
          · rw [if_pos a0]
            rcases cs k neg s f h1 with ⟨_, rfl, rfl, rfl⟩ | c
            · rcases cs k' neg' s' g h2 with ⟨_, rfl, rfl, rfl⟩ | c
              · rw [a0, b0]
              · omega
            · omega
          · rw [if_neg a0, if_pos b0]
        rw [hr]
        exact ssum_a2 k neg s f k' neg' s' g hf hg h1 h2 a2 b0 w
      · by_cases a0 : k = 0
        · rw [if_pos a0]
          exact ssum_b2 k neg s f k' neg' s' g hf hg h1 h2 a2 b0 b2 a0 w
        · rw [if_neg a0, if_neg b0]
          obtain rfl : k = 1 := by rcases cs k neg s f h1 with ⟨c, _⟩ | c <;> omega
          obtain rfl : k' = 1 := by rcases cs k' neg' s' g h2 with ⟨c, _⟩ | c <;> omega
          obtain ⟨K, B, S, H, L, R, hform⟩ := sumR_form neg s (manX f 0) neg' s' (manX g 0)
          have k3 := fun w => sreals_any neg s f neg' s' g hf hg h1 h2 w
          rw [hform] at k3 ⊢
          exact ssum_r 1 neg s f 1 neg' s' g hf hg h1 h2 a2 b0 b2 a0 K B S H L R k3 w
/-! ### Add, Sub -/
theorem sadd_no (n : Int) (a b : Nat) (hn : isW n = false) (w : World) :
    Calls Tryz.prog 15 #[.int .i64 n, .int .u64 a, .int .u64 b] w fun e w' => e = .returned (.tuple #[.int .u64 0, codeV 2]) ∧ Below w.heap.size w w' := by
  have k1 := cdecode_no n a hn
  clear hn
  unfold numV at *
  refine cps fun Q hQ => ?_
  go_enter Tryz.func15, Tryz.ntmps15
  go_wp2_with (go_at_call 31; go_must (refine (k1 _).mono ?_); rintro e w1 ⟨rfl, hb1⟩)
  exact hQ.out _ _ ⟨rfl, cmore hb1 _⟩
theorem sadd_ok (n a b : Nat) (hn : Wd n) (ha : a < 2 ^ 64) (hb : b < 2 ^ 64) (w : World) :
    Calls Tryz.prog 15 #[.int .i64 n, .int .u64 a, .int .u64 b] w fun e w' => e = .returned (.tuple #[.int .u64 (patS n a b : Nat), .nilIface]) ∧ Below w.heap.size w w' := by
  have k1 := cdecode_v n a hn ha
  have k2 := cdecode_v n b hn hb
  have k3 := ssum_ok (vK n a) (vB n a) (vS n a) (vF n a) (vK n b) (vB n b) (vS n b) (vF n b) (vF_lt n a) (vF_lt n b) (sound_v n a hn ha) (sound_v n b hn hb)
  rw [sum9_val n a b hn ha hb] at k3
  have k4 : ∀ w, Calls Tryz.prog 33 #[.int .i64 n, if vK n a = 2 ∨ vK n b = 2 then exV 2 false 0 0 0 false else exI (valI n a + valI n b) eN] w fun r w' => r = .returned (.tuple #[.int .u64 (patS n a b : Nat), .nilIface]) ∧ Below w.heap.size w w' := by
    intro w
    unfold patS
    by_cases h : vK n a = 2 ∨ vK n b = 2
    · rw [if_pos h, if_pos h]; exact rround_nar n hn w
    · rw [if_neg h, if_neg h]; exact rround_exI n _ _ hn w
  have hform : ∃ K B S H L R, (if vK n a = 2 ∨ vK n b = 2 then exV 2 false 0 0 0 false else exI (valI n a + valI n b) eN) = exV K B S H L R := by
    by_cases h : vK n a = 2 ∨ vK n b = 2
    · rw [if_pos h]; exact ⟨_, _, _, _, _, _, rfl⟩
    · rw [if_neg h]; exact exI_form _ _
  obtain ⟨K, B, S, H, L, R, hform⟩ := hform
  rw [hform] at k3 k4
  clear hform hn ha hb
  generalize patS n a b = P at *
  generalize vK n a = ka at *
  generalize vB n a = ba at *
  generalize vS n a = sa at *
  generalize vF n a = fa at *
  generalize vK n b = kb at *
  generalize vB n b = bb at *
  generalize vS n b = sb at *
  generalize vF n b = fb at *
  unfold numV exV at *
  refine cps fun Q hQ => ?_
  go_enter Tryz.func15, Tryz.ntmps15
  go_wp2_with (first
    | (go_at_call 31; have chk := HB1; go_must (refine (k2 _).mono ?_); rintro e w2 ⟨rfl, hb2⟩; have R2_0 := (hb2.block (w1.heap.size) (by first | (simp; done) | (simp; omega) | omega)).trans (rownew' _ _ _ _ (by simp)); have z2_0 : w1.heap.size < w2.heap.size := Nat.lt_of_lt_of_le (by first | (simp; done) | (simp; omega) | omega) hb2.size; have c2_0_0 := rowcell R2_0 0; have c2_0_1 := rowcell R2_0 1; have c2_0_2 := rowcell R2_0 2; have c2_0_3 := rowcell R2_0 3; simp only [List.getElem?_toArray, List.getElem?_cons_zero, List.getElem?_cons_succ] at c2_0_0 c2_0_1 c2_0_2 c2_0_3; have HR2_0 : Hid _ := R2_0; clear R2_0; have HB2 : Hid (Below _ _ _) := hb2; clear hb2)
    | (go_at_call 31; go_must (refine (k1 _).mono ?_); rintro e w1 ⟨rfl, hb1⟩; have HB1 : Hid (Below _ _ _) := hb1; clear hb1)
    | (go_at_call 32; go_must (refine (k3 _).mono ?_); rintro e w3 ⟨rfl, hb3⟩; have R3_0 := (hb3.block (w1.heap.size) (by first | (simp; done) | (simp; omega) | omega)).trans ((Below.heap_alloc _ _ _ (by first | (simp; done) | (simp; omega) | omega)).trans HR2_0.out); have z3_0 : w1.heap.size < w3.heap.size := Nat.lt_of_lt_of_le (by first | (simp; done) | (simp; omega) | omega) hb3.size; have HR3_0 : Hid _ := R3_0; clear R3_0; have R3_1 := (hb3.block (w2.heap.size) (by first | (simp; done) | (simp; omega) | omega)).trans (rownew' _ _ _ _ (by simp)); have z3_1 : w2.heap.size < w3.heap.size := Nat.lt_of_lt_of_le (by first | (simp; done) | (simp; omega) | omega) hb3.size; have HR3_1 : Hid _ := R3_1; clear R3_1; have HB3 : Hid (Below _ _ _) := hb3; clear hb3)
    | (go_at_call 33; go_must (refine (k4 _).mono ?_); rintro e w4 ⟨rfl, hb4⟩; have R4_0 := (hb4.block (w1.heap.size) (by first | (simp; done) | (simp; omega) | omega)).trans ((Below.heap_alloc _ _ _ (by first | (simp; done) | (simp; omega) | omega)).trans HR3_0.out); have z4_0 : w1.heap.size < w4.heap.size := Nat.lt_of_lt_of_le (by first | (simp; done) | (simp; omega) | omega) hb4.size; have HR4_0 : Hid _ := R4_0; clear R4_0; have R4_1 := (hb4.block (w2.heap.size) (by first | (simp; done) | (simp; omega) | omega)).trans ((Below.heap_alloc _ _ _ (by first | (simp; done) | (simp; omega) | omega)).trans HR3_1.out); have z4_1 : w2.heap.size < w4.heap.size := Nat.lt_of_lt_of_le (by first | (simp; done) | (simp; omega) | omega) hb4.size; have HR4_1 : Hid _ := R4_1; clear R4_1; have R4_2 := (hb4.block (w3.heap.size) (by first | (simp; done) | (simp; omega) | omega)).trans (rownew' _ _ _ _ (by simp)); have z4_2 : w3.heap.size < w4.heap.size := Nat.lt_of_lt_of_le (by first | (simp; done) | (simp; omega) | omega) hb4.size; have HR4_2 : Hid _ := R4_2; clear R4_2; have HB4 : Hid (Below _ _ _) := hb4; clear hb4))
  exact hQ.out _ _ ⟨rfl, cthen (cmore (cthen (cmore (cthen (cmore (cthen (Below.refl _ _) HB1.out) _) HB2.out) _) HB3.out) _) HB4.out⟩
theorem ssub_walk (n : Int) (a b c : Nat) (P : Int) (v : Value) (hw : IntKind.u64.wrap (-(b : Int)) = (c : Int)) (k1 : ∀ w, Calls Tryz.prog 15 #[.int .i64 n, .int .u64 a, .int .u64 c] w fun e w' => e = .returned (.tuple #[.int .u64 P, v]) ∧ Below w.heap.size w w') (w : World) :
    Calls Tryz.prog 16 #[.int .i64 n, .int .u64 a, .int .u64 b] w fun e w' => e = .returned (.tuple #[.int .u64 P, v]) ∧ Below w.heap.size w w' := by
  refine cps fun Q hQ => ?_
  go_enter Tryz.func16, Tryz.ntmps16
  go_wp2_with (go_at_call 15; go_must (refine (k1 _).mono ?_); rintro e w1 ⟨rfl, hb1⟩)
  exact hQ.out _ _ ⟨rfl, hb1⟩
theorem ssub_no (n : Int) (a b : Nat) (hn : isW n = false) (w : World) :
    Calls Tryz.prog 16 #[.int .i64 n, .int .u64 a, .int .u64 b] w fun e w' => e = .returned (.tuple #[.int .u64 0, codeV 2]) ∧ Below w.heap.size w w' :=
  ssub_walk n a b (IntKind.u64.wrap (-(b : Int))).toNat 0 _ (by rw [IntKind.wrap_u64]; omega) (sadd_no n a _ hn) w
theorem patS_minusU (n a b : Nat) (hn : Wd n) (hb : b < 2 ^ 64) : patS n a (minusU b) = patS n a (negO n b) := by
  have hw := wd_le hn
  have e : minusU b % 2 ^ n = negO n b % 2 ^ n := by unfold negO; rw [Nat.mod_mod]
  have hv := val_mod n (minusU b) (negO n b) hn (minusU_lt b) (negO_lt64 n b hn) e
  have hk : vK n (minusU b) = vK n (negO n b) := by unfold vK; rw [e]
  unfold patS
  rw [hv, hk]
theorem ssub_ok (n a b : Nat) (hn : Wd n) (ha : a < 2 ^ 64) (hb : b < 2 ^ 64) (w : World) :
    Calls Tryz.prog 16 #[.int .i64 n, .int .u64 a, .int .u64 b] w fun e w' => e = .returned (.tuple #[.int .u64 (patS n a (negO n b) : Nat), .nilIface]) ∧ Below w.heap.size w w' := by
  rw [← patS_minusU n a b hn hb]
  exact ssub_walk n a b (minusU b) _ _ (minusU_wrap b hb) (sadd_ok n a (minusU b) hn ha (minusU_lt b)) w
end Go.Proofs.YtheliihkkoohnabGreat

namespace Go.Proofs.YtheliihkkoohnabGreat
/-! ### the contracts of package sum stand in SmI -/
end Go.Proofs.YtheliihkkoohnabGreat



namespace Go.Proofs.YtheliihkkoohnabGreat
open Go.ChangeShapes Go.WideShapes Go.ChangeAt Go.RowKit
set_option linter.unusedVariables false
set_option linter.unusedSimpArgs false
set_option maxRecDepth 100000

theorem nil_not_code (w : World) (c : Int) : (binOp BinOp.eql 25 .nilIface (.iface 29 (.int .i64 c))).run Tryz.prog w = .ok (.bool false) w := by kernel_rfl
end Go.Proofs.YtheliihkkoohnabGreat

namespace Go.Proofs.YtheliihkkoohnabGreat
open Go.ChangeShapes Go.WideShapes Go.ChangeAt Go.RowKit
set_option linter.unusedVariables false
set_option linter.unusedSimpArgs false
set_option maxRecDepth 100000

end Go.Proofs.YtheliihkkoohnabGreat

namespace Go.Proofs.YtheliihkkoohnabGreat
open Go.ChangeShapes Go.WideShapes Go.ChangeAt Go.RowKit
set_option linter.unusedVariables false
set_option linter.unusedSimpArgs false
set_option maxRecDepth 100000

/-! ### what the program answers, by the operation's number -/
theorem vdone0_no (n : Int) (a b c : Nat) (hn : isW n = false) (w : World) :
    Calls Tryz.prog 5 #[.int .i64 n, .int .i64 0, .int .u64 a, .int .u64 b, .int .u64 c] w fun e w' => e = .returned (.tuple #[.int .u64 0, codeV 2]) ∧ Below w.heap.size w w' := by
  have k1 := sadd_no n a b hn
  unfold codeV at *
  clear hn
  refine cps fun Q hQ => ?_
  go_enter Tryz.func5, Tryz.ntmps5
  go_wp2_with (go_at_call 15; refine (k1 _).mono ?_; rintro e w1 ⟨rfl, hb1⟩)
  exact hQ.out _ _ ⟨rfl, hb1⟩
theorem vdone0_ok (n a b c : Nat) (hn : Wd n) (ha : a < 2 ^ 64) (hb : b < 2 ^ 64) (hc : c < 2 ^ 64) (w : World) :
    Calls Tryz.prog 5 #[.int .i64 n, .int .i64 0, .int .u64 a, .int .u64 b, .int .u64 c] w fun e w' => e = .returned (.tuple #[.int .u64 (patS n a b : Nat), .nilIface]) ∧ Below w.heap.size w w' := by
  have k1 := sadd_ok n a b hn ha hb
  generalize patS n a b = V at *
  clear hn ha hb hc
  refine cps fun Q hQ => ?_
  go_enter Tryz.func5, Tryz.ntmps5
  go_wp2_with (go_at_call 15; refine (k1 _).mono ?_; rintro e w1 ⟨rfl, hb1⟩)
  exact hQ.out _ _ ⟨rfl, hb1⟩
theorem vdone1_no (n : Int) (a b c : Nat) (hn : isW n = false) (w : World) :
    Calls Tryz.prog 5 #[.int .i64 n, .int .i64 1, .int .u64 a, .int .u64 b, .int .u64 c] w fun e w' => e = .returned (.tuple #[.int .u64 0, codeV 2]) ∧ Below w.heap.size w w' := by
  have k1 := ssub_no n a b hn
  unfold codeV at *
  clear hn
  refine cps fun Q hQ => ?_
  go_enter Tryz.func5, Tryz.ntmps5
  go_wp2_with (go_at_call 16; refine (k1 _).mono ?_; rintro e w1 ⟨rfl, hb1⟩)
  exact hQ.out _ _ ⟨rfl, hb1⟩
theorem vdone1_ok (n a b c : Nat) (hn : Wd n) (ha : a < 2 ^ 64) (hb : b < 2 ^ 64) (hc : c < 2 ^ 64) (w : World) :
    Calls Tryz.prog 5 #[.int .i64 n, .int .i64 1, .int .u64 a, .int .u64 b, .int .u64 c] w fun e w' => e = .returned (.tuple #[.int .u64 (patS n a (negO n b) : Nat), .nilIface]) ∧ Below w.heap.size w w' := by
  have k1 := ssub_ok n a b hn ha hb
  generalize patS n a (negO n b) = V at *
  clear hn ha hb hc
  refine cps fun Q hQ => ?_
  go_enter Tryz.func5, Tryz.ntmps5
  go_wp2_with (go_at_call 16; refine (k1 _).mono ?_; rintro e w1 ⟨rfl, hb1⟩)
  exact hQ.out _ _ ⟨rfl, hb1⟩
theorem vdone2_no (n : Int) (a b c : Nat) (hn : isW n = false) (w : World) :
    Calls Tryz.prog 5 #[.int .i64 n, .int .i64 2, .int .u64 a, .int .u64 b, .int .u64 c] w fun e w' => e = .returned (.tuple #[.int .u64 0, codeV 2]) ∧ Below w.heap.size w w' := by
  have k1 := pmul_no n a b hn
  unfold codeV at *
  clear hn
  refine cps fun Q hQ => ?_
  go_enter Tryz.func5, Tryz.ntmps5
  go_wp2_with (go_at_call 17; refine (k1 _).mono ?_; rintro e w1 ⟨rfl, hb1⟩)
  exact hQ.out _ _ ⟨rfl, hb1⟩
theorem vdone2_ok (n a b c : Nat) (hn : Wd n) (ha : a < 2 ^ 64) (hb : b < 2 ^ 64) (hc : c < 2 ^ 64) (w : World) :
    Calls Tryz.prog 5 #[.int .i64 n, .int .i64 2, .int .u64 a, .int .u64 b, .int .u64 c] w fun e w' => e = .returned (.tuple #[.int .u64 (patP n a b : Nat), .nilIface]) ∧ Below w.heap.size w w' := by
  have k1 := pmul_ok n a b hn ha hb
  generalize patP n a b = V at *
  clear hn ha hb hc
  refine cps fun Q hQ => ?_
  go_enter Tryz.func5, Tryz.ntmps5
  go_wp2_with (go_at_call 17; refine (k1 _).mono ?_; rintro e w1 ⟨rfl, hb1⟩)
  exact hQ.out _ _ ⟨rfl, hb1⟩
theorem vdone3_no (n : Int) (a b c : Nat) (hn : isW n = false) (w : World) :
    Calls Tryz.prog 5 #[.int .i64 n, .int .i64 3, .int .u64 a, .int .u64 b, .int .u64 c] w fun e w' => e = .returned (.tuple #[.int .u64 0, codeV 2]) ∧ Below w.heap.size w w' := by
  have k1 := qdiv_no n a b hn
  unfold codeV at *
  clear hn
  refine cps fun Q hQ => ?_
  go_enter Tryz.func5, Tryz.ntmps5
  go_wp2_with (go_at_call 18; refine (k1 _).mono ?_; rintro e w1 ⟨rfl, hb1⟩)
  exact hQ.out _ _ ⟨rfl, hb1⟩
theorem vdone3_ok (n a b c : Nat) (hn : Wd n) (ha : a < 2 ^ 64) (hb : b < 2 ^ 64) (hc : c < 2 ^ 64) (w : World) :
    Calls Tryz.prog 5 #[.int .i64 n, .int .i64 3, .int .u64 a, .int .u64 b, .int .u64 c] w fun e w' => e = .returned (.tuple #[.int .u64 (patQ n a b : Nat), .nilIface]) ∧ Below w.heap.size w w' := by
  have k1 := qdiv_ok n a b hn ha hb
  generalize patQ n a b = V at *
  clear hn ha hb hc
  refine cps fun Q hQ => ?_
  go_enter Tryz.func5, Tryz.ntmps5
  go_wp2_with (go_at_call 18; refine (k1 _).mono ?_; rintro e w1 ⟨rfl, hb1⟩)
  exact hQ.out _ _ ⟨rfl, hb1⟩
theorem vdone4_no (n : Int) (a b c : Nat) (hn : isW n = false) (w : World) :
    Calls Tryz.prog 5 #[.int .i64 n, .int .i64 4, .int .u64 a, .int .u64 b, .int .u64 c] w fun e w' => e = .returned (.tuple #[.int .u64 0, codeV 2]) ∧ Below w.heap.size w w' := by
  have k1 := rootq_no n a hn
  unfold codeV at *
  clear hn
  refine cps fun Q hQ => ?_
  go_enter Tryz.func5, Tryz.ntmps5
  go_wp2_with (go_at_call 19; refine (k1 _).mono ?_; rintro e w1 ⟨rfl, hb1⟩)
  exact hQ.out _ _ ⟨rfl, hb1⟩
theorem vdone4_ok (n a b c : Nat) (hn : Wd n) (ha : a < 2 ^ 64) (hb : b < 2 ^ 64) (hc : c < 2 ^ 64) (w : World) :
    Calls Tryz.prog 5 #[.int .i64 n, .int .i64 4, .int .u64 a, .int .u64 b, .int .u64 c] w fun e w' => e = .returned (.tuple #[.int .u64 (patT2 n a : Nat), .nilIface]) ∧ Below w.heap.size w w' := by
  have k1 := rootq_ok n a hn ha
  generalize patT2 n a = V at *
  clear hn ha hb hc
  refine cps fun Q hQ => ?_
  go_enter Tryz.func5, Tryz.ntmps5
  go_wp2_with (go_at_call 19; refine (k1 _).mono ?_; rintro e w1 ⟨rfl, hb1⟩)
  exact hQ.out _ _ ⟨rfl, hb1⟩
theorem vdone5_no (n : Int) (a b c : Nat) (hn : isW n = false) (w : World) :
    Calls Tryz.prog 5 #[.int .i64 n, .int .i64 5, .int .u64 a, .int .u64 b, .int .u64 c] w fun e w' => e = .returned (.tuple #[.int .u64 0, codeV 2]) ∧ Below w.heap.size w w' := by
  have k1 := ffma_no n a b c hn
  unfold codeV at *
  clear hn
  refine cps fun Q hQ => ?_
  go_enter Tryz.func5, Tryz.ntmps5
  go_wp2_with (go_at_call 20; refine (k1 _).mono ?_; rintro e w1 ⟨rfl, hb1⟩)
  exact hQ.out _ _ ⟨rfl, hb1⟩
theorem vdone5_ok (n a b c : Nat) (hn : Wd n) (ha : a < 2 ^ 64) (hb : b < 2 ^ 64) (hc : c < 2 ^ 64) (w : World) :
    Calls Tryz.prog 5 #[.int .i64 n, .int .i64 5, .int .u64 a, .int .u64 b, .int .u64 c] w fun e w' => e = .returned (.tuple #[.int .u64 (patF n a b c : Nat), .nilIface]) ∧ Below w.heap.size w w' := by
  have k1 := ffma_ok n a b c hn ha hb hc
  generalize patF n a b c = V at *
  clear hn ha hb hc
  refine cps fun Q hQ => ?_
  go_enter Tryz.func5, Tryz.ntmps5
  go_wp2_with (go_at_call 20; refine (k1 _).mono ?_; rintro e w1 ⟨rfl, hb1⟩)
  exact hQ.out _ _ ⟨rfl, hb1⟩
end Go.Proofs.YtheliihkkoohnabGreat

namespace Go.Proofs.YtheliihkkoohnabGreat
open Go.ChangeShapes Go.WideShapes Go.ChangeAt Go.RowKit
set_option linter.unusedVariables false
set_option linter.unusedSimpArgs false
set_option maxRecDepth 100000

/-! ### TopNearest over what is called -/
theorem valof_v (n x : Nat) (hn : Wd n) (hx : x < 2 ^ 64) (w : World) :
    Calls Tryz.prog 10 #[numV (vK n x) (vB n x) (vS n x) (vF n x)] w fun e w' => ∃ v, e = .returned (.agg #[.bool (vB n x), v, .int .i64 (vE n x)]) ∧ Row w' v (dig (vM n x)) ∧ Below w.heap.size w w' := by
  unfold vM vE
  by_cases h : vK n x = 1
  · obtain ⟨_, _, _, _, _, _, wd, s1, s2⟩ := v_real n x hn hx h
    have hw := wd_le hn
    rw [if_pos h, if_pos h, h]
    exact valof_real (vB n x) (vS n x) (vF n x) wd.hi64 (by omega) w
  · rw [if_neg h, if_neg h, (v_other n x h).1]
    refine (valof_other (vK n x) false (vS n x) (vF n x) h w).mono ?_
    rintro e w' ⟨rfl, h1⟩
    exact ⟨_, rfl, by rw [dig_zero]; exact row_nil _, h1⟩
theorem row3 {w : World} {m : Nat} {u0 u1 u2 v0 v1 v2 : Value} {t : TypeId} (h : w.heap[m]? = some (.cells #[u0, u1, u2] t (0, 0))) :
    (((w.setCell ⟨m, 0, none⟩ v0).setCell ⟨m, 1, none⟩ v1).setCell ⟨m, 2, none⟩ v2).heap[m]? = some (.cells #[v0, v1, v2] t (0, 0)) := by
  have h := rowset h 0 v0
  simp only [List.setIfInBounds_toArray, List.set_cons_zero, List.set_cons_succ] at h
  have h := rowset h 1 v1
  simp only [List.setIfInBounds_toArray, List.set_cons_zero, List.set_cons_succ] at h
  have h := rowset h 2 v2
  simp only [List.setIfInBounds_toArray, List.set_cons_zero, List.set_cons_succ] at h
  exact h
theorem rowput4 {w : World} {m : Nat} {u0 u1 u2 u3 v0 v1 v2 v3 : Value} {t : TypeId} (h : w.heap[m]? = some (.cells #[u0, u1, u2, u3] t (0, 0))) :
    ((((w.setCell ⟨m, 0, none⟩ v0).setCell ⟨m, 1, none⟩ v1).setCell ⟨m, 2, none⟩ v2).setCell ⟨m, 3, none⟩ v3).heap[m]? = some (.cells #[v0, v1, v2, v3] t (0, 0)) := by
  have h := rowset h 0 v0
  simp only [List.setIfInBounds_toArray, List.set_cons_zero, List.set_cons_succ] at h
  have h := rowset h 1 v1
  simp only [List.setIfInBounds_toArray, List.set_cons_zero, List.set_cons_succ] at h
  have h := rowset h 2 v2
  simp only [List.setIfInBounds_toArray, List.set_cons_zero, List.set_cons_succ] at h
  have h := rowset h 3 v3
  simp only [List.setIfInBounds_toArray, List.set_cons_zero, List.set_cons_succ] at h
  exact h
theorem rowoff4 {w : World} {m g : Nat} {v0 v1 v2 v3 : Value} (h : g ≠ m) :
    ((((w.setCell ⟨m, 0, none⟩ v0).setCell ⟨m, 1, none⟩ v1).setCell ⟨m, 2, none⟩ v2).setCell ⟨m, 3, none⟩ v3).heap[g]? = w.heap[g]? := by
  rw [heap_setCell_other _ _ g _ h, heap_setCell_other _ _ g _ h, heap_setCell_other _ _ g _ h, heap_setCell_other _ _ g _ h]
theorem ok_v (n x : Nat) (hn : Wd n) (hx : x < 2 ^ 64) : Ok (vM n x) (vE n x) := by
  unfold vM vE
  by_cases h : vK n x = 1
  · obtain ⟨_, _, _, _, _, _, wd, s1, s2⟩ := v_real n x hn hx h
    have hw := wd_le hn
    rw [if_pos h, if_pos h]
    exact ⟨by rw [word_blen wd]; decide, by omega, by omega⟩
  · rw [if_neg h, if_neg h]
    exact ⟨by rw [blen_zero]; decide, by decide, by decide⟩
theorem ok_v2 (n x : Nat) (hn : Wd n) (hx : x < 2 ^ 64) : (-900 ≤ vE n x ∧ vE n x ≤ 900) ∧ blen (vM n x) ≤ 100 := by
  unfold vM vE
  by_cases h : vK n x = 1
  · obtain ⟨_, _, _, _, _, _, wd, s1, s2⟩ := v_real n x hn hx h
    have hw := wd_le hn
    rw [if_pos h, if_pos h]
    exact ⟨⟨by omega, by omega⟩, by rw [word_blen wd]; decide⟩
  · rw [if_neg h, if_neg h]
    exact ⟨by decide, by rw [blen_zero]; decide⟩
/-- how verniertop compares what is told (M, E, beside G, H) with a tie (m, F), by the operation's number -/
def cmpO (o : Int) (M : Nat) (E : Int) (G : Nat) (H : Int) (m : Nat) (F : Int) : Int :=
  if o = 3 then cmpN (M * 2 ^ (E - (F + H)).toNat) (m * G * 2 ^ (F + H - E).toNat)
  else if o = 4 then cmpN (M * 2 ^ (E - (F + F)).toNat) (m * m * 2 ^ (F + F - E).toNat)
  else cmpN (M * 2 ^ (E - F).toNat) (m * 2 ^ (F - E).toNat)
theorem vbeside_any (o : Int) (n1 : Bool) (v1 : Value) (M : Nat) (E : Int) (n2 : Bool) (v2 : Value) (G : Nat) (H : Int) (n3 : Bool) (v3 : Value) (m : Nat) (F : Int) (w : World) (hr1 : Row w v1 (dig M)) (hr2 : Row w v2 (dig G)) (hr3 : Row w v3 (dig m)) (o1 : Ok M E) (o2 : Ok G H) (q2 : -900 ≤ H ∧ H ≤ 900) (s2 : blen G ≤ 100) (q3 : -400 ≤ F ∧ F ≤ 400 ∧ blen m ≤ 64) :
    Calls Tryz.prog 13 #[.int .i64 o, .agg #[.bool n1, v1, .int .i64 E], .agg #[.bool n2, v2, .int .i64 H], .agg #[.bool n3, v3, .int .i64 F]] w fun e w' => e = .returned (.int .i64 (cmpO o M E G H m F)) ∧ Below w.heap.size w w' := by
  have o3 : Ok m F := ⟨by omega, by omega, by omega⟩
  unfold cmpO
  by_cases h3 : o = 3
  · rw [if_pos h3, h3]
    exact vbeside_div n1 v1 M E n2 v2 G H n3 v3 m F w hr1 hr2 hr3 o1 o2 o3 q2 ⟨by omega, by omega⟩ (by omega) s2
  · rw [if_neg h3]
    by_cases h4 : o = 4
    · rw [if_pos h4, h4]
      exact vbeside_root n1 v1 M E n2 v2 G H n3 v3 m F w hr1 hr2 hr3 o1 o2 o3 q2 ⟨by omega, by omega⟩ (by omega) (by omega)
    · rw [if_neg h4]
      exact vbeside_plain o h3 h4 n1 v1 M E n2 v2 G H n3 v3 m F w hr1 hr2 hr3 o1 o2 o3
/-- R stands between its ties -/
def SidesO (n R : Nat) (f : Nat → Int → Int) : Prop :=
  (R < 2 ^ (n - 1) - 1 → ∀ m j F, TieF n R m j F → f m F = -1 ∨ (f m F = 0 ∧ R % 2 = 0)) ∧ (1 < R → ∀ m j F, TieF n (R - 1) m j F → f m F = 1 ∨ (f m F = 0 ∧ R % 2 = 0))
def NarO (n a b c : Nat) (o : Int) : Prop := vK n a = 2 ∨ vK n b = 2 ∨ vK n c = 2 ∨ (o = 3 ∧ vK n b = 0) ∨ (o = 4 ∧ vB n a = true)
def sgO (o : Int) (a b : Bool) : Bool := if o = 3 then xorB a b else a
/-- what is told of a result: M times 2^E (beside G times 2^H) -/
def ToldO (n Q : Nat) (o : Int) (yb : Bool) (G : Nat) (H : Int) (nv : Bool) (M : Nat) (E : Int) : Prop :=
  (-2000 ≤ E ∧ E ≤ 2000) ∧ blen M ≤ 1300 ∧ (M = 0 → Q = 0) ∧ (M ≠ 0 → ∃ R, Q = patR n (sgO o nv yb) R ∧ (1 ≤ R ∧ R ≤ 2 ^ (n - 1) - 1) ∧ SidesO n R (cmpO o M E G H))
set_option maxHeartbeats 16000000 in
theorem near_any (n a b c b' c' Q : Nat) (op o : Int) (hn : Wd n) (ha : a < 2 ^ 64) (hb : b < 2 ^ 64) (hc : c < 2 ^ 64)
    (eb' : (o = 4 ∧ b' = 0) ∨ (o ≠ 4 ∧ b' = b)) (ec' : (o ≠ 5 ∧ c' = 0) ∨ (o = 5 ∧ c' = c))
    (kp : ∀ w, Calls Tryz.prog 4 #[.int .i64 op, .int .i64 6] w fun e w' => e = .returned (.int .i64 o) ∧ w' = w)
    (kd : ∀ w, Calls Tryz.prog 5 #[.int .i64 n, .int .i64 o, .int .u64 a, .int .u64 b, .int .u64 c] w fun e w' => e = .returned (.tuple #[.int .u64 Q, .nilIface]) ∧ Below w.heap.size w w')
    (hnar : NarO n a b' c' o → Q = 2 ^ (n - 1))
    (kx : ¬ NarO n a b' c' o → ∀ v1 v2 v3 w, Row w v1 (dig (vM n a)) → Row w v2 (dig (vM n b')) → Row w v3 (dig (vM n c')) → Calls Tryz.prog 9 #[.int .i64 o, .agg #[.bool (vB n a), v1, .int .i64 (vE n a)], .agg #[.bool (vB n b'), v2, .int .i64 (vE n b')], .agg #[.bool (vB n c'), v3, .int .i64 (vE n c')]] w fun e w' => ∃ nv v M E, e = .returned (.agg #[.bool nv, v, .int .i64 E]) ∧ Row w' v (dig M) ∧ ToldO n Q o (vB n b') (vM n b') (vE n b') nv M E ∧ Below w.heap.size w w')
    (w : World) :
    Calls Tryz.prog 3 #[.int .i64 n, .int .i64 op, .int .u64 a, .int .u64 b, .int .u64 c] w fun e w' => e = .returned (.bool true) ∧ Below w.heap.size w w' := by
  have he := fun w a b => Lib.run_eql_iface_int (P := Tryz.prog) w (t := 25) (tx := 29) (k := .i64) a b Tryz.underlying25 (by kernel_rfl) Tryz.underlying29
  have hnl := nil_not_code
  have kis := is_width n
  rw [isW_of hn] at kis
  have hw := wd_le hn
  have q1 : IntKind.i64.wrap ((n : Int) - 1) = (n : Int) - 1 := wrapI (by omega)
  have kpw := power_sub n (by omega) hw.2
  have k1 := decode6_v n a hn ha
  have k2 := decode6_v n b hn hb
  have k3 := decode6_v n c hn hc
  have HN : Hid (Wd n) := hn
  have hb64 : b' < 2 ^ 64 := by rcases eb' with ⟨_, h⟩ | ⟨_, h⟩ <;> rw [h]; exact (by decide); exact hb
  have hc64 : c' < 2 ^ 64 := by rcases ec' with ⟨_, h⟩ | ⟨_, h⟩ <;> rw [h]; exact (by decide); exact hc
  have HB64 : Hid (b' < 2 ^ 64) := hb64
  have HKV1 : Hid _ := valof_v n a hn ha
  have HKV2 : Hid _ := valof_v n b' hn hb64
  have HKV3 : Hid _ := valof_v n c' hn hc64
  have HX : Hid _ := kx
  have HNA : Hid _ := hnar
  obtain ⟨nar, hnr⟩ : ∃ x, x = 2 ^ (n - 1) := ⟨_, rfl⟩
  rw [← hnr] at kpw
  have HNR : Hid (nar = 2 ^ (n - 1)) := hnr
  have HEB : Hid _ := eb'
  have HEC : Hid _ := ec'
  have zn : vK n 0 = 0 := vK_zero n
  have HZN : Hid (#[.int .i64 (vK n 0), .bool (vB n 0), .int .i64 (vS n 0), .int .u64 (vF n 0 : Nat)] = (#[.int .i64 0, .bool false, .int .i64 0, .int .u64 0] : Array Value)) := by
    obtain ⟨z1, z2, z3⟩ := v_other n 0 (by rw [zn]; decide)
    show _ = _
    rw [zn, z1, z2, z3]; rfl
  clear kx hnar ha hb hc hb64 hc64 hn hnr hw eb' ec' zn
  unfold numV at *
  refine cps fun QQ hQ => ?_
  go_enter Tryz.func3, Tryz.ntmps3
  go_upto_if 59 with (first
    | (go_at_call 4; go_must (refine (kp _).mono ?_); rintro e wx ⟨rfl, hwx⟩; rw [hwx]; clear hwx wx)
    | (go_at_call 5; go_must (refine (kd _).mono ?_); rintro e w1 ⟨rfl, hb1⟩; have HB1 : Hid (Below _ _ _) := hb1; clear hb1)
    | (go_at_call 6; go_must (refine (kis _).mono ?_); rintro e wx ⟨rfl, hwx⟩; rw [hwx]; clear hwx wx)
    | (go_at_call_of 7 a; go_must (refine (k1 _).mono ?_); rintro e w2 ⟨rfl, hb2⟩; have HB2 : Hid (Below _ _ _) := hb2; clear hb2)
    | (go_at_call_of 7 b; go_must (refine (k2 _).mono ?_); rintro e w3 ⟨rfl, hb3⟩; have R3_0 := (hb3.block (w2.heap.size) (by first | (simp; done) | (simp; omega) | omega)).trans (rownew' _ _ _ _ (by simp)); have z3_0 : w2.heap.size < w3.heap.size := Nat.lt_of_lt_of_le (by first | (simp; done) | (simp; omega) | omega) hb3.size; have HR3_0 : Hid _ := R3_0; clear R3_0; have HB3 : Hid (Below _ _ _) := hb3; clear hb3)
    | (go_at_call_of 7 c; go_must (refine (k3 _).mono ?_); rintro e w4 ⟨rfl, hb4⟩; have R4_0 := (hb4.block (w2.heap.size) (by first | (simp; done) | (simp; omega) | omega)).trans ((Below.heap_alloc _ _ _ (by first | (simp; done) | (simp; omega) | omega)).trans HR3_0.out); have z4_0 : w2.heap.size < w4.heap.size := Nat.lt_of_lt_of_le (by first | (simp; done) | (simp; omega) | omega) hb4.size; have HR4_0 : Hid _ := R4_0; clear R4_0; have R4_1 := (hb4.block (w3.heap.size) (by first | (simp; done) | (simp; omega) | omega)).trans (rownew' _ _ _ _ (by simp)); have z4_1 : w3.heap.size < w4.heap.size := Nat.lt_of_lt_of_le (by first | (simp; done) | (simp; omega) | omega) hb4.size; have HR4_1 : Hid _ := R4_1; clear R4_1; have HB4 : Hid (Below _ _ _) := hb4; clear hb4))
  obtain ⟨W1, hW1⟩ : ∃ W1, W1 = w4.alloc (.cells #[.int .i64 (vK n c), .bool (vB n c), .int .i64 (vS n c), .int .u64 (vF n c : Nat)] 31) := ⟨_, rfl⟩
  have row2 : W1.heap[w4.heap.size]? = some (.cells #[.int .i64 (vK n c), .bool (vB n c), .int .i64 (vS n c), .int .u64 (vF n c : Nat)] 31 (0, 0)) := by rw [hW1]; exact rownew _ _ _
  have row1 : W1.heap[w3.heap.size]? = some (.cells #[.int .i64 (vK n b), .bool (vB n b), .int .i64 (vS n b), .int .u64 (vF n b : Nat)] 31 (0, 0)) := by rw [hW1]; exact (Below.heap_alloc _ _ _ z4_1).trans HR4_1.out
  have row0 : W1.heap[w2.heap.size]? = some (.cells #[.int .i64 (vK n a), .bool (vB n a), .int .i64 (vS n a), .int .u64 (vF n a : Nat)] 31 (0, 0)) := by rw [hW1]; exact (Below.heap_alloc _ _ _ z4_0).trans HR4_0.out
  have HBW1 : Hid (Below w.heap.size w W1) := by show Below _ _ _; rw [hW1]; exact cmore (cthen (cmore (cthen (cmore (cthen (cthen (Below.refl _ _) HB1.out) HB2.out) _) HB3.out) _) HB4.out) _
  have lt23 : w2.heap.size < w3.heap.size := z3_0
  have lt34 : w3.heap.size < w4.heap.size := z4_1
  have lt12 : w.heap.size ≤ w2.heap.size := Nat.le_trans HB1.out.size HB2.out.size
  have HLT : Hid (w.heap.size ≤ w2.heap.size ∧ w2.heap.size < w3.heap.size ∧ w3.heap.size < w4.heap.size) := ⟨lt12, lt23, lt34⟩
  rw [← hW1]
  clear hW1 HR3_0 HR4_0 HR4_1 HB1 HB2 HB3 HB4 z3_0 z4_0 z4_1 lt23 lt34 lt12 k1 k2 k3
  have HR0 : Hid _ := row0
  have HR1 : Hid _ := row1
  have HR2 : Hid _ := row2
  have y0 := rowcell row1 0; have y1 := rowcell row1 1; have y2 := rowcell row1 2; have y3 := rowcell row1 3; have yf := rowfree row1; simp only [List.getElem?_toArray, List.getElem?_cons_zero, List.getElem?_cons_succ] at y0 y1 y2 y3
  have zy := rowlt row1
  clear row0 row1 row2
  go_cut [] from 58 (fun wx => wx.heap[w2.heap.size]? = some (.cells #[.int .i64 (vK n a), .bool (vB n a), .int .i64 (vS n a), .int .u64 (vF n a : Nat)] 31 (0, 0)) ∧ wx.heap[w3.heap.size]? = some (.cells #[.int .i64 (vK n b'), .bool (vB n b'), .int .i64 (vS n b'), .int .u64 (vF n b' : Nat)] 31 (0, 0)) ∧ wx.heap[w4.heap.size]? = some (.cells #[.int .i64 (vK n c), .bool (vB n c), .int .i64 (vS n c), .int .u64 (vF n c : Nat)] 31 (0, 0)) ∧ Below w.heap.size w wx)
  case first =>
    rcases HEB.out with ⟨h4, hb4⟩ | ⟨h4, hb4⟩
    · have d4 : (o == 4) = true := beq_iff_eq.2 h4
      clear h4
      go_wp2_with fail
      go_meet
      case rel =>
        obtain ⟨t1, t2, t3⟩ := HLT.out
        refine ⟨(rowoff4 (by omega)).trans HR0.out, ?_, (rowoff4 (by omega)).trans HR2.out, cset4 HBW1.out (by omega)⟩
        rw [hb4, HZN.out]
        exact rowput4 HR1.out
    · have d4 : (o == 4) = false := beq_eq_false_iff_ne.2 h4
      clear h4
      go_wp2_with fail
      go_meet
      case rel => rw [hb4]; exact ⟨HR0.out, HR1.out, HR2.out, HBW1.out⟩
  case rest =>
    clear HR0 HR1 HR2 HBW1 y0 y1 y2 y3 yf zy
    obtain ⟨row0, row1, row2, hbw⟩ := hcut
    rename World => W2
    have HR0 : Hid _ := row0
    have HR1 : Hid _ := row1
    have HR2 : Hid _ := row2
    have HBW2 : Hid (Below w.heap.size w W2) := hbw
    have y0 := rowcell row2 0; have y1 := rowcell row2 1; have y2 := rowcell row2 2; have y3 := rowcell row2 3; have yf := rowfree row2; simp only [List.getElem?_toArray, List.getElem?_cons_zero, List.getElem?_cons_succ] at y0 y1 y2 y3
    have zy := rowlt row2
    clear row0 row1 row2 hbw
    go_upto_if 62 with fail
    go_cut [] from 58 (fun wx => wx.heap[w2.heap.size]? = some (.cells #[.int .i64 (vK n a), .bool (vB n a), .int .i64 (vS n a), .int .u64 (vF n a : Nat)] 31 (0, 0)) ∧ wx.heap[w3.heap.size]? = some (.cells #[.int .i64 (vK n b'), .bool (vB n b'), .int .i64 (vS n b'), .int .u64 (vF n b' : Nat)] 31 (0, 0)) ∧ wx.heap[w4.heap.size]? = some (.cells #[.int .i64 (vK n c'), .bool (vB n c'), .int .i64 (vS n c'), .int .u64 (vF n c' : Nat)] 31 (0, 0)) ∧ Below w.heap.size w wx)
    case first =>
      rcases HEC.out with ⟨h5, hc5⟩ | ⟨h5, hc5⟩
      · have d5 : (o == 5) = false := beq_eq_false_iff_ne.2 h5
        have d5' : (o != 5) = true := by rw [bne, d5]; rfl
        clear h5
        go_wp2_with fail
        go_meet
        case rel =>
          obtain ⟨t1, t2, t3⟩ := HLT.out
          refine ⟨(rowoff4 (by omega)).trans HR0.out, (rowoff4 (by omega)).trans HR1.out, ?_, cset4 HBW2.out (by omega)⟩
          rw [hc5, HZN.out]
          exact rowput4 HR2.out
      · have d5 : (o == 5) = true := beq_iff_eq.2 h5
        have d5' : (o != 5) = false := by rw [bne, d5]; rfl
        clear h5
        go_wp2_with fail
        go_meet
        case rel => rw [hc5]; exact ⟨HR0.out, HR1.out, HR2.out, HBW2.out⟩
    case rest =>
      clear HR0 HR1 HR2 HBW2 y0 y1 y2 y3 yf zy
      obtain ⟨row0, row1, row2, hbw⟩ := hcut
      rename World => W0
      have HBW : Hid (Below w.heap.size w W0) := hbw
      have z0 := rowlt row0
      have z1 := rowlt row1
      have z2 := rowlt row2
      have x0 := rowcell row0 0; have x1 := rowcell row0 1; have y0 := rowcell row1 0; have q0 := rowcell row2 0; simp only [List.getElem?_toArray, List.getElem?_cons_zero, List.getElem?_cons_succ] at x0 x1 y0 q0
      have HR0 : Hid _ := row0
      have HR1 : Hid _ := row1
      have HR2 : Hid _ := row2
      clear row0 row1 row2 hbw
      go_upto_region 16 with (go_at_call 8; go_must (refine (kpw _).mono ?_); rintro e wx ⟨rfl, hwx⟩; rw [hwx]; clear hwx wx)
      obtain ⟨NR, hNR⟩ : ∃ NR : Bool, NR = true ↔ NarO n a b' c' o := by
        by_cases h : NarO n a b' c' o
        · exact ⟨true, by simp [h]⟩
        · exact ⟨false, by simp [h]⟩
      have HNRI : Hid _ := hNR
      go_cut [96] from 58 (fun s96 wx => s96 = .bool NR ∧ wx = W0)
      case first =>
        have tt : ∀ h : NarO n a b' c' o, NR = true := fun h => hNR.2 h
        have ff : ∀ h : ¬ NarO n a b' c' o, NR = false := fun h => by cases NR; rfl; exact absurd (hNR.1 rfl) h
        have HTT : Hid _ := tt
        have HFF : Hid _ := ff
        clear tt ff hNR
        by_cases na : vK n a = 2
        · have e1 : (vK n a == 2) = true := beq_iff_eq.2 na
          have hh := HTT.out (.inl na)
          clear na
          have HH : Hid _ := hh
          clear hh
          go_wp2_with fail
          go_meet
          case rel => rw [HH.out]; exact ⟨rfl, rfl⟩
        · have e1 : (vK n a == 2) = false := beq_eq_false_iff_ne.2 na
          by_cases nb : vK n b' = 2
          · have e2 : (vK n b' == 2) = true := beq_iff_eq.2 nb
            have hh := HTT.out (.inr (.inl nb))
            clear na nb
            have HH : Hid _ := hh
            clear hh
            go_wp2_with fail
            go_meet
            case rel => rw [HH.out]; exact ⟨rfl, rfl⟩
          · have e2 : (vK n b' == 2) = false := beq_eq_false_iff_ne.2 nb
            by_cases nc : vK n c' = 2
            · have e3 : (vK n c' == 2) = true := beq_iff_eq.2 nc
              have hh := HTT.out (.inr (.inr (.inl nc)))
              clear na nb nc
              have HH : Hid _ := hh
              clear hh
              go_wp2_with fail
              go_meet
              case rel => rw [HH.out]; exact ⟨rfl, rfl⟩
            · have e3 : (vK n c' == 2) = false := beq_eq_false_iff_ne.2 nc
              by_cases o3 : o = 3
              · have d3 : (o == 3) = true := beq_iff_eq.2 o3
                have d4 : (o == 4) = false := beq_eq_false_iff_ne.2 (by omega)
                by_cases bz : vK n b' = 0
                · have e4 : (vK n b' == 0) = true := beq_iff_eq.2 bz
                  have hh := HTT.out (.inr (.inr (.inr (.inl ⟨o3, bz⟩))))
                  clear na nb nc o3 bz
                  have HH : Hid _ := hh
                  clear hh
                  go_wp2_with fail
                  go_meet
                  case rel => rw [HH.out]; exact ⟨rfl, rfl⟩
                · have e4 : (vK n b' == 0) = false := beq_eq_false_iff_ne.2 bz
                  have hh := HFF.out (by rintro (h | h | h | ⟨_, h⟩ | ⟨h, _⟩); exact na h; exact nb h; exact nc h; exact bz h; omega)
                  clear na nb nc o3 bz
                  have HH : Hid _ := hh
                  clear hh
                  go_wp2_with fail
                  go_meet
                  case rel => rw [HH.out]; exact ⟨rfl, rfl⟩
              · have d3 : (o == 3) = false := beq_eq_false_iff_ne.2 o3
                by_cases o4 : o = 4
                · have d4 : (o == 4) = true := beq_iff_eq.2 o4
                  rcases (Bool.eq_false_or_eq_true (vB n a)).symm with hB | hB
                  · have hh := HFF.out (by rintro (h | h | h | ⟨h, _⟩ | ⟨_, h⟩); exact na h; exact nb h; exact nc h; omega; rw [hB] at h; cases h)
                    rw [hB] at x1
                    clear na nb nc o3 o4 hB
                    have HH : Hid _ := hh
                    clear hh
                    go_wp2_with fail
                    go_meet
                    case rel => rw [HH.out]; exact ⟨rfl, rfl⟩
                  · have hh := HTT.out (.inr (.inr (.inr (.inr ⟨o4, hB⟩))))
                    rw [hB] at x1
                    clear na nb nc o3 o4 hB
                    have HH : Hid _ := hh
                    clear hh
                    go_wp2_with fail
                    go_meet
                    case rel => rw [HH.out]; exact ⟨rfl, rfl⟩
                · have d4 : (o == 4) = false := beq_eq_false_iff_ne.2 o4
                  have hh := HFF.out (by rintro (h | h | h | ⟨h, _⟩ | ⟨h, _⟩); exact na h; exact nb h; exact nc h; omega; omega)
                  clear na nb nc o3 o4
                  have HH : Hid _ := hh
                  clear hh
                  go_wp2_with fail
                  go_meet
                  case rel => rw [HH.out]; exact ⟨rfl, rfl⟩
      case rest =>
        obtain ⟨rfl, hwc⟩ := hcut
        rw [hwc]
        clear hwc hNR x0 x1 y0 q0
        cases hNr : NR
        · have hno : ¬ NarO n a b' c' o := fun h => by have := HNRI.out.2 h; rw [hNr] at this; cases this
          clear hNr HNRI HNA
          have kx := HX.out hno
          have kv1 := HKV1.out
          have kv2 := HKV2.out
          have kv3 := HKV3.out
          have HG3 : Hid (o = 3 → vM n b' ≠ 0) := fun h3 => by
            have c0 : vK n b' ≠ 0 := fun h => hno (.inr (.inr (.inr (.inl ⟨h3, h⟩))))
            have c2 : vK n b' ≠ 2 := fun h => hno (.inr (.inl h))
            have c1 : vK n b' = 1 := by rcases v_kinds n b' HN.out with ⟨h, _⟩ | h | ⟨h, _⟩; exact absurd h c0; exact h; exact absurd h c2
            obtain ⟨_, _, _, _, _, _, wd, _, _⟩ := v_real n b' HN.out HB64.out c1
            have := wd.top
            unfold vM; rw [if_pos c1]; omega
          clear hno HX HKV1 HKV3
          go_upto_region 18 with fail
          go_cut [19] from 58 (fun s19 wx => ∃ (m : Nat) (nv : Bool) (ao : Option Addr) (cc M : Nat) (E : Int), s19 = .pointer (some ⟨m, 0, none⟩) ∧ Below W0.heap.size W0 wx ∧ W0.heap.size ≤ m ∧ wx.heap[m]? = some (.cells #[.bool nv, .slice ao (dlen M) cc, .int .i64 E] 36 (0, 0)) ∧ Row wx (.slice ao (dlen M) cc) (dig M) ∧ ToldO n Q o (vB n b') (vM n b') (vE n b') nv M E)
          case first => as_aux_lemma =>
            have row0 := HR0.out
            have row1 := HR1.out
            have row2 := HR2.out
            obtain ⟨t1, t2, t3⟩ := HLT.out
            have cls : ∀ W, Below W0.heap.size W0 W → W.cell? ⟨w2.heap.size, 0, none⟩ = some (.int .i64 (vK n a)) ∧ W.cell? ⟨w2.heap.size, 1, none⟩ = some (.bool (vB n a)) ∧ W.cell? ⟨w2.heap.size, 2, none⟩ = some (.int .i64 (vS n a)) ∧ W.cell? ⟨w2.heap.size, 3, none⟩ = some (.int .u64 (vF n a : Nat)) ∧ W.cell? ⟨w3.heap.size, 0, none⟩ = some (.int .i64 (vK n b')) ∧ W.cell? ⟨w3.heap.size, 1, none⟩ = some (.bool (vB n b')) ∧ W.cell? ⟨w3.heap.size, 2, none⟩ = some (.int .i64 (vS n b')) ∧ W.cell? ⟨w3.heap.size, 3, none⟩ = some (.int .u64 (vF n b' : Nat)) ∧ W.cell? ⟨w4.heap.size, 0, none⟩ = some (.int .i64 (vK n c')) ∧ W.cell? ⟨w4.heap.size, 1, none⟩ = some (.bool (vB n c')) ∧ W.cell? ⟨w4.heap.size, 2, none⟩ = some (.int .i64 (vS n c')) ∧ W.cell? ⟨w4.heap.size, 3, none⟩ = some (.int .u64 (vF n c' : Nat)) := fun W hW => ⟨((hW.cell (p := ⟨w2.heap.size, 0, none⟩) z0).trans (rowcell row0 0)), ((hW.cell (p := ⟨w2.heap.size, 1, none⟩) z0).trans (rowcell row0 1)), ((hW.cell (p := ⟨w2.heap.size, 2, none⟩) z0).trans (rowcell row0 2)), ((hW.cell (p := ⟨w2.heap.size, 3, none⟩) z0).trans (rowcell row0 3)), ((hW.cell (p := ⟨w3.heap.size, 0, none⟩) z1).trans (rowcell row1 0)), ((hW.cell (p := ⟨w3.heap.size, 1, none⟩) z1).trans (rowcell row1 1)), ((hW.cell (p := ⟨w3.heap.size, 2, none⟩) z1).trans (rowcell row1 2)), ((hW.cell (p := ⟨w3.heap.size, 3, none⟩) z1).trans (rowcell row1 3)), ((hW.cell (p := ⟨w4.heap.size, 0, none⟩) z2).trans (rowcell row2 0)), ((hW.cell (p := ⟨w4.heap.size, 1, none⟩) z2).trans (rowcell row2 1)), ((hW.cell (p := ⟨w4.heap.size, 2, none⟩) z2).trans (rowcell row2 2)), ((hW.cell (p := ⟨w4.heap.size, 3, none⟩) z2).trans (rowcell row2 3))⟩
            refine wpC_region (fun W => W.cell? ⟨w2.heap.size, 0, none⟩ = some (.int .i64 (vK n a)) ∧ W.cell? ⟨w2.heap.size, 1, none⟩ = some (.bool (vB n a)) ∧ W.cell? ⟨w2.heap.size, 2, none⟩ = some (.int .i64 (vS n a)) ∧ W.cell? ⟨w2.heap.size, 3, none⟩ = some (.int .u64 (vF n a : Nat)) ∧ W.cell? ⟨w3.heap.size, 0, none⟩ = some (.int .i64 (vK n b')) ∧ W.cell? ⟨w3.heap.size, 1, none⟩ = some (.bool (vB n b')) ∧ W.cell? ⟨w3.heap.size, 2, none⟩ = some (.int .i64 (vS n b')) ∧ W.cell? ⟨w3.heap.size, 3, none⟩ = some (.int .u64 (vF n b' : Nat)) ∧ W.cell? ⟨w4.heap.size, 0, none⟩ = some (.int .i64 (vK n c')) ∧ W.cell? ⟨w4.heap.size, 1, none⟩ = some (.bool (vB n c')) ∧ W.cell? ⟨w4.heap.size, 2, none⟩ = some (.int .i64 (vS n c')) ∧ W.cell? ⟨w4.heap.size, 3, none⟩ = some (.int .u64 (vF n c' : Nat))) (by kernel_rfl) ?_
            refine wpC_take 0 (v := ?_) rfl (by kernel_rfl) (fun _ _ _ h => h) (by kernel_rfl) ?_ ?_; rotate_left; · (intro wC hC; obtain ⟨p0, p1, p2, p3, p4, p5, p6, p7, p8, p9, p10, p11⟩ := hC; go_simp <;> with_reducible rfl)
            refine wpC_take 1 (v := ?_) rfl (by kernel_rfl) (fun _ _ _ h => h) (by kernel_rfl) ?_ ?_; rotate_left; · (intro wC hC; obtain ⟨p0, p1, p2, p3, p4, p5, p6, p7, p8, p9, p10, p11⟩ := hC; go_simp <;> with_reducible rfl)
            refine wpC_take 3 (v := ?_) rfl (by kernel_rfl) (fun _ _ _ h => h) (by kernel_rfl) ?_ ?_; rotate_left; · (intro wC hC; obtain ⟨p0, p1, p2, p3, p4, p5, p6, p7, p8, p9, p10, p11⟩ := hC; go_simp <;> with_reducible rfl)
            refine wpC_take 5 (v := ?_) rfl (by kernel_rfl) (fun _ _ _ h => h) (by kernel_rfl) ?_ ?_; rotate_left; · (intro wC hC; obtain ⟨p0, p1, p2, p3, p4, p5, p6, p7, p8, p9, p10, p11⟩ := hC; go_simp <;> with_reducible rfl)
            have b0 := cdrew (Below.refl W0.heap.size W0)
            refine wpC_two 2 8 rfl rfl (by kernel_rfl) (by kernel_rfl) (by kernel_rfl) (cls _ (b0)) (fun K hK => ?_) (fun K hK => ?_)
            · skip
              go_simp
              go_wp2_with ((go_at_call 10; go_must (refine (kv1 _).mono ?_); rintro e w5 ⟨v1, rfl, hr1, hb1⟩))
              try (refine hK _ _ ?_; clear hK K)
              have b1 : Below W0.heap.size W0 w5 := cthen (b0) hb1
              refine wpC_two 4 8 rfl rfl (by kernel_rfl) (by kernel_rfl) (by kernel_rfl) (cls _ (b1)) (fun K hK => ?_) (fun K hK => ?_)
              · skip
                go_simp
                go_wp2_with ((go_at_call 10; go_must (refine (kv2 _).mono ?_); rintro e w6 ⟨v2, rfl, hr2, hb2⟩))
                try (refine hK _ _ ?_; clear hK K)
                have b2 : Below W0.heap.size W0 w6 := cthen (b1) hb2
                have hr1 := hr1.below hb2
                refine wpC_two 6 8 rfl rfl (by kernel_rfl) (by kernel_rfl) (by kernel_rfl) (cls _ (b2)) (fun K hK => ?_) (fun K hK => ?_)
                · skip
                  go_simp
                  go_wp2_with ((go_at_call 10; go_must (refine (kv3 _).mono ?_); rintro e w7 ⟨v3, rfl, hr3, hb3⟩))
                  try (refine hK _ _ ?_; clear hK K)
                  have b3 : Below W0.heap.size W0 w7 := cthen (b2) hb3
                  have hr1 := hr1.below hb3
                  have hr2 := hr2.below hb3
                  refine wpC_two 7 8 rfl rfl (by kernel_rfl) (by kernel_rfl) (by kernel_rfl) (cls _ (b3)) (fun K hK => ?_) (fun K hK => ?_)
                  · skip
                    go_simp
                    go_wp2_with ((go_at_call 9; go_must (refine (kx _ _ _ _ hr1 hr2 hr3).mono ?_); rintro e w8 ⟨nv, v8, M, E, rfl, hr8, hf8, hb4⟩))
                    try (refine hK _ _ ?_; clear hK K)
                    have b4 : Below W0.heap.size W0 w8 := cthen (b3) hb4
                    obtain ⟨ao, cc, rfl, h81, h82⟩ := hr8.num
                    refine wpC_step 8 rfl (by kernel_rfl) (by kernel_rfl) (cls _ b4) (fun K hK => ?_)
                    go_simp
                    try (refine hK _ _ ?_; clear hK K)
                    refine wpC_step 9 rfl (by kernel_rfl) (by kernel_rfl) (cls _ (cmore b4 _)) (fun K hK => ?_)
                    go_simp
                    try (refine hK _ _ ?_; clear hK K)
                    refine wpC_done (by kernel_rfl) (cls _ (cmore b4 _)) ?_
                    go_wp2_with fail
                    go_meet
                    case rel => exact ⟨_, nv, ao, cc, M, E, rfl, cmore b4 _, (b4).size, rownew _ _ _, Row.below hr8 (cmore (Below.refl _ _) _), hf8⟩
                  · skip
                    go_simp
                    try (refine hK _ _ ?_; clear hK K)
                    have RA0 : (w7.alloc (.cells #[.bool false, .slice none 0 0, .int .i64 0] 36)).heap[w7.heap.size]? = some (.cells #[.bool false, .slice none 0 0, .int .i64 0] 36 (0, 0)) := rownew _ _ _
                    have hr1 := hr1.below (cmore (Below.refl _ _) (.cells #[.bool false, .slice none 0 0, .int .i64 0] 36))
                    have hr2 := hr2.below (cmore (Below.refl _ _) (.cells #[.bool false, .slice none 0 0, .int .i64 0] 36))
                    have hr3 := hr3.below (cmore (Below.refl _ _) (.cells #[.bool false, .slice none 0 0, .int .i64 0] 36))
                    refine wpC_step 7 rfl (by kernel_rfl) (by kernel_rfl) (cls _ (cmore (b3) _)) (fun K hK => ?_)
                    go_simp
                    go_wp2_with ((go_at_call 9; go_must (refine (kx _ _ _ _ hr1 hr2 hr3).mono ?_); rintro e w8 ⟨nv, v8, M, E, rfl, hr8, hf8, hb4⟩))
                    try (refine hK _ _ ?_; clear hK K)
                    have b4x : Below W0.heap.size W0 w8 := cthen ((cmore (b3) _)) hb4
                    obtain ⟨ao, cc, rfl, h81, h82⟩ := hr8.num
                    have RA4 := (hb4.block (w7.heap.size) (rowlt RA0)).trans RA0
                    have g0 := rowcell RA4 0; have g1 := rowcell RA4 1; have g2 := rowcell RA4 2; have gf := rowfree RA4; simp only [List.getElem?_toArray, List.getElem?_cons_zero, List.getElem?_cons_succ] at g0 g1 g2
                    have yy : w7.heap.size < w8.heap.size := rowlt RA4
                    have n0 : w7.heap.size ≠ w2.heap.size := by have := (b3).size; omega
                    have n1 : w7.heap.size ≠ w3.heap.size := by have := (b3).size; omega
                    have n2 : w7.heap.size ≠ w4.heap.size := by have := (b3).size; omega
                    refine wpC_step 9 rfl (by kernel_rfl) (by kernel_rfl) (cls _ b4x) (fun K hK => ?_)
                    go_simp
                    try (refine hK _ _ ?_; clear hK K)
                    refine wpC_done (by kernel_rfl) ⟨(far3 n0).trans (cls _ b4x).1, (far3 n0).trans (cls _ b4x).2.1, (far3 n0).trans (cls _ b4x).2.2.1, (far3 n0).trans (cls _ b4x).2.2.2.1, (far3 n1).trans (cls _ b4x).2.2.2.2.1, (far3 n1).trans (cls _ b4x).2.2.2.2.2.1, (far3 n1).trans (cls _ b4x).2.2.2.2.2.2.1, (far3 n1).trans (cls _ b4x).2.2.2.2.2.2.2.1, (far3 n2).trans (cls _ b4x).2.2.2.2.2.2.2.2.1, (far3 n2).trans (cls _ b4x).2.2.2.2.2.2.2.2.2.1, (far3 n2).trans (cls _ b4x).2.2.2.2.2.2.2.2.2.2.1, (far3 n2).trans (cls _ b4x).2.2.2.2.2.2.2.2.2.2.2⟩ ?_
                    go_wp2_with fail
                    go_meet
                    case rel => exact ⟨_, nv, ao, cc, M, E, rfl, cset3 b4x (b3).size, (b3).size, row3 RA4, Row.put3 hr8 RA4 _ _ _, hf8⟩
                · skip
                  go_simp
                  try (refine hK _ _ ?_; clear hK K)
                  have RA0 : (w6.alloc (.cells #[.bool false, .slice none 0 0, .int .i64 0] 36)).heap[w6.heap.size]? = some (.cells #[.bool false, .slice none 0 0, .int .i64 0] 36 (0, 0)) := rownew _ _ _
                  have hr1 := hr1.below (cmore (Below.refl _ _) (.cells #[.bool false, .slice none 0 0, .int .i64 0] 36))
                  have hr2 := hr2.below (cmore (Below.refl _ _) (.cells #[.bool false, .slice none 0 0, .int .i64 0] 36))
                  refine wpC_step 6 rfl (by kernel_rfl) (by kernel_rfl) (cls _ (cmore (b2) _)) (fun K hK => ?_)
                  go_simp
                  go_wp2_with ((go_at_call 10; go_must (refine (kv3 _).mono ?_); rintro e w7 ⟨v3, rfl, hr3, hb3⟩))
                  try (refine hK _ _ ?_; clear hK K)
                  have b3x : Below W0.heap.size W0 w7 := cthen ((cmore (b2) _)) hb3
                  have hr1 := hr1.below hb3
                  have hr2 := hr2.below hb3
                  have RA3 := (hb3.block (w6.heap.size) (rowlt RA0)).trans RA0
                  refine wpC_step 7 rfl (by kernel_rfl) (by kernel_rfl) (cls _ b3x) (fun K hK => ?_)
                  go_simp
                  go_wp2_with ((go_at_call 9; go_must (refine (kx _ _ _ _ hr1 hr2 hr3).mono ?_); rintro e w8 ⟨nv, v8, M, E, rfl, hr8, hf8, hb4⟩))
                  try (refine hK _ _ ?_; clear hK K)
                  have b4x : Below W0.heap.size W0 w8 := cthen (b3x) hb4
                  obtain ⟨ao, cc, rfl, h81, h82⟩ := hr8.num
                  have RA4 := (hb4.block (w6.heap.size) (rowlt RA3)).trans RA3
                  have g0 := rowcell RA4 0; have g1 := rowcell RA4 1; have g2 := rowcell RA4 2; have gf := rowfree RA4; simp only [List.getElem?_toArray, List.getElem?_cons_zero, List.getElem?_cons_succ] at g0 g1 g2
                  have yy : w6.heap.size < w8.heap.size := rowlt RA4
                  have n0 : w6.heap.size ≠ w2.heap.size := by have := (b2).size; omega
                  have n1 : w6.heap.size ≠ w3.heap.size := by have := (b2).size; omega
                  have n2 : w6.heap.size ≠ w4.heap.size := by have := (b2).size; omega
                  refine wpC_step 9 rfl (by kernel_rfl) (by kernel_rfl) (cls _ b4x) (fun K hK => ?_)
                  go_simp
                  try (refine hK _ _ ?_; clear hK K)
                  refine wpC_done (by kernel_rfl) ⟨(far3 n0).trans (cls _ b4x).1, (far3 n0).trans (cls _ b4x).2.1, (far3 n0).trans (cls _ b4x).2.2.1, (far3 n0).trans (cls _ b4x).2.2.2.1, (far3 n1).trans (cls _ b4x).2.2.2.2.1, (far3 n1).trans (cls _ b4x).2.2.2.2.2.1, (far3 n1).trans (cls _ b4x).2.2.2.2.2.2.1, (far3 n1).trans (cls _ b4x).2.2.2.2.2.2.2.1, (far3 n2).trans (cls _ b4x).2.2.2.2.2.2.2.2.1, (far3 n2).trans (cls _ b4x).2.2.2.2.2.2.2.2.2.1, (far3 n2).trans (cls _ b4x).2.2.2.2.2.2.2.2.2.2.1, (far3 n2).trans (cls _ b4x).2.2.2.2.2.2.2.2.2.2.2⟩ ?_
                  go_wp2_with fail
                  go_meet
                  case rel => exact ⟨_, nv, ao, cc, M, E, rfl, cset3 b4x (b2).size, (b2).size, row3 RA4, Row.put3 hr8 RA4 _ _ _, hf8⟩
              · skip
                go_simp
                try (refine hK _ _ ?_; clear hK K)
                have RA0 : (w5.alloc (.cells #[.bool false, .slice none 0 0, .int .i64 0] 36)).heap[w5.heap.size]? = some (.cells #[.bool false, .slice none 0 0, .int .i64 0] 36 (0, 0)) := rownew _ _ _
                have hr1 := hr1.below (cmore (Below.refl _ _) (.cells #[.bool false, .slice none 0 0, .int .i64 0] 36))
                refine wpC_step 4 rfl (by kernel_rfl) (by kernel_rfl) (cls _ (cmore (b1) _)) (fun K hK => ?_)
                go_simp
                go_wp2_with ((go_at_call 10; go_must (refine (kv2 _).mono ?_); rintro e w6 ⟨v2, rfl, hr2, hb2⟩))
                try (refine hK _ _ ?_; clear hK K)
                have b2x : Below W0.heap.size W0 w6 := cthen ((cmore (b1) _)) hb2
                have hr1 := hr1.below hb2
                have RA2 := (hb2.block (w5.heap.size) (rowlt RA0)).trans RA0
                refine wpC_step 6 rfl (by kernel_rfl) (by kernel_rfl) (cls _ b2x) (fun K hK => ?_)
                go_simp
                go_wp2_with ((go_at_call 10; go_must (refine (kv3 _).mono ?_); rintro e w7 ⟨v3, rfl, hr3, hb3⟩))
                try (refine hK _ _ ?_; clear hK K)
                have b3x : Below W0.heap.size W0 w7 := cthen (b2x) hb3
                have hr1 := hr1.below hb3
                have hr2 := hr2.below hb3
                have RA3 := (hb3.block (w5.heap.size) (rowlt RA2)).trans RA2
                refine wpC_step 7 rfl (by kernel_rfl) (by kernel_rfl) (cls _ b3x) (fun K hK => ?_)
                go_simp
                go_wp2_with ((go_at_call 9; go_must (refine (kx _ _ _ _ hr1 hr2 hr3).mono ?_); rintro e w8 ⟨nv, v8, M, E, rfl, hr8, hf8, hb4⟩))
                try (refine hK _ _ ?_; clear hK K)
                have b4x : Below W0.heap.size W0 w8 := cthen (b3x) hb4
                obtain ⟨ao, cc, rfl, h81, h82⟩ := hr8.num
                have RA4 := (hb4.block (w5.heap.size) (rowlt RA3)).trans RA3
                have g0 := rowcell RA4 0; have g1 := rowcell RA4 1; have g2 := rowcell RA4 2; have gf := rowfree RA4; simp only [List.getElem?_toArray, List.getElem?_cons_zero, List.getElem?_cons_succ] at g0 g1 g2
                have yy : w5.heap.size < w8.heap.size := rowlt RA4
                have n0 : w5.heap.size ≠ w2.heap.size := by have := (b1).size; omega
                have n1 : w5.heap.size ≠ w3.heap.size := by have := (b1).size; omega
                have n2 : w5.heap.size ≠ w4.heap.size := by have := (b1).size; omega
                refine wpC_step 9 rfl (by kernel_rfl) (by kernel_rfl) (cls _ b4x) (fun K hK => ?_)
                go_simp
                try (refine hK _ _ ?_; clear hK K)
                refine wpC_done (by kernel_rfl) ⟨(far3 n0).trans (cls _ b4x).1, (far3 n0).trans (cls _ b4x).2.1, (far3 n0).trans (cls _ b4x).2.2.1, (far3 n0).trans (cls _ b4x).2.2.2.1, (far3 n1).trans (cls _ b4x).2.2.2.2.1, (far3 n1).trans (cls _ b4x).2.2.2.2.2.1, (far3 n1).trans (cls _ b4x).2.2.2.2.2.2.1, (far3 n1).trans (cls _ b4x).2.2.2.2.2.2.2.1, (far3 n2).trans (cls _ b4x).2.2.2.2.2.2.2.2.1, (far3 n2).trans (cls _ b4x).2.2.2.2.2.2.2.2.2.1, (far3 n2).trans (cls _ b4x).2.2.2.2.2.2.2.2.2.2.1, (far3 n2).trans (cls _ b4x).2.2.2.2.2.2.2.2.2.2.2⟩ ?_
                go_wp2_with fail
                go_meet
                case rel => exact ⟨_, nv, ao, cc, M, E, rfl, cset3 b4x (b1).size, (b1).size, row3 RA4, Row.put3 hr8 RA4 _ _ _, hf8⟩
            · skip
              go_simp
              try (refine hK _ _ ?_; clear hK K)
              have RA0 : (W0.drew.alloc (.cells #[.bool false, .slice none 0 0, .int .i64 0] 36)).heap[W0.heap.size]? = some (.cells #[.bool false, .slice none 0 0, .int .i64 0] 36 (0, 0)) := rownew _ _ _
              refine wpC_step 2 rfl (by kernel_rfl) (by kernel_rfl) (cls _ (cmore (b0) _)) (fun K hK => ?_)
              go_simp
              go_wp2_with ((go_at_call 10; go_must (refine (kv1 _).mono ?_); rintro e w5 ⟨v1, rfl, hr1, hb1⟩))
              try (refine hK _ _ ?_; clear hK K)
              have b1x : Below W0.heap.size W0 w5 := cthen ((cmore (b0) _)) hb1
              have RA1 := (hb1.block (W0.heap.size) (rowlt RA0)).trans RA0
              refine wpC_step 4 rfl (by kernel_rfl) (by kernel_rfl) (cls _ b1x) (fun K hK => ?_)
              go_simp
              go_wp2_with ((go_at_call 10; go_must (refine (kv2 _).mono ?_); rintro e w6 ⟨v2, rfl, hr2, hb2⟩))
              try (refine hK _ _ ?_; clear hK K)
              have b2x : Below W0.heap.size W0 w6 := cthen (b1x) hb2
              have hr1 := hr1.below hb2
              have RA2 := (hb2.block (W0.heap.size) (rowlt RA1)).trans RA1
              refine wpC_step 6 rfl (by kernel_rfl) (by kernel_rfl) (cls _ b2x) (fun K hK => ?_)
              go_simp
              go_wp2_with ((go_at_call 10; go_must (refine (kv3 _).mono ?_); rintro e w7 ⟨v3, rfl, hr3, hb3⟩))
              try (refine hK _ _ ?_; clear hK K)
              have b3x : Below W0.heap.size W0 w7 := cthen (b2x) hb3
              have hr1 := hr1.below hb3
              have hr2 := hr2.below hb3
              have RA3 := (hb3.block (W0.heap.size) (rowlt RA2)).trans RA2
              refine wpC_step 7 rfl (by kernel_rfl) (by kernel_rfl) (cls _ b3x) (fun K hK => ?_)
              go_simp
              go_wp2_with ((go_at_call 9; go_must (refine (kx _ _ _ _ hr1 hr2 hr3).mono ?_); rintro e w8 ⟨nv, v8, M, E, rfl, hr8, hf8, hb4⟩))
              try (refine hK _ _ ?_; clear hK K)
              have b4x : Below W0.heap.size W0 w8 := cthen (b3x) hb4
              obtain ⟨ao, cc, rfl, h81, h82⟩ := hr8.num
              have RA4 := (hb4.block (W0.heap.size) (rowlt RA3)).trans RA3
              have g0 := rowcell RA4 0; have g1 := rowcell RA4 1; have g2 := rowcell RA4 2; have gf := rowfree RA4; simp only [List.getElem?_toArray, List.getElem?_cons_zero, List.getElem?_cons_succ] at g0 g1 g2
              have yy : W0.heap.size < w8.heap.size := rowlt RA4
              have n0 : W0.heap.size ≠ w2.heap.size := by have := (Nat.le_refl W0.heap.size); omega
              have n1 : W0.heap.size ≠ w3.heap.size := by have := (Nat.le_refl W0.heap.size); omega
              have n2 : W0.heap.size ≠ w4.heap.size := by have := (Nat.le_refl W0.heap.size); omega
              refine wpC_step 9 rfl (by kernel_rfl) (by kernel_rfl) (cls _ b4x) (fun K hK => ?_)
              go_simp
              try (refine hK _ _ ?_; clear hK K)
              refine wpC_done (by kernel_rfl) ⟨(far3 n0).trans (cls _ b4x).1, (far3 n0).trans (cls _ b4x).2.1, (far3 n0).trans (cls _ b4x).2.2.1, (far3 n0).trans (cls _ b4x).2.2.2.1, (far3 n1).trans (cls _ b4x).2.2.2.2.1, (far3 n1).trans (cls _ b4x).2.2.2.2.2.1, (far3 n1).trans (cls _ b4x).2.2.2.2.2.2.1, (far3 n1).trans (cls _ b4x).2.2.2.2.2.2.2.1, (far3 n2).trans (cls _ b4x).2.2.2.2.2.2.2.2.1, (far3 n2).trans (cls _ b4x).2.2.2.2.2.2.2.2.2.1, (far3 n2).trans (cls _ b4x).2.2.2.2.2.2.2.2.2.2.1, (far3 n2).trans (cls _ b4x).2.2.2.2.2.2.2.2.2.2.2⟩ ?_
              go_wp2_with fail
              go_meet
              case rel => exact ⟨_, nv, ao, cc, M, E, rfl, cset3 b4x (Nat.le_refl W0.heap.size), (Nat.le_refl W0.heap.size), row3 RA4, Row.put3 hr8 RA4 _ _ _, hf8⟩
          case rest =>
            obtain ⟨m, nv, ao, cc, M, E, rfl, HBc, hm, rowv, hrv, hE, hMb, hz, hnz⟩ := hcut
            rename World => W3
            have rowy := (HBc.block w3.heap.size z1).trans HR1.out
            have y0 := rowcell rowy 0; have y1 := rowcell rowy 1; have y2 := rowcell rowy 2; have y3 := rowcell rowy 3; simp only [List.getElem?_toArray, List.getElem?_cons_zero, List.getElem?_cons_succ] at y0 y1 y2 y3
            have HRV : Hid (Row W3 (.slice ao (dlen M) cc) (dig M)) := hrv
            have HC : Hid (Below w.heap.size w W3) := cthen HBW.out HBc
            have HZ : Hid (M = 0 → Q = 0) := hz
            have HNZ : Hid _ := hnz
            have HE : Hid ((-2000 ≤ E ∧ E ≤ 2000) ∧ blen M ≤ 1300) := ⟨hE, hMb⟩
            obtain ⟨s1, hs1⟩ : ∃ s1 : Int, s1 = (if M = 0 then 0 else if nv then -1 else 1) := ⟨_, rfl⟩
            have ks1 := fun w hr => vsign_any nv (.slice ao (dlen M) cc) M E w hr
            rw [← hs1] at ks1
            have HS1 : Hid (s1 = (if M = 0 then 0 else if nv then -1 else 1)) := hs1
            clear hz hnz hrv rowy HBc hE hMb kx kv1 kv3 hs1 HR0 HR1 HR2 z0 z1 z2 HLT
            go_upto_if 113 with (first
              | (go_at_call 10; go_must (refine (kv2 _).mono ?_); rintro e w9 ⟨v9, rfl, hr9, hb9⟩; obtain ⟨ao9, cc9, rfl, h91, h92⟩ := hr9.num; have HR9 : Hid (Row w9 _ (dig (vM n b'))) := hr9; have rm9 := (hb9.block m (rowlt rowv)).trans rowv; have m0 := rowcell rm9 0; have m1 := rowcell rm9 1; have m2 := rowcell rm9 2; simp only [List.getElem?_toArray, List.getElem?_cons_zero, List.getElem?_cons_succ] at m0 m1 m2; have zm9 : m < w9.heap.size := rowlt rm9; have HRM9 : Hid _ := rm9; have HB9 : Hid (Below _ _ _) := hb9; have ny1 : ¬ m = w9.heap.size := (by omega); have ny2 : ¬ w9.heap.size = m := (by omega); clear hr9 h91 h92 hb9 rm9)
              | (go_at_call 11; go_must (refine (ks1 _ (Row.below HRV.out (cmore HB9.out _))).mono ?_); rintro e ws ⟨rfl, hbs⟩; have HBS : Hid (Below _ _ _) := hbs; have RM := (hbs.block m (by simp; omega)).trans ((Below.heap_alloc _ _ _ zm9).trans HRM9.out); have RG := (hbs.block w9.heap.size (by simp)).trans (rownew _ _ _); have HRM : Hid _ := RM; have HRG : Hid _ := RG; clear hbs RM RG))
            obtain ⟨s, hs⟩ : ∃ s : Int, s = (if M = 0 then 0 else if sgO o nv (vB n b') then -1 else 1) := ⟨_, rfl⟩
            have HS : Hid (s = (if M = 0 then 0 else if sgO o nv (vB n b') then -1 else 1)) := hs
            have HT0 : Hid (Below w.heap.size w ws) := cthen (cmore (cthen HC.out HB9.out) _) HBS.out
            have HRVM : Hid (Row ws (.slice ao (dlen M) cc) (dig M)) := (Row.below HRV.out (cmore HB9.out _)).below HBS.out
            have HRVG : Hid (Row ws (.slice ao9 (dlen (vM n b')) cc9) (dig (vM n b'))) := (Row.below HR9.out (cmore (Below.refl _ _) _)).below HBS.out
            have rg := HRG.out
            have g0 := rowcell rg 0; have g1 := rowcell rg 1; have g2 := rowcell rg 2; simp only [List.getElem?_toArray, List.getElem?_cons_zero, List.getElem?_cons_succ] at g0 g1 g2
            clear rg hs rowv m0 m1 m2 ny1 ny2 zm9 kv2 y0 y1 y2 y3
            go_cut [21] from 58 (fun s21 wx => s21 = .int .i64 s ∧ wx.heap[m]? = some (.cells #[.bool nv, .slice ao (dlen M) cc, .int .i64 E] 36 (0, 0)) ∧ wx.heap[w9.heap.size]? = some (.cells #[.bool (vB n b'), .slice ao9 (dlen (vM n b')) cc9, .int .i64 (vE n b')] 36 (0, 0)) ∧ Row wx (.slice ao (dlen M) cc) (dig M) ∧ Row wx (.slice ao9 (dlen (vM n b')) cc9) (dig (vM n b')) ∧ Below w.heap.size w wx)
            case first =>
              by_cases h3 : o = 3
              · have d3 : (o == 3) = true := beq_iff_eq.2 h3
                obtain ⟨s2, hs2⟩ : ∃ s2 : Int, s2 = (if vM n b' = 0 then 0 else if vB n b' then -1 else 1) := ⟨_, rfl⟩
                have ks2 := fun w hr => vsign_any (vB n b') (.slice ao9 (dlen (vM n b')) cc9) (vM n b') (vE n b') w hr
                rw [← hs2] at ks2
                have hmul : s1 * s2 = s := by
                  rw [HS1.out, hs2, HS.out, if_neg (HG3.out h3)]
                  unfold sgO
                  rw [if_pos h3]
                  by_cases hM : M = 0
                  · rw [if_pos hM, if_pos hM, Int.zero_mul]
                  · rw [if_neg hM, if_neg hM]
                    cases nv <;> cases vB n b' <;> rfl
                have hsr : -1 ≤ s ∧ s ≤ 1 := by
                  rw [HS.out]; by_cases hM : M = 0
                  · rw [if_pos hM]; omega
                  · rw [if_neg hM]; split <;> omega
                have hwr : IntKind.i64.wrap (s1 * s2) = s := by rw [hmul]; exact wrapI (by omega)
                clear h3 hs2 hmul hsr
                go_wp2_with (go_at_call 11; go_must (refine (ks2 _ HRVG.out).mono ?_); rintro e wt ⟨rfl, hbt⟩)
                go_meet
                case rel => exact ⟨rfl, (hbt.block m (rowlt HRM.out)).trans HRM.out, (hbt.block w9.heap.size (rowlt HRG.out)).trans HRG.out, HRVM.out.below hbt, HRVG.out.below hbt, cthen HT0.out hbt⟩
              · have d3 : (o == 3) = false := beq_eq_false_iff_ne.2 h3
                have hss : s1 = s := by rw [HS1.out, HS.out]; unfold sgO; rw [if_neg h3]
                clear h3
                go_wp2_with fail
                go_meet
                case rel => rw [hss]; exact ⟨rfl, HRM.out, HRG.out, HRVM.out, HRVG.out, HT0.out⟩
            case rest =>
              clear HRM HRG HRVM HRVG HT0 HB9 HBS HC HR9 HRV HRM9 HS1 ks1 g0 g1 g2
              obtain ⟨rfl, rm, rg, rvm, rvg, hbw⟩ := hcut
              rename World => W4
              have HM4 : Hid _ := rm
              have HG4 : Hid _ := rg
              have HVM4 : Hid (Row W4 (.slice ao (dlen M) cc) (dig M)) := rvm
              have HVG4 : Hid (Row W4 (.slice ao9 (dlen (vM n b')) cc9) (dig (vM n b'))) := rvg
              have HT4 : Hid (Below w.heap.size w W4) := hbw
              clear rm rg rvm rvg hbw
              by_cases hM : M = 0
              · have hp := HZ.out hM
                have hs0 : s = 0 := by rw [HS.out, if_pos hM]
                clear hM
                subst hs0
                subst hp
                go_wp2_with fail
                all_goals exact hQ.out _ _ ⟨by first | rfl | simp, HT4.out⟩
              · obtain ⟨R, hp, hR, hsd⟩ := HNZ.out hM
                have hs0 : s = (if sgO o nv (vB n b') then -1 else 1) := by rw [HS.out, if_neg hM]
                clear HZ HNZ HS
                rw [← HNR.out] at hR
                unfold SidesO at hsd
                rw [← HNR.out] at hsd
                have HSD : Hid _ := hsd
                obtain ⟨H, e1, e2, e3, e4⟩ := wd_pows HN.out
                rw [← HNR.out] at e2
                have hnar64 : nar ≤ 9223372036854775808 := by have := two_pow_lt HN.out; rw [← HNR.out] at this; exact this.2
                have okM : Ok M E := ⟨HE.out.2, HE.out.1.1, HE.out.1.2⟩
                obtain ⟨okG1, okG2⟩ := ok_v2 n b' HN.out HB64.out
                have okG := ok_v n b' HN.out HB64.out
                have kbs := fun vt mt (F : Int) (w : World) (v2 : Value) (tb : -400 ≤ F ∧ F ≤ 400 ∧ blen mt ≤ 64) (ha1 : Row w (.slice ao (dlen M) cc) (dig M)) (hb1 : Row w v2 (dig (vM n b'))) (ht1 : Row w vt (dig mt)) => vbeside_any o nv (.slice ao (dlen M) cc) M E (vB n b') v2 (vM n b') (vE n b') false vt mt F w ha1 hb1 ht1 okM okG okG1 okG2 tb
                have kt := fun q hq w => vtie_any n q HN.out hq w
                obtain ⟨sg, hsg⟩ : ∃ sg, sg = sgO o nv (vB n b') := ⟨_, rfl⟩
                rw [← hsg] at hp hs0
                have f0 : (s == 0) = false := by rw [hs0]; cases sg <;> rfl
                have f1 : decide (s < 0) = sg := by rw [hs0]; cases sg <;> rfl
                have hQr : (sg = false ∧ Q = R) ∨ (sg = true ∧ Q = 2 ^ n - R) := by
                  rw [hp]; unfold patR; cases sg
                  · exact .inl ⟨rfl, rfl⟩
                  · exact .inr ⟨rfl, rfl⟩
                have f2 : ((Q : Int) == 0) = false := beq_eq_false_iff_ne.2 (by rcases hQr with ⟨_, h⟩ | ⟨_, h⟩ <;> omega)
                have f2' : (Q == 0) = false := beq_eq_false_iff_ne.2 (by rcases hQr with ⟨_, h⟩ | ⟨_, h⟩ <;> omega)
                have f3 : ((Q : Int) == (nar : Int)) = false := beq_eq_false_iff_ne.2 (by rcases hQr with ⟨_, h⟩ | ⟨_, h⟩ <;> omega)
                have f3' : (Q == nar) = false := beq_eq_false_iff_ne.2 (by rcases hQr with ⟨_, h⟩ | ⟨_, h⟩ <;> omega)
                have f4 : decide ((nar : Int) < (Q : Int)) = sg := by
                  rcases hQr with ⟨h', h⟩ | ⟨h', h⟩ <;> rw [h']
                  · exact decide_eq_false (by omega)
                  · exact decide_eq_true (by omega)
                have f4' : decide (nar < Q) = sg := by
                  rcases hQr with ⟨h', h⟩ | ⟨h', h⟩ <;> rw [h']
                  · exact decide_eq_false (by omega)
                  · exact decide_eq_true (by omega)
                have f5 : (sg != sg) = false := by cases sg <;> rfl
                have f6 : (!(sg == sg)) = false := by cases sg <;> rfl
                have HQR : Hid _ := hQr
                have HNH : Hid (nar = H ∧ 2 ^ n = 2 * H ∧ 1 ≤ R ∧ R ≤ nar - 1) := ⟨e2, by omega, hR.1, hR.2⟩
                have HN64 : Hid (nar ≤ 9223372036854775808) := hnar64
                clear hp hs0 hsg hsd hR e1 e2 e3 e4 hnar64 okM okG okG1 okG2 hM hQr
                go_upto_if 138 with fail
                go_cut [12] from 58 (fun s12 wx => s12 = .int .u64 (R : Nat) ∧ wx.heap[m]? = some (.cells #[.bool nv, .slice ao (dlen M) cc, .int .i64 E] 36 (0, 0)) ∧ wx.heap[w9.heap.size]? = some (.cells #[.bool (vB n b'), .slice ao9 (dlen (vM n b')) cc9, .int .i64 (vE n b')] 36 (0, 0)) ∧ Row wx (.slice ao (dlen M) cc) (dig M) ∧ Row wx (.slice ao9 (dlen (vM n b')) cc9) (dig (vM n b')) ∧ Below w.heap.size w wx)
                case first =>
                  clear f2 f2' f3 f3' f4 f4' f5 f6 f0 f1
                  rcases HQR.out with ⟨h', h⟩ | ⟨h', h⟩
                  · subst h'
                    have HQ : Hid (Q = R) := h
                    clear h
                    go_wp2_with fail
                    go_meet
                    case rel => rw [HQ.out]; exact ⟨rfl, HM4.out, HG4.out, HVM4.out, HVG4.out, HT4.out⟩
                  · subst h'
                    have h64 : 2 ^ n ≤ 2 ^ 64 := Nat.pow_le_pow_right (by decide) (wd_le HN.out).2
                    obtain ⟨g1, g2, g3, g4⟩ := HNH.out
                    have kn := neg6_any n Q HN.out (by omega)
                    have hneg : minusU Q % 2 ^ n = R := by
                      rw [minusU_mod n Q HN.out (by omega), Nat.mod_eq_of_lt (show Q < 2 ^ n by omega), h, show 2 ^ n - (2 ^ n - R) = R by omega, Nat.mod_eq_of_lt (by omega)]
                    rw [hneg] at kn
                    clear h h64 hneg g1 g2 g3 g4
                    go_wp2_with (go_at_call 12; go_must (refine (kn _).mono ?_); rintro e wn ⟨rfl, hbn⟩)
                    go_meet
                    case rel => exact ⟨rfl, (hbn.block m (rowlt HM4.out)).trans HM4.out, (hbn.block w9.heap.size (rowlt HG4.out)).trans HG4.out, HVM4.out.below hbn, HVG4.out.below hbn, cthen HT4.out hbn⟩
                case rest =>
                  obtain ⟨rfl, rm0, rg0, rvm0, rvg0, hbw⟩ := hcut
                  rename World => W5
                  have HT : Hid (Below w.heap.size w W5) := hbw
                  clear HM4 HG4 HVM4 HVG4 HT4 hbw HQR f0 f1 f2 f2' f3 f3' f4 f4' f5 f6
                  have hR : 1 ≤ R ∧ R ≤ nar - 1 := HNH.out.2.2
                  have hnar64 := HN64.out
                  have u1 : IntKind.u64.wrap ((nar : Int) - 1) = ((nar - 1 : Nat) : Int) := by rw [IntKind.wrap_u64]; omega
                  have u2 : IntKind.u64.wrap ((R : Int) - 1) = ((R - 1 : Nat) : Int) := by rw [IntKind.wrap_u64]; omega
                  obtain ⟨ev, hev⟩ : ∃ ev, ev = decide (R % 2 = 0) := ⟨_, rfl⟩
                  have v1 : ((R : Int) % 2 == 0) = ev := by rw [hev, Bool.eq_iff_iff]; simp only [beq_iff_eq, decide_eq_true_eq]; omega
                  have v2 : (R % 2 == 0) = ev := by rw [hev, Bool.eq_iff_iff]; simp only [beq_iff_eq, decide_eq_true_eq]
                  have HEV : Hid (R % 2 = 0 → ev = true) := fun h => by rw [hev]; exact decide_eq_true h
                  clear hev
                  by_cases h1 : R < nar - 1
                  · have D1 : decide ((R : Int) < ((nar - 1 : Nat) : Int)) = true := decide_eq_true (by omega)
                    have D1' : decide (R < nar - 1) = true := decide_eq_true (by omega)
                    by_cases h2 : 1 < R
                    · have D2 : decide ((1 : Int) < (R : Int)) = true := decide_eq_true (by omega)
                      have D2' : decide (1 < R) = true := decide_eq_true (by omega)
                      go_upto_region 31 with fail
                      have cls31 : ∀ W, Below W5.heap.size W5 W → W.cell? ⟨m, 0, none⟩ = some (.bool nv) ∧ W.cell? ⟨m, 1, none⟩ = some (.slice ao (dlen M) cc) ∧ W.cell? ⟨m, 2, none⟩ = some (.int .i64 E) ∧ W.cell? ⟨w9.heap.size, 0, none⟩ = some (.bool (vB n b')) ∧ W.cell? ⟨w9.heap.size, 1, none⟩ = some (.slice ao9 (dlen (vM n b')) cc9) ∧ W.cell? ⟨w9.heap.size, 2, none⟩ = some (.int .i64 (vE n b')) := fun W hW => ⟨((hW.cell (p := ⟨m, 0, none⟩) (rowlt rm0)).trans (rowcell rm0 0)), ((hW.cell (p := ⟨m, 1, none⟩) (rowlt rm0)).trans (rowcell rm0 1)), ((hW.cell (p := ⟨m, 2, none⟩) (rowlt rm0)).trans (rowcell rm0 2)), ((hW.cell (p := ⟨w9.heap.size, 0, none⟩) (rowlt rg0)).trans (rowcell rg0 0)), ((hW.cell (p := ⟨w9.heap.size, 1, none⟩) (rowlt rg0)).trans (rowcell rg0 1)), ((hW.cell (p := ⟨w9.heap.size, 2, none⟩) (rowlt rg0)).trans (rowcell rg0 2))⟩
                      refine wpC_region (fun W => W.cell? ⟨m, 0, none⟩ = some (.bool nv) ∧ W.cell? ⟨m, 1, none⟩ = some (.slice ao (dlen M) cc) ∧ W.cell? ⟨m, 2, none⟩ = some (.int .i64 E) ∧ W.cell? ⟨w9.heap.size, 0, none⟩ = some (.bool (vB n b')) ∧ W.cell? ⟨w9.heap.size, 1, none⟩ = some (.slice ao9 (dlen (vM n b')) cc9) ∧ W.cell? ⟨w9.heap.size, 2, none⟩ = some (.int .i64 (vE n b'))) (by kernel_rfl) ?_
                      refine wpC_take 0 (v := ?_) rfl (by kernel_rfl) (fun _ _ _ h => h) (by kernel_rfl) ?_ ?_; rotate_left; · (intro wC hC; obtain ⟨p0, p1, p2, p3, p4, p5⟩ := hC; go_simp <;> with_reducible rfl)
                      refine wpC_take 1 (v := ?_) rfl (by kernel_rfl) (fun _ _ _ h => h) (by kernel_rfl) ?_ ?_; rotate_left; · (intro wC hC; obtain ⟨p0, p1, p2, p3, p4, p5⟩ := hC; go_simp <;> with_reducible rfl)
                      refine wpC_take 2 (v := ?_) rfl (by kernel_rfl) (fun _ _ _ h => h) (by kernel_rfl) ?_ ?_; rotate_left; · (intro wC hC; obtain ⟨p0, p1, p2, p3, p4, p5⟩ := hC; go_simp <;> with_reducible rfl)
                      refine wpC_take 3 (v := ?_) rfl (by kernel_rfl) (fun _ _ _ h => h) (by kernel_rfl) ?_ ?_; rotate_left; · (intro wC hC; obtain ⟨p0, p1, p2, p3, p4, p5⟩ := hC; go_simp <;> with_reducible rfl)
                      refine wpC_take 4 (v := ?_) rfl (by kernel_rfl) (fun _ _ _ h => h) (by kernel_rfl) ?_ ?_; rotate_left; · (intro wC hC; obtain ⟨p0, p1, p2, p3, p4, p5⟩ := hC; go_simp <;> with_reducible rfl)
                      have a0 := cdrew (Below.refl W5.heap.size W5)
                      refine wpC_step 5 rfl (by kernel_rfl) (by kernel_rfl) (cls31 _ a0) (fun K hK => ?_)
                      go_simp
                      go_wp2_with ((go_at_call 14; go_must (refine (kt R (by omega) _).mono ?_); rintro e x31 ⟨vt, mt, jt, rfl, hrt, hj1, hj2, hbt⟩))
                      try (refine hK _ _ ?_; clear hK K)
                      have a1 := cthen a0 hbt
                      obtain ⟨aot, cct, rfl, ht1, ht2⟩ := hrt.num
                      have tb := TieF.bounds HN.out (show TieF n (R) mt jt _ from ⟨hj1, hj2, rfl⟩)
                      refine wpC_step 6 rfl (by kernel_rfl) (by kernel_rfl) (cls31 _ a1) (fun K hK => ?_)
                      go_simp
                      go_wp2_with ((go_at_call 13; go_must (refine (kbs _ _ _ _ _ tb ((rvm0).below a1) ((rvg0).below a1) hrt).mono ?_); rintro e y31 ⟨rfl, hbb⟩))
                      try (refine hK _ _ ?_; clear hK K)
                      have a2 := cthen a1 hbb
                      refine wpC_take 7 (v := ?_) rfl (by kernel_rfl) (fun _ _ _ h => h) (by kernel_rfl) ?_ ?_; rotate_left; · (intro wC hC; obtain ⟨p0, p1, p2, p3, p4, p5⟩ := hC; go_simp <;> with_reducible rfl)
                      refine wpC_done (by kernel_rfl) (cls31 _ a2) ?_
                      have hc31 := (HSD.out.1 h1) _ _ _ ⟨hj1, hj2, rfl⟩
                      have A31 : Hid (Below W5.heap.size W5 y31) := a2
                      clear hbt hbb a0 a1 tb hrt ht1 ht2 hj1 hj2
                      have rm1 := (a2.block m (rowlt rm0)).trans rm0
                      have rg1 := (a2.block w9.heap.size (rowlt rg0)).trans rg0
                      have rvm1 := rvm0.below a2
                      have rvg1 := rvg0.below a2
                      clear a2
                      generalize cmpO o M E (vM n b') (vE n b') mt (scaleL (tieT n R) - (jt : Nat)) = c31 at *
                      have hev31 : c31 = -1 ∨ (c31 = 0 ∧ ev = true) := by
                        rcases hc31 with h | ⟨h, h'⟩
                        · exact .inl h
                        · exact .inr ⟨h, HEV.out h'⟩
                      clear hc31
                      rcases hev31 with rfl | ⟨rfl, he31⟩
                      all_goals
                        go_upto_region 35 with fail
                        have cls35 : ∀ W, Below y31.heap.size y31 W → W.cell? ⟨m, 0, none⟩ = some (.bool nv) ∧ W.cell? ⟨m, 1, none⟩ = some (.slice ao (dlen M) cc) ∧ W.cell? ⟨m, 2, none⟩ = some (.int .i64 E) ∧ W.cell? ⟨w9.heap.size, 0, none⟩ = some (.bool (vB n b')) ∧ W.cell? ⟨w9.heap.size, 1, none⟩ = some (.slice ao9 (dlen (vM n b')) cc9) ∧ W.cell? ⟨w9.heap.size, 2, none⟩ = some (.int .i64 (vE n b')) := fun W hW => ⟨((hW.cell (p := ⟨m, 0, none⟩) (rowlt rm1)).trans (rowcell rm1 0)), ((hW.cell (p := ⟨m, 1, none⟩) (rowlt rm1)).trans (rowcell rm1 1)), ((hW.cell (p := ⟨m, 2, none⟩) (rowlt rm1)).trans (rowcell rm1 2)), ((hW.cell (p := ⟨w9.heap.size, 0, none⟩) (rowlt rg1)).trans (rowcell rg1 0)), ((hW.cell (p := ⟨w9.heap.size, 1, none⟩) (rowlt rg1)).trans (rowcell rg1 1)), ((hW.cell (p := ⟨w9.heap.size, 2, none⟩) (rowlt rg1)).trans (rowcell rg1 2))⟩
                        refine wpC_region (fun W => W.cell? ⟨m, 0, none⟩ = some (.bool nv) ∧ W.cell? ⟨m, 1, none⟩ = some (.slice ao (dlen M) cc) ∧ W.cell? ⟨m, 2, none⟩ = some (.int .i64 E) ∧ W.cell? ⟨w9.heap.size, 0, none⟩ = some (.bool (vB n b')) ∧ W.cell? ⟨w9.heap.size, 1, none⟩ = some (.slice ao9 (dlen (vM n b')) cc9) ∧ W.cell? ⟨w9.heap.size, 2, none⟩ = some (.int .i64 (vE n b'))) (by kernel_rfl) ?_
                        refine wpC_take 0 (v := ?_) rfl (by kernel_rfl) (fun _ _ _ h => h) (by kernel_rfl) ?_ ?_; rotate_left; · (intro wC hC; obtain ⟨p0, p1, p2, p3, p4, p5⟩ := hC; go_simp <;> with_reducible rfl)
                        refine wpC_take 1 (v := ?_) rfl (by kernel_rfl) (fun _ _ _ h => h) (by kernel_rfl) ?_ ?_; rotate_left; · (intro wC hC; obtain ⟨p0, p1, p2, p3, p4, p5⟩ := hC; go_simp <;> with_reducible rfl)
                        refine wpC_take 2 (v := ?_) rfl (by kernel_rfl) (fun _ _ _ h => h) (by kernel_rfl) ?_ ?_; rotate_left; · (intro wC hC; obtain ⟨p0, p1, p2, p3, p4, p5⟩ := hC; go_simp <;> with_reducible rfl)
                        refine wpC_take 3 (v := ?_) rfl (by kernel_rfl) (fun _ _ _ h => h) (by kernel_rfl) ?_ ?_; rotate_left; · (intro wC hC; obtain ⟨p0, p1, p2, p3, p4, p5⟩ := hC; go_simp <;> with_reducible rfl)
                        refine wpC_take 4 (v := ?_) rfl (by kernel_rfl) (fun _ _ _ h => h) (by kernel_rfl) ?_ ?_; rotate_left; · (intro wC hC; obtain ⟨p0, p1, p2, p3, p4, p5⟩ := hC; go_simp <;> with_reducible rfl)
                        refine wpC_take 5 (v := ?_) rfl (by kernel_rfl) (fun _ _ _ h => h) (by kernel_rfl) ?_ ?_; rotate_left; · (intro wC hC; obtain ⟨p0, p1, p2, p3, p4, p5⟩ := hC; go_simp <;> with_reducible rfl)
                        have a0 := cdrew (Below.refl y31.heap.size y31)
                        refine wpC_step 6 rfl (by kernel_rfl) (by kernel_rfl) (cls35 _ a0) (fun K hK => ?_)
                        go_simp
                        go_wp2_with ((go_at_call 14; go_must (refine (kt (R - 1) (by omega) _).mono ?_); rintro e x35 ⟨vt, mt, jt, rfl, hrt, hj1, hj2, hbt⟩))
                        try (refine hK _ _ ?_; clear hK K)
                        have a1 := cthen a0 hbt
                        obtain ⟨aot, cct, rfl, ht1, ht2⟩ := hrt.num
                        have tb := TieF.bounds HN.out (show TieF n ((R - 1)) mt jt _ from ⟨hj1, hj2, rfl⟩)
                        refine wpC_step 7 rfl (by kernel_rfl) (by kernel_rfl) (cls35 _ a1) (fun K hK => ?_)
                        go_simp
                        go_wp2_with ((go_at_call 13; go_must (refine (kbs _ _ _ _ _ tb ((rvm1).below a1) ((rvg1).below a1) hrt).mono ?_); rintro e y35 ⟨rfl, hbb⟩))
                        try (refine hK _ _ ?_; clear hK K)
                        have a2 := cthen a1 hbb
                        refine wpC_take 8 (v := ?_) rfl (by kernel_rfl) (fun _ _ _ h => h) (by kernel_rfl) ?_ ?_; rotate_left; · (intro wC hC; obtain ⟨p0, p1, p2, p3, p4, p5⟩ := hC; go_simp <;> with_reducible rfl)
                        refine wpC_done (by kernel_rfl) (cls35 _ a2) ?_
                        have hc35 := (HSD.out.2 h2) _ _ _ ⟨hj1, hj2, rfl⟩
                        have A35 : Hid (Below y31.heap.size y31 y35) := a2
                        clear hbt hbb a0 a1 tb hrt ht1 ht2 hj1 hj2
                        generalize cmpO o M E (vM n b') (vE n b') mt (scaleL (tieT n (R - 1)) - (jt : Nat)) = c35 at *
                        have hev35 : c35 = 1 ∨ (c35 = 0 ∧ ev = true) := by
                          rcases hc35 with h | ⟨h, h'⟩
                          · exact .inl h
                          · exact .inr ⟨h, HEV.out h'⟩
                        clear hc35 a2
                        rcases hev35 with rfl | ⟨rfl, hev⟩
                        · go_wp2
                          exact hQ.out _ _ ⟨by first | rfl | simp, cthen (cthen HT.out A31.out) A35.out⟩
                        · try rw [hev]
                          go_wp2
                          exact hQ.out _ _ ⟨by first | rfl | simp, cthen (cthen HT.out A31.out) A35.out⟩
                    · have D2 : decide ((1 : Int) < (R : Int)) = false := decide_eq_false (by omega)
                      have D2' : decide (1 < R) = false := decide_eq_false (by omega)
                      go_upto_region 31 with fail
                      have cls31 : ∀ W, Below W5.heap.size W5 W → W.cell? ⟨m, 0, none⟩ = some (.bool nv) ∧ W.cell? ⟨m, 1, none⟩ = some (.slice ao (dlen M) cc) ∧ W.cell? ⟨m, 2, none⟩ = some (.int .i64 E) ∧ W.cell? ⟨w9.heap.size, 0, none⟩ = some (.bool (vB n b')) ∧ W.cell? ⟨w9.heap.size, 1, none⟩ = some (.slice ao9 (dlen (vM n b')) cc9) ∧ W.cell? ⟨w9.heap.size, 2, none⟩ = some (.int .i64 (vE n b')) := fun W hW => ⟨((hW.cell (p := ⟨m, 0, none⟩) (rowlt rm0)).trans (rowcell rm0 0)), ((hW.cell (p := ⟨m, 1, none⟩) (rowlt rm0)).trans (rowcell rm0 1)), ((hW.cell (p := ⟨m, 2, none⟩) (rowlt rm0)).trans (rowcell rm0 2)), ((hW.cell (p := ⟨w9.heap.size, 0, none⟩) (rowlt rg0)).trans (rowcell rg0 0)), ((hW.cell (p := ⟨w9.heap.size, 1, none⟩) (rowlt rg0)).trans (rowcell rg0 1)), ((hW.cell (p := ⟨w9.heap.size, 2, none⟩) (rowlt rg0)).trans (rowcell rg0 2))⟩
                      refine wpC_region (fun W => W.cell? ⟨m, 0, none⟩ = some (.bool nv) ∧ W.cell? ⟨m, 1, none⟩ = some (.slice ao (dlen M) cc) ∧ W.cell? ⟨m, 2, none⟩ = some (.int .i64 E) ∧ W.cell? ⟨w9.heap.size, 0, none⟩ = some (.bool (vB n b')) ∧ W.cell? ⟨w9.heap.size, 1, none⟩ = some (.slice ao9 (dlen (vM n b')) cc9) ∧ W.cell? ⟨w9.heap.size, 2, none⟩ = some (.int .i64 (vE n b'))) (by kernel_rfl) ?_
                      refine wpC_take 0 (v := ?_) rfl (by kernel_rfl) (fun _ _ _ h => h) (by kernel_rfl) ?_ ?_; rotate_left; · (intro wC hC; obtain ⟨p0, p1, p2, p3, p4, p5⟩ := hC; go_simp <;> with_reducible rfl)
                      refine wpC_take 1 (v := ?_) rfl (by kernel_rfl) (fun _ _ _ h => h) (by kernel_rfl) ?_ ?_; rotate_left; · (intro wC hC; obtain ⟨p0, p1, p2, p3, p4, p5⟩ := hC; go_simp <;> with_reducible rfl)
                      refine wpC_take 2 (v := ?_) rfl (by kernel_rfl) (fun _ _ _ h => h) (by kernel_rfl) ?_ ?_; rotate_left; · (intro wC hC; obtain ⟨p0, p1, p2, p3, p4, p5⟩ := hC; go_simp <;> with_reducible rfl)
                      refine wpC_take 3 (v := ?_) rfl (by kernel_rfl) (fun _ _ _ h => h) (by kernel_rfl) ?_ ?_; rotate_left; · (intro wC hC; obtain ⟨p0, p1, p2, p3, p4, p5⟩ := hC; go_simp <;> with_reducible rfl)
                      refine wpC_take 4 (v := ?_) rfl (by kernel_rfl) (fun _ _ _ h => h) (by kernel_rfl) ?_ ?_; rotate_left; · (intro wC hC; obtain ⟨p0, p1, p2, p3, p4, p5⟩ := hC; go_simp <;> with_reducible rfl)
                      have a0 := cdrew (Below.refl W5.heap.size W5)
                      refine wpC_step 5 rfl (by kernel_rfl) (by kernel_rfl) (cls31 _ a0) (fun K hK => ?_)
                      go_simp
                      go_wp2_with ((go_at_call 14; go_must (refine (kt R (by omega) _).mono ?_); rintro e x31 ⟨vt, mt, jt, rfl, hrt, hj1, hj2, hbt⟩))
                      try (refine hK _ _ ?_; clear hK K)
                      have a1 := cthen a0 hbt
                      obtain ⟨aot, cct, rfl, ht1, ht2⟩ := hrt.num
                      have tb := TieF.bounds HN.out (show TieF n (R) mt jt _ from ⟨hj1, hj2, rfl⟩)
                      refine wpC_step 6 rfl (by kernel_rfl) (by kernel_rfl) (cls31 _ a1) (fun K hK => ?_)
                      go_simp
                      go_wp2_with ((go_at_call 13; go_must (refine (kbs _ _ _ _ _ tb ((rvm0).below a1) ((rvg0).below a1) hrt).mono ?_); rintro e y31 ⟨rfl, hbb⟩))
                      try (refine hK _ _ ?_; clear hK K)
                      have a2 := cthen a1 hbb
                      refine wpC_take 7 (v := ?_) rfl (by kernel_rfl) (fun _ _ _ h => h) (by kernel_rfl) ?_ ?_; rotate_left; · (intro wC hC; obtain ⟨p0, p1, p2, p3, p4, p5⟩ := hC; go_simp <;> with_reducible rfl)
                      refine wpC_done (by kernel_rfl) (cls31 _ a2) ?_
                      have hc31 := (HSD.out.1 h1) _ _ _ ⟨hj1, hj2, rfl⟩
                      have A31 : Hid (Below W5.heap.size W5 y31) := a2
                      clear hbt hbb a0 a1 tb hrt ht1 ht2 hj1 hj2
                      have rm1 := (a2.block m (rowlt rm0)).trans rm0
                      have rg1 := (a2.block w9.heap.size (rowlt rg0)).trans rg0
                      have rvm1 := rvm0.below a2
                      have rvg1 := rvg0.below a2
                      clear a2
                      generalize cmpO o M E (vM n b') (vE n b') mt (scaleL (tieT n R) - (jt : Nat)) = c31 at *
                      have hev31 : c31 = -1 ∨ (c31 = 0 ∧ ev = true) := by
                        rcases hc31 with h | ⟨h, h'⟩
                        · exact .inl h
                        · exact .inr ⟨h, HEV.out h'⟩
                      clear hc31
                      rcases hev31 with rfl | ⟨rfl, he31⟩
                      all_goals
                        go_wp2
                        exact hQ.out _ _ ⟨by first | rfl | simp, (cthen HT.out A31.out)⟩
                  · have D1 : decide ((R : Int) < ((nar - 1 : Nat) : Int)) = false := decide_eq_false (by omega)
                    have D1' : decide (R < nar - 1) = false := decide_eq_false (by omega)
                    by_cases h2 : 1 < R
                    · have D2 : decide ((1 : Int) < (R : Int)) = true := decide_eq_true (by omega)
                      have D2' : decide (1 < R) = true := decide_eq_true (by omega)
                      go_upto_region 35 with fail
                      have cls35 : ∀ W, Below W5.heap.size W5 W → W.cell? ⟨m, 0, none⟩ = some (.bool nv) ∧ W.cell? ⟨m, 1, none⟩ = some (.slice ao (dlen M) cc) ∧ W.cell? ⟨m, 2, none⟩ = some (.int .i64 E) ∧ W.cell? ⟨w9.heap.size, 0, none⟩ = some (.bool (vB n b')) ∧ W.cell? ⟨w9.heap.size, 1, none⟩ = some (.slice ao9 (dlen (vM n b')) cc9) ∧ W.cell? ⟨w9.heap.size, 2, none⟩ = some (.int .i64 (vE n b')) := fun W hW => ⟨((hW.cell (p := ⟨m, 0, none⟩) (rowlt rm0)).trans (rowcell rm0 0)), ((hW.cell (p := ⟨m, 1, none⟩) (rowlt rm0)).trans (rowcell rm0 1)), ((hW.cell (p := ⟨m, 2, none⟩) (rowlt rm0)).trans (rowcell rm0 2)), ((hW.cell (p := ⟨w9.heap.size, 0, none⟩) (rowlt rg0)).trans (rowcell rg0 0)), ((hW.cell (p := ⟨w9.heap.size, 1, none⟩) (rowlt rg0)).trans (rowcell rg0 1)), ((hW.cell (p := ⟨w9.heap.size, 2, none⟩) (rowlt rg0)).trans (rowcell rg0 2))⟩
                      refine wpC_region (fun W => W.cell? ⟨m, 0, none⟩ = some (.bool nv) ∧ W.cell? ⟨m, 1, none⟩ = some (.slice ao (dlen M) cc) ∧ W.cell? ⟨m, 2, none⟩ = some (.int .i64 E) ∧ W.cell? ⟨w9.heap.size, 0, none⟩ = some (.bool (vB n b')) ∧ W.cell? ⟨w9.heap.size, 1, none⟩ = some (.slice ao9 (dlen (vM n b')) cc9) ∧ W.cell? ⟨w9.heap.size, 2, none⟩ = some (.int .i64 (vE n b'))) (by kernel_rfl) ?_
                      refine wpC_take 0 (v := ?_) rfl (by kernel_rfl) (fun _ _ _ h => h) (by kernel_rfl) ?_ ?_; rotate_left; · (intro wC hC; obtain ⟨p0, p1, p2, p3, p4, p5⟩ := hC; go_simp <;> with_reducible rfl)
                      refine wpC_take 1 (v := ?_) rfl (by kernel_rfl) (fun _ _ _ h => h) (by kernel_rfl) ?_ ?_; rotate_left; · (intro wC hC; obtain ⟨p0, p1, p2, p3, p4, p5⟩ := hC; go_simp <;> with_reducible rfl)
                      refine wpC_take 2 (v := ?_) rfl (by kernel_rfl) (fun _ _ _ h => h) (by kernel_rfl) ?_ ?_; rotate_left; · (intro wC hC; obtain ⟨p0, p1, p2, p3, p4, p5⟩ := hC; go_simp <;> with_reducible rfl)
                      refine wpC_take 3 (v := ?_) rfl (by kernel_rfl) (fun _ _ _ h => h) (by kernel_rfl) ?_ ?_; rotate_left; · (intro wC hC; obtain ⟨p0, p1, p2, p3, p4, p5⟩ := hC; go_simp <;> with_reducible rfl)
                      refine wpC_take 4 (v := ?_) rfl (by kernel_rfl) (fun _ _ _ h => h) (by kernel_rfl) ?_ ?_; rotate_left; · (intro wC hC; obtain ⟨p0, p1, p2, p3, p4, p5⟩ := hC; go_simp <;> with_reducible rfl)
                      refine wpC_take 5 (v := ?_) rfl (by kernel_rfl) (fun _ _ _ h => h) (by kernel_rfl) ?_ ?_; rotate_left; · (intro wC hC; obtain ⟨p0, p1, p2, p3, p4, p5⟩ := hC; go_simp <;> with_reducible rfl)
                      have a0 := cdrew (Below.refl W5.heap.size W5)
                      refine wpC_step 6 rfl (by kernel_rfl) (by kernel_rfl) (cls35 _ a0) (fun K hK => ?_)
                      go_simp
                      go_wp2_with ((go_at_call 14; go_must (refine (kt (R - 1) (by omega) _).mono ?_); rintro e x35 ⟨vt, mt, jt, rfl, hrt, hj1, hj2, hbt⟩))
                      try (refine hK _ _ ?_; clear hK K)
                      have a1 := cthen a0 hbt
                      obtain ⟨aot, cct, rfl, ht1, ht2⟩ := hrt.num
                      have tb := TieF.bounds HN.out (show TieF n ((R - 1)) mt jt _ from ⟨hj1, hj2, rfl⟩)
                      refine wpC_step 7 rfl (by kernel_rfl) (by kernel_rfl) (cls35 _ a1) (fun K hK => ?_)
                      go_simp
                      go_wp2_with ((go_at_call 13; go_must (refine (kbs _ _ _ _ _ tb ((rvm0).below a1) ((rvg0).below a1) hrt).mono ?_); rintro e y35 ⟨rfl, hbb⟩))
                      try (refine hK _ _ ?_; clear hK K)
                      have a2 := cthen a1 hbb
                      refine wpC_take 8 (v := ?_) rfl (by kernel_rfl) (fun _ _ _ h => h) (by kernel_rfl) ?_ ?_; rotate_left; · (intro wC hC; obtain ⟨p0, p1, p2, p3, p4, p5⟩ := hC; go_simp <;> with_reducible rfl)
                      refine wpC_done (by kernel_rfl) (cls35 _ a2) ?_
                      have hc35 := (HSD.out.2 h2) _ _ _ ⟨hj1, hj2, rfl⟩
                      have A35 : Hid (Below W5.heap.size W5 y35) := a2
                      clear hbt hbb a0 a1 tb hrt ht1 ht2 hj1 hj2
                      generalize cmpO o M E (vM n b') (vE n b') mt (scaleL (tieT n (R - 1)) - (jt : Nat)) = c35 at *
                      have hev35 : c35 = 1 ∨ (c35 = 0 ∧ ev = true) := by
                        rcases hc35 with h | ⟨h, h'⟩
                        · exact .inl h
                        · exact .inr ⟨h, HEV.out h'⟩
                      clear hc35 a2
                      rcases hev35 with rfl | ⟨rfl, hev⟩
                      · go_wp2
                        exact hQ.out _ _ ⟨by first | rfl | simp, cthen HT.out A35.out⟩
                      · try rw [hev]
                        go_wp2
                        exact hQ.out _ _ ⟨by first | rfl | simp, cthen HT.out A35.out⟩
                    · have D2 : decide ((1 : Int) < (R : Int)) = false := decide_eq_false (by omega)
                      have D2' : decide (1 < R) = false := decide_eq_false (by omega)
                      go_wp2
                      exact hQ.out _ _ ⟨by first | rfl | simp, HT.out⟩
        · have hq := HNA.out (HNRI.out.1 hNr)
          rw [← HNR.out] at hq
          clear hNr HNRI HNA HX HKV1 HKV2 HKV3
          subst hq
          go_wp2_with fail
          all_goals exact hQ.out _ _ ⟨by first | rfl | simp, HBW.out⟩
end Go.Proofs.YtheliihkkoohnabGreat
