import Derived.Test.YtmkdnhdbgoehgaaGreatJoin5
import Derived.Test.YtmkdnhdbgoehgaaGreatJoin3
import Derived.Test.YtmkdnhdbgoehgaaGreatJoin1
namespace Go.Proofs.YtmkdnhdbgoehgaaGreat
open Go.ChangeShapes Go.WideShapes Go.ChangeAt Go.RowKit
set_option linter.unusedVariables false
set_option linter.unusedSimpArgs false
set_option maxRecDepth 100000

/-! ### package sum: the sum of two reals -/
theorem qw_ex {n : Nat} (h : n < 2 ^ 256) : ∃ a b c d, Qw n a b c d :=
  ⟨_, _, _, _, qw_of (by rw [show (115792089237316195423570985008687907853269984665640564039457584007913129639936 : Nat) = 2 ^ 256 by decide]; exact h)⟩
theorem qw_zero {n a b c d : Nat} (h : Qw n a b c d) : (decide ((a : Int) = 0) && decide ((b : Int) = 0) && decide ((c : Int) = 0) && decide ((d : Int) = 0)) = decide (n = 0) := by
  obtain ⟨e, h0, h1, h2, h3⟩ := h
  rw [← Bool.decide_and, ← Bool.decide_and, ← Bool.decide_and]
  refine decide_eq_decide.2 ?_
  omega
theorem or_rest (a b : Nat) (ha : a ≤ 18446744073709551615) (hb : b ≤ 18446744073709551615) : bits BinOp.or IntKind.u64 (b : Int) (a : Int) = ((b ||| a : Nat) : Int) ∧ (((b ||| a : Nat) : Int) != 0) = decide (a ≠ 0 ∨ b ≠ 0) := by
  refine ⟨u64_or_nat b a (by omega) (by omega), ?_⟩
  have e : b ||| a = 0 ↔ b = 0 ∧ a = 0 := Nat.or_eq_zero_iff
  by_cases h : b ||| a = 0
  · obtain ⟨rfl, rfl⟩ := e.1 h
    rfl
  · rw [decide_eq_true (by
      by_cases h0 : a = 0
      · exact .inr (fun c => h (e.2 ⟨c, h0⟩))
      · exact .inl h0)]
    rw [bne_iff_ne]
    omega
theorem risen_at {n : Nat} (h : n ≠ 0) (h2 : n < 2 ^ 256) : ∃ k a b c d, k + blen n = 256 ∧ Qw (n * 2 ^ k) a b c d := by
  have hb : blen n ≤ 256 := blen_le.2 h2
  obtain ⟨k, hk⟩ : ∃ k, k + blen n = 256 := ⟨256 - blen n, by omega⟩
  have e := blen_two k h
  obtain ⟨a, b, c, d, hq⟩ := qw_ex (n := n * 2 ^ k) (blen_le.1 (by omega))
  exact ⟨k, a, b, c, d, hk, hq⟩
theorem sreals_up (ng : Bool) (s : Int) (f : Nat) (nl : Bool) (s' : Int) (g : Nat) (hf : 9223372036854775808 ≤ f) (hf2 : f ≤ 18446744073709551615) (hg : 9223372036854775808 ≤ g) (hg2 : g ≤ 18446744073709551615)
    (hs : -1073741824 ≤ s ∧ s ≤ 1073741824) (hs' : -1073741824 ≤ s' ∧ s' ≤ 1073741824) (hle : s' ≤ s) (heq : s = s' → g ≤ f) (w : World) :
    ((s = s' → g ≤ f) → Calls Tryz.prog 21 #[numV 1 ng s f, numV 1 nl s' g] w fun e w' => e = .returned (exactV ng (sumW (ng == nl) f g (lowK s s')) (s - 254) false) ∧ Below w.heap.size w w') ∧
    ((s = s' → g < f) → Calls Tryz.prog 21 #[numV 1 nl s' g, numV 1 ng s f] w fun e w' => e = .returned (exactV ng (sumW (ng == nl) f g (lowK s s')) (s - 254) false) ∧ Below w.heap.size w w') := by
  have hk : lowK s s' ≤ 191 := by unfold lowK; omega
  obtain ⟨b1, b2, b3⟩ := sumW_lt (same := (ng == nl)) hf2 hg2 hk
  obtain ⟨_, _, b4⟩ := sumW_lt (same := true) hf2 hg2 hk
  have b4' : f * 2 ^ 191 + g * 2 ^ lowK s s' < 2 ^ 256 := b4
  have bl : ∀ x, x < 2 ^ 255 → x < 2 ^ 256 := fun x h => Nat.lt_trans h (Nat.pow_lt_pow_right (by decide) (by decide))
  have hgf : g * 2 ^ lowK s s' ≤ f * 2 ^ 191 := by
    obtain ⟨d, hd⟩ : ∃ d : Nat, (d : Int) = s - s' := ⟨(s - s').toNat, by omega⟩
    by_cases hd2 : d ≤ 191
    · have e : lowK s s' = 191 - d := by unfold lowK; omega
      have h1 := Nat.mul_le_mul (frac_le hf hg2 (fun h0 => heq (by omega)) : g ≤ f * 2 ^ d) (Nat.le_refl (2 ^ (191 - d)))
      rw [Nat.mul_assoc, ← Nat.pow_add, show d + (191 - d) = 191 by omega] at h1
      rw [e]; exact h1
    · have e : lowK s s' = 0 := by unfold lowK; omega
      rw [e, Nat.pow_zero, Nat.mul_one]
      exact Nat.le_trans (Nat.le_trans hg2 (by omega)) (Nat.le_mul_of_pos_left _ (by omega))
  obtain ⟨a0, a1, a2, a3, ca⟩ := qw_ex (bl _ b1)
  obtain ⟨y0, y1, y2, y3, cy⟩ := qw_ex (bl _ b2)
  obtain ⟨p0, p1, p2, p3, cp⟩ := qw_ex b4'
  have k1 := fun w => splaced_any (k := 191) hf2 (Nat.le_refl _) ca w
  have k2 := fun w => splaced_any hg2 hk cy w
  have k3 := fun w => splus_any ca cy cp w
  have ks := fun w => scompare_any 1 ng s f 1 nl s' g w
  have kw := fun w => scompare_any 1 nl s' g 1 ng s f w
  have zs : (s = s' → g ≤ f) → decide (cmpR2 s f s' g < 0) = false := fun h => decide_eq_false (fun c => by
    rcases (cmpR2_lt s f s' g).1 c with c | ⟨c, d⟩
    · omega
    · have := h c
      omega)
  have zw : (s = s' → g < f) → decide (cmpR2 s' g s f < 0) = true := fun h => decide_eq_true ((cmpR2_lt s' g s f).2 (by
    by_cases c : s = s'
    · exact .inr ⟨c.symm, h c⟩
    · exact .inl (by omega)))
  have q1 : IntKind.i64.wrap (s - s') = s - s' := wrapI (by omega)
  have q2 : IntKind.i64.wrap (191 - (s - s')) = 191 - (s - s') := wrapI (by omega)
  have q3 : (if 191 - (s - s') < 0 then 0 else 191 - (s - s')) = ((lowK s s' : Nat) : Int) := by unfold lowK; split <;> omega
  have q4 : IntKind.i64.wrap (s + 1) = s + 1 := wrapI (by omega)
  have hX : 0 < f * 2 ^ 191 := Nat.mul_pos (by omega) (Nat.pow_pos (by decide))
  by_cases hn : ng = nl
  · have hb : (ng == nl) = true := by rw [hn]; simp
    have hv : sumW (ng == nl) f g (lowK s s') = f * 2 ^ 191 + g * 2 ^ lowK s s' := by unfold sumW; rw [hb, if_pos rfl]
    rw [hv]
    have h0 : f * 2 ^ 191 + g * 2 ^ lowK s s' ≠ 0 := by omega
    obtain ⟨k, r0, r1, r2, r3, hkb, cr⟩ := risen_at h0 b4'
    have hbl : 1 ≤ blen (f * 2 ^ 191 + g * 2 ^ lowK s s') := by rw [blen_pos h0]; omega
    have k5 := fun w => srisen_any cp h0 hkb cr w
    obtain ⟨q6, q7⟩ := or_rest r0 r1 cr.h0 cr.h1
    have q5 : IntKind.i64.wrap (s + 1 - (k : Int)) = s + 1 - k := wrapI (by omega)
    have hz := qw_zero cp
    rw [decide_eq_false h0] at hz
    rw [exactV_top ng s h0 hkb cr hs]
    exact ⟨fun h => sreals_stay_same ng s f nl s' g _ _ _ _ _ _ _ _ _ _ _ _ _ _ _ _ _ _ _ _ _ _ _ k _ ks (zs h) k1 q1 q2 q3 k2 k3 hb hz k5 q4 q5 q6 q7 w,
      fun h => sreals_swap_same ng s f nl s' g _ _ _ _ _ _ _ _ _ _ _ _ _ _ _ _ _ _ _ _ _ _ _ k _ kw (zw h) k1 q1 q2 q3 k2 k3 hb hz k5 q4 q5 q6 q7 w⟩
  · have hb : (ng == nl) = false := beq_eq_false_iff_ne.2 hn
    have hv : sumW (ng == nl) f g (lowK s s') = f * 2 ^ 191 - g * 2 ^ lowK s s' := by unfold sumW; rw [hb, if_neg (by decide)]
    rw [hv] at b3 ⊢
    obtain ⟨m0, m1, m2, m3, cm⟩ := qw_ex b3
    have k4 := fun w => sminus_any ca cy hgf cm w
    have hz := qw_zero cm
    by_cases h0 : f * 2 ^ 191 - g * 2 ^ lowK s s' = 0
    · rw [decide_eq_true h0] at hz
      have he : exactV ng (f * 2 ^ 191 - g * 2 ^ lowK s s') (s - 254) false = exV 0 false 0 0 0 false := by unfold exactV; rw [if_pos h0]
      rw [he]
      exact ⟨fun h => sreals_stay_zero ng s f nl s' g _ _ _ _ _ _ _ _ _ _ _ _ _ _ _ _ _ _ _ _ ks (zs h) k1 q1 q2 q3 k2 k3 hb k4 hz w,
        fun h => sreals_swap_zero ng s f nl s' g _ _ _ _ _ _ _ _ _ _ _ _ _ _ _ _ _ _ _ _ kw (zw h) k1 q1 q2 q3 k2 k3 hb k4 hz w⟩
    · rw [decide_eq_false h0] at hz
      obtain ⟨k, r0, r1, r2, r3, hkb, cr⟩ := risen_at h0 b3
      have hbl : 1 ≤ blen (f * 2 ^ 191 - g * 2 ^ lowK s s') := by rw [blen_pos h0]; omega
      have k5 := fun w => srisen_any cm h0 hkb cr w
      obtain ⟨q6, q7⟩ := or_rest r0 r1 cr.h0 cr.h1
      have q5 : IntKind.i64.wrap (s + 1 - (k : Int)) = s + 1 - k := wrapI (by omega)
      rw [exactV_top ng s h0 hkb cr hs]
      exact ⟨fun h => sreals_stay_diff ng s f nl s' g _ _ _ _ _ _ _ _ _ _ _ _ _ _ _ _ _ _ _ _ _ _ _ _ _ _ _ k _ ks (zs h) k1 q1 q2 q3 k2 k3 hb k4 hz k5 q4 q5 q6 q7 w,
        fun h => sreals_swap_diff ng s f nl s' g _ _ _ _ _ _ _ _ _ _ _ _ _ _ _ _ _ _ _ _ _ _ _ _ _ _ _ k _ kw (zw h) k1 q1 q2 q3 k2 k3 hb k4 hz k5 q4 q5 q6 q7 w⟩
end Go.Proofs.YtmkdnhdbgoehgaaGreat

namespace Go.Proofs.YtmkdnhdbgoehgaaGreat
open Go.ChangeShapes Go.WideShapes Go.ChangeAt Go.RowKit
set_option linter.unusedVariables false
set_option maxRecDepth 100000

end Go.Proofs.YtmkdnhdbgoehgaaGreat

namespace Go.Proofs.YtmkdnhdbgoehgaaGreat
open Go.ChangeShapes Go.WideShapes Go.ChangeAt Go.RowKit
set_option linter.unusedVariables false
set_option linter.unusedSimpArgs false
set_option maxRecDepth 100000

/-! ### the document's Sum -/
theorem Row.cset {w : World} {v : Value} {l : List Nat} (h : Row w v l) (m k : Nat) (u u' : Value) (hc : w.cell? ⟨m, k, none⟩ = some u) (hu : ∀ x, u ≠ .int .i64 x) : Row (w.setCell ⟨m, k, none⟩ u') v l := h.setU m k u u' hc hu
theorem sumD_branch (neg : Bool) (s : Int) (M : Nat) (neg' : Bool) (s' : Int) (M' : Nat) (d b : Nat) (h : (¬ 400 < s - s' ∧ (d : Int) = s - s' ∧ b = M') ∨ (400 < s - s' ∧ d = 400 ∧ b = 1)) :
    sumD neg s M neg' s' M' = if neg = neg' then exactV neg (M * 2 ^ d + b) (s - 127 - d) false else if b ≤ M * 2 ^ d then exactV neg (M * 2 ^ d - b) (s - 127 - d) false else exactV neg' (b - M * 2 ^ d) (s - 127 - d) false := by
  unfold sumD
  rcases h with ⟨h1, h2, rfl⟩ | ⟨h1, h2, rfl⟩
  · simp only [if_neg h1]
    rw [show (s - s').toNat = d by omega]
  · simp only [if_pos h1]
    rw [farD_eq, ← h2]
theorem cmp_ge {a b : Nat} (h : b ≤ a) : decide ((0 : Int) ≤ cmpN a b) = true := by
  refine decide_eq_true ?_
  rcases Nat.lt_or_ge b a with x | x
  · rw [cmpN_gt x]; decide
  · have e : b = a := Nat.le_antisymm h x
    rw [e, cmpN_eq]; decide
theorem mul_blen {M d b : Nat} (hM : M < 2 ^ 128) (hb : b < 2 ^ 128) (hd : d ≤ 400) : blen (M * 2 ^ d + b) ≤ 1000 := by
  have h1 : M * 2 ^ d < 2 ^ (128 + d) := by rw [Nat.pow_add]; exact Nat.mul_lt_mul_of_pos_right hM (Nat.pow_pos (by decide))
  have h2 : b < 2 ^ (128 + d) := Nat.lt_of_lt_of_le hb (Nat.pow_le_pow_right (by decide) (by omega))
  have h3 : blen (M * 2 ^ d + b) ≤ 128 + d + 1 := blen_le.2 (by rw [Nat.pow_succ]; omega)
  omega
set_option maxHeartbeats 4000000 in
theorem sum9_near_add (neg : Bool) (s : Int) (hi lo : Nat) (neg' : Bool) (s' : Int) (hi' lo' : Nat) (h : WordsX hi lo) (h' : WordsX hi' lo') (hs : -1099511627776 ≤ s ∧ s ≤ 1099511627776) (hs' : -1099511627776 ≤ s' ∧ s' ≤ 1099511627776) (hle : s' ≤ s) (hf : ¬ 400 < s - s') (hn : neg = neg') (d : Nat) (hd : (d : Int) = s - s') (w : World) :
    Calls Tryz.prog 44 #[exV 1 neg s hi lo false, exV 1 neg' s' hi' lo' false] w fun e w' => e = .returned (exactV neg (manX hi lo * 2 ^ d + manX hi' lo') (s - 127 - d) false) ∧ Below w.heap.size w w' := by
  have hM := h.mant
  have hM' := h'.mant
  have hd4 : d ≤ 400 := by omega
  have hbl := @mul_blen (manX hi lo) d (manX hi' lo') hM.2 hM'.2 hd4
  have hbl1 := @mul_blen (manX hi lo) d 1 hM.2 (by decide) hd4
  have hTM : Tw (manX hi lo) hi lo := ⟨rfl, by have := h.hi64; omega, by have := h.lo64; omega⟩
  have hTM' : Tw (manX hi' lo') hi' lo' := ⟨rfl, by have := h'.hi64; omega, by have := h'.lo64; omega⟩
  have hA1 : blen (manX hi lo * 2 ^ d) ≤ 1000 := Nat.le_trans (blen_mono (Nat.le_add_right _ _)) hbl
  have hS0 := dlen_mant hM.2
  have hSA := dlen_of_blen (Nat.le_trans hA1 (by decide : 1000 ≤ 1099511627776))
  have k1 := fun w => rof_any hTM w
  have k2 := fun w => rof_any hTM' w
  have k3 := fun v w hr => nshl_anyq v (manX hi lo) d (by omega) hS0 w hr
  have hNb : blen (manX hi lo * 2 ^ d + manX hi' lo') ≤ 1000 := hbl
  have k5 := fun va vb w ha hb => nadd_anyq va vb (manX hi lo * 2 ^ d) (manX hi' lo') (dlen_of_blen (Nat.le_trans hNb (by decide : 1000 ≤ 1099511627776))) w ha hb
  have k6 := fun v w hr => exactly7_any neg v (manX hi lo * 2 ^ d + manX hi' lo') (s - 127 - d) false (Nat.le_trans hNb (by decide)) (by omega) w hr
  obtain ⟨K, B, S, H, L, R, hform⟩ := exactV_form neg (manX hi lo * 2 ^ d + manX hi' lo') (s - 127 - d) false
  rw [hform] at k6 ⊢
  have e1 : IntKind.i64.wrap (s - s') = s - s' := wrapI (by omega)
  have g0 : decide (s < s') = false := decide_eq_false (by omega)
  have e2 : IntKind.i64.wrap (s - 127) = s - 127 := wrapI (by omega)
  have e3 : IntKind.i64.wrap (s - 127 - (d : Int)) = s - 127 - (d : Int) := wrapI (by omega)
  have g1 : decide ((400 : Int) < (d : Int)) = false := decide_eq_false (by omega)
  replace e1 : IntKind.i64.wrap (s - s') = (d : Int) := e1.trans hd.symm
  subst hn
  have hle3 : True := trivial
  generalize (manX hi lo * 2 ^ d + manX hi' lo') = NN at *
  generalize manX hi lo * 2 ^ d = A at *
  generalize manX hi lo = M at *
  generalize manX hi' lo' = M2 at *
  clear hform hbl hbl1 hNb hA1 hSA hS0 hTM hTM' hM hM' h h' hs hs' hle hf hd hd4 hle3
  unfold exV at *
  refine cps fun Q hQ => ?_
  go_enter Tryz.func44, Tryz.ntmps44
  go_wp2_with (first
    | (go_at_call_of 65 hi; go_must (refine (k1 _).mono ?_); rintro e w1 ⟨v1, rfl, hr1, hb1⟩; have R1_0 := (hb1.block (w.heap.size) (by first | (simp; done) | (simp; omega) | omega)).trans ((Below.heap_alloc _ _ _ (by first | (simp; done) | (simp; omega) | omega)).trans ((Below.heap_alloc _ _ _ (by first | (simp; done) | (simp; omega) | omega)).trans (rownew' _ _ _ _ (by simp)))); have z1_0 : w.heap.size < w1.heap.size := Nat.lt_of_lt_of_le (by first | (simp; done) | (simp; omega) | omega) hb1.size; have HR1_0 : Hid _ := R1_0; clear R1_0; have R1_1 := (hb1.block (w.heap.size + 1) (by first | (simp; done) | (simp; omega) | omega)).trans ((Below.heap_alloc _ _ _ (by first | (simp; done) | (simp; omega) | omega)).trans (rownew' _ _ _ _ (by simp))); have z1_1 : w.heap.size + 1 < w1.heap.size := Nat.lt_of_lt_of_le (by first | (simp; done) | (simp; omega) | omega) hb1.size; have c1_1_3 := rowcell R1_1 3; have c1_1_4 := rowcell R1_1 4; simp only [List.getElem?_toArray, List.getElem?_cons_zero, List.getElem?_cons_succ] at c1_1_3 c1_1_4; have HR1_1 : Hid _ := R1_1; clear R1_1; have R1_2 := (hb1.block (w.heap.size + 1 + 1) (by first | (simp; done) | (simp; omega) | omega)).trans (rownew' _ _ _ _ (by simp)); have z1_2 : w.heap.size + 1 + 1 < w1.heap.size := Nat.lt_of_lt_of_le (by first | (simp; done) | (simp; omega) | omega) hb1.size; have HR1_2 : Hid _ := R1_2; clear R1_2; have HB1 : Hid (Below _ _ _) := hb1; clear hb1; have HV1 : Hid (Row w1 v1 (dig M)) := hr1; clear hr1)
    | (go_at_call_of 65 hi'; go_must (refine (k2 _).mono ?_); rintro e w2 ⟨v2, rfl, hr2, hb2⟩; have R2_0 := (hb2.block (w.heap.size) (by first | (simp; done) | (simp; omega) | omega)).trans HR1_0.out; have z2_0 : w.heap.size < w2.heap.size := Nat.lt_of_lt_of_le (by first | (simp; done) | (simp; omega) | omega) hb2.size; have c2_0_2 := rowcell R2_0 2; simp only [List.getElem?_toArray, List.getElem?_cons_zero, List.getElem?_cons_succ] at c2_0_2; have HR2_0 : Hid _ := R2_0; clear R2_0; have R2_1 := (hb2.block (w.heap.size + 1) (by first | (simp; done) | (simp; omega) | omega)).trans HR1_1.out; have z2_1 : w.heap.size + 1 < w2.heap.size := Nat.lt_of_lt_of_le (by first | (simp; done) | (simp; omega) | omega) hb2.size; have c2_1_2 := rowcell R2_1 2; simp only [List.getElem?_toArray, List.getElem?_cons_zero, List.getElem?_cons_succ] at c2_1_2; have HR2_1 : Hid _ := R2_1; clear R2_1; have R2_2 := (hb2.block (w.heap.size + 1 + 1) (by first | (simp; done) | (simp; omega) | omega)).trans HR1_2.out; have z2_2 : w.heap.size + 1 + 1 < w2.heap.size := Nat.lt_of_lt_of_le (by first | (simp; done) | (simp; omega) | omega) hb2.size; have HR2_2 : Hid _ := R2_2; clear R2_2; have HB2 : Hid (Below _ _ _) := hb2; clear hb2; have HV2 : Hid (Row w2 v2 (dig M2)) := hr2; have HW1 : Hid (Row w2 v1 (dig M)) := HV1.out.below HB2.out; clear hr2)
    | (go_at_call 66; go_must (refine (k3 _ _ HW1.out).mono ?_); rintro e w3 ⟨v3, rfl, hr3, hb3⟩; have R3_0 := (hb3.block (w.heap.size) (by first | (simp; done) | (simp; omega) | omega)).trans HR2_0.out; have z3_0 : w.heap.size < w3.heap.size := Nat.lt_of_lt_of_le (by first | (simp; done) | (simp; omega) | omega) hb3.size; have c3_0_2 := rowcell R3_0 2; have c3_0_1 := rowcell R3_0 1; simp only [List.getElem?_toArray, List.getElem?_cons_zero, List.getElem?_cons_succ] at c3_0_2 c3_0_1; have HR3_0 : Hid _ := R3_0; clear R3_0; have R3_1 := (hb3.block (w.heap.size + 1) (by first | (simp; done) | (simp; omega) | omega)).trans HR2_1.out; have z3_1 : w.heap.size + 1 < w3.heap.size := Nat.lt_of_lt_of_le (by first | (simp; done) | (simp; omega) | omega) hb3.size; have c3_1_1 := rowcell R3_1 1; simp only [List.getElem?_toArray, List.getElem?_cons_zero, List.getElem?_cons_succ] at c3_1_1; have HR3_1 : Hid _ := R3_1; clear R3_1; have R3_2 := (hb3.block (w.heap.size + 1 + 1) (by first | (simp; done) | (simp; omega) | omega)).trans HR2_2.out; have z3_2 : w.heap.size + 1 + 1 < w3.heap.size := Nat.lt_of_lt_of_le (by first | (simp; done) | (simp; omega) | omega) hb3.size; have HR3_2 : Hid _ := R3_2; clear R3_2; have HB3 : Hid (Below _ _ _) := hb3; clear hb3; have HV3 : Hid (Row w3 v3 (dig A)) := hr3; have HW2 : Hid (Row w3 v2 (dig M2)) := HV2.out.below HB3.out; clear hr3))
  have bq : Below w3.heap.size w3 w3 := Below.refl _ _
  have cls : ∀ W, Below w3.heap.size w3 W → W.cell? ⟨w.heap.size, 1, none⟩ = some (.bool neg) := fun W hW => (hW.cell (p := ⟨w.heap.size, 1, none⟩) z3_0).trans c3_0_1
  refine wpC_region (fun W => W.cell? ⟨w.heap.size, 1, none⟩ = some (.bool neg)) (by kernel_rfl) ?_
  refine wpC_take 0 (v := ?_) rfl (by kernel_rfl) (fun _ _ _ h => h) (by kernel_rfl) ?_ ?_; rotate_left; · (intro wC hC; obtain c1 := hC; go_simp <;> with_reducible rfl)
  refine wpC_take 1 (v := ?_) rfl (by kernel_rfl) (fun _ _ _ h => h) (by kernel_rfl) ?_ ?_; rotate_left; · (intro wC hC; obtain c1 := hC; go_simp <;> with_reducible rfl)
  refine wpC_take 2 (v := ?_) rfl (by kernel_rfl) (fun _ _ _ h => h) (by kernel_rfl) ?_ ?_; rotate_left; · (intro wC hC; obtain c1 := hC; go_simp <;> with_reducible rfl)
  refine wpC_take 3 (v := ?_) rfl (by kernel_rfl) (fun _ _ _ h => h) (by kernel_rfl) ?_ ?_; rotate_left; · (intro wC hC; obtain c1 := hC; go_simp <;> with_reducible rfl)
  refine wpC_take 5 (v := ?_) rfl (by kernel_rfl) (fun _ _ _ h => h) (by kernel_rfl) ?_ ?_; rotate_left; · (intro wC hC; obtain c1 := hC; go_simp <;> with_reducible rfl)
  refine wpC_step 4 rfl (by kernel_rfl) (by kernel_rfl) (cls _ (cdrew bq)) (fun K hK => ?_)
  go_simp
  go_wp2_with ((go_at_call 68; go_must (refine (k5 _ _ _ (HV3.out.below (cdrew bq)) (HW2.out.below (cdrew bq))).mono ?_); rintro e w4 ⟨v4, rfl, hr4, hb4⟩))
  try (refine hK _ _ ?_; clear hK K)
  have b4 : Below w3.heap.size w3 w4 := cthen (cdrew bq) hb4
  refine wpC_step 6 rfl (by kernel_rfl) (by kernel_rfl) (cls _ b4) (fun K hK => ?_)
  go_simp
  go_wp2_with ((go_at_call 67; go_must (refine (k6 _ _ hr4).mono ?_); rintro e w5 ⟨rfl, hb5⟩))
  try (refine hK _ _ ?_; clear hK K)
  have b5 : Below w3.heap.size w3 w5 := cthen b4 hb5
  have RR := (b5.block (w.heap.size + 1 + 1) z3_2).trans HR3_2.out
  have r0 := rowcell RR 0
  have r1 := rowcell RR 1
  have r2 := rowcell RR 2
  have r3 := rowcell RR 3
  have r4 := rowcell RR 4
  have r5 := rowcell RR 5
  have rf := rowfree RR
  simp only [List.getElem?_toArray, List.getElem?_cons_zero, List.getElem?_cons_succ] at r0 r1 r2 r3 r4 r5
  refine wpC_step 7 rfl (by kernel_rfl) (by kernel_rfl) (cls _ b5) (fun K hK => ?_)
  go_simp
  try (refine hK _ _ ?_; clear hK K)
  refine wpC_done (by kernel_rfl) (by simp [go_sem, cls _ b5]) ?_
  go_wp2
  refine bodyPost_ret (v := .agg #[.int .i64 K, .bool B, .int .i64 S, .int .u64 H, .int .u64 L, .bool R]) (by simp [results, Tryz.results44, go_sem, r0, r1, r2, r3, r4, r5]) rfl (hQ.out _ _ ⟨by simp, ?_⟩)
  exact cset6 (cthen (cthen (cthen (cthen (cmore (cmore (cmore (Below.refl _ _) _) _) _) HB1.out) HB2.out) HB3.out) b5) (by omega)
set_option maxHeartbeats 4000000 in
theorem sum9_near_sub (neg : Bool) (s : Int) (hi lo : Nat) (neg' : Bool) (s' : Int) (hi' lo' : Nat) (h : WordsX hi lo) (h' : WordsX hi' lo') (hs : -1099511627776 ≤ s ∧ s ≤ 1099511627776) (hs' : -1099511627776 ≤ s' ∧ s' ≤ 1099511627776) (hle : s' ≤ s) (hf : ¬ 400 < s - s') (hn : neg ≠ neg') (d : Nat) (hd : (d : Int) = s - s') (hc : manX hi' lo' ≤ manX hi lo * 2 ^ d) (w : World) :
    Calls Tryz.prog 44 #[exV 1 neg s hi lo false, exV 1 neg' s' hi' lo' false] w fun e w' => e = .returned (exactV neg (manX hi lo * 2 ^ d - manX hi' lo') (s - 127 - d) false) ∧ Below w.heap.size w w' := by
  have hM := h.mant
  have hM' := h'.mant
  have hd4 : d ≤ 400 := by omega
  have hbl := @mul_blen (manX hi lo) d (manX hi' lo') hM.2 hM'.2 hd4
  have hbl1 := @mul_blen (manX hi lo) d 1 hM.2 (by decide) hd4
  have hTM : Tw (manX hi lo) hi lo := ⟨rfl, by have := h.hi64; omega, by have := h.lo64; omega⟩
  have hTM' : Tw (manX hi' lo') hi' lo' := ⟨rfl, by have := h'.hi64; omega, by have := h'.lo64; omega⟩
  have hA1 : blen (manX hi lo * 2 ^ d) ≤ 1000 := Nat.le_trans (blen_mono (Nat.le_add_right _ _)) hbl
  have hS0 := dlen_mant hM.2
  have hSA := dlen_of_blen (Nat.le_trans hA1 (by decide : 1000 ≤ 1099511627776))
  have k1 := fun w => rof_any hTM w
  have k2 := fun w => rof_any hTM' w
  have k3 := fun v w hr => nshl_anyq v (manX hi lo) d (by omega) hS0 w hr
  have hNb : blen (manX hi lo * 2 ^ d - manX hi' lo') ≤ 1000 := Nat.le_trans (blen_mono (Nat.sub_le _ _)) hA1
  have k4 := fun va vb w ha hb => ncmp_anyq va vb (manX hi lo * 2 ^ d) (manX hi' lo') w ha hb
  have hcm : decide ((0 : Int) ≤ cmpN (manX hi lo * 2 ^ d) (manX hi' lo')) = true := cmp_ge hc
  have k5 := fun va vb w ha hb => nsub_anyq va vb (manX hi lo * 2 ^ d) (manX hi' lo') hc hSA w ha hb
  have k6 := fun v w hr => exactly7_any neg v (manX hi lo * 2 ^ d - manX hi' lo') (s - 127 - d) false (Nat.le_trans hNb (by decide)) (by omega) w hr
  obtain ⟨K, B, S, H, L, R, hform⟩ := exactV_form neg (manX hi lo * 2 ^ d - manX hi' lo') (s - 127 - d) false
  rw [hform] at k6 ⊢
  have e1 : IntKind.i64.wrap (s - s') = s - s' := wrapI (by omega)
  have g0 : decide (s < s') = false := decide_eq_false (by omega)
  have e2 : IntKind.i64.wrap (s - 127) = s - 127 := wrapI (by omega)
  have e3 : IntKind.i64.wrap (s - 127 - (d : Int)) = s - 127 - (d : Int) := wrapI (by omega)
  have g1 : decide ((400 : Int) < (d : Int)) = false := decide_eq_false (by omega)
  replace e1 : IntKind.i64.wrap (s - s') = (d : Int) := e1.trans hd.symm
  have hnb : (neg == neg') = false := beq_eq_false_iff_ne.2 hn
  have hle3 : True := trivial
  generalize (manX hi lo * 2 ^ d - manX hi' lo') = NN at *
  generalize manX hi lo * 2 ^ d = A at *
  generalize manX hi lo = M at *
  generalize manX hi' lo' = M2 at *
  clear hform hbl hbl1 hNb hA1 hSA hS0 hTM hTM' hM hM' h h' hs hs' hle hf hd hd4 hle3 hn hc
  unfold exV at *
  refine cps fun Q hQ => ?_
  go_enter Tryz.func44, Tryz.ntmps44
  go_wp2_with (first
    | (go_at_call_of 65 hi; go_must (refine (k1 _).mono ?_); rintro e w1 ⟨v1, rfl, hr1, hb1⟩; have R1_0 := (hb1.block (w.heap.size) (by first | (simp; done) | (simp; omega) | omega)).trans ((Below.heap_alloc _ _ _ (by first | (simp; done) | (simp; omega) | omega)).trans ((Below.heap_alloc _ _ _ (by first | (simp; done) | (simp; omega) | omega)).trans (rownew' _ _ _ _ (by simp)))); have z1_0 : w.heap.size < w1.heap.size := Nat.lt_of_lt_of_le (by first | (simp; done) | (simp; omega) | omega) hb1.size; have HR1_0 : Hid _ := R1_0; clear R1_0; have R1_1 := (hb1.block (w.heap.size + 1) (by first | (simp; done) | (simp; omega) | omega)).trans ((Below.heap_alloc _ _ _ (by first | (simp; done) | (simp; omega) | omega)).trans (rownew' _ _ _ _ (by simp))); have z1_1 : w.heap.size + 1 < w1.heap.size := Nat.lt_of_lt_of_le (by first | (simp; done) | (simp; omega) | omega) hb1.size; have c1_1_3 := rowcell R1_1 3; have c1_1_4 := rowcell R1_1 4; simp only [List.getElem?_toArray, List.getElem?_cons_zero, List.getElem?_cons_succ] at c1_1_3 c1_1_4; have HR1_1 : Hid _ := R1_1; clear R1_1; have R1_2 := (hb1.block (w.heap.size + 1 + 1) (by first | (simp; done) | (simp; omega) | omega)).trans (rownew' _ _ _ _ (by simp)); have z1_2 : w.heap.size + 1 + 1 < w1.heap.size := Nat.lt_of_lt_of_le (by first | (simp; done) | (simp; omega) | omega) hb1.size; have HR1_2 : Hid _ := R1_2; clear R1_2; have HB1 : Hid (Below _ _ _) := hb1; clear hb1; have HV1 : Hid (Row w1 v1 (dig M)) := hr1; clear hr1)
    | (go_at_call_of 65 hi'; go_must (refine (k2 _).mono ?_); rintro e w2 ⟨v2, rfl, hr2, hb2⟩; have R2_0 := (hb2.block (w.heap.size) (by first | (simp; done) | (simp; omega) | omega)).trans HR1_0.out; have z2_0 : w.heap.size < w2.heap.size := Nat.lt_of_lt_of_le (by first | (simp; done) | (simp; omega) | omega) hb2.size; have c2_0_2 := rowcell R2_0 2; simp only [List.getElem?_toArray, List.getElem?_cons_zero, List.getElem?_cons_succ] at c2_0_2; have HR2_0 : Hid _ := R2_0; clear R2_0; have R2_1 := (hb2.block (w.heap.size + 1) (by first | (simp; done) | (simp; omega) | omega)).trans HR1_1.out; have z2_1 : w.heap.size + 1 < w2.heap.size := Nat.lt_of_lt_of_le (by first | (simp; done) | (simp; omega) | omega) hb2.size; have c2_1_2 := rowcell R2_1 2; simp only [List.getElem?_toArray, List.getElem?_cons_zero, List.getElem?_cons_succ] at c2_1_2; have HR2_1 : Hid _ := R2_1; clear R2_1; have R2_2 := (hb2.block (w.heap.size + 1 + 1) (by first | (simp; done) | (simp; omega) | omega)).trans HR1_2.out; have z2_2 : w.heap.size + 1 + 1 < w2.heap.size := Nat.lt_of_lt_of_le (by first | (simp; done) | (simp; omega) | omega) hb2.size; have HR2_2 : Hid _ := R2_2; clear R2_2; have HB2 : Hid (Below _ _ _) := hb2; clear hb2; have HV2 : Hid (Row w2 v2 (dig M2)) := hr2; have HW1 : Hid (Row w2 v1 (dig M)) := HV1.out.below HB2.out; clear hr2)
    | (go_at_call 66; go_must (refine (k3 _ _ HW1.out).mono ?_); rintro e w3 ⟨v3, rfl, hr3, hb3⟩; have R3_0 := (hb3.block (w.heap.size) (by first | (simp; done) | (simp; omega) | omega)).trans HR2_0.out; have z3_0 : w.heap.size < w3.heap.size := Nat.lt_of_lt_of_le (by first | (simp; done) | (simp; omega) | omega) hb3.size; have c3_0_2 := rowcell R3_0 2; have c3_0_1 := rowcell R3_0 1; simp only [List.getElem?_toArray, List.getElem?_cons_zero, List.getElem?_cons_succ] at c3_0_2 c3_0_1; have HR3_0 : Hid _ := R3_0; clear R3_0; have R3_1 := (hb3.block (w.heap.size + 1) (by first | (simp; done) | (simp; omega) | omega)).trans HR2_1.out; have z3_1 : w.heap.size + 1 < w3.heap.size := Nat.lt_of_lt_of_le (by first | (simp; done) | (simp; omega) | omega) hb3.size; have c3_1_1 := rowcell R3_1 1; simp only [List.getElem?_toArray, List.getElem?_cons_zero, List.getElem?_cons_succ] at c3_1_1; have HR3_1 : Hid _ := R3_1; clear R3_1; have R3_2 := (hb3.block (w.heap.size + 1 + 1) (by first | (simp; done) | (simp; omega) | omega)).trans HR2_2.out; have z3_2 : w.heap.size + 1 + 1 < w3.heap.size := Nat.lt_of_lt_of_le (by first | (simp; done) | (simp; omega) | omega) hb3.size; have HR3_2 : Hid _ := R3_2; clear R3_2; have HB3 : Hid (Below _ _ _) := hb3; clear hb3; have HV3 : Hid (Row w3 v3 (dig A)) := hr3; have HW2 : Hid (Row w3 v2 (dig M2)) := HV2.out.below HB3.out; clear hr3)
    | (go_at_call 69; go_must (refine (k4 _ _ _ HV3.out HW2.out).mono ?_); rintro e wx ⟨rfl, q, rfl⟩))
  have bq : Below w3.heap.size w3 (w3.drewN q) := below_drewN (Below.refl _ _) q
  have cls : ∀ W, Below w3.heap.size w3 W → W.cell? ⟨w.heap.size, 1, none⟩ = some (.bool neg) := fun W hW => (hW.cell (p := ⟨w.heap.size, 1, none⟩) z3_0).trans c3_0_1
  refine wpC_region (fun W => W.cell? ⟨w.heap.size, 1, none⟩ = some (.bool neg)) (by kernel_rfl) ?_
  refine wpC_take 0 (v := ?_) rfl (by kernel_rfl) (fun _ _ _ h => h) (by kernel_rfl) ?_ ?_; rotate_left; · (intro wC hC; obtain c1 := hC; go_simp <;> with_reducible rfl)
  refine wpC_take 1 (v := ?_) rfl (by kernel_rfl) (fun _ _ _ h => h) (by kernel_rfl) ?_ ?_; rotate_left; · (intro wC hC; obtain c1 := hC; go_simp <;> with_reducible rfl)
  refine wpC_take 2 (v := ?_) rfl (by kernel_rfl) (fun _ _ _ h => h) (by kernel_rfl) ?_ ?_; rotate_left; · (intro wC hC; obtain c1 := hC; go_simp <;> with_reducible rfl)
  refine wpC_take 3 (v := ?_) rfl (by kernel_rfl) (fun _ _ _ h => h) (by kernel_rfl) ?_ ?_; rotate_left; · (intro wC hC; obtain c1 := hC; go_simp <;> with_reducible rfl)
  refine wpC_take 5 (v := ?_) rfl (by kernel_rfl) (fun _ _ _ h => h) (by kernel_rfl) ?_ ?_; rotate_left; · (intro wC hC; obtain c1 := hC; go_simp <;> with_reducible rfl)
  refine wpC_step 4 rfl (by kernel_rfl) (by kernel_rfl) (cls _ (cdrew bq)) (fun K hK => ?_)
  go_simp
  go_wp2_with ((go_at_call 70; go_must (refine (k5 _ _ _ (HV3.out.below (cdrew bq)) (HW2.out.below (cdrew bq))).mono ?_); rintro e w4 ⟨v4, rfl, hr4, hb4⟩))
  try (refine hK _ _ ?_; clear hK K)
  have b4 : Below w3.heap.size w3 w4 := cthen (cdrew bq) hb4
  refine wpC_step 6 rfl (by kernel_rfl) (by kernel_rfl) (cls _ b4) (fun K hK => ?_)
  go_simp
  go_wp2_with ((go_at_call 67; go_must (refine (k6 _ _ hr4).mono ?_); rintro e w5 ⟨rfl, hb5⟩))
  try (refine hK _ _ ?_; clear hK K)
  have b5 : Below w3.heap.size w3 w5 := cthen b4 hb5
  have RR := (b5.block (w.heap.size + 1 + 1) z3_2).trans HR3_2.out
  have r0 := rowcell RR 0
  have r1 := rowcell RR 1
  have r2 := rowcell RR 2
  have r3 := rowcell RR 3
  have r4 := rowcell RR 4
  have r5 := rowcell RR 5
  have rf := rowfree RR
  simp only [List.getElem?_toArray, List.getElem?_cons_zero, List.getElem?_cons_succ] at r0 r1 r2 r3 r4 r5
  refine wpC_step 7 rfl (by kernel_rfl) (by kernel_rfl) (cls _ b5) (fun K hK => ?_)
  go_simp
  try (refine hK _ _ ?_; clear hK K)
  refine wpC_done (by kernel_rfl) (by simp [go_sem, cls _ b5]) ?_
  go_wp2
  refine bodyPost_ret (v := .agg #[.int .i64 K, .bool B, .int .i64 S, .int .u64 H, .int .u64 L, .bool R]) (by simp [results, Tryz.results44, go_sem, r0, r1, r2, r3, r4, r5]) rfl (hQ.out _ _ ⟨by simp, ?_⟩)
  exact cset6 (cthen (cthen (cthen (cthen (cmore (cmore (cmore (Below.refl _ _) _) _) _) HB1.out) HB2.out) HB3.out) b5) (by omega)
set_option maxHeartbeats 4000000 in
theorem sum9_near_bus (neg : Bool) (s : Int) (hi lo : Nat) (neg' : Bool) (s' : Int) (hi' lo' : Nat) (h : WordsX hi lo) (h' : WordsX hi' lo') (hs : -1099511627776 ≤ s ∧ s ≤ 1099511627776) (hs' : -1099511627776 ≤ s' ∧ s' ≤ 1099511627776) (hle : s' ≤ s) (hf : ¬ 400 < s - s') (hn : neg ≠ neg') (d : Nat) (hd : (d : Int) = s - s') (hc : ¬ manX hi' lo' ≤ manX hi lo * 2 ^ d) (w : World) :
    Calls Tryz.prog 44 #[exV 1 neg s hi lo false, exV 1 neg' s' hi' lo' false] w fun e w' => e = .returned (exactV neg' (manX hi' lo' - manX hi lo * 2 ^ d) (s - 127 - d) false) ∧ Below w.heap.size w w' := by
  have hM := h.mant
  have hM' := h'.mant
  have hd4 : d ≤ 400 := by omega
  have hbl := @mul_blen (manX hi lo) d (manX hi' lo') hM.2 hM'.2 hd4
  have hbl1 := @mul_blen (manX hi lo) d 1 hM.2 (by decide) hd4
  have hTM : Tw (manX hi lo) hi lo := ⟨rfl, by have := h.hi64; omega, by have := h.lo64; omega⟩
  have hTM' : Tw (manX hi' lo') hi' lo' := ⟨rfl, by have := h'.hi64; omega, by have := h'.lo64; omega⟩
  have hA1 : blen (manX hi lo * 2 ^ d) ≤ 1000 := Nat.le_trans (blen_mono (Nat.le_add_right _ _)) hbl
  have hS0 := dlen_mant hM.2
  have hSA := dlen_of_blen (Nat.le_trans hA1 (by decide : 1000 ≤ 1099511627776))
  have k1 := fun w => rof_any hTM w
  have k2 := fun w => rof_any hTM' w
  have k3 := fun v w hr => nshl_anyq v (manX hi lo) d (by omega) hS0 w hr
  have hNb : blen (manX hi' lo' - manX hi lo * 2 ^ d) ≤ 1000 := Nat.le_trans (blen_mono (Nat.le_trans (Nat.sub_le _ _) (Nat.le_add_left _ (manX hi lo * 2 ^ d)))) hbl
  have k4 := fun va vb w ha hb => ncmp_anyq va vb (manX hi lo * 2 ^ d) (manX hi' lo') w ha hb
  have hcm : decide ((0 : Int) ≤ cmpN (manX hi lo * 2 ^ d) (manX hi' lo')) = false := decide_eq_false (by rw [cmpN_lt (by omega)]; decide)
  have k5 := fun va vb w ha hb => nsub_anyq va vb (manX hi' lo') (manX hi lo * 2 ^ d) (by omega) (dlen_of_blen (Nat.le_trans (blen_mono (Nat.le_add_left _ (manX hi lo * 2 ^ d))) (Nat.le_trans hbl (by decide : 1000 ≤ 1099511627776)))) w ha hb
  have k6 := fun v w hr => exactly7_any neg' v (manX hi' lo' - manX hi lo * 2 ^ d) (s - 127 - d) false (Nat.le_trans hNb (by decide)) (by omega) w hr
  obtain ⟨K, B, S, H, L, R, hform⟩ := exactV_form neg' (manX hi' lo' - manX hi lo * 2 ^ d) (s - 127 - d) false
  rw [hform] at k6 ⊢
  have e1 : IntKind.i64.wrap (s - s') = s - s' := wrapI (by omega)
  have g0 : decide (s < s') = false := decide_eq_false (by omega)
  have e2 : IntKind.i64.wrap (s - 127) = s - 127 := wrapI (by omega)
  have e3 : IntKind.i64.wrap (s - 127 - (d : Int)) = s - 127 - (d : Int) := wrapI (by omega)
  have g1 : decide ((400 : Int) < (d : Int)) = false := decide_eq_false (by omega)
  replace e1 : IntKind.i64.wrap (s - s') = (d : Int) := e1.trans hd.symm
  have hnb : (neg == neg') = false := beq_eq_false_iff_ne.2 hn
  have hle3 : True := trivial
  generalize (manX hi' lo' - manX hi lo * 2 ^ d) = NN at *
  generalize manX hi lo * 2 ^ d = A at *
  generalize manX hi lo = M at *
  generalize manX hi' lo' = M2 at *
  clear hform hbl hbl1 hNb hA1 hSA hS0 hTM hTM' hM hM' h h' hs hs' hle hf hd hd4 hle3 hn hc
  unfold exV at *
  refine cps fun Q hQ => ?_
  go_enter Tryz.func44, Tryz.ntmps44
  go_wp2_with (first
    | (go_at_call_of 65 hi; go_must (refine (k1 _).mono ?_); rintro e w1 ⟨v1, rfl, hr1, hb1⟩; have R1_0 := (hb1.block (w.heap.size) (by first | (simp; done) | (simp; omega) | omega)).trans ((Below.heap_alloc _ _ _ (by first | (simp; done) | (simp; omega) | omega)).trans ((Below.heap_alloc _ _ _ (by first | (simp; done) | (simp; omega) | omega)).trans (rownew' _ _ _ _ (by simp)))); have z1_0 : w.heap.size < w1.heap.size := Nat.lt_of_lt_of_le (by first | (simp; done) | (simp; omega) | omega) hb1.size; have HR1_0 : Hid _ := R1_0; clear R1_0; have R1_1 := (hb1.block (w.heap.size + 1) (by first | (simp; done) | (simp; omega) | omega)).trans ((Below.heap_alloc _ _ _ (by first | (simp; done) | (simp; omega) | omega)).trans (rownew' _ _ _ _ (by simp))); have z1_1 : w.heap.size + 1 < w1.heap.size := Nat.lt_of_lt_of_le (by first | (simp; done) | (simp; omega) | omega) hb1.size; have c1_1_3 := rowcell R1_1 3; have c1_1_4 := rowcell R1_1 4; simp only [List.getElem?_toArray, List.getElem?_cons_zero, List.getElem?_cons_succ] at c1_1_3 c1_1_4; have HR1_1 : Hid _ := R1_1; clear R1_1; have R1_2 := (hb1.block (w.heap.size + 1 + 1) (by first | (simp; done) | (simp; omega) | omega)).trans (rownew' _ _ _ _ (by simp)); have z1_2 : w.heap.size + 1 + 1 < w1.heap.size := Nat.lt_of_lt_of_le (by first | (simp; done) | (simp; omega) | omega) hb1.size; have HR1_2 : Hid _ := R1_2; clear R1_2; have HB1 : Hid (Below _ _ _) := hb1; clear hb1; have HV1 : Hid (Row w1 v1 (dig M)) := hr1; clear hr1)
    | (go_at_call_of 65 hi'; go_must (refine (k2 _).mono ?_); rintro e w2 ⟨v2, rfl, hr2, hb2⟩; have R2_0 := (hb2.block (w.heap.size) (by first | (simp; done) | (simp; omega) | omega)).trans HR1_0.out; have z2_0 : w.heap.size < w2.heap.size := Nat.lt_of_lt_of_le (by first | (simp; done) | (simp; omega) | omega) hb2.size; have c2_0_2 := rowcell R2_0 2; simp only [List.getElem?_toArray, List.getElem?_cons_zero, List.getElem?_cons_succ] at c2_0_2; have HR2_0 : Hid _ := R2_0; clear R2_0; have R2_1 := (hb2.block (w.heap.size + 1) (by first | (simp; done) | (simp; omega) | omega)).trans HR1_1.out; have z2_1 : w.heap.size + 1 < w2.heap.size := Nat.lt_of_lt_of_le (by first | (simp; done) | (simp; omega) | omega) hb2.size; have c2_1_2 := rowcell R2_1 2; simp only [List.getElem?_toArray, List.getElem?_cons_zero, List.getElem?_cons_succ] at c2_1_2; have HR2_1 : Hid _ := R2_1; clear R2_1; have R2_2 := (hb2.block (w.heap.size + 1 + 1) (by first | (simp; done) | (simp; omega) | omega)).trans HR1_2.out; have z2_2 : w.heap.size + 1 + 1 < w2.heap.size := Nat.lt_of_lt_of_le (by first | (simp; done) | (simp; omega) | omega) hb2.size; have HR2_2 : Hid _ := R2_2; clear R2_2; have HB2 : Hid (Below _ _ _) := hb2; clear hb2; have HV2 : Hid (Row w2 v2 (dig M2)) := hr2; have HW1 : Hid (Row w2 v1 (dig M)) := HV1.out.below HB2.out; clear hr2)
    | (go_at_call 66; go_must (refine (k3 _ _ HW1.out).mono ?_); rintro e w3 ⟨v3, rfl, hr3, hb3⟩; have R3_0 := (hb3.block (w.heap.size) (by first | (simp; done) | (simp; omega) | omega)).trans HR2_0.out; have z3_0 : w.heap.size < w3.heap.size := Nat.lt_of_lt_of_le (by first | (simp; done) | (simp; omega) | omega) hb3.size; have c3_0_2 := rowcell R3_0 2; have c3_0_1 := rowcell R3_0 1; simp only [List.getElem?_toArray, List.getElem?_cons_zero, List.getElem?_cons_succ] at c3_0_2 c3_0_1; have HR3_0 : Hid _ := R3_0; clear R3_0; have R3_1 := (hb3.block (w.heap.size + 1) (by first | (simp; done) | (simp; omega) | omega)).trans HR2_1.out; have z3_1 : w.heap.size + 1 < w3.heap.size := Nat.lt_of_lt_of_le (by first | (simp; done) | (simp; omega) | omega) hb3.size; have c3_1_1 := rowcell R3_1 1; simp only [List.getElem?_toArray, List.getElem?_cons_zero, List.getElem?_cons_succ] at c3_1_1; have HR3_1 : Hid _ := R3_1; clear R3_1; have R3_2 := (hb3.block (w.heap.size + 1 + 1) (by first | (simp; done) | (simp; omega) | omega)).trans HR2_2.out; have z3_2 : w.heap.size + 1 + 1 < w3.heap.size := Nat.lt_of_lt_of_le (by first | (simp; done) | (simp; omega) | omega) hb3.size; have HR3_2 : Hid _ := R3_2; clear R3_2; have HB3 : Hid (Below _ _ _) := hb3; clear hb3; have HV3 : Hid (Row w3 v3 (dig A)) := hr3; have HW2 : Hid (Row w3 v2 (dig M2)) := HV2.out.below HB3.out; clear hr3)
    | (go_at_call 69; go_must (refine (k4 _ _ _ HV3.out HW2.out).mono ?_); rintro e wx ⟨rfl, q, rfl⟩))
  have bq : Below w3.heap.size w3 (w3.drewN q) := below_drewN (Below.refl _ _) q
  have cls : ∀ W, Below w3.heap.size w3 W → W.cell? ⟨w.heap.size + 1, 1, none⟩ = some (.bool neg') := fun W hW => (hW.cell (p := ⟨w.heap.size + 1, 1, none⟩) z3_1).trans c3_1_1
  refine wpC_region (fun W => W.cell? ⟨w.heap.size + 1, 1, none⟩ = some (.bool neg')) (by kernel_rfl) ?_
  refine wpC_take 0 (v := ?_) rfl (by kernel_rfl) (fun _ _ _ h => h) (by kernel_rfl) ?_ ?_; rotate_left; · (intro wC hC; obtain c1 := hC; go_simp <;> with_reducible rfl)
  refine wpC_take 1 (v := ?_) rfl (by kernel_rfl) (fun _ _ _ h => h) (by kernel_rfl) ?_ ?_; rotate_left; · (intro wC hC; obtain c1 := hC; go_simp <;> with_reducible rfl)
  refine wpC_take 2 (v := ?_) rfl (by kernel_rfl) (fun _ _ _ h => h) (by kernel_rfl) ?_ ?_; rotate_left; · (intro wC hC; obtain c1 := hC; go_simp <;> with_reducible rfl)
  refine wpC_take 3 (v := ?_) rfl (by kernel_rfl) (fun _ _ _ h => h) (by kernel_rfl) ?_ ?_; rotate_left; · (intro wC hC; obtain c1 := hC; go_simp <;> with_reducible rfl)
  refine wpC_take 5 (v := ?_) rfl (by kernel_rfl) (fun _ _ _ h => h) (by kernel_rfl) ?_ ?_; rotate_left; · (intro wC hC; obtain c1 := hC; go_simp <;> with_reducible rfl)
  refine wpC_step 4 rfl (by kernel_rfl) (by kernel_rfl) (cls _ (cdrew bq)) (fun K hK => ?_)
  go_simp
  go_wp2_with ((go_at_call 70; go_must (refine (k5 _ _ _ (HW2.out.below (cdrew bq)) (HV3.out.below (cdrew bq))).mono ?_); rintro e w4 ⟨v4, rfl, hr4, hb4⟩))
  try (refine hK _ _ ?_; clear hK K)
  have b4 : Below w3.heap.size w3 w4 := cthen (cdrew bq) hb4
  refine wpC_step 6 rfl (by kernel_rfl) (by kernel_rfl) (cls _ b4) (fun K hK => ?_)
  go_simp
  go_wp2_with ((go_at_call 67; go_must (refine (k6 _ _ hr4).mono ?_); rintro e w5 ⟨rfl, hb5⟩))
  try (refine hK _ _ ?_; clear hK K)
  have b5 : Below w3.heap.size w3 w5 := cthen b4 hb5
  have RR := (b5.block (w.heap.size + 1 + 1) z3_2).trans HR3_2.out
  have r0 := rowcell RR 0
  have r1 := rowcell RR 1
  have r2 := rowcell RR 2
  have r3 := rowcell RR 3
  have r4 := rowcell RR 4
  have r5 := rowcell RR 5
  have rf := rowfree RR
  simp only [List.getElem?_toArray, List.getElem?_cons_zero, List.getElem?_cons_succ] at r0 r1 r2 r3 r4 r5
  refine wpC_step 7 rfl (by kernel_rfl) (by kernel_rfl) (cls _ b5) (fun K hK => ?_)
  go_simp
  try (refine hK _ _ ?_; clear hK K)
  refine wpC_done (by kernel_rfl) (by simp [go_sem, cls _ b5]) ?_
  go_wp2
  refine bodyPost_ret (v := .agg #[.int .i64 K, .bool B, .int .i64 S, .int .u64 H, .int .u64 L, .bool R]) (by simp [results, Tryz.results44, go_sem, r0, r1, r2, r3, r4, r5]) rfl (hQ.out _ _ ⟨by simp, ?_⟩)
  exact cset6 (cthen (cthen (cthen (cthen (cmore (cmore (cmore (Below.refl _ _) _) _) _) HB1.out) HB2.out) HB3.out) b5) (by omega)
set_option maxHeartbeats 4000000 in
theorem sum9_far_add (neg : Bool) (s : Int) (hi lo : Nat) (neg' : Bool) (s' : Int) (hi' lo' : Nat) (h : WordsX hi lo) (h' : WordsX hi' lo') (hs : -1099511627776 ≤ s ∧ s ≤ 1099511627776) (hs' : -1099511627776 ≤ s' ∧ s' ≤ 1099511627776) (hle : s' ≤ s) (hf : 400 < s - s') (hn : neg = neg') (d : Nat) (hd : d = 400) (w : World) :
    Calls Tryz.prog 44 #[exV 1 neg s hi lo false, exV 1 neg' s' hi' lo' false] w fun e w' => e = .returned (exactV neg (manX hi lo * 2 ^ d + 1) (s - 127 - d) false) ∧ Below w.heap.size w w' := by
  have hM := h.mant
  have hM' := h'.mant
  have hd4 : d ≤ 400 := by omega
  have hbl := @mul_blen (manX hi lo) d (manX hi' lo') hM.2 hM'.2 hd4
  have hbl1 := @mul_blen (manX hi lo) d 1 hM.2 (by decide) hd4
  have hTM : Tw (manX hi lo) hi lo := ⟨rfl, by have := h.hi64; omega, by have := h.lo64; omega⟩
  have hTM' : Tw (manX hi' lo') hi' lo' := ⟨rfl, by have := h'.hi64; omega, by have := h'.lo64; omega⟩
  have hA1 : blen (manX hi lo * 2 ^ d) ≤ 1000 := Nat.le_trans (blen_mono (Nat.le_add_right _ _)) hbl
  have hS0 := dlen_mant hM.2
  have hSA := dlen_of_blen (Nat.le_trans hA1 (by decide : 1000 ≤ 1099511627776))
  have k1 := fun w => rof_any hTM w
  have k2 := fun w => rof_any hTM' w
  have k3 := fun v w hr => nshl_anyq v (manX hi lo) d (by omega) hS0 w hr
  have hNb : blen (manX hi lo * 2 ^ d + 1) ≤ 1000 := hbl1
  have k5 := fun va vb w ha hb => nadd_anyq va vb (manX hi lo * 2 ^ d) (1) (dlen_of_blen (Nat.le_trans hNb (by decide : 1000 ≤ 1099511627776))) w ha hb
  have k6 := fun v w hr => exactly7_any neg v (manX hi lo * 2 ^ d + 1) (s - 127 - d) false (Nat.le_trans hNb (by decide)) (by omega) w hr
  obtain ⟨K, B, S, H, L, R, hform⟩ := exactV_form neg (manX hi lo * 2 ^ d + 1) (s - 127 - d) false
  rw [hform] at k6 ⊢
  have e1 : IntKind.i64.wrap (s - s') = s - s' := wrapI (by omega)
  have g0 : decide (s < s') = false := decide_eq_false (by omega)
  have e2 : IntKind.i64.wrap (s - 127) = s - 127 := wrapI (by omega)
  have e3 : IntKind.i64.wrap (s - 127 - (d : Int)) = s - 127 - (d : Int) := wrapI (by omega)
  have g1 : decide ((400 : Int) < s - s') = true := decide_eq_true hf
  rw [show (d : Int) = 400 by rw [hd]; rfl] at *
  subst hn
  have hle3 : True := trivial
  generalize (manX hi lo * 2 ^ d + 1) = NN at *
  generalize manX hi lo * 2 ^ d = A at *
  generalize manX hi lo = M at *
  generalize manX hi' lo' = M2 at *
  clear hform hbl hbl1 hNb hA1 hSA hS0 hTM hTM' hM hM' h h' hs hs' hle hf hd hd4 hle3
  unfold exV at *
  refine cps fun Q hQ => ?_
  go_enter Tryz.func44, Tryz.ntmps44
  go_wp2_with (first
    | (go_at_call_of 65 hi; go_must (refine (k1 _).mono ?_); rintro e w1 ⟨v1, rfl, hr1, hb1⟩; have R1_0 := (hb1.block (w.heap.size) (by first | (simp; done) | (simp; omega) | omega)).trans ((Below.heap_alloc _ _ _ (by first | (simp; done) | (simp; omega) | omega)).trans ((Below.heap_alloc _ _ _ (by first | (simp; done) | (simp; omega) | omega)).trans (rownew' _ _ _ _ (by simp)))); have z1_0 : w.heap.size < w1.heap.size := Nat.lt_of_lt_of_le (by first | (simp; done) | (simp; omega) | omega) hb1.size; have HR1_0 : Hid _ := R1_0; clear R1_0; have R1_1 := (hb1.block (w.heap.size + 1) (by first | (simp; done) | (simp; omega) | omega)).trans ((Below.heap_alloc _ _ _ (by first | (simp; done) | (simp; omega) | omega)).trans (rownew' _ _ _ _ (by simp))); have z1_1 : w.heap.size + 1 < w1.heap.size := Nat.lt_of_lt_of_le (by first | (simp; done) | (simp; omega) | omega) hb1.size; have c1_1_3 := rowcell R1_1 3; have c1_1_4 := rowcell R1_1 4; simp only [List.getElem?_toArray, List.getElem?_cons_zero, List.getElem?_cons_succ] at c1_1_3 c1_1_4; have HR1_1 : Hid _ := R1_1; clear R1_1; have R1_2 := (hb1.block (w.heap.size + 1 + 1) (by first | (simp; done) | (simp; omega) | omega)).trans (rownew' _ _ _ _ (by simp)); have z1_2 : w.heap.size + 1 + 1 < w1.heap.size := Nat.lt_of_lt_of_le (by first | (simp; done) | (simp; omega) | omega) hb1.size; have HR1_2 : Hid _ := R1_2; clear R1_2; have HB1 : Hid (Below _ _ _) := hb1; clear hb1; have HV1 : Hid (Row w1 v1 (dig M)) := hr1; clear hr1)
    | (go_at_call_of 65 hi'; go_must (refine (k2 _).mono ?_); rintro e w2 ⟨v2, rfl, hr2, hb2⟩; have R2_0 := (hb2.block (w.heap.size) (by first | (simp; done) | (simp; omega) | omega)).trans HR1_0.out; have z2_0 : w.heap.size < w2.heap.size := Nat.lt_of_lt_of_le (by first | (simp; done) | (simp; omega) | omega) hb2.size; have c2_0_2 := rowcell R2_0 2; simp only [List.getElem?_toArray, List.getElem?_cons_zero, List.getElem?_cons_succ] at c2_0_2; have HR2_0 : Hid _ := R2_0; clear R2_0; have R2_1 := (hb2.block (w.heap.size + 1) (by first | (simp; done) | (simp; omega) | omega)).trans HR1_1.out; have z2_1 : w.heap.size + 1 < w2.heap.size := Nat.lt_of_lt_of_le (by first | (simp; done) | (simp; omega) | omega) hb2.size; have c2_1_2 := rowcell R2_1 2; simp only [List.getElem?_toArray, List.getElem?_cons_zero, List.getElem?_cons_succ] at c2_1_2; have HR2_1 : Hid _ := R2_1; clear R2_1; have R2_2 := (hb2.block (w.heap.size + 1 + 1) (by first | (simp; done) | (simp; omega) | omega)).trans HR1_2.out; have z2_2 : w.heap.size + 1 + 1 < w2.heap.size := Nat.lt_of_lt_of_le (by first | (simp; done) | (simp; omega) | omega) hb2.size; have HR2_2 : Hid _ := R2_2; clear R2_2; have HB2 : Hid (Below _ _ _) := hb2; clear hb2; have HV2 : Hid (Row w2 v2 (dig M2)) := hr2; have HW1 : Hid (Row w2 v1 (dig M)) := HV1.out.below HB2.out; clear hr2)
    | (go_at_call 66; go_must (refine (k3 _ _ (HW1.out.below (cmore (Below.refl _ _) _))).mono ?_); rintro e w3 ⟨v3, rfl, hr3, hb3⟩; have R3_0 := (hb3.block (w.heap.size) (by first | (simp; done) | (simp; omega) | omega)).trans ((Below.heap_alloc _ _ _ (by first | (simp; done) | (simp; omega) | omega)).trans HR2_0.out); have z3_0 : w.heap.size < w3.heap.size := Nat.lt_of_lt_of_le (by first | (simp; done) | (simp; omega) | omega) hb3.size; have c3_0_2 := rowcell R3_0 2; have c3_0_1 := rowcell R3_0 1; simp only [List.getElem?_toArray, List.getElem?_cons_zero, List.getElem?_cons_succ] at c3_0_2 c3_0_1; have HR3_0 : Hid _ := R3_0; clear R3_0; have R3_1 := (hb3.block (w.heap.size + 1) (by first | (simp; done) | (simp; omega) | omega)).trans ((Below.heap_alloc _ _ _ (by first | (simp; done) | (simp; omega) | omega)).trans HR2_1.out); have z3_1 : w.heap.size + 1 < w3.heap.size := Nat.lt_of_lt_of_le (by first | (simp; done) | (simp; omega) | omega) hb3.size; have c3_1_1 := rowcell R3_1 1; simp only [List.getElem?_toArray, List.getElem?_cons_zero, List.getElem?_cons_succ] at c3_1_1; have HR3_1 : Hid _ := R3_1; clear R3_1; have R3_2 := (hb3.block (w.heap.size + 1 + 1) (by first | (simp; done) | (simp; omega) | omega)).trans ((Below.heap_alloc _ _ _ (by first | (simp; done) | (simp; omega) | omega)).trans HR2_2.out); have z3_2 : w.heap.size + 1 + 1 < w3.heap.size := Nat.lt_of_lt_of_le (by first | (simp; done) | (simp; omega) | omega) hb3.size; have HR3_2 : Hid _ := R3_2; clear R3_2; have R3_3 := (hb3.block (w2.heap.size) (by first | (simp; done) | (simp; omega) | omega)).trans (rownew' _ _ _ _ (by simp)); have z3_3 : w2.heap.size < w3.heap.size := Nat.lt_of_lt_of_le (by first | (simp; done) | (simp; omega) | omega) hb3.size; have HR3_3 : Hid _ := R3_3; clear R3_3; have HB3 : Hid (Below _ _ _) := hb3; clear hb3; have HV3 : Hid (Row w3 v3 (dig A)) := hr3; have HW2 : Hid (Row w3 _ (dig 1)) := (row_lit w2 3 1 (by decide) (by decide)).below HB3.out; clear hr3))
  have bq : Below w3.heap.size w3 w3 := Below.refl _ _
  have cls : ∀ W, Below w3.heap.size w3 W → W.cell? ⟨w.heap.size, 1, none⟩ = some (.bool neg) := fun W hW => (hW.cell (p := ⟨w.heap.size, 1, none⟩) z3_0).trans c3_0_1
  refine wpC_region (fun W => W.cell? ⟨w.heap.size, 1, none⟩ = some (.bool neg)) (by kernel_rfl) ?_
  refine wpC_take 0 (v := ?_) rfl (by kernel_rfl) (fun _ _ _ h => h) (by kernel_rfl) ?_ ?_; rotate_left; · (intro wC hC; obtain c1 := hC; go_simp <;> with_reducible rfl)
  refine wpC_take 1 (v := ?_) rfl (by kernel_rfl) (fun _ _ _ h => h) (by kernel_rfl) ?_ ?_; rotate_left; · (intro wC hC; obtain c1 := hC; go_simp <;> with_reducible rfl)
  refine wpC_take 2 (v := ?_) rfl (by kernel_rfl) (fun _ _ _ h => h) (by kernel_rfl) ?_ ?_; rotate_left; · (intro wC hC; obtain c1 := hC; go_simp <;> with_reducible rfl)
  refine wpC_take 3 (v := ?_) rfl (by kernel_rfl) (fun _ _ _ h => h) (by kernel_rfl) ?_ ?_; rotate_left; · (intro wC hC; obtain c1 := hC; go_simp <;> with_reducible rfl)
  refine wpC_take 5 (v := ?_) rfl (by kernel_rfl) (fun _ _ _ h => h) (by kernel_rfl) ?_ ?_; rotate_left; · (intro wC hC; obtain c1 := hC; go_simp <;> with_reducible rfl)
  refine wpC_step 4 rfl (by kernel_rfl) (by kernel_rfl) (cls _ (cdrew bq)) (fun K hK => ?_)
  go_simp
  go_wp2_with ((go_at_call 68; go_must (refine (k5 _ _ _ (HV3.out.below (cdrew bq)) (HW2.out.below (cdrew bq))).mono ?_); rintro e w4 ⟨v4, rfl, hr4, hb4⟩))
  try (refine hK _ _ ?_; clear hK K)
  have b4 : Below w3.heap.size w3 w4 := cthen (cdrew bq) hb4
  refine wpC_step 6 rfl (by kernel_rfl) (by kernel_rfl) (cls _ b4) (fun K hK => ?_)
  go_simp
  go_wp2_with ((go_at_call 67; go_must (refine (k6 _ _ hr4).mono ?_); rintro e w5 ⟨rfl, hb5⟩))
  try (refine hK _ _ ?_; clear hK K)
  have b5 : Below w3.heap.size w3 w5 := cthen b4 hb5
  have RR := (b5.block (w.heap.size + 1 + 1) z3_2).trans HR3_2.out
  have r0 := rowcell RR 0
  have r1 := rowcell RR 1
  have r2 := rowcell RR 2
  have r3 := rowcell RR 3
  have r4 := rowcell RR 4
  have r5 := rowcell RR 5
  have rf := rowfree RR
  simp only [List.getElem?_toArray, List.getElem?_cons_zero, List.getElem?_cons_succ] at r0 r1 r2 r3 r4 r5
  refine wpC_step 7 rfl (by kernel_rfl) (by kernel_rfl) (cls _ b5) (fun K hK => ?_)
  go_simp
  try (refine hK _ _ ?_; clear hK K)
  refine wpC_done (by kernel_rfl) (by simp [go_sem, cls _ b5]) ?_
  go_wp2
  refine bodyPost_ret (v := .agg #[.int .i64 K, .bool B, .int .i64 S, .int .u64 H, .int .u64 L, .bool R]) (by simp [results, Tryz.results44, go_sem, r0, r1, r2, r3, r4, r5]) rfl (hQ.out _ _ ⟨by simp, ?_⟩)
  exact cset6 (cthen (cthen (cmore (cthen (cthen (cmore (cmore (cmore (Below.refl _ _) _) _) _) HB1.out) HB2.out) _) HB3.out) b5) (by omega)
set_option maxHeartbeats 4000000 in
theorem sum9_far_sub (neg : Bool) (s : Int) (hi lo : Nat) (neg' : Bool) (s' : Int) (hi' lo' : Nat) (h : WordsX hi lo) (h' : WordsX hi' lo') (hs : -1099511627776 ≤ s ∧ s ≤ 1099511627776) (hs' : -1099511627776 ≤ s' ∧ s' ≤ 1099511627776) (hle : s' ≤ s) (hf : 400 < s - s') (hn : neg ≠ neg') (d : Nat) (hd : d = 400) (hc : 1 ≤ manX hi lo * 2 ^ d) (w : World) :
    Calls Tryz.prog 44 #[exV 1 neg s hi lo false, exV 1 neg' s' hi' lo' false] w fun e w' => e = .returned (exactV neg (manX hi lo * 2 ^ d - 1) (s - 127 - d) false) ∧ Below w.heap.size w w' := by
  have hM := h.mant
  have hM' := h'.mant
  have hd4 : d ≤ 400 := by omega
  have hbl := @mul_blen (manX hi lo) d (manX hi' lo') hM.2 hM'.2 hd4
  have hbl1 := @mul_blen (manX hi lo) d 1 hM.2 (by decide) hd4
  have hTM : Tw (manX hi lo) hi lo := ⟨rfl, by have := h.hi64; omega, by have := h.lo64; omega⟩
  have hTM' : Tw (manX hi' lo') hi' lo' := ⟨rfl, by have := h'.hi64; omega, by have := h'.lo64; omega⟩
  have hA1 : blen (manX hi lo * 2 ^ d) ≤ 1000 := Nat.le_trans (blen_mono (Nat.le_add_right _ _)) hbl
  have hS0 := dlen_mant hM.2
  have hSA := dlen_of_blen (Nat.le_trans hA1 (by decide : 1000 ≤ 1099511627776))
  have k1 := fun w => rof_any hTM w
  have k2 := fun w => rof_any hTM' w
  have k3 := fun v w hr => nshl_anyq v (manX hi lo) d (by omega) hS0 w hr
  have hNb : blen (manX hi lo * 2 ^ d - 1) ≤ 1000 := Nat.le_trans (blen_mono (Nat.sub_le _ _)) hA1
  have k4 := fun va vb w ha hb => ncmp_anyq va vb (manX hi lo * 2 ^ d) (1) w ha hb
  have hcm : decide ((0 : Int) ≤ cmpN (manX hi lo * 2 ^ d) (1)) = true := cmp_ge hc
  have k5 := fun va vb w ha hb => nsub_anyq va vb (manX hi lo * 2 ^ d) (1) hc hSA w ha hb
  have k6 := fun v w hr => exactly7_any neg v (manX hi lo * 2 ^ d - 1) (s - 127 - d) false (Nat.le_trans hNb (by decide)) (by omega) w hr
  obtain ⟨K, B, S, H, L, R, hform⟩ := exactV_form neg (manX hi lo * 2 ^ d - 1) (s - 127 - d) false
  rw [hform] at k6 ⊢
  have e1 : IntKind.i64.wrap (s - s') = s - s' := wrapI (by omega)
  have g0 : decide (s < s') = false := decide_eq_false (by omega)
  have e2 : IntKind.i64.wrap (s - 127) = s - 127 := wrapI (by omega)
  have e3 : IntKind.i64.wrap (s - 127 - (d : Int)) = s - 127 - (d : Int) := wrapI (by omega)
  have g1 : decide ((400 : Int) < s - s') = true := decide_eq_true hf
  rw [show (d : Int) = 400 by rw [hd]; rfl] at *
  have hnb : (neg == neg') = false := beq_eq_false_iff_ne.2 hn
  have hle3 : True := trivial
  generalize (manX hi lo * 2 ^ d - 1) = NN at *
  generalize manX hi lo * 2 ^ d = A at *
  generalize manX hi lo = M at *
  generalize manX hi' lo' = M2 at *
  clear hform hbl hbl1 hNb hA1 hSA hS0 hTM hTM' hM hM' h h' hs hs' hle hf hd hd4 hle3 hn hc
  unfold exV at *
  refine cps fun Q hQ => ?_
  go_enter Tryz.func44, Tryz.ntmps44
  go_wp2_with (first
    | (go_at_call_of 65 hi; go_must (refine (k1 _).mono ?_); rintro e w1 ⟨v1, rfl, hr1, hb1⟩; have R1_0 := (hb1.block (w.heap.size) (by first | (simp; done) | (simp; omega) | omega)).trans ((Below.heap_alloc _ _ _ (by first | (simp; done) | (simp; omega) | omega)).trans ((Below.heap_alloc _ _ _ (by first | (simp; done) | (simp; omega) | omega)).trans (rownew' _ _ _ _ (by simp)))); have z1_0 : w.heap.size < w1.heap.size := Nat.lt_of_lt_of_le (by first | (simp; done) | (simp; omega) | omega) hb1.size; have HR1_0 : Hid _ := R1_0; clear R1_0; have R1_1 := (hb1.block (w.heap.size + 1) (by first | (simp; done) | (simp; omega) | omega)).trans ((Below.heap_alloc _ _ _ (by first | (simp; done) | (simp; omega) | omega)).trans (rownew' _ _ _ _ (by simp))); have z1_1 : w.heap.size + 1 < w1.heap.size := Nat.lt_of_lt_of_le (by first | (simp; done) | (simp; omega) | omega) hb1.size; have c1_1_3 := rowcell R1_1 3; have c1_1_4 := rowcell R1_1 4; simp only [List.getElem?_toArray, List.getElem?_cons_zero, List.getElem?_cons_succ] at c1_1_3 c1_1_4; have HR1_1 : Hid _ := R1_1; clear R1_1; have R1_2 := (hb1.block (w.heap.size + 1 + 1) (by first | (simp; done) | (simp; omega) | omega)).trans (rownew' _ _ _ _ (by simp)); have z1_2 : w.heap.size + 1 + 1 < w1.heap.size := Nat.lt_of_lt_of_le (by first | (simp; done) | (simp; omega) | omega) hb1.size; have HR1_2 : Hid _ := R1_2; clear R1_2; have HB1 : Hid (Below _ _ _) := hb1; clear hb1; have HV1 : Hid (Row w1 v1 (dig M)) := hr1; clear hr1)
    | (go_at_call_of 65 hi'; go_must (refine (k2 _).mono ?_); rintro e w2 ⟨v2, rfl, hr2, hb2⟩; have R2_0 := (hb2.block (w.heap.size) (by first | (simp; done) | (simp; omega) | omega)).trans HR1_0.out; have z2_0 : w.heap.size < w2.heap.size := Nat.lt_of_lt_of_le (by first | (simp; done) | (simp; omega) | omega) hb2.size; have c2_0_2 := rowcell R2_0 2; simp only [List.getElem?_toArray, List.getElem?_cons_zero, List.getElem?_cons_succ] at c2_0_2; have HR2_0 : Hid _ := R2_0; clear R2_0; have R2_1 := (hb2.block (w.heap.size + 1) (by first | (simp; done) | (simp; omega) | omega)).trans HR1_1.out; have z2_1 : w.heap.size + 1 < w2.heap.size := Nat.lt_of_lt_of_le (by first | (simp; done) | (simp; omega) | omega) hb2.size; have c2_1_2 := rowcell R2_1 2; simp only [List.getElem?_toArray, List.getElem?_cons_zero, List.getElem?_cons_succ] at c2_1_2; have HR2_1 : Hid _ := R2_1; clear R2_1; have R2_2 := (hb2.block (w.heap.size + 1 + 1) (by first | (simp; done) | (simp; omega) | omega)).trans HR1_2.out; have z2_2 : w.heap.size + 1 + 1 < w2.heap.size := Nat.lt_of_lt_of_le (by first | (simp; done) | (simp; omega) | omega) hb2.size; have HR2_2 : Hid _ := R2_2; clear R2_2; have HB2 : Hid (Below _ _ _) := hb2; clear hb2; have HV2 : Hid (Row w2 v2 (dig M2)) := hr2; have HW1 : Hid (Row w2 v1 (dig M)) := HV1.out.below HB2.out; clear hr2)
    | (go_at_call 66; go_must (refine (k3 _ _ (HW1.out.below (cmore (Below.refl _ _) _))).mono ?_); rintro e w3 ⟨v3, rfl, hr3, hb3⟩; have R3_0 := (hb3.block (w.heap.size) (by first | (simp; done) | (simp; omega) | omega)).trans ((Below.heap_alloc _ _ _ (by first | (simp; done) | (simp; omega) | omega)).trans HR2_0.out); have z3_0 : w.heap.size < w3.heap.size := Nat.lt_of_lt_of_le (by first | (simp; done) | (simp; omega) | omega) hb3.size; have c3_0_2 := rowcell R3_0 2; have c3_0_1 := rowcell R3_0 1; simp only [List.getElem?_toArray, List.getElem?_cons_zero, List.getElem?_cons_succ] at c3_0_2 c3_0_1; have HR3_0 : Hid _ := R3_0; clear R3_0; have R3_1 := (hb3.block (w.heap.size + 1) (by first | (simp; done) | (simp; omega) | omega)).trans ((Below.heap_alloc _ _ _ (by first | (simp; done) | (simp; omega) | omega)).trans HR2_1.out); have z3_1 : w.heap.size + 1 < w3.heap.size := Nat.lt_of_lt_of_le (by first | (simp; done) | (simp; omega) | omega) hb3.size; have c3_1_1 := rowcell R3_1 1; simp only [List.getElem?_toArray, List.getElem?_cons_zero, List.getElem?_cons_succ] at c3_1_1; have HR3_1 : Hid _ := R3_1; clear R3_1; have R3_2 := (hb3.block (w.heap.size + 1 + 1) (by first | (simp; done) | (simp; omega) | omega)).trans ((Below.heap_alloc _ _ _ (by first | (simp; done) | (simp; omega) | omega)).trans HR2_2.out); have z3_2 : w.heap.size + 1 + 1 < w3.heap.size := Nat.lt_of_lt_of_le (by first | (simp; done) | (simp; omega) | omega) hb3.size; have HR3_2 : Hid _ := R3_2; clear R3_2; have R3_3 := (hb3.block (w2.heap.size) (by first | (simp; done) | (simp; omega) | omega)).trans (rownew' _ _ _ _ (by simp)); have z3_3 : w2.heap.size < w3.heap.size := Nat.lt_of_lt_of_le (by first | (simp; done) | (simp; omega) | omega) hb3.size; have HR3_3 : Hid _ := R3_3; clear R3_3; have HB3 : Hid (Below _ _ _) := hb3; clear hb3; have HV3 : Hid (Row w3 v3 (dig A)) := hr3; have HW2 : Hid (Row w3 _ (dig 1)) := (row_lit w2 3 1 (by decide) (by decide)).below HB3.out; clear hr3)
    | (go_at_call 69; go_must (refine (k4 _ _ _ HV3.out HW2.out).mono ?_); rintro e wx ⟨rfl, q, rfl⟩))
  have bq : Below w3.heap.size w3 (w3.drewN q) := below_drewN (Below.refl _ _) q
  have cls : ∀ W, Below w3.heap.size w3 W → W.cell? ⟨w.heap.size, 1, none⟩ = some (.bool neg) := fun W hW => (hW.cell (p := ⟨w.heap.size, 1, none⟩) z3_0).trans c3_0_1
  refine wpC_region (fun W => W.cell? ⟨w.heap.size, 1, none⟩ = some (.bool neg)) (by kernel_rfl) ?_
  refine wpC_take 0 (v := ?_) rfl (by kernel_rfl) (fun _ _ _ h => h) (by kernel_rfl) ?_ ?_; rotate_left; · (intro wC hC; obtain c1 := hC; go_simp <;> with_reducible rfl)
  refine wpC_take 1 (v := ?_) rfl (by kernel_rfl) (fun _ _ _ h => h) (by kernel_rfl) ?_ ?_; rotate_left; · (intro wC hC; obtain c1 := hC; go_simp <;> with_reducible rfl)
  refine wpC_take 2 (v := ?_) rfl (by kernel_rfl) (fun _ _ _ h => h) (by kernel_rfl) ?_ ?_; rotate_left; · (intro wC hC; obtain c1 := hC; go_simp <;> with_reducible rfl)
  refine wpC_take 3 (v := ?_) rfl (by kernel_rfl) (fun _ _ _ h => h) (by kernel_rfl) ?_ ?_; rotate_left; · (intro wC hC; obtain c1 := hC; go_simp <;> with_reducible rfl)
  refine wpC_take 5 (v := ?_) rfl (by kernel_rfl) (fun _ _ _ h => h) (by kernel_rfl) ?_ ?_; rotate_left; · (intro wC hC; obtain c1 := hC; go_simp <;> with_reducible rfl)
  refine wpC_step 4 rfl (by kernel_rfl) (by kernel_rfl) (cls _ (cdrew bq)) (fun K hK => ?_)
  go_simp
  go_wp2_with ((go_at_call 70; go_must (refine (k5 _ _ _ (HV3.out.below (cdrew bq)) (HW2.out.below (cdrew bq))).mono ?_); rintro e w4 ⟨v4, rfl, hr4, hb4⟩))
  try (refine hK _ _ ?_; clear hK K)
  have b4 : Below w3.heap.size w3 w4 := cthen (cdrew bq) hb4
  refine wpC_step 6 rfl (by kernel_rfl) (by kernel_rfl) (cls _ b4) (fun K hK => ?_)
  go_simp
  go_wp2_with ((go_at_call 67; go_must (refine (k6 _ _ hr4).mono ?_); rintro e w5 ⟨rfl, hb5⟩))
  try (refine hK _ _ ?_; clear hK K)
  have b5 : Below w3.heap.size w3 w5 := cthen b4 hb5
  have RR := (b5.block (w.heap.size + 1 + 1) z3_2).trans HR3_2.out
  have r0 := rowcell RR 0
  have r1 := rowcell RR 1
  have r2 := rowcell RR 2
  have r3 := rowcell RR 3
  have r4 := rowcell RR 4
  have r5 := rowcell RR 5
  have rf := rowfree RR
  simp only [List.getElem?_toArray, List.getElem?_cons_zero, List.getElem?_cons_succ] at r0 r1 r2 r3 r4 r5
  refine wpC_step 7 rfl (by kernel_rfl) (by kernel_rfl) (cls _ b5) (fun K hK => ?_)
  go_simp
  try (refine hK _ _ ?_; clear hK K)
  refine wpC_done (by kernel_rfl) (by simp [go_sem, cls _ b5]) ?_
  go_wp2
  refine bodyPost_ret (v := .agg #[.int .i64 K, .bool B, .int .i64 S, .int .u64 H, .int .u64 L, .bool R]) (by simp [results, Tryz.results44, go_sem, r0, r1, r2, r3, r4, r5]) rfl (hQ.out _ _ ⟨by simp, ?_⟩)
  exact cset6 (cthen (cthen (cmore (cthen (cthen (cmore (cmore (cmore (Below.refl _ _) _) _) _) HB1.out) HB2.out) _) HB3.out) b5) (by omega)
theorem sum9_down (neg : Bool) (s : Int) (hi lo : Nat) (neg' : Bool) (s' : Int) (hi' lo' : Nat) (h : WordsX hi lo) (h' : WordsX hi' lo') (hs : -1099511627776 ≤ s ∧ s ≤ 1099511627776) (hs' : -1099511627776 ≤ s' ∧ s' ≤ 1099511627776) (hle : s' ≤ s) (w : World) :
    Calls Tryz.prog 44 #[exV 1 neg s hi lo false, exV 1 neg' s' hi' lo' false] w fun e w' => e = .returned (sumD neg s (manX hi lo) neg' s' (manX hi' lo')) ∧ Below w.heap.size w w' := by
  by_cases hf : 400 < s - s'
  · rw [sumD_branch neg s (manX hi lo) neg' s' (manX hi' lo') 400 1 (.inr ⟨hf, rfl, rfl⟩)]
    obtain ⟨d, hd⟩ : ∃ d : Nat, d = 400 := ⟨_, rfl⟩
    rw [← hd]
    by_cases hn : neg = neg'
    · rw [if_pos hn]; exact sum9_far_add neg s hi lo neg' s' hi' lo' h h' hs hs' hle hf hn d hd w
    · have hc : 1 ≤ manX hi lo * 2 ^ d := Nat.mul_pos (by have := h.mant.1; have := Nat.pow_pos (n := 127) (show 0 < 2 by decide); omega) (Nat.pow_pos (by decide))
      rw [if_neg hn, if_pos hc]
      exact sum9_far_sub neg s hi lo neg' s' hi' lo' h h' hs hs' hle hf hn d hd hc w
  · obtain ⟨d, hd⟩ : ∃ d : Nat, (d : Int) = s - s' := ⟨(s - s').toNat, by omega⟩
    rw [sumD_branch neg s (manX hi lo) neg' s' (manX hi' lo') d (manX hi' lo') (.inl ⟨hf, hd, rfl⟩)]
    by_cases hn : neg = neg'
    · rw [if_pos hn]; exact sum9_near_add neg s hi lo neg' s' hi' lo' h h' hs hs' hle hf hn d hd w
    · rw [if_neg hn]
      by_cases hc : manX hi' lo' ≤ manX hi lo * 2 ^ d
      · rw [if_pos hc]; exact sum9_near_sub neg s hi lo neg' s' hi' lo' h h' hs hs' hle hf hn d hd hc w
      · rw [if_neg hc]; exact sum9_near_bus neg s hi lo neg' s' hi' lo' h h' hs hs' hle hf hn d hd hc w
theorem sumD_form (neg : Bool) (s : Int) (M : Nat) (neg' : Bool) (s' : Int) (M' : Nat) : ∃ k b s2 h l r, sumD neg s M neg' s' M' = exV k b s2 h l r := by
  unfold sumD
  simp only
  generalize (if 400 < s - s' then farD else (s - s').toNat) = d
  generalize (if 400 < s - s' then 1 else M') = b
  by_cases hn : neg = neg'
  · rw [if_pos hn]; exact exactV_form _ _ _ _
  · rw [if_neg hn]
    by_cases hc : b ≤ M * 2 ^ d
    · rw [if_pos hc]; exact exactV_form _ _ _ _
    · rw [if_neg hc]; exact exactV_form _ _ _ _
theorem sum9_up (neg : Bool) (s : Int) (hi lo : Nat) (neg' : Bool) (s' : Int) (hi' lo' : Nat) (h : WordsX hi lo) (h' : WordsX hi' lo') (hs : -1099511627776 ≤ s ∧ s ≤ 1099511627776) (hs' : -1099511627776 ≤ s' ∧ s' ≤ 1099511627776) (hle : s < s') (w : World) :
    Calls Tryz.prog 44 #[exV 1 neg s hi lo false, exV 1 neg' s' hi' lo' false] w fun e w' => e = .returned (sumD neg' s' (manX hi' lo') neg s (manX hi lo)) ∧ Below w.heap.size w w' := by
  have k1 := sum9_down neg' s' hi' lo' neg s hi lo h' h hs' hs (by omega)
  obtain ⟨K, B, S, H, L, R, hform⟩ := sumD_form neg' s' (manX hi' lo') neg s (manX hi lo)
  rw [hform] at k1 ⊢
  have g1 : decide (s < s') = true := decide_eq_true hle
  clear hform h h' hs hs' hle
  unfold exV at *
  refine cps fun Q hQ => ?_
  go_enter Tryz.func44, Tryz.ntmps44
  go_wp2_with (go_at_call 44; go_must (refine (k1 _).mono ?_); rintro e w1 ⟨rfl, hb1⟩; have RR := (hb1.block (w.heap.size + 1 + 1) (by simp)).trans (rownew' _ _ _ _ (by simp)); have r0 := rowcell RR 0; have r1 := rowcell RR 1; have r2 := rowcell RR 2; have r3 := rowcell RR 3; have r4 := rowcell RR 4; have r5 := rowcell RR 5; have rf := rowfree RR; simp only [List.getElem?_toArray, List.getElem?_cons_zero, List.getElem?_cons_succ] at r0 r1 r2 r3 r4 r5; have HB1 : Hid (Below _ _ _) := hb1; clear hb1 RR)
  refine bodyPost_ret (v := .agg #[.int .i64 K, .bool B, .int .i64 S, .int .u64 H, .int .u64 L, .bool R]) (by simp [results, Tryz.results44, go_sem, r0, r1, r2, r3, r4, r5]) rfl (hQ.out _ _ ⟨by simp, ?_⟩)
  exact cset6 (cthen (cmore (cmore (cmore (Below.refl _ _) _) _) _) HB1.out) (by omega)
theorem sum9_nar1 (neg : Bool) (s : Int) (hi lo : Nat) (rest : Bool) (k' : Int) (neg' : Bool) (s' : Int) (hi' lo' : Nat) (rest' : Bool) (w : World) :
    Calls Tryz.prog 44 #[exV 2 neg s hi lo rest, exV k' neg' s' hi' lo' rest'] w fun e w' => e = .returned (exV 2 false 0 0 0 false) ∧ Below w.heap.size w w' := by
  unfold exV at *
  refine cps fun Q hQ => ?_
  go_enter Tryz.func44, Tryz.ntmps44
  go_wp2
  refine bodyPost_ret (v := .agg #[.int .i64 2, .bool false, .int .i64 0, .int .u64 0, .int .u64 0, .bool false]) (by simp [results, Tryz.results44, go_sem]) rfl (hQ.out _ _ ⟨by simp, ?_⟩)
  exact cmore (cmore (cmore (Below.refl _ _) _) _) _
theorem sum9_nar2 (k : Int) (neg : Bool) (s : Int) (hi lo : Nat) (rest : Bool) (neg' : Bool) (s' : Int) (hi' lo' : Nat) (rest' : Bool) (hk : k ≠ 2) (w : World) :
    Calls Tryz.prog 44 #[exV k neg s hi lo rest, exV 2 neg' s' hi' lo' rest'] w fun e w' => e = .returned (exV 2 false 0 0 0 false) ∧ Below w.heap.size w w' := by
  have g : (k == 2) = false := beq_eq_false_iff_ne.2 hk
  clear hk
  unfold exV at *
  refine cps fun Q hQ => ?_
  go_enter Tryz.func44, Tryz.ntmps44
  go_wp2
  refine bodyPost_ret (v := .agg #[.int .i64 2, .bool false, .int .i64 0, .int .u64 0, .int .u64 0, .bool false]) (by simp [results, Tryz.results44, go_sem]) rfl (hQ.out _ _ ⟨by simp, ?_⟩)
  exact cmore (cmore (cmore (Below.refl _ _) _) _) _
theorem sum9_zero1 (neg : Bool) (s : Int) (hi lo : Nat) (rest : Bool) (k' : Int) (neg' : Bool) (s' : Int) (hi' lo' : Nat) (rest' : Bool) (hk : k' ≠ 2) (w : World) :
    Calls Tryz.prog 44 #[exV 0 neg s hi lo rest, exV k' neg' s' hi' lo' rest'] w fun e w' => e = .returned (exV k' neg' s' hi' lo' rest') ∧ Below w.heap.size w w' := by
  have g : (k' == 2) = false := beq_eq_false_iff_ne.2 hk
  clear hk
  unfold exV at *
  refine cps fun Q hQ => ?_
  go_enter Tryz.func44, Tryz.ntmps44
  go_wp2
  refine bodyPost_ret (v := .agg #[.int .i64 k', .bool neg', .int .i64 s', .int .u64 hi', .int .u64 lo', .bool rest']) (by simp [results, Tryz.results44, go_sem]) rfl (hQ.out _ _ ⟨by simp, ?_⟩)
  exact cmore (cmore (cmore (Below.refl _ _) _) _) _
theorem sum9_zero2 (k : Int) (neg : Bool) (s : Int) (hi lo : Nat) (rest : Bool) (neg' : Bool) (s' : Int) (hi' lo' : Nat) (rest' : Bool) (hk : k ≠ 2) (h0 : k ≠ 0) (w : World) :
    Calls Tryz.prog 44 #[exV k neg s hi lo rest, exV 0 neg' s' hi' lo' rest'] w fun e w' => e = .returned (exV k neg s hi lo rest) ∧ Below w.heap.size w w' := by
  have g : (k == 2) = false := beq_eq_false_iff_ne.2 hk
  have g0 : (k == 0) = false := beq_eq_false_iff_ne.2 h0
  clear hk h0
  unfold exV at *
  refine cps fun Q hQ => ?_
  go_enter Tryz.func44, Tryz.ntmps44
  go_wp2
  refine bodyPost_ret (v := .agg #[.int .i64 k, .bool neg, .int .i64 s, .int .u64 hi, .int .u64 lo, .bool rest]) (by simp [results, Tryz.results44, go_sem]) rfl (hQ.out _ _ ⟨by simp, ?_⟩)
  exact cmore (cmore (cmore (Below.refl _ _) _) _) _
theorem sound_words {neg : Bool} {s : Int} {hi lo : Nat} {r : Bool} (hh : hi < 2 ^ 64) (hl : lo < 2 ^ 64) (hs : soundX 1 neg s hi lo r = true) : WordsX hi lo ∧ (-1099511627776 ≤ s ∧ s ≤ 1099511627776) := by
  unfold soundX at hs
  rw [if_neg (by decide)] at hs
  obtain ⟨_, a, b, c⟩ := of_decide_eq_true hs
  exact ⟨⟨a, hh, hl⟩, b, c⟩
/-- of any two that are sound, without Rest -/
theorem sum9_any (k : Int) (neg : Bool) (s : Int) (hi lo : Nat) (k' : Int) (neg' : Bool) (s' : Int) (hi' lo' : Nat) (hh : hi < 2 ^ 64) (hl : lo < 2 ^ 64) (hh' : hi' < 2 ^ 64) (hl' : lo' < 2 ^ 64) (hs : soundX k neg s hi lo false = true) (hs' : soundX k' neg' s' hi' lo' false = true) (w : World) :
    Calls Tryz.prog 44 #[exV k neg s hi lo false, exV k' neg' s' hi' lo' false] w fun e w' => e = .returned (sum9 k neg s hi lo k' neg' s' hi' lo') ∧ Below w.heap.size w w' := by
  unfold sum9
  by_cases h2 : k = 2
  · subst h2
    rw [if_pos (.inl rfl)]
    exact sum9_nar1 neg s hi lo false k' neg' s' hi' lo' false w
  · by_cases h2' : k' = 2
    · subst h2'
      rw [if_pos (.inr rfl)]
      exact sum9_nar2 k neg s hi lo false neg' s' hi' lo' false h2 w
    · rw [if_neg (by rintro (c | c); exact h2 c; exact h2' c)]
      by_cases h0 : k = 0
      · subst h0
        rw [if_pos rfl]
        exact sum9_zero1 neg s hi lo false k' neg' s' hi' lo' false h2' w
      · rw [if_neg h0]
        by_cases h0' : k' = 0
        · subst h0'
          rw [if_pos rfl]
          exact sum9_zero2 k neg s hi lo false neg' s' hi' lo' false h2 h0 w
        · rw [if_neg h0']
          have hk : k = 1 := by rcases soundX_cases hs with ⟨c, _⟩ | ⟨c, _⟩ | c; exact absurd c h0; exact absurd c h2; exact c
          have hk' : k' = 1 := by rcases soundX_cases hs' with ⟨c, _⟩ | ⟨c, _⟩ | c; exact absurd c h0'; exact absurd c h2'; exact c
          subst hk hk'
          obtain ⟨a, b⟩ := sound_words hh hl hs
          obtain ⟨a', b'⟩ := sound_words hh' hl' hs'
          unfold sumR
          by_cases c : s < s'
          · rw [if_pos c]; exact sum9_up neg s hi lo neg' s' hi' lo' a a' b b' c w
          · rw [if_neg c]; exact sum9_down neg s hi lo neg' s' hi' lo' a a' b b' (by omega) w
end Go.Proofs.YtmkdnhdbgoehgaaGreat

namespace Go.Proofs.YtmkdnhdbgoehgaaGreat
open Go.ChangeShapes Go.WideShapes Go.ChangeAt Go.RowKit
set_option linter.unusedVariables false
set_option linter.unusedSimpArgs false
set_option maxRecDepth 100000

theorem sumR_form (neg : Bool) (s : Int) (M : Nat) (neg' : Bool) (s' : Int) (M' : Nat) : ∃ k b s2 h l r, sumR neg s M neg' s' M' = exV k b s2 h l r := by
  unfold sumR
  by_cases c : s < s'
  · rw [if_pos c]; exact sumD_form _ _ _ _ _ _
  · rw [if_neg c]; exact sumD_form _ _ _ _ _ _
theorem sum9_form (k : Int) (neg : Bool) (s : Int) (hi lo : Nat) (k' : Int) (neg' : Bool) (s' : Int) (hi' lo' : Nat) : ∃ k2 b s2 h l r, sum9 k neg s hi lo k' neg' s' hi' lo' = exV k2 b s2 h l r := by
  unfold sum9
  by_cases h : k = 2 ∨ k' = 2
  · rw [if_pos h]; exact ⟨_, _, _, _, _, _, rfl⟩
  · rw [if_neg h]
    by_cases h0 : k = 0
    · rw [if_pos h0]; exact ⟨_, _, _, _, _, _, rfl⟩
    · rw [if_neg h0]
      by_cases h1 : k' = 0
      · rw [if_pos h1]; exact ⟨_, _, _, _, _, _, rfl⟩
      · rw [if_neg h1]; exact sumR_form _ _ _ _ _ _
theorem soundN_X {k : Int} {neg : Bool} {s : Int} {f : Nat} (h : soundN k neg s f = true) : soundX k neg s f 0 false = true := by
  unfold soundN at h
  unfold soundX
  by_cases hk : k = 0 ∨ k = 2
  · rw [if_pos hk] at h ⊢
    have := of_decide_eq_true h
    exact decide_eq_true ⟨this.1, this.2.1, this.2.2, rfl, rfl⟩
  · rw [if_neg hk] at h ⊢
    obtain ⟨a, b, c, d⟩ := of_decide_eq_true h
    exact decide_eq_true ⟨a, b, by omega, by omega⟩
theorem exact9_bb (k : Int) (neg : Bool) (s : Int) (f : Nat) (k' : Int) (neg' : Bool) (s' : Int) (g : Nat) (h1 : soundN k neg s f = false) (h2 : soundN k' neg' s' g = false) (w : World) :
    Calls Tryz.prog 24 #[numV k neg s f, numV k' neg' s' g] w fun e w' => e = .returned (.tuple #[exV 0 false 0 0 0 false, .int .i64 1]) ∧ Below w.heap.size w w' := by
  have k1 := of7_bad k neg s f h1
  have k2 := of7_bad k' neg' s' g h2
  clear h1 h2
  unfold numV exV at *
  rw [show ((0 : Nat) : Int) = 0 from rfl] at *
  refine cps fun Q hQ => ?_
  go_enter Tryz.func24, Tryz.ntmps24
  go_wp2_with (first
    | (go_at_call_of 43 f; go_must (refine (k1 _).mono ?_); rintro e w1 ⟨rfl, hb1⟩; have R1_0 := (hb1.block (w.heap.size) (by first | (simp; done) | (simp; omega) | omega)).trans ((Below.heap_alloc _ _ _ (by first | (simp; done) | (simp; omega) | omega)).trans ((Below.heap_alloc _ _ _ (by first | (simp; done) | (simp; omega) | omega)).trans (rownew' _ _ _ _ (by simp)))); have z1_0 : w.heap.size < w1.heap.size := Nat.lt_of_lt_of_le (by first | (simp; done) | (simp; omega) | omega) hb1.size; have HR1_0 : Hid _ := R1_0; clear R1_0; have R1_1 := (hb1.block (w.heap.size + 1) (by first | (simp; done) | (simp; omega) | omega)).trans ((Below.heap_alloc _ _ _ (by first | (simp; done) | (simp; omega) | omega)).trans (rownew' _ _ _ _ (by simp))); have z1_1 : w.heap.size + 1 < w1.heap.size := Nat.lt_of_lt_of_le (by first | (simp; done) | (simp; omega) | omega) hb1.size; have c1_1_0 := rowcell R1_1 0; have c1_1_1 := rowcell R1_1 1; have c1_1_2 := rowcell R1_1 2; have c1_1_3 := rowcell R1_1 3; simp only [List.getElem?_toArray, List.getElem?_cons_zero, List.getElem?_cons_succ] at c1_1_0 c1_1_1 c1_1_2 c1_1_3; have HR1_1 : Hid _ := R1_1; clear R1_1; have R1_2 := (hb1.block (w.heap.size + 1 + 1) (by first | (simp; done) | (simp; omega) | omega)).trans (rownew' _ _ _ _ (by simp)); have z1_2 : w.heap.size + 1 + 1 < w1.heap.size := Nat.lt_of_lt_of_le (by first | (simp; done) | (simp; omega) | omega) hb1.size; have HR1_2 : Hid _ := R1_2; clear R1_2; have HB1 : Hid (Below _ _ _) := hb1; clear hb1)
    | (go_at_call_of 43 g; go_must (refine (k2 _).mono ?_); rintro e w2 ⟨rfl, hb2⟩; have R2_0 := (hb2.block (w.heap.size) (by first | (simp; done) | (simp; omega) | omega)).trans ((Below.heap_alloc _ _ _ (by first | (simp; done) | (simp; omega) | omega)).trans HR1_0.out); have z2_0 : w.heap.size < w2.heap.size := Nat.lt_of_lt_of_le (by first | (simp; done) | (simp; omega) | omega) hb2.size; have HR2_0 : Hid _ := R2_0; clear R2_0; have R2_1 := (hb2.block (w.heap.size + 1) (by first | (simp; done) | (simp; omega) | omega)).trans ((Below.heap_alloc _ _ _ (by first | (simp; done) | (simp; omega) | omega)).trans HR1_1.out); have z2_1 : w.heap.size + 1 < w2.heap.size := Nat.lt_of_lt_of_le (by first | (simp; done) | (simp; omega) | omega) hb2.size; have HR2_1 : Hid _ := R2_1; clear R2_1; have R2_2 := (hb2.block (w.heap.size + 1 + 1) (by first | (simp; done) | (simp; omega) | omega)).trans ((Below.heap_alloc _ _ _ (by first | (simp; done) | (simp; omega) | omega)).trans HR1_2.out); have z2_2 : w.heap.size + 1 + 1 < w2.heap.size := Nat.lt_of_lt_of_le (by first | (simp; done) | (simp; omega) | omega) hb2.size; have c2_2_0 := rowcell R2_2 0; have c2_2_1 := rowcell R2_2 1; have c2_2_2 := rowcell R2_2 2; have c2_2_3 := rowcell R2_2 3; have c2_2_4 := rowcell R2_2 4; have c2_2_5 := rowcell R2_2 5; simp only [List.getElem?_toArray, List.getElem?_cons_zero, List.getElem?_cons_succ] at c2_2_0 c2_2_1 c2_2_2 c2_2_3 c2_2_4 c2_2_5; have rf := rowfree R2_2; have HR2_2 : Hid _ := R2_2; clear R2_2; have R2_3 := (hb2.block (w1.heap.size) (by first | (simp; done) | (simp; omega) | omega)).trans (rownew' _ _ _ _ (by simp)); have z2_3 : w1.heap.size < w2.heap.size := Nat.lt_of_lt_of_le (by first | (simp; done) | (simp; omega) | omega) hb2.size; have HR2_3 : Hid _ := R2_3; clear R2_3; have HB2 : Hid (Below _ _ _) := hb2; clear hb2))
  refine bodyPost_ret (v := .tuple #[.agg #[.int .i64 0, .bool false, .int .i64 0, .int .u64 0, .int .u64 0, .bool false], .int .i64 1]) (by simp [results, Tryz.results24, go_sem, rf, z2_2, c2_2_0, c2_2_1, c2_2_2, c2_2_3, c2_2_4, c2_2_5]) rfl (hQ.out _ _ ⟨by simp, ?_⟩)
  first | exact cmore (cset6 (cthen (cmore (cthen (cmore (cmore (cmore (Below.refl _ _) _) _) _) HB1.out) _) HB2.out) (by omega)) _ | exact cset6 (cmore (cthen (cmore (cthen (cmore (cmore (cmore (Below.refl _ _) _) _) _) HB1.out) _) HB2.out) _) (by omega)
theorem exact9_bo (k : Int) (neg : Bool) (s : Int) (f : Nat) (k' : Int) (neg' : Bool) (s' : Int) (g : Nat) (h1 : soundN k neg s f = false) (h2 : soundN k' neg' s' g = true) (w : World) :
    Calls Tryz.prog 24 #[numV k neg s f, numV k' neg' s' g] w fun e w' => e = .returned (.tuple #[exV 0 false 0 0 0 false, .int .i64 1]) ∧ Below w.heap.size w w' := by
  have k1 := of7_bad k neg s f h1
  have k2 := of7_ok k' neg' s' g h2
  clear h1 h2
  unfold numV exV at *
  rw [show ((0 : Nat) : Int) = 0 from rfl] at *
  refine cps fun Q hQ => ?_
  go_enter Tryz.func24, Tryz.ntmps24
  go_wp2_with (first
    | (go_at_call_of 43 f; go_must (refine (k1 _).mono ?_); rintro e w1 ⟨rfl, hb1⟩; have R1_0 := (hb1.block (w.heap.size) (by first | (simp; done) | (simp; omega) | omega)).trans ((Below.heap_alloc _ _ _ (by first | (simp; done) | (simp; omega) | omega)).trans ((Below.heap_alloc _ _ _ (by first | (simp; done) | (simp; omega) | omega)).trans (rownew' _ _ _ _ (by simp)))); have z1_0 : w.heap.size < w1.heap.size := Nat.lt_of_lt_of_le (by first | (simp; done) | (simp; omega) | omega) hb1.size; have HR1_0 : Hid _ := R1_0; clear R1_0; have R1_1 := (hb1.block (w.heap.size + 1) (by first | (simp; done) | (simp; omega) | omega)).trans ((Below.heap_alloc _ _ _ (by first | (simp; done) | (simp; omega) | omega)).trans (rownew' _ _ _ _ (by simp))); have z1_1 : w.heap.size + 1 < w1.heap.size := Nat.lt_of_lt_of_le (by first | (simp; done) | (simp; omega) | omega) hb1.size; have c1_1_0 := rowcell R1_1 0; have c1_1_1 := rowcell R1_1 1; have c1_1_2 := rowcell R1_1 2; have c1_1_3 := rowcell R1_1 3; simp only [List.getElem?_toArray, List.getElem?_cons_zero, List.getElem?_cons_succ] at c1_1_0 c1_1_1 c1_1_2 c1_1_3; have HR1_1 : Hid _ := R1_1; clear R1_1; have R1_2 := (hb1.block (w.heap.size + 1 + 1) (by first | (simp; done) | (simp; omega) | omega)).trans (rownew' _ _ _ _ (by simp)); have z1_2 : w.heap.size + 1 + 1 < w1.heap.size := Nat.lt_of_lt_of_le (by first | (simp; done) | (simp; omega) | omega) hb1.size; have HR1_2 : Hid _ := R1_2; clear R1_2; have HB1 : Hid (Below _ _ _) := hb1; clear hb1)
    | (go_at_call_of 43 g; go_must (refine (k2 _).mono ?_); rintro e w2 ⟨rfl, hb2⟩; have R2_0 := (hb2.block (w.heap.size) (by first | (simp; done) | (simp; omega) | omega)).trans ((Below.heap_alloc _ _ _ (by first | (simp; done) | (simp; omega) | omega)).trans HR1_0.out); have z2_0 : w.heap.size < w2.heap.size := Nat.lt_of_lt_of_le (by first | (simp; done) | (simp; omega) | omega) hb2.size; have HR2_0 : Hid _ := R2_0; clear R2_0; have R2_1 := (hb2.block (w.heap.size + 1) (by first | (simp; done) | (simp; omega) | omega)).trans ((Below.heap_alloc _ _ _ (by first | (simp; done) | (simp; omega) | omega)).trans HR1_1.out); have z2_1 : w.heap.size + 1 < w2.heap.size := Nat.lt_of_lt_of_le (by first | (simp; done) | (simp; omega) | omega) hb2.size; have HR2_1 : Hid _ := R2_1; clear R2_1; have R2_2 := (hb2.block (w.heap.size + 1 + 1) (by first | (simp; done) | (simp; omega) | omega)).trans ((Below.heap_alloc _ _ _ (by first | (simp; done) | (simp; omega) | omega)).trans HR1_2.out); have z2_2 : w.heap.size + 1 + 1 < w2.heap.size := Nat.lt_of_lt_of_le (by first | (simp; done) | (simp; omega) | omega) hb2.size; have c2_2_0 := rowcell R2_2 0; have c2_2_1 := rowcell R2_2 1; have c2_2_2 := rowcell R2_2 2; have c2_2_3 := rowcell R2_2 3; have c2_2_4 := rowcell R2_2 4; have c2_2_5 := rowcell R2_2 5; simp only [List.getElem?_toArray, List.getElem?_cons_zero, List.getElem?_cons_succ] at c2_2_0 c2_2_1 c2_2_2 c2_2_3 c2_2_4 c2_2_5; have rf := rowfree R2_2; have HR2_2 : Hid _ := R2_2; clear R2_2; have R2_3 := (hb2.block (w1.heap.size) (by first | (simp; done) | (simp; omega) | omega)).trans (rownew' _ _ _ _ (by simp)); have z2_3 : w1.heap.size < w2.heap.size := Nat.lt_of_lt_of_le (by first | (simp; done) | (simp; omega) | omega) hb2.size; have HR2_3 : Hid _ := R2_3; clear R2_3; have HB2 : Hid (Below _ _ _) := hb2; clear hb2))
  refine bodyPost_ret (v := .tuple #[.agg #[.int .i64 0, .bool false, .int .i64 0, .int .u64 0, .int .u64 0, .bool false], .int .i64 1]) (by simp [results, Tryz.results24, go_sem, rf, z2_2, c2_2_0, c2_2_1, c2_2_2, c2_2_3, c2_2_4, c2_2_5]) rfl (hQ.out _ _ ⟨by simp, ?_⟩)
  first | exact cmore (cset6 (cthen (cmore (cthen (cmore (cmore (cmore (Below.refl _ _) _) _) _) HB1.out) _) HB2.out) (by omega)) _ | exact cset6 (cmore (cthen (cmore (cthen (cmore (cmore (cmore (Below.refl _ _) _) _) _) HB1.out) _) HB2.out) _) (by omega)
theorem exact9_ob (k : Int) (neg : Bool) (s : Int) (f : Nat) (k' : Int) (neg' : Bool) (s' : Int) (g : Nat) (h1 : soundN k neg s f = true) (h2 : soundN k' neg' s' g = false) (w : World) :
    Calls Tryz.prog 24 #[numV k neg s f, numV k' neg' s' g] w fun e w' => e = .returned (.tuple #[exV 0 false 0 0 0 false, .int .i64 1]) ∧ Below w.heap.size w w' := by
  have k1 := of7_ok k neg s f h1
  have k2 := of7_bad k' neg' s' g h2
  clear h1 h2
  unfold numV exV at *
  rw [show ((0 : Nat) : Int) = 0 from rfl] at *
  refine cps fun Q hQ => ?_
  go_enter Tryz.func24, Tryz.ntmps24
  go_wp2_with (first
    | (go_at_call_of 43 f; go_must (refine (k1 _).mono ?_); rintro e w1 ⟨rfl, hb1⟩; have R1_0 := (hb1.block (w.heap.size) (by first | (simp; done) | (simp; omega) | omega)).trans ((Below.heap_alloc _ _ _ (by first | (simp; done) | (simp; omega) | omega)).trans ((Below.heap_alloc _ _ _ (by first | (simp; done) | (simp; omega) | omega)).trans (rownew' _ _ _ _ (by simp)))); have z1_0 : w.heap.size < w1.heap.size := Nat.lt_of_lt_of_le (by first | (simp; done) | (simp; omega) | omega) hb1.size; have HR1_0 : Hid _ := R1_0; clear R1_0; have R1_1 := (hb1.block (w.heap.size + 1) (by first | (simp; done) | (simp; omega) | omega)).trans ((Below.heap_alloc _ _ _ (by first | (simp; done) | (simp; omega) | omega)).trans (rownew' _ _ _ _ (by simp))); have z1_1 : w.heap.size + 1 < w1.heap.size := Nat.lt_of_lt_of_le (by first | (simp; done) | (simp; omega) | omega) hb1.size; have c1_1_0 := rowcell R1_1 0; have c1_1_1 := rowcell R1_1 1; have c1_1_2 := rowcell R1_1 2; have c1_1_3 := rowcell R1_1 3; simp only [List.getElem?_toArray, List.getElem?_cons_zero, List.getElem?_cons_succ] at c1_1_0 c1_1_1 c1_1_2 c1_1_3; have HR1_1 : Hid _ := R1_1; clear R1_1; have R1_2 := (hb1.block (w.heap.size + 1 + 1) (by first | (simp; done) | (simp; omega) | omega)).trans (rownew' _ _ _ _ (by simp)); have z1_2 : w.heap.size + 1 + 1 < w1.heap.size := Nat.lt_of_lt_of_le (by first | (simp; done) | (simp; omega) | omega) hb1.size; have HR1_2 : Hid _ := R1_2; clear R1_2; have HB1 : Hid (Below _ _ _) := hb1; clear hb1)
    | (go_at_call_of 43 g; go_must (refine (k2 _).mono ?_); rintro e w2 ⟨rfl, hb2⟩; have R2_0 := (hb2.block (w.heap.size) (by first | (simp; done) | (simp; omega) | omega)).trans ((Below.heap_alloc _ _ _ (by first | (simp; done) | (simp; omega) | omega)).trans HR1_0.out); have z2_0 : w.heap.size < w2.heap.size := Nat.lt_of_lt_of_le (by first | (simp; done) | (simp; omega) | omega) hb2.size; have HR2_0 : Hid _ := R2_0; clear R2_0; have R2_1 := (hb2.block (w.heap.size + 1) (by first | (simp; done) | (simp; omega) | omega)).trans ((Below.heap_alloc _ _ _ (by first | (simp; done) | (simp; omega) | omega)).trans HR1_1.out); have z2_1 : w.heap.size + 1 < w2.heap.size := Nat.lt_of_lt_of_le (by first | (simp; done) | (simp; omega) | omega) hb2.size; have HR2_1 : Hid _ := R2_1; clear R2_1; have R2_2 := (hb2.block (w.heap.size + 1 + 1) (by first | (simp; done) | (simp; omega) | omega)).trans ((Below.heap_alloc _ _ _ (by first | (simp; done) | (simp; omega) | omega)).trans HR1_2.out); have z2_2 : w.heap.size + 1 + 1 < w2.heap.size := Nat.lt_of_lt_of_le (by first | (simp; done) | (simp; omega) | omega) hb2.size; have c2_2_0 := rowcell R2_2 0; have c2_2_1 := rowcell R2_2 1; have c2_2_2 := rowcell R2_2 2; have c2_2_3 := rowcell R2_2 3; have c2_2_4 := rowcell R2_2 4; have c2_2_5 := rowcell R2_2 5; simp only [List.getElem?_toArray, List.getElem?_cons_zero, List.getElem?_cons_succ] at c2_2_0 c2_2_1 c2_2_2 c2_2_3 c2_2_4 c2_2_5; have rf := rowfree R2_2; have HR2_2 : Hid _ := R2_2; clear R2_2; have R2_3 := (hb2.block (w1.heap.size) (by first | (simp; done) | (simp; omega) | omega)).trans (rownew' _ _ _ _ (by simp)); have z2_3 : w1.heap.size < w2.heap.size := Nat.lt_of_lt_of_le (by first | (simp; done) | (simp; omega) | omega) hb2.size; have HR2_3 : Hid _ := R2_3; clear R2_3; have HB2 : Hid (Below _ _ _) := hb2; clear hb2))
  refine bodyPost_ret (v := .tuple #[.agg #[.int .i64 0, .bool false, .int .i64 0, .int .u64 0, .int .u64 0, .bool false], .int .i64 1]) (by simp [results, Tryz.results24, go_sem, rf, z2_2, c2_2_0, c2_2_1, c2_2_2, c2_2_3, c2_2_4, c2_2_5]) rfl (hQ.out _ _ ⟨by simp, ?_⟩)
  first | exact cmore (cset6 (cthen (cmore (cthen (cmore (cmore (cmore (Below.refl _ _) _) _) _) HB1.out) _) HB2.out) (by omega)) _ | exact cset6 (cmore (cthen (cmore (cthen (cmore (cmore (cmore (Below.refl _ _) _) _) _) HB1.out) _) HB2.out) _) (by omega)
theorem exact9_bad (k : Int) (neg : Bool) (s : Int) (f : Nat) (k' : Int) (neg' : Bool) (s' : Int) (g : Nat) (h : (soundN k neg s f && soundN k' neg' s' g) = false) (w : World) :
    Calls Tryz.prog 24 #[numV k neg s f, numV k' neg' s' g] w fun e w' => e = .returned (.tuple #[exV 0 false 0 0 0 false, .int .i64 1]) ∧ Below w.heap.size w w' := by
  cases h1 : soundN k neg s f
  · cases h2 : soundN k' neg' s' g
    · exact exact9_bb k neg s f k' neg' s' g h1 h2 w
    · exact exact9_bo k neg s f k' neg' s' g h1 h2 w
  · cases h2 : soundN k' neg' s' g
    · exact exact9_ob k neg s f k' neg' s' g h1 h2 w
    · rw [h1, h2] at h; cases h
theorem exact9_ok (k : Int) (neg : Bool) (s : Int) (f : Nat) (k' : Int) (neg' : Bool) (s' : Int) (g : Nat) (hf : f < 2 ^ 64) (hg : g < 2 ^ 64) (h1 : soundN k neg s f = true) (h2 : soundN k' neg' s' g = true) (w : World) :
    Calls Tryz.prog 24 #[numV k neg s f, numV k' neg' s' g] w fun e w' => e = .returned (.tuple #[sum9 k neg s f 0 k' neg' s' g 0, .int .i64 0]) ∧ Below w.heap.size w w' := by
  have k1 := of7_ok k neg s f h1
  have k2 := of7_ok k' neg' s' g h2
  have k3 := sum9_any k neg s f 0 k' neg' s' g 0 hf (by decide) hg (by decide) (soundN_X h1) (soundN_X h2)
  obtain ⟨K, B, S, H, L, R, hform⟩ := sum9_form k neg s f 0 k' neg' s' g 0
  rw [hform] at k3 ⊢
  clear h1 h2 hform hf hg
  unfold numV exV at *
  rw [show ((0 : Nat) : Int) = 0 from rfl] at *
  refine cps fun Q hQ => ?_
  go_enter Tryz.func24, Tryz.ntmps24
  go_wp2_with (first
    | (go_at_call_of 43 f; go_must (refine (k1 _).mono ?_); rintro e w1 ⟨rfl, hb1⟩; have R1_0 := (hb1.block (w.heap.size) (by first | (simp; done) | (simp; omega) | omega)).trans ((Below.heap_alloc _ _ _ (by first | (simp; done) | (simp; omega) | omega)).trans ((Below.heap_alloc _ _ _ (by first | (simp; done) | (simp; omega) | omega)).trans (rownew' _ _ _ _ (by simp)))); have z1_0 : w.heap.size < w1.heap.size := Nat.lt_of_lt_of_le (by first | (simp; done) | (simp; omega) | omega) hb1.size; have HR1_0 : Hid _ := R1_0; clear R1_0; have R1_1 := (hb1.block (w.heap.size + 1) (by first | (simp; done) | (simp; omega) | omega)).trans ((Below.heap_alloc _ _ _ (by first | (simp; done) | (simp; omega) | omega)).trans (rownew' _ _ _ _ (by simp))); have z1_1 : w.heap.size + 1 < w1.heap.size := Nat.lt_of_lt_of_le (by first | (simp; done) | (simp; omega) | omega) hb1.size; have c1_1_0 := rowcell R1_1 0; have c1_1_1 := rowcell R1_1 1; have c1_1_2 := rowcell R1_1 2; have c1_1_3 := rowcell R1_1 3; simp only [List.getElem?_toArray, List.getElem?_cons_zero, List.getElem?_cons_succ] at c1_1_0 c1_1_1 c1_1_2 c1_1_3; have HR1_1 : Hid _ := R1_1; clear R1_1; have R1_2 := (hb1.block (w.heap.size + 1 + 1) (by first | (simp; done) | (simp; omega) | omega)).trans (rownew' _ _ _ _ (by simp)); have z1_2 : w.heap.size + 1 + 1 < w1.heap.size := Nat.lt_of_lt_of_le (by first | (simp; done) | (simp; omega) | omega) hb1.size; have HR1_2 : Hid _ := R1_2; clear R1_2; have HB1 : Hid (Below _ _ _) := hb1; clear hb1)
    | (go_at_call_of 43 g; go_must (refine (k2 _).mono ?_); rintro e w2 ⟨rfl, hb2⟩; have R2_0 := (hb2.block (w.heap.size) (by first | (simp; done) | (simp; omega) | omega)).trans ((Below.heap_alloc _ _ _ (by first | (simp; done) | (simp; omega) | omega)).trans HR1_0.out); have z2_0 : w.heap.size < w2.heap.size := Nat.lt_of_lt_of_le (by first | (simp; done) | (simp; omega) | omega) hb2.size; have HR2_0 : Hid _ := R2_0; clear R2_0; have R2_1 := (hb2.block (w.heap.size + 1) (by first | (simp; done) | (simp; omega) | omega)).trans ((Below.heap_alloc _ _ _ (by first | (simp; done) | (simp; omega) | omega)).trans HR1_1.out); have z2_1 : w.heap.size + 1 < w2.heap.size := Nat.lt_of_lt_of_le (by first | (simp; done) | (simp; omega) | omega) hb2.size; have HR2_1 : Hid _ := R2_1; clear R2_1; have R2_2 := (hb2.block (w.heap.size + 1 + 1) (by first | (simp; done) | (simp; omega) | omega)).trans ((Below.heap_alloc _ _ _ (by first | (simp; done) | (simp; omega) | omega)).trans HR1_2.out); have z2_2 : w.heap.size + 1 + 1 < w2.heap.size := Nat.lt_of_lt_of_le (by first | (simp; done) | (simp; omega) | omega) hb2.size; have HR2_2 : Hid _ := R2_2; clear R2_2; have R2_3 := (hb2.block (w1.heap.size) (by first | (simp; done) | (simp; omega) | omega)).trans (rownew' _ _ _ _ (by simp)); have z2_3 : w1.heap.size < w2.heap.size := Nat.lt_of_lt_of_le (by first | (simp; done) | (simp; omega) | omega) hb2.size; have c2_3_0 := rowcell R2_3 0; have c2_3_1 := rowcell R2_3 1; have c2_3_2 := rowcell R2_3 2; have c2_3_3 := rowcell R2_3 3; have c2_3_4 := rowcell R2_3 4; have c2_3_5 := rowcell R2_3 5; simp only [List.getElem?_toArray, List.getElem?_cons_zero, List.getElem?_cons_succ] at c2_3_0 c2_3_1 c2_3_2 c2_3_3 c2_3_4 c2_3_5; have HR2_3 : Hid _ := R2_3; clear R2_3; have HB2 : Hid (Below _ _ _) := hb2; clear hb2)
    | (go_at_call 44; go_must (refine (k3 _).mono ?_); rintro e w3 ⟨rfl, hb3⟩; have R3_0 := (hb3.block (w.heap.size) (by first | (simp; done) | (simp; omega) | omega)).trans ((Below.heap_alloc _ _ _ (by first | (simp; done) | (simp; omega) | omega)).trans HR2_0.out); have z3_0 : w.heap.size < w3.heap.size := Nat.lt_of_lt_of_le (by first | (simp; done) | (simp; omega) | omega) hb3.size; have HR3_0 : Hid _ := R3_0; clear R3_0; have R3_1 := (hb3.block (w.heap.size + 1) (by first | (simp; done) | (simp; omega) | omega)).trans ((Below.heap_alloc _ _ _ (by first | (simp; done) | (simp; omega) | omega)).trans HR2_1.out); have z3_1 : w.heap.size + 1 < w3.heap.size := Nat.lt_of_lt_of_le (by first | (simp; done) | (simp; omega) | omega) hb3.size; have HR3_1 : Hid _ := R3_1; clear R3_1; have R3_2 := (hb3.block (w.heap.size + 1 + 1) (by first | (simp; done) | (simp; omega) | omega)).trans ((Below.heap_alloc _ _ _ (by first | (simp; done) | (simp; omega) | omega)).trans HR2_2.out); have z3_2 : w.heap.size + 1 + 1 < w3.heap.size := Nat.lt_of_lt_of_le (by first | (simp; done) | (simp; omega) | omega) hb3.size; have c3_2_0 := rowcell R3_2 0; have c3_2_1 := rowcell R3_2 1; have c3_2_2 := rowcell R3_2 2; have c3_2_3 := rowcell R3_2 3; have c3_2_4 := rowcell R3_2 4; have c3_2_5 := rowcell R3_2 5; simp only [List.getElem?_toArray, List.getElem?_cons_zero, List.getElem?_cons_succ] at c3_2_0 c3_2_1 c3_2_2 c3_2_3 c3_2_4 c3_2_5; have rf := rowfree R3_2; have HR3_2 : Hid _ := R3_2; clear R3_2; have R3_3 := (hb3.block (w1.heap.size) (by first | (simp; done) | (simp; omega) | omega)).trans ((Below.heap_alloc _ _ _ (by first | (simp; done) | (simp; omega) | omega)).trans HR2_3.out); have z3_3 : w1.heap.size < w3.heap.size := Nat.lt_of_lt_of_le (by first | (simp; done) | (simp; omega) | omega) hb3.size; have HR3_3 : Hid _ := R3_3; clear R3_3; have R3_4 := (hb3.block (w2.heap.size) (by first | (simp; done) | (simp; omega) | omega)).trans (rownew' _ _ _ _ (by simp)); have z3_4 : w2.heap.size < w3.heap.size := Nat.lt_of_lt_of_le (by first | (simp; done) | (simp; omega) | omega) hb3.size; have HR3_4 : Hid _ := R3_4; clear R3_4; have HB3 : Hid (Below _ _ _) := hb3; clear hb3))
  refine bodyPost_ret (v := .tuple #[.agg #[.int .i64 K, .bool B, .int .i64 S, .int .u64 H, .int .u64 L, .bool R], .int .i64 0]) (by simp [results, Tryz.results24, go_sem, rf, z3_2, c3_2_0, c3_2_1, c3_2_2, c3_2_3, c3_2_4, c3_2_5]) rfl (hQ.out _ _ ⟨by simp, ?_⟩)
  exact cset6 (cthen (cmore (cthen (cmore (cthen (cmore (cmore (cmore (Below.refl _ _) _) _) _) HB1.out) _) HB2.out) _) HB3.out) (by omega)
theorem vF_lt (n x : Nat) : vF n x < 2 ^ 64 := by
  unfold vF
  split
  · exact (wordL_bounds _).2
  · decide
theorem add9_any (n a b : Nat) (hn : Wd n) (ha : a < 2 ^ 64) (hb : b < 2 ^ 64) (w : World) :
    Calls Tryz.prog 15 #[.int .i64 n, .int .u64 a, .int .u64 b] w fun e w' => e = .returned (.int .u64 (patS n a b)) ∧ Below w.heap.size w w' := by
  have k1 := decode6_v n a hn ha
  have k2 := decode6_v n b hn hb
  have k3 := exact9_ok (vK n a) (vB n a) (vS n a) (vF n a) (vK n b) (vB n b) (vS n b) (vF n b) (vF_lt n a) (vF_lt n b) (sound_v n a hn ha) (sound_v n b hn hb)
  rw [sum9_val n a b hn ha hb] at k3
  have k4 : ∀ w, Calls Tryz.prog 26 #[.int .i64 n, if vK n a = 2 ∨ vK n b = 2 then exV 2 false 0 0 0 false else exI (valI n a + valI n b) eN] w fun r w' => r = .returned (.int .u64 (patS n a b : Nat)) ∧ Below w.heap.size w w' := by
    intro w
    unfold patS
    by_cases h : vK n a = 2 ∨ vK n b = 2
    · rw [if_pos h, if_pos h]; exact round7_nar n hn w
    · rw [if_neg h, if_neg h]; exact round7_exI n _ _ hn w
  have hform : ∃ K B S H L R, (if vK n a = 2 ∨ vK n b = 2 then exV 2 false 0 0 0 false else exI (valI n a + valI n b) eN) = exV K B S H L R := by
    by_cases h : vK n a = 2 ∨ vK n b = 2
    · rw [if_pos h]; exact ⟨_, _, _, _, _, _, rfl⟩
    · rw [if_neg h]; exact exI_form _ _
  obtain ⟨K, B, S, H, L, R, hform⟩ := hform
  rw [hform] at k3 k4
  clear hform hn ha hb
  generalize patS n a b = P at *
  generalize vK n a = ka at *
  generalize vB n a = ba at *
  generalize vS n a = sa at *
  generalize vF n a = fa at *
  generalize vK n b = kb at *
  generalize vB n b = bb at *
  generalize vS n b = sb at *
  generalize vF n b = fb at *
  unfold numV exV at *
  refine cps fun Q hQ => ?_
  go_enter Tryz.func15, Tryz.ntmps15
  go_wp2_with (first
    | (go_at_call_of 25 a; go_must (refine (k1 _).mono ?_); rintro e w1 ⟨rfl, hb1⟩; have HB1 : Hid (Below _ _ _) := hb1; clear hb1)
    | (go_at_call_of 25 b; go_must (refine (k2 _).mono ?_); rintro e w2 ⟨rfl, hb2⟩; have HB2 : Hid (Below _ _ _) := hb2; clear hb2)
    | (go_at_call 24; go_must (refine (k3 _).mono ?_); rintro e w3 ⟨rfl, hb3⟩; have HB3 : Hid (Below _ _ _) := hb3; clear hb3)
    | (go_at_call 26; go_must (refine (k4 _).mono ?_); rintro e w4 ⟨rfl, hb4⟩; have R4_0 := (hb4.block (w3.heap.size) (by first | (simp; done) | (simp; omega) | omega)).trans (rownew' _ _ _ _ (by simp)); have z4_0 : w3.heap.size < w4.heap.size := Nat.lt_of_lt_of_le (by first | (simp; done) | (simp; omega) | omega) hb4.size; have ne4_0 : ¬ w3.heap.size = w4.heap.size := (by omega); have en4_0 : ¬ w4.heap.size = w3.heap.size := (by omega); have c4_0_0 := rowcell R4_0 0; have c4_0_1 := rowcell R4_0 1; have c4_0_2 := rowcell R4_0 2; have c4_0_3 := rowcell R4_0 3; have c4_0_4 := rowcell R4_0 4; have c4_0_5 := rowcell R4_0 5; have cf4_0 := rowfree R4_0; simp only [List.getElem?_toArray, List.getElem?_cons_zero, List.getElem?_cons_succ] at c4_0_0 c4_0_1 c4_0_2 c4_0_3 c4_0_4 c4_0_5; have HR4_0 : Hid _ := R4_0; clear R4_0; have HB4 : Hid (Below _ _ _) := hb4; clear hb4))
  exact hQ.out _ _ ⟨rfl, cthen (cmore (cthen (cthen (cthen (Below.refl _ _) HB1.out) HB2.out) HB3.out) _) HB4.out⟩
theorem adds9_no (n : Int) (a b : Nat) (hn : isW n = false) (w : World) :
    Calls Tryz.prog 7 #[.int .i64 n, .int .u64 a, .int .u64 b] w fun e w' => e = .returned (.tuple #[.int .u64 0, .int .i64 2]) ∧ Below w.heap.size w w' := by
  have kis := is_width n
  rw [hn] at kis
  clear hn
  refine cps fun Q hQ => ?_
  go_enter Tryz.func7, Tryz.ntmps7
  go_wp2_with (go_at_call 14; refine (kis _).mono ?_; rintro e wx ⟨rfl, hwx⟩; rw [hwx]; clear hwx wx)
  exact hQ.out _ _ ⟨rfl, Below.refl _ _⟩
theorem adds9_ok (n a b : Nat) (hn : Wd n) (ha : a < 2 ^ 64) (hb : b < 2 ^ 64) (w : World) :
    Calls Tryz.prog 7 #[.int .i64 n, .int .u64 a, .int .u64 b] w fun e w' => e = .returned (.tuple #[.int .u64 (patS n a b : Nat), .int .i64 0]) ∧ Below w.heap.size w w' := by
  have kis := is_width n
  rw [isW_of hn] at kis
  have k1 := add9_any n a b hn ha hb
  clear hn ha hb
  generalize patS n a b = P at *
  refine cps fun Q hQ => ?_
  go_enter Tryz.func7, Tryz.ntmps7
  go_wp2_with (first
    | (go_at_call 14; refine (kis _).mono ?_; rintro e wx ⟨rfl, hwx⟩; rw [hwx]; clear hwx wx)
    | (go_at_call 15; refine (k1 _).mono ?_; rintro e w1 ⟨rfl, hb1⟩))
  exact hQ.out _ _ ⟨rfl, hb1⟩
theorem sub9_any (n a b : Nat) (hn : Wd n) (ha : a < 2 ^ 64) (hb : b < 2 ^ 64) (w : World) :
    Calls Tryz.prog 17 #[.int .i64 n, .int .u64 a, .int .u64 b] w fun e w' => e = .returned (.int .u64 (patS n a (negO n b))) ∧ Below w.heap.size w w' := by
  have k1 := neg6_any n b hn hb
  have k2 := add9_any n a (negO n b) hn ha (negO_lt64 n b hn)
  change ∀ w, Calls Tryz.prog 27 #[.int .i64 n, .int .u64 b] w fun e w' => e = .returned (.int .u64 (negO n b : Nat)) ∧ Below w.heap.size w w' at k1
  clear hn ha hb
  generalize patS n a (negO n b) = P at *
  generalize negO n b = c at *
  refine cps fun Q hQ => ?_
  go_enter Tryz.func17, Tryz.ntmps17
  go_wp2_with (first
    | (go_at_call 27; refine (k1 _).mono ?_; rintro e w1 ⟨rfl, hb1⟩)
    | (go_at_call 15; refine (k2 _).mono ?_; rintro e w2 ⟨rfl, hb2⟩))
  exact hQ.out _ _ ⟨rfl, cthen hb1 hb2⟩
theorem subs9_no (n : Int) (a b : Nat) (hn : isW n = false) (w : World) :
    Calls Tryz.prog 10 #[.int .i64 n, .int .u64 a, .int .u64 b] w fun e w' => e = .returned (.tuple #[.int .u64 0, .int .i64 2]) ∧ Below w.heap.size w w' := by
  have kis := is_width n
  rw [hn] at kis
  clear hn
  refine cps fun Q hQ => ?_
  go_enter Tryz.func10, Tryz.ntmps10
  go_wp2_with (go_at_call 14; refine (kis _).mono ?_; rintro e wx ⟨rfl, hwx⟩; rw [hwx]; clear hwx wx)
  exact hQ.out _ _ ⟨rfl, Below.refl _ _⟩
theorem subs9_ok (n a b : Nat) (hn : Wd n) (ha : a < 2 ^ 64) (hb : b < 2 ^ 64) (w : World) :
    Calls Tryz.prog 10 #[.int .i64 n, .int .u64 a, .int .u64 b] w fun e w' => e = .returned (.tuple #[.int .u64 (patS n a (negO n b) : Nat), .int .i64 0]) ∧ Below w.heap.size w w' := by
  have kis := is_width n
  rw [isW_of hn] at kis
  have k1 := sub9_any n a b hn ha hb
  clear hn ha hb
  generalize patS n a (negO n b) = P at *
  refine cps fun Q hQ => ?_
  go_enter Tryz.func10, Tryz.ntmps10
  go_wp2_with (first
    | (go_at_call 14; refine (kis _).mono ?_; rintro e wx ⟨rfl, hwx⟩; rw [hwx]; clear hwx wx)
    | (go_at_call 17; refine (k1 _).mono ?_; rintro e w1 ⟨rfl, hb1⟩))
  exact hQ.out _ _ ⟨rfl, hb1⟩
end Go.Proofs.YtmkdnhdbgoehgaaGreat

namespace Go.Proofs.YtmkdnhdbgoehgaaGreat
open Go.ChangeShapes Go.WideShapes Go.ChangeAt Go.RowKit
set_option linter.unusedVariables false
set_option linter.unusedSimpArgs false
set_option maxRecDepth 100000

theorem sreals_any (neg : Bool) (s : Int) (f : Nat) (neg' : Bool) (s' : Int) (g : Nat) (hf : f < 2 ^ 64) (hg : g < 2 ^ 64) (h1 : soundN 1 neg s f = true) (h2 : soundN 1 neg' s' g = true) (w : World) :
    Calls Tryz.prog 21 #[numV 1 neg s f, numV 1 neg' s' g] w fun e w' => e = .returned (sumR neg s (manX f 0) neg' s' (manX g 0)) ∧ Below w.heap.size w w' := by
  unfold soundN at h1 h2
  rw [if_neg (by decide)] at h1 h2
  obtain ⟨_, f1, s1, s2⟩ := of_decide_eq_true h1
  obtain ⟨_, g1, t1, t2⟩ := of_decide_eq_true h2
  by_cases c : s < s' ∨ (s = s' ∧ f < g)
  · have hle : s ≤ s' := by omega
    have hw := (sreals_up neg' s' g neg s f g1 (by omega) f1 (by omega) ⟨t1, t2⟩ ⟨s1, s2⟩ hle (fun h => by omega) w).2 (fun h => by omega)
    rw [← sumD_words neg' s' g neg s f g1 (by omega) f1 (by omega) hle (fun h => by omega)] at hw
    have e : sumR neg s (manX f 0) neg' s' (manX g 0) = sumD neg' s' (manX g 0) neg s (manX f 0) := by
      unfold sumR
      by_cases c2 : s < s'
      · rw [if_pos c2]
      · rw [if_neg c2]
        obtain rfl : s = s' := by omega
        have hM : Mant (manX f 0) := by rw [man_frac]; unfold Mant; omega
        have hM' : Mant (manX g 0) := by rw [man_frac]; unfold Mant; omega
        rw [sumD_int neg s _ neg' s _ hM hM' (Int.le_refl _) s 0 0 (by omega) (by omega), sumD_int neg' s _ neg s _ hM' hM (Int.le_refl _) s 0 0 (by omega) (by omega), Int.add_comm]
    rw [e]
    exact hw
  · have hle : s' ≤ s := by omega
    have hw := (sreals_up neg s f neg' s' g f1 (by omega) g1 (by omega) ⟨s1, s2⟩ ⟨t1, t2⟩ hle (fun h => by omega) w).1 (fun h => by omega)
    rw [← sumD_words neg s f neg' s' g f1 (by omega) g1 (by omega) hle (fun h => by omega)] at hw
    have e : sumR neg s (manX f 0) neg' s' (manX g 0) = sumD neg s (manX f 0) neg' s' (manX g 0) := by
      unfold sumR; rw [if_neg (by omega)]
    rw [e]
    exact hw
/-! ### Exact -/
theorem ssum_bad1 (k : Int) (neg : Bool) (s : Int) (f : Nat) (k' : Int) (neg' : Bool) (s' : Int) (g : Nat) (hf : f < 2 ^ 64) (hg : g < 2 ^ 64) (h1 : soundN k neg s f = false) (w : World) :
    Calls Tryz.prog 12 #[numV k neg s f, numV k' neg' s' g] w fun e w' => e = .returned (.tuple #[exV 0 false 0 0 0 false, codeV 1]) ∧ Below w.heap.size w w' := by
  have k1 := rndof_bad k neg s f hf h1
  unfold numV exV at *
  rw [show ((0 : Nat) : Int) = 0 from rfl] at *
  refine cps fun Q hQ => ?_
  go_enter Tryz.func12, Tryz.ntmps12
  go_wp2_with (first
    | (go_at_call 20; go_must (refine (k1 _).mono ?_); rintro e w1 ⟨rfl, hb1⟩; have R1_0 := (hb1.block (w.heap.size) (by first | (simp; done) | (simp; omega) | omega)).trans ((Below.heap_alloc _ _ _ (by first | (simp; done) | (simp; omega) | omega)).trans ((Below.heap_alloc _ _ _ (by first | (simp; done) | (simp; omega) | omega)).trans (rownew' _ _ _ _ (by simp)))); have z1_0 : w.heap.size < w1.heap.size := Nat.lt_of_lt_of_le (by first | (simp; done) | (simp; omega) | omega) hb1.size; have HR1_0 : Hid _ := R1_0; clear R1_0; have R1_1 := (hb1.block (w.heap.size + 1) (by first | (simp; done) | (simp; omega) | omega)).trans ((Below.heap_alloc _ _ _ (by first | (simp; done) | (simp; omega) | omega)).trans (rownew' _ _ _ _ (by simp))); have z1_1 : w.heap.size + 1 < w1.heap.size := Nat.lt_of_lt_of_le (by first | (simp; done) | (simp; omega) | omega) hb1.size; have c1_1_0 := rowcell R1_1 0; have c1_1_1 := rowcell R1_1 1; have c1_1_2 := rowcell R1_1 2; have c1_1_3 := rowcell R1_1 3; simp only [List.getElem?_toArray, List.getElem?_cons_zero, List.getElem?_cons_succ] at c1_1_0 c1_1_1 c1_1_2 c1_1_3; have HR1_1 : Hid _ := R1_1; clear R1_1; have R1_2 := (hb1.block (w.heap.size + 1 + 1) (by first | (simp; done) | (simp; omega) | omega)).trans (rownew' _ _ _ _ (by simp)); have z1_2 : w.heap.size + 1 + 1 < w1.heap.size := Nat.lt_of_lt_of_le (by first | (simp; done) | (simp; omega) | omega) hb1.size; have c1_2_0 := rowcell R1_2 0; have c1_2_1 := rowcell R1_2 1; have c1_2_2 := rowcell R1_2 2; have c1_2_3 := rowcell R1_2 3; have c1_2_4 := rowcell R1_2 4; have c1_2_5 := rowcell R1_2 5; simp only [List.getElem?_toArray, List.getElem?_cons_zero, List.getElem?_cons_succ] at c1_2_0 c1_2_1 c1_2_2 c1_2_3 c1_2_4 c1_2_5; have HR1_2 : Hid _ := R1_2; clear R1_2; have HB1 : Hid (Below _ _ _) := hb1; clear hb1; have f2 := rowfree HR1_2.out))
  refine bodyPost_ret (v := .tuple #[.agg #[.int .i64 0, .bool false, .int .i64 0, .int .u64 0, .int .u64 0, .bool false], codeV 1]) (by simp [results, Tryz.results12, go_sem, c1_2_0, c1_2_1, c1_2_2, c1_2_3, c1_2_4, c1_2_5, f2, z1_2]; done) rfl (hQ.out _ _ ⟨rfl, ?_⟩)
  first | exact cmore (cset6 (cthen (cmore (cmore (cmore (Below.refl _ _) _) _) _) HB1.out) (by omega)) _ | exact cset6 (cmore (cthen (cmore (cmore (cmore (Below.refl _ _) _) _) _) HB1.out) _) (by omega)
theorem ssum_bad2 (k : Int) (neg : Bool) (s : Int) (f : Nat) (k' : Int) (neg' : Bool) (s' : Int) (g : Nat) (hf : f < 2 ^ 64) (hg : g < 2 ^ 64) (h1 : soundN k neg s f = true) (h2 : soundN k' neg' s' g = false) (w : World) :
    Calls Tryz.prog 12 #[numV k neg s f, numV k' neg' s' g] w fun e w' => e = .returned (.tuple #[exV 0 false 0 0 0 false, codeV 1]) ∧ Below w.heap.size w w' := by
  have k1 := rndof_ok k neg s f hf h1
  have k2 := rndof_bad k' neg' s' g hg h2
  unfold numV exV at *
  rw [show ((0 : Nat) : Int) = 0 from rfl] at *
  refine cps fun Q hQ => ?_
  go_enter Tryz.func12, Tryz.ntmps12
  go_wp2_with (first
    | (go_at_call 20; have chk := HB1; go_must (refine (k2 _).mono ?_); rintro e w2 ⟨rfl, hb2⟩; have R2_0 := (hb2.block (w.heap.size) (by first | (simp; done) | (simp; omega) | omega)).trans ((Below.heap_alloc _ _ _ (by first | (simp; done) | (simp; omega) | omega)).trans HR1_0.out); have z2_0 : w.heap.size < w2.heap.size := Nat.lt_of_lt_of_le (by first | (simp; done) | (simp; omega) | omega) hb2.size; have c2_0_0 := rowcell R2_0 0; have c2_0_1 := rowcell R2_0 1; have c2_0_2 := rowcell R2_0 2; have c2_0_3 := rowcell R2_0 3; simp only [List.getElem?_toArray, List.getElem?_cons_zero, List.getElem?_cons_succ] at c2_0_0 c2_0_1 c2_0_2 c2_0_3; have HR2_0 : Hid _ := R2_0; clear R2_0; have R2_1 := (hb2.block (w.heap.size + 1) (by first | (simp; done) | (simp; omega) | omega)).trans ((Below.heap_alloc _ _ _ (by first | (simp; done) | (simp; omega) | omega)).trans HR1_1.out); have z2_1 : w.heap.size + 1 < w2.heap.size := Nat.lt_of_lt_of_le (by first | (simp; done) | (simp; omega) | omega) hb2.size; have c2_1_0 := rowcell R2_1 0; have c2_1_1 := rowcell R2_1 1; have c2_1_2 := rowcell R2_1 2; have c2_1_3 := rowcell R2_1 3; simp only [List.getElem?_toArray, List.getElem?_cons_zero, List.getElem?_cons_succ] at c2_1_0 c2_1_1 c2_1_2 c2_1_3; have HR2_1 : Hid _ := R2_1; clear R2_1; have R2_2 := (hb2.block (w.heap.size + 1 + 1) (by first | (simp; done) | (simp; omega) | omega)).trans ((Below.heap_alloc _ _ _ (by first | (simp; done) | (simp; omega) | omega)).trans HR1_2.out); have z2_2 : w.heap.size + 1 + 1 < w2.heap.size := Nat.lt_of_lt_of_le (by first | (simp; done) | (simp; omega) | omega) hb2.size; have c2_2_0 := rowcell R2_2 0; have c2_2_1 := rowcell R2_2 1; have c2_2_2 := rowcell R2_2 2; have c2_2_3 := rowcell R2_2 3; have c2_2_4 := rowcell R2_2 4; have c2_2_5 := rowcell R2_2 5; simp only [List.getElem?_toArray, List.getElem?_cons_zero, List.getElem?_cons_succ] at c2_2_0 c2_2_1 c2_2_2 c2_2_3 c2_2_4 c2_2_5; have HR2_2 : Hid _ := R2_2; clear R2_2; have R2_3 := (hb2.block (w1.heap.size) (by first | (simp; done) | (simp; omega) | omega)).trans (rownew' _ _ _ _ (by simp)); have z2_3 : w1.heap.size < w2.heap.size := Nat.lt_of_lt_of_le (by first | (simp; done) | (simp; omega) | omega) hb2.size; have c2_3_0 := rowcell R2_3 0; have c2_3_1 := rowcell R2_3 1; have c2_3_2 := rowcell R2_3 2; have c2_3_3 := rowcell R2_3 3; have c2_3_4 := rowcell R2_3 4; have c2_3_5 := rowcell R2_3 5; simp only [List.getElem?_toArray, List.getElem?_cons_zero, List.getElem?_cons_succ] at c2_3_0 c2_3_1 c2_3_2 c2_3_3 c2_3_4 c2_3_5; have HR2_3 : Hid _ := R2_3; clear R2_3; have HB2 : Hid (Below _ _ _) := hb2; clear hb2; have g2 := rowfree HR2_2.out)
    | (go_at_call 20; go_must (refine (k1 _).mono ?_); rintro e w1 ⟨rfl, hb1⟩; have R1_0 := (hb1.block (w.heap.size) (by first | (simp; done) | (simp; omega) | omega)).trans ((Below.heap_alloc _ _ _ (by first | (simp; done) | (simp; omega) | omega)).trans ((Below.heap_alloc _ _ _ (by first | (simp; done) | (simp; omega) | omega)).trans (rownew' _ _ _ _ (by simp)))); have z1_0 : w.heap.size < w1.heap.size := Nat.lt_of_lt_of_le (by first | (simp; done) | (simp; omega) | omega) hb1.size; have HR1_0 : Hid _ := R1_0; clear R1_0; have R1_1 := (hb1.block (w.heap.size + 1) (by first | (simp; done) | (simp; omega) | omega)).trans ((Below.heap_alloc _ _ _ (by first | (simp; done) | (simp; omega) | omega)).trans (rownew' _ _ _ _ (by simp))); have z1_1 : w.heap.size + 1 < w1.heap.size := Nat.lt_of_lt_of_le (by first | (simp; done) | (simp; omega) | omega) hb1.size; have c1_1_0 := rowcell R1_1 0; have c1_1_1 := rowcell R1_1 1; have c1_1_2 := rowcell R1_1 2; have c1_1_3 := rowcell R1_1 3; simp only [List.getElem?_toArray, List.getElem?_cons_zero, List.getElem?_cons_succ] at c1_1_0 c1_1_1 c1_1_2 c1_1_3; have HR1_1 : Hid _ := R1_1; clear R1_1; have R1_2 := (hb1.block (w.heap.size + 1 + 1) (by first | (simp; done) | (simp; omega) | omega)).trans (rownew' _ _ _ _ (by simp)); have z1_2 : w.heap.size + 1 + 1 < w1.heap.size := Nat.lt_of_lt_of_le (by first | (simp; done) | (simp; omega) | omega) hb1.size; have c1_2_0 := rowcell R1_2 0; have c1_2_1 := rowcell R1_2 1; have c1_2_2 := rowcell R1_2 2; have c1_2_3 := rowcell R1_2 3; have c1_2_4 := rowcell R1_2 4; have c1_2_5 := rowcell R1_2 5; simp only [List.getElem?_toArray, List.getElem?_cons_zero, List.getElem?_cons_succ] at c1_2_0 c1_2_1 c1_2_2 c1_2_3 c1_2_4 c1_2_5; have HR1_2 : Hid _ := R1_2; clear R1_2; have HB1 : Hid (Below _ _ _) := hb1; clear hb1; have f2 := rowfree HR1_2.out))
  refine bodyPost_ret (v := .tuple #[.agg #[.int .i64 0, .bool false, .int .i64 0, .int .u64 0, .int .u64 0, .bool false], codeV 1]) (by simp [results, Tryz.results12, go_sem, c2_2_0, c2_2_1, c2_2_2, c2_2_3, c2_2_4, c2_2_5, g2, z2_2]; done) rfl (hQ.out _ _ ⟨rfl, ?_⟩)
  first | exact cmore (cset6 (cthen (cmore (cthen (cmore (cmore (cmore (Below.refl _ _) _) _) _) HB1.out) _) HB2.out) (by omega)) _ | exact cset6 (cmore (cthen (cmore (cthen (cmore (cmore (cmore (Below.refl _ _) _) _) _) HB1.out) _) HB2.out) _) (by omega)
theorem ssum_a1 (k : Int) (neg : Bool) (s : Int) (f : Nat) (k' : Int) (neg' : Bool) (s' : Int) (g : Nat) (hf : f < 2 ^ 64) (hg : g < 2 ^ 64) (h1 : soundN k neg s f = true) (h2 : soundN k' neg' s' g = true) (hk : k = 2) (w : World) :
    Calls Tryz.prog 12 #[numV k neg s f, numV k' neg' s' g] w fun e w' => e = .returned (.tuple #[exV k neg s f 0 false, .nilIface]) ∧ Below w.heap.size w w' := by
  have k1 := rndof_ok k neg s f hf h1
  have k2 := rndof_ok k' neg' s' g hg h2
  have d1 : (k == 2) = true := by rw [hk]; rfl
  clear hk
  unfold numV exV at *
  rw [show ((0 : Nat) : Int) = 0 from rfl] at *
  refine cps fun Q hQ => ?_
  go_enter Tryz.func12, Tryz.ntmps12
  go_wp2_with (first
    | (go_at_call 20; have chk := HB1; go_must (refine (k2 _).mono ?_); rintro e w2 ⟨rfl, hb2⟩; have R2_0 := (hb2.block (w.heap.size) (by first | (simp; done) | (simp; omega) | omega)).trans ((Below.heap_alloc _ _ _ (by first | (simp; done) | (simp; omega) | omega)).trans HR1_0.out); have z2_0 : w.heap.size < w2.heap.size := Nat.lt_of_lt_of_le (by first | (simp; done) | (simp; omega) | omega) hb2.size; have c2_0_0 := rowcell R2_0 0; have c2_0_1 := rowcell R2_0 1; have c2_0_2 := rowcell R2_0 2; have c2_0_3 := rowcell R2_0 3; simp only [List.getElem?_toArray, List.getElem?_cons_zero, List.getElem?_cons_succ] at c2_0_0 c2_0_1 c2_0_2 c2_0_3; have HR2_0 : Hid _ := R2_0; clear R2_0; have R2_1 := (hb2.block (w.heap.size + 1) (by first | (simp; done) | (simp; omega) | omega)).trans ((Below.heap_alloc _ _ _ (by first | (simp; done) | (simp; omega) | omega)).trans HR1_1.out); have z2_1 : w.heap.size + 1 < w2.heap.size := Nat.lt_of_lt_of_le (by first | (simp; done) | (simp; omega) | omega) hb2.size; have c2_1_0 := rowcell R2_1 0; have c2_1_1 := rowcell R2_1 1; have c2_1_2 := rowcell R2_1 2; have c2_1_3 := rowcell R2_1 3; simp only [List.getElem?_toArray, List.getElem?_cons_zero, List.getElem?_cons_succ] at c2_1_0 c2_1_1 c2_1_2 c2_1_3; have HR2_1 : Hid _ := R2_1; clear R2_1; have R2_2 := (hb2.block (w.heap.size + 1 + 1) (by first | (simp; done) | (simp; omega) | omega)).trans ((Below.heap_alloc _ _ _ (by first | (simp; done) | (simp; omega) | omega)).trans HR1_2.out); have z2_2 : w.heap.size + 1 + 1 < w2.heap.size := Nat.lt_of_lt_of_le (by first | (simp; done) | (simp; omega) | omega) hb2.size; have c2_2_0 := rowcell R2_2 0; have c2_2_1 := rowcell R2_2 1; have c2_2_2 := rowcell R2_2 2; have c2_2_3 := rowcell R2_2 3; have c2_2_4 := rowcell R2_2 4; have c2_2_5 := rowcell R2_2 5; simp only [List.getElem?_toArray, List.getElem?_cons_zero, List.getElem?_cons_succ] at c2_2_0 c2_2_1 c2_2_2 c2_2_3 c2_2_4 c2_2_5; have HR2_2 : Hid _ := R2_2; clear R2_2; have R2_3 := (hb2.block (w1.heap.size) (by first | (simp; done) | (simp; omega) | omega)).trans (rownew' _ _ _ _ (by simp)); have z2_3 : w1.heap.size < w2.heap.size := Nat.lt_of_lt_of_le (by first | (simp; done) | (simp; omega) | omega) hb2.size; have c2_3_0 := rowcell R2_3 0; have c2_3_1 := rowcell R2_3 1; have c2_3_2 := rowcell R2_3 2; have c2_3_3 := rowcell R2_3 3; have c2_3_4 := rowcell R2_3 4; have c2_3_5 := rowcell R2_3 5; simp only [List.getElem?_toArray, List.getElem?_cons_zero, List.getElem?_cons_succ] at c2_3_0 c2_3_1 c2_3_2 c2_3_3 c2_3_4 c2_3_5; have HR2_3 : Hid _ := R2_3; clear R2_3; have HB2 : Hid (Below _ _ _) := hb2; clear hb2; have g2 := rowfree HR2_2.out)
    | (go_at_call 20; go_must (refine (k1 _).mono ?_); rintro e w1 ⟨rfl, hb1⟩; have R1_0 := (hb1.block (w.heap.size) (by first | (simp; done) | (simp; omega) | omega)).trans ((Below.heap_alloc _ _ _ (by first | (simp; done) | (simp; omega) | omega)).trans ((Below.heap_alloc _ _ _ (by first | (simp; done) | (simp; omega) | omega)).trans (rownew' _ _ _ _ (by simp)))); have z1_0 : w.heap.size < w1.heap.size := Nat.lt_of_lt_of_le (by first | (simp; done) | (simp; omega) | omega) hb1.size; have HR1_0 : Hid _ := R1_0; clear R1_0; have R1_1 := (hb1.block (w.heap.size + 1) (by first | (simp; done) | (simp; omega) | omega)).trans ((Below.heap_alloc _ _ _ (by first | (simp; done) | (simp; omega) | omega)).trans (rownew' _ _ _ _ (by simp))); have z1_1 : w.heap.size + 1 < w1.heap.size := Nat.lt_of_lt_of_le (by first | (simp; done) | (simp; omega) | omega) hb1.size; have c1_1_0 := rowcell R1_1 0; have c1_1_1 := rowcell R1_1 1; have c1_1_2 := rowcell R1_1 2; have c1_1_3 := rowcell R1_1 3; simp only [List.getElem?_toArray, List.getElem?_cons_zero, List.getElem?_cons_succ] at c1_1_0 c1_1_1 c1_1_2 c1_1_3; have HR1_1 : Hid _ := R1_1; clear R1_1; have R1_2 := (hb1.block (w.heap.size + 1 + 1) (by first | (simp; done) | (simp; omega) | omega)).trans (rownew' _ _ _ _ (by simp)); have z1_2 : w.heap.size + 1 + 1 < w1.heap.size := Nat.lt_of_lt_of_le (by first | (simp; done) | (simp; omega) | omega) hb1.size; have c1_2_0 := rowcell R1_2 0; have c1_2_1 := rowcell R1_2 1; have c1_2_2 := rowcell R1_2 2; have c1_2_3 := rowcell R1_2 3; have c1_2_4 := rowcell R1_2 4; have c1_2_5 := rowcell R1_2 5; simp only [List.getElem?_toArray, List.getElem?_cons_zero, List.getElem?_cons_succ] at c1_2_0 c1_2_1 c1_2_2 c1_2_3 c1_2_4 c1_2_5; have HR1_2 : Hid _ := R1_2; clear R1_2; have HB1 : Hid (Below _ _ _) := hb1; clear hb1; have f2 := rowfree HR1_2.out))
  refine bodyPost_ret (v := .tuple #[.agg #[.int .i64 k, .bool neg, .int .i64 s, .int .u64 f, .int .u64 0, .bool false], .nilIface]) (by simp [results, Tryz.results12, go_sem, c2_2_0, c2_2_1, c2_2_2, c2_2_3, c2_2_4, c2_2_5, g2, z2_2]; done) rfl (hQ.out _ _ ⟨rfl, ?_⟩)
  first | exact cmore (cset6 (cthen (cmore (cthen (cmore (cmore (cmore (Below.refl _ _) _) _) _) HB1.out) _) HB2.out) (by omega)) _ | exact cset6 (cmore (cthen (cmore (cthen (cmore (cmore (cmore (Below.refl _ _) _) _) _) HB1.out) _) HB2.out) _) (by omega)
theorem ssum_a2 (k : Int) (neg : Bool) (s : Int) (f : Nat) (k' : Int) (neg' : Bool) (s' : Int) (g : Nat) (hf : f < 2 ^ 64) (hg : g < 2 ^ 64) (h1 : soundN k neg s f = true) (h2 : soundN k' neg' s' g = true) (hk : k ≠ 2) (hk' : k' = 0) (w : World) :
    Calls Tryz.prog 12 #[numV k neg s f, numV k' neg' s' g] w fun e w' => e = .returned (.tuple #[exV k neg s f 0 false, .nilIface]) ∧ Below w.heap.size w w' := by
  have k1 := rndof_ok k neg s f hf h1
  have k2 := rndof_ok k' neg' s' g hg h2
  have d1 : (k == 2) = false := beq_eq_false_iff_ne.2 hk
  have d2 : (k' == 0) = true := by rw [hk']; rfl
  clear hk hk'
  unfold numV exV at *
  rw [show ((0 : Nat) : Int) = 0 from rfl] at *
  refine cps fun Q hQ => ?_
  go_enter Tryz.func12, Tryz.ntmps12
  go_wp2_with (first
    | (go_at_call 20; have chk := HB1; go_must (refine (k2 _).mono ?_); rintro e w2 ⟨rfl, hb2⟩; have R2_0 := (hb2.block (w.heap.size) (by first | (simp; done) | (simp; omega) | omega)).trans ((Below.heap_alloc _ _ _ (by first | (simp; done) | (simp; omega) | omega)).trans HR1_0.out); have z2_0 : w.heap.size < w2.heap.size := Nat.lt_of_lt_of_le (by first | (simp; done) | (simp; omega) | omega) hb2.size; have c2_0_0 := rowcell R2_0 0; have c2_0_1 := rowcell R2_0 1; have c2_0_2 := rowcell R2_0 2; have c2_0_3 := rowcell R2_0 3; simp only [List.getElem?_toArray, List.getElem?_cons_zero, List.getElem?_cons_succ] at c2_0_0 c2_0_1 c2_0_2 c2_0_3; have HR2_0 : Hid _ := R2_0; clear R2_0; have R2_1 := (hb2.block (w.heap.size + 1) (by first | (simp; done) | (simp; omega) | omega)).trans ((Below.heap_alloc _ _ _ (by first | (simp; done) | (simp; omega) | omega)).trans HR1_1.out); have z2_1 : w.heap.size + 1 < w2.heap.size := Nat.lt_of_lt_of_le (by first | (simp; done) | (simp; omega) | omega) hb2.size; have c2_1_0 := rowcell R2_1 0; have c2_1_1 := rowcell R2_1 1; have c2_1_2 := rowcell R2_1 2; have c2_1_3 := rowcell R2_1 3; simp only [List.getElem?_toArray, List.getElem?_cons_zero, List.getElem?_cons_succ] at c2_1_0 c2_1_1 c2_1_2 c2_1_3; have HR2_1 : Hid _ := R2_1; clear R2_1; have R2_2 := (hb2.block (w.heap.size + 1 + 1) (by first | (simp; done) | (simp; omega) | omega)).trans ((Below.heap_alloc _ _ _ (by first | (simp; done) | (simp; omega) | omega)).trans HR1_2.out); have z2_2 : w.heap.size + 1 + 1 < w2.heap.size := Nat.lt_of_lt_of_le (by first | (simp; done) | (simp; omega) | omega) hb2.size; have c2_2_0 := rowcell R2_2 0; have c2_2_1 := rowcell R2_2 1; have c2_2_2 := rowcell R2_2 2; have c2_2_3 := rowcell R2_2 3; have c2_2_4 := rowcell R2_2 4; have c2_2_5 := rowcell R2_2 5; simp only [List.getElem?_toArray, List.getElem?_cons_zero, List.getElem?_cons_succ] at c2_2_0 c2_2_1 c2_2_2 c2_2_3 c2_2_4 c2_2_5; have HR2_2 : Hid _ := R2_2; clear R2_2; have R2_3 := (hb2.block (w1.heap.size) (by first | (simp; done) | (simp; omega) | omega)).trans (rownew' _ _ _ _ (by simp)); have z2_3 : w1.heap.size < w2.heap.size := Nat.lt_of_lt_of_le (by first | (simp; done) | (simp; omega) | omega) hb2.size; have c2_3_0 := rowcell R2_3 0; have c2_3_1 := rowcell R2_3 1; have c2_3_2 := rowcell R2_3 2; have c2_3_3 := rowcell R2_3 3; have c2_3_4 := rowcell R2_3 4; have c2_3_5 := rowcell R2_3 5; simp only [List.getElem?_toArray, List.getElem?_cons_zero, List.getElem?_cons_succ] at c2_3_0 c2_3_1 c2_3_2 c2_3_3 c2_3_4 c2_3_5; have HR2_3 : Hid _ := R2_3; clear R2_3; have HB2 : Hid (Below _ _ _) := hb2; clear hb2; have g2 := rowfree HR2_2.out)
    | (go_at_call 20; go_must (refine (k1 _).mono ?_); rintro e w1 ⟨rfl, hb1⟩; have R1_0 := (hb1.block (w.heap.size) (by first | (simp; done) | (simp; omega) | omega)).trans ((Below.heap_alloc _ _ _ (by first | (simp; done) | (simp; omega) | omega)).trans ((Below.heap_alloc _ _ _ (by first | (simp; done) | (simp; omega) | omega)).trans (rownew' _ _ _ _ (by simp)))); have z1_0 : w.heap.size < w1.heap.size := Nat.lt_of_lt_of_le (by first | (simp; done) | (simp; omega) | omega) hb1.size; have HR1_0 : Hid _ := R1_0; clear R1_0; have R1_1 := (hb1.block (w.heap.size + 1) (by first | (simp; done) | (simp; omega) | omega)).trans ((Below.heap_alloc _ _ _ (by first | (simp; done) | (simp; omega) | omega)).trans (rownew' _ _ _ _ (by simp))); have z1_1 : w.heap.size + 1 < w1.heap.size := Nat.lt_of_lt_of_le (by first | (simp; done) | (simp; omega) | omega) hb1.size; have c1_1_0 := rowcell R1_1 0; have c1_1_1 := rowcell R1_1 1; have c1_1_2 := rowcell R1_1 2; have c1_1_3 := rowcell R1_1 3; simp only [List.getElem?_toArray, List.getElem?_cons_zero, List.getElem?_cons_succ] at c1_1_0 c1_1_1 c1_1_2 c1_1_3; have HR1_1 : Hid _ := R1_1; clear R1_1; have R1_2 := (hb1.block (w.heap.size + 1 + 1) (by first | (simp; done) | (simp; omega) | omega)).trans (rownew' _ _ _ _ (by simp)); have z1_2 : w.heap.size + 1 + 1 < w1.heap.size := Nat.lt_of_lt_of_le (by first | (simp; done) | (simp; omega) | omega) hb1.size; have c1_2_0 := rowcell R1_2 0; have c1_2_1 := rowcell R1_2 1; have c1_2_2 := rowcell R1_2 2; have c1_2_3 := rowcell R1_2 3; have c1_2_4 := rowcell R1_2 4; have c1_2_5 := rowcell R1_2 5; simp only [List.getElem?_toArray, List.getElem?_cons_zero, List.getElem?_cons_succ] at c1_2_0 c1_2_1 c1_2_2 c1_2_3 c1_2_4 c1_2_5; have HR1_2 : Hid _ := R1_2; clear R1_2; have HB1 : Hid (Below _ _ _) := hb1; clear hb1; have f2 := rowfree HR1_2.out))
  refine bodyPost_ret (v := .tuple #[.agg #[.int .i64 k, .bool neg, .int .i64 s, .int .u64 f, .int .u64 0, .bool false], .nilIface]) (by simp [results, Tryz.results12, go_sem, c2_2_0, c2_2_1, c2_2_2, c2_2_3, c2_2_4, c2_2_5, g2, z2_2]; done) rfl (hQ.out _ _ ⟨rfl, ?_⟩)
  first | exact cmore (cset6 (cthen (cmore (cthen (cmore (cmore (cmore (Below.refl _ _) _) _) _) HB1.out) _) HB2.out) (by omega)) _ | exact cset6 (cmore (cthen (cmore (cthen (cmore (cmore (cmore (Below.refl _ _) _) _) _) HB1.out) _) HB2.out) _) (by omega)
theorem ssum_b1 (k : Int) (neg : Bool) (s : Int) (f : Nat) (k' : Int) (neg' : Bool) (s' : Int) (g : Nat) (hf : f < 2 ^ 64) (hg : g < 2 ^ 64) (h1 : soundN k neg s f = true) (h2 : soundN k' neg' s' g = true) (hk : k ≠ 2) (hk' : k' ≠ 0) (hk2 : k' = 2) (w : World) :
    Calls Tryz.prog 12 #[numV k neg s f, numV k' neg' s' g] w fun e w' => e = .returned (.tuple #[exV k' neg' s' g 0 false, .nilIface]) ∧ Below w.heap.size w w' := by
  have k1 := rndof_ok k neg s f hf h1
  have k2 := rndof_ok k' neg' s' g hg h2
  have d1 : (k == 2) = false := beq_eq_false_iff_ne.2 hk
  have d2 : (k' == 0) = false := beq_eq_false_iff_ne.2 hk'
  have d3 : (k' == 2) = true := by rw [hk2]; rfl
  clear hk hk' hk2
  unfold numV exV at *
  rw [show ((0 : Nat) : Int) = 0 from rfl] at *
  refine cps fun Q hQ => ?_
  go_enter Tryz.func12, Tryz.ntmps12
  go_wp2_with (first
    | (go_at_call 20; have chk := HB1; go_must (refine (k2 _).mono ?_); rintro e w2 ⟨rfl, hb2⟩; have R2_0 := (hb2.block (w.heap.size) (by first | (simp; done) | (simp; omega) | omega)).trans ((Below.heap_alloc _ _ _ (by first | (simp; done) | (simp; omega) | omega)).trans HR1_0.out); have z2_0 : w.heap.size < w2.heap.size := Nat.lt_of_lt_of_le (by first | (simp; done) | (simp; omega) | omega) hb2.size; have c2_0_0 := rowcell R2_0 0; have c2_0_1 := rowcell R2_0 1; have c2_0_2 := rowcell R2_0 2; have c2_0_3 := rowcell R2_0 3; simp only [List.getElem?_toArray, List.getElem?_cons_zero, List.getElem?_cons_succ] at c2_0_0 c2_0_1 c2_0_2 c2_0_3; have HR2_0 : Hid _ := R2_0; clear R2_0; have R2_1 := (hb2.block (w.heap.size + 1) (by first | (simp; done) | (simp; omega) | omega)).trans ((Below.heap_alloc _ _ _ (by first | (simp; done) | (simp; omega) | omega)).trans HR1_1.out); have z2_1 : w.heap.size + 1 < w2.heap.size := Nat.lt_of_lt_of_le (by first | (simp; done) | (simp; omega) | omega) hb2.size; have c2_1_0 := rowcell R2_1 0; have c2_1_1 := rowcell R2_1 1; have c2_1_2 := rowcell R2_1 2; have c2_1_3 := rowcell R2_1 3; simp only [List.getElem?_toArray, List.getElem?_cons_zero, List.getElem?_cons_succ] at c2_1_0 c2_1_1 c2_1_2 c2_1_3; have HR2_1 : Hid _ := R2_1; clear R2_1; have R2_2 := (hb2.block (w.heap.size + 1 + 1) (by first | (simp; done) | (simp; omega) | omega)).trans ((Below.heap_alloc _ _ _ (by first | (simp; done) | (simp; omega) | omega)).trans HR1_2.out); have z2_2 : w.heap.size + 1 + 1 < w2.heap.size := Nat.lt_of_lt_of_le (by first | (simp; done) | (simp; omega) | omega) hb2.size; have c2_2_0 := rowcell R2_2 0; have c2_2_1 := rowcell R2_2 1; have c2_2_2 := rowcell R2_2 2; have c2_2_3 := rowcell R2_2 3; have c2_2_4 := rowcell R2_2 4; have c2_2_5 := rowcell R2_2 5; simp only [List.getElem?_toArray, List.getElem?_cons_zero, List.getElem?_cons_succ] at c2_2_0 c2_2_1 c2_2_2 c2_2_3 c2_2_4 c2_2_5; have HR2_2 : Hid _ := R2_2; clear R2_2; have R2_3 := (hb2.block (w1.heap.size) (by first | (simp; done) | (simp; omega) | omega)).trans (rownew' _ _ _ _ (by simp)); have z2_3 : w1.heap.size < w2.heap.size := Nat.lt_of_lt_of_le (by first | (simp; done) | (simp; omega) | omega) hb2.size; have c2_3_0 := rowcell R2_3 0; have c2_3_1 := rowcell R2_3 1; have c2_3_2 := rowcell R2_3 2; have c2_3_3 := rowcell R2_3 3; have c2_3_4 := rowcell R2_3 4; have c2_3_5 := rowcell R2_3 5; simp only [List.getElem?_toArray, List.getElem?_cons_zero, List.getElem?_cons_succ] at c2_3_0 c2_3_1 c2_3_2 c2_3_3 c2_3_4 c2_3_5; have HR2_3 : Hid _ := R2_3; clear R2_3; have HB2 : Hid (Below _ _ _) := hb2; clear hb2; have g2 := rowfree HR2_2.out)
    | (go_at_call 20; go_must (refine (k1 _).mono ?_); rintro e w1 ⟨rfl, hb1⟩; have R1_0 := (hb1.block (w.heap.size) (by first | (simp; done) | (simp; omega) | omega)).trans ((Below.heap_alloc _ _ _ (by first | (simp; done) | (simp; omega) | omega)).trans ((Below.heap_alloc _ _ _ (by first | (simp; done) | (simp; omega) | omega)).trans (rownew' _ _ _ _ (by simp)))); have z1_0 : w.heap.size < w1.heap.size := Nat.lt_of_lt_of_le (by first | (simp; done) | (simp; omega) | omega) hb1.size; have HR1_0 : Hid _ := R1_0; clear R1_0; have R1_1 := (hb1.block (w.heap.size + 1) (by first | (simp; done) | (simp; omega) | omega)).trans ((Below.heap_alloc _ _ _ (by first | (simp; done) | (simp; omega) | omega)).trans (rownew' _ _ _ _ (by simp))); have z1_1 : w.heap.size + 1 < w1.heap.size := Nat.lt_of_lt_of_le (by first | (simp; done) | (simp; omega) | omega) hb1.size; have c1_1_0 := rowcell R1_1 0; have c1_1_1 := rowcell R1_1 1; have c1_1_2 := rowcell R1_1 2; have c1_1_3 := rowcell R1_1 3; simp only [List.getElem?_toArray, List.getElem?_cons_zero, List.getElem?_cons_succ] at c1_1_0 c1_1_1 c1_1_2 c1_1_3; have HR1_1 : Hid _ := R1_1; clear R1_1; have R1_2 := (hb1.block (w.heap.size + 1 + 1) (by first | (simp; done) | (simp; omega) | omega)).trans (rownew' _ _ _ _ (by simp)); have z1_2 : w.heap.size + 1 + 1 < w1.heap.size := Nat.lt_of_lt_of_le (by first | (simp; done) | (simp; omega) | omega) hb1.size; have c1_2_0 := rowcell R1_2 0; have c1_2_1 := rowcell R1_2 1; have c1_2_2 := rowcell R1_2 2; have c1_2_3 := rowcell R1_2 3; have c1_2_4 := rowcell R1_2 4; have c1_2_5 := rowcell R1_2 5; simp only [List.getElem?_toArray, List.getElem?_cons_zero, List.getElem?_cons_succ] at c1_2_0 c1_2_1 c1_2_2 c1_2_3 c1_2_4 c1_2_5; have HR1_2 : Hid _ := R1_2; clear R1_2; have HB1 : Hid (Below _ _ _) := hb1; clear hb1; have f2 := rowfree HR1_2.out))
  refine bodyPost_ret (v := .tuple #[.agg #[.int .i64 k', .bool neg', .int .i64 s', .int .u64 g, .int .u64 0, .bool false], .nilIface]) (by simp [results, Tryz.results12, go_sem, c2_2_0, c2_2_1, c2_2_2, c2_2_3, c2_2_4, c2_2_5, g2, z2_2]; done) rfl (hQ.out _ _ ⟨rfl, ?_⟩)
  first | exact cmore (cset6 (cthen (cmore (cthen (cmore (cmore (cmore (Below.refl _ _) _) _) _) HB1.out) _) HB2.out) (by omega)) _ | exact cset6 (cmore (cthen (cmore (cthen (cmore (cmore (cmore (Below.refl _ _) _) _) _) HB1.out) _) HB2.out) _) (by omega)
theorem ssum_b2 (k : Int) (neg : Bool) (s : Int) (f : Nat) (k' : Int) (neg' : Bool) (s' : Int) (g : Nat) (hf : f < 2 ^ 64) (hg : g < 2 ^ 64) (h1 : soundN k neg s f = true) (h2 : soundN k' neg' s' g = true) (hk : k ≠ 2) (hk' : k' ≠ 0) (hk2 : k' ≠ 2) (hk0 : k = 0) (w : World) :
    Calls Tryz.prog 12 #[numV k neg s f, numV k' neg' s' g] w fun e w' => e = .returned (.tuple #[exV k' neg' s' g 0 false, .nilIface]) ∧ Below w.heap.size w w' := by
  have k1 := rndof_ok k neg s f hf h1
  have k2 := rndof_ok k' neg' s' g hg h2
  have d1 : (k == 2) = false := beq_eq_false_iff_ne.2 hk
  have d2 : (k' == 0) = false := beq_eq_false_iff_ne.2 hk'
  have d3 : (k' == 2) = false := beq_eq_false_iff_ne.2 hk2
  have d4 : (k == 0) = true := by rw [hk0]; rfl
  clear hk hk' hk2 hk0
  unfold numV exV at *
  rw [show ((0 : Nat) : Int) = 0 from rfl] at *
  refine cps fun Q hQ => ?_
  go_enter Tryz.func12, Tryz.ntmps12
  go_wp2_with (first
    | (go_at_call 20; have chk := HB1; go_must (refine (k2 _).mono ?_); rintro e w2 ⟨rfl, hb2⟩; have R2_0 := (hb2.block (w.heap.size) (by first | (simp; done) | (simp; omega) | omega)).trans ((Below.heap_alloc _ _ _ (by first | (simp; done) | (simp; omega) | omega)).trans HR1_0.out); have z2_0 : w.heap.size < w2.heap.size := Nat.lt_of_lt_of_le (by first | (simp; done) | (simp; omega) | omega) hb2.size; have c2_0_0 := rowcell R2_0 0; have c2_0_1 := rowcell R2_0 1; have c2_0_2 := rowcell R2_0 2; have c2_0_3 := rowcell R2_0 3; simp only [List.getElem?_toArray, List.getElem?_cons_zero, List.getElem?_cons_succ] at c2_0_0 c2_0_1 c2_0_2 c2_0_3; have HR2_0 : Hid _ := R2_0; clear R2_0; have R2_1 := (hb2.block (w.heap.size + 1) (by first | (simp; done) | (simp; omega) | omega)).trans ((Below.heap_alloc _ _ _ (by first | (simp; done) | (simp; omega) | omega)).trans HR1_1.out); have z2_1 : w.heap.size + 1 < w2.heap.size := Nat.lt_of_lt_of_le (by first | (simp; done) | (simp; omega) | omega) hb2.size; have c2_1_0 := rowcell R2_1 0; have c2_1_1 := rowcell R2_1 1; have c2_1_2 := rowcell R2_1 2; have c2_1_3 := rowcell R2_1 3; simp only [List.getElem?_toArray, List.getElem?_cons_zero, List.getElem?_cons_succ] at c2_1_0 c2_1_1 c2_1_2 c2_1_3; have HR2_1 : Hid _ := R2_1; clear R2_1; have R2_2 := (hb2.block (w.heap.size + 1 + 1) (by first | (simp; done) | (simp; omega) | omega)).trans ((Below.heap_alloc _ _ _ (by first | (simp; done) | (simp; omega) | omega)).trans HR1_2.out); have z2_2 : w.heap.size + 1 + 1 < w2.heap.size := Nat.lt_of_lt_of_le (by first | (simp; done) | (simp; omega) | omega) hb2.size; have c2_2_0 := rowcell R2_2 0; have c2_2_1 := rowcell R2_2 1; have c2_2_2 := rowcell R2_2 2; have c2_2_3 := rowcell R2_2 3; have c2_2_4 := rowcell R2_2 4; have c2_2_5 := rowcell R2_2 5; simp only [List.getElem?_toArray, List.getElem?_cons_zero, List.getElem?_cons_succ] at c2_2_0 c2_2_1 c2_2_2 c2_2_3 c2_2_4 c2_2_5; have HR2_2 : Hid _ := R2_2; clear R2_2; have R2_3 := (hb2.block (w1.heap.size) (by first | (simp; done) | (simp; omega) | omega)).trans (rownew' _ _ _ _ (by simp)); have z2_3 : w1.heap.size < w2.heap.size := Nat.lt_of_lt_of_le (by first | (simp; done) | (simp; omega) | omega) hb2.size; have c2_3_0 := rowcell R2_3 0; have c2_3_1 := rowcell R2_3 1; have c2_3_2 := rowcell R2_3 2; have c2_3_3 := rowcell R2_3 3; have c2_3_4 := rowcell R2_3 4; have c2_3_5 := rowcell R2_3 5; simp only [List.getElem?_toArray, List.getElem?_cons_zero, List.getElem?_cons_succ] at c2_3_0 c2_3_1 c2_3_2 c2_3_3 c2_3_4 c2_3_5; have HR2_3 : Hid _ := R2_3; clear R2_3; have HB2 : Hid (Below _ _ _) := hb2; clear hb2; have g2 := rowfree HR2_2.out)
    | (go_at_call 20; go_must (refine (k1 _).mono ?_); rintro e w1 ⟨rfl, hb1⟩; have R1_0 := (hb1.block (w.heap.size) (by first | (simp; done) | (simp; omega) | omega)).trans ((Below.heap_alloc _ _ _ (by first | (simp; done) | (simp; omega) | omega)).trans ((Below.heap_alloc _ _ _ (by first | (simp; done) | (simp; omega) | omega)).trans (rownew' _ _ _ _ (by simp)))); have z1_0 : w.heap.size < w1.heap.size := Nat.lt_of_lt_of_le (by first | (simp; done) | (simp; omega) | omega) hb1.size; have HR1_0 : Hid _ := R1_0; clear R1_0; have R1_1 := (hb1.block (w.heap.size + 1) (by first | (simp; done) | (simp; omega) | omega)).trans ((Below.heap_alloc _ _ _ (by first | (simp; done) | (simp; omega) | omega)).trans (rownew' _ _ _ _ (by simp))); have z1_1 : w.heap.size + 1 < w1.heap.size := Nat.lt_of_lt_of_le (by first | (simp; done) | (simp; omega) | omega) hb1.size; have c1_1_0 := rowcell R1_1 0; have c1_1_1 := rowcell R1_1 1; have c1_1_2 := rowcell R1_1 2; have c1_1_3 := rowcell R1_1 3; simp only [List.getElem?_toArray, List.getElem?_cons_zero, List.getElem?_cons_succ] at c1_1_0 c1_1_1 c1_1_2 c1_1_3; have HR1_1 : Hid _ := R1_1; clear R1_1; have R1_2 := (hb1.block (w.heap.size + 1 + 1) (by first | (simp; done) | (simp; omega) | omega)).trans (rownew' _ _ _ _ (by simp)); have z1_2 : w.heap.size + 1 + 1 < w1.heap.size := Nat.lt_of_lt_of_le (by first | (simp; done) | (simp; omega) | omega) hb1.size; have c1_2_0 := rowcell R1_2 0; have c1_2_1 := rowcell R1_2 1; have c1_2_2 := rowcell R1_2 2; have c1_2_3 := rowcell R1_2 3; have c1_2_4 := rowcell R1_2 4; have c1_2_5 := rowcell R1_2 5; simp only [List.getElem?_toArray, List.getElem?_cons_zero, List.getElem?_cons_succ] at c1_2_0 c1_2_1 c1_2_2 c1_2_3 c1_2_4 c1_2_5; have HR1_2 : Hid _ := R1_2; clear R1_2; have HB1 : Hid (Below _ _ _) := hb1; clear hb1; have f2 := rowfree HR1_2.out))
  refine bodyPost_ret (v := .tuple #[.agg #[.int .i64 k', .bool neg', .int .i64 s', .int .u64 g, .int .u64 0, .bool false], .nilIface]) (by simp [results, Tryz.results12, go_sem, c2_2_0, c2_2_1, c2_2_2, c2_2_3, c2_2_4, c2_2_5, g2, z2_2]; done) rfl (hQ.out _ _ ⟨rfl, ?_⟩)
  first | exact cmore (cset6 (cthen (cmore (cthen (cmore (cmore (cmore (Below.refl _ _) _) _) _) HB1.out) _) HB2.out) (by omega)) _ | exact cset6 (cmore (cthen (cmore (cthen (cmore (cmore (cmore (Below.refl _ _) _) _) _) HB1.out) _) HB2.out) _) (by omega)
theorem ssum_r (k : Int) (neg : Bool) (s : Int) (f : Nat) (k' : Int) (neg' : Bool) (s' : Int) (g : Nat) (hf : f < 2 ^ 64) (hg : g < 2 ^ 64) (h1 : soundN k neg s f = true) (h2 : soundN k' neg' s' g = true) (hk : k ≠ 2) (hk' : k' ≠ 0) (hk2 : k' ≠ 2) (hk0 : k ≠ 0) (K : Int) (B : Bool) (S : Int) (H L : Nat) (R : Bool) (k3 : ∀ w, Calls Tryz.prog 21 #[numV k neg s f, numV k' neg' s' g] w fun e w' => e = .returned (exV K B S H L R) ∧ Below w.heap.size w w') (w : World) :
    Calls Tryz.prog 12 #[numV k neg s f, numV k' neg' s' g] w fun e w' => e = .returned (.tuple #[exV K B S H L R, .nilIface]) ∧ Below w.heap.size w w' := by
  have k1 := rndof_ok k neg s f hf h1
  have k2 := rndof_ok k' neg' s' g hg h2
  have d1 : (k == 2) = false := beq_eq_false_iff_ne.2 hk
  have d2 : (k' == 0) = false := beq_eq_false_iff_ne.2 hk'
  have d3 : (k' == 2) = false := beq_eq_false_iff_ne.2 hk2
  have d4 : (k == 0) = false := beq_eq_false_iff_ne.2 hk0
  clear hk hk' hk2 hk0
  unfold numV exV at *
  rw [show ((0 : Nat) : Int) = 0 from rfl] at *
  refine cps fun Q hQ => ?_
  go_enter Tryz.func12, Tryz.ntmps12
  go_wp2_with (first
    | (go_at_call 20; have chk := HB1; go_must (refine (k2 _).mono ?_); rintro e w2 ⟨rfl, hb2⟩; have R2_0 := (hb2.block (w.heap.size) (by first | (simp; done) | (simp; omega) | omega)).trans ((Below.heap_alloc _ _ _ (by first | (simp; done) | (simp; omega) | omega)).trans HR1_0.out); have z2_0 : w.heap.size < w2.heap.size := Nat.lt_of_lt_of_le (by first | (simp; done) | (simp; omega) | omega) hb2.size; have c2_0_0 := rowcell R2_0 0; have c2_0_1 := rowcell R2_0 1; have c2_0_2 := rowcell R2_0 2; have c2_0_3 := rowcell R2_0 3; simp only [List.getElem?_toArray, List.getElem?_cons_zero, List.getElem?_cons_succ] at c2_0_0 c2_0_1 c2_0_2 c2_0_3; have HR2_0 : Hid _ := R2_0; clear R2_0; have R2_1 := (hb2.block (w.heap.size + 1) (by first | (simp; done) | (simp; omega) | omega)).trans ((Below.heap_alloc _ _ _ (by first | (simp; done) | (simp; omega) | omega)).trans HR1_1.out); have z2_1 : w.heap.size + 1 < w2.heap.size := Nat.lt_of_lt_of_le (by first | (simp; done) | (simp; omega) | omega) hb2.size; have c2_1_0 := rowcell R2_1 0; have c2_1_1 := rowcell R2_1 1; have c2_1_2 := rowcell R2_1 2; have c2_1_3 := rowcell R2_1 3; simp only [List.getElem?_toArray, List.getElem?_cons_zero, List.getElem?_cons_succ] at c2_1_0 c2_1_1 c2_1_2 c2_1_3; have HR2_1 : Hid _ := R2_1; clear R2_1; have R2_2 := (hb2.block (w.heap.size + 1 + 1) (by first | (simp; done) | (simp; omega) | omega)).trans ((Below.heap_alloc _ _ _ (by first | (simp; done) | (simp; omega) | omega)).trans HR1_2.out); have z2_2 : w.heap.size + 1 + 1 < w2.heap.size := Nat.lt_of_lt_of_le (by first | (simp; done) | (simp; omega) | omega) hb2.size; have c2_2_0 := rowcell R2_2 0; have c2_2_1 := rowcell R2_2 1; have c2_2_2 := rowcell R2_2 2; have c2_2_3 := rowcell R2_2 3; have c2_2_4 := rowcell R2_2 4; have c2_2_5 := rowcell R2_2 5; simp only [List.getElem?_toArray, List.getElem?_cons_zero, List.getElem?_cons_succ] at c2_2_0 c2_2_1 c2_2_2 c2_2_3 c2_2_4 c2_2_5; have HR2_2 : Hid _ := R2_2; clear R2_2; have R2_3 := (hb2.block (w1.heap.size) (by first | (simp; done) | (simp; omega) | omega)).trans (rownew' _ _ _ _ (by simp)); have z2_3 : w1.heap.size < w2.heap.size := Nat.lt_of_lt_of_le (by first | (simp; done) | (simp; omega) | omega) hb2.size; have c2_3_0 := rowcell R2_3 0; have c2_3_1 := rowcell R2_3 1; have c2_3_2 := rowcell R2_3 2; have c2_3_3 := rowcell R2_3 3; have c2_3_4 := rowcell R2_3 4; have c2_3_5 := rowcell R2_3 5; simp only [List.getElem?_toArray, List.getElem?_cons_zero, List.getElem?_cons_succ] at c2_3_0 c2_3_1 c2_3_2 c2_3_3 c2_3_4 c2_3_5; have HR2_3 : Hid _ := R2_3; clear R2_3; have HB2 : Hid (Below _ _ _) := hb2; clear hb2; have g2 := rowfree HR2_2.out)
    | (go_at_call 20; go_must (refine (k1 _).mono ?_); rintro e w1 ⟨rfl, hb1⟩; have R1_0 := (hb1.block (w.heap.size) (by first | (simp; done) | (simp; omega) | omega)).trans ((Below.heap_alloc _ _ _ (by first | (simp; done) | (simp; omega) | omega)).trans ((Below.heap_alloc _ _ _ (by first | (simp; done) | (simp; omega) | omega)).trans (rownew' _ _ _ _ (by simp)))); have z1_0 : w.heap.size < w1.heap.size := Nat.lt_of_lt_of_le (by first | (simp; done) | (simp; omega) | omega) hb1.size; have HR1_0 : Hid _ := R1_0; clear R1_0; have R1_1 := (hb1.block (w.heap.size + 1) (by first | (simp; done) | (simp; omega) | omega)).trans ((Below.heap_alloc _ _ _ (by first | (simp; done) | (simp; omega) | omega)).trans (rownew' _ _ _ _ (by simp))); have z1_1 : w.heap.size + 1 < w1.heap.size := Nat.lt_of_lt_of_le (by first | (simp; done) | (simp; omega) | omega) hb1.size; have c1_1_0 := rowcell R1_1 0; have c1_1_1 := rowcell R1_1 1; have c1_1_2 := rowcell R1_1 2; have c1_1_3 := rowcell R1_1 3; simp only [List.getElem?_toArray, List.getElem?_cons_zero, List.getElem?_cons_succ] at c1_1_0 c1_1_1 c1_1_2 c1_1_3; have HR1_1 : Hid _ := R1_1; clear R1_1; have R1_2 := (hb1.block (w.heap.size + 1 + 1) (by first | (simp; done) | (simp; omega) | omega)).trans (rownew' _ _ _ _ (by simp)); have z1_2 : w.heap.size + 1 + 1 < w1.heap.size := Nat.lt_of_lt_of_le (by first | (simp; done) | (simp; omega) | omega) hb1.size; have c1_2_0 := rowcell R1_2 0; have c1_2_1 := rowcell R1_2 1; have c1_2_2 := rowcell R1_2 2; have c1_2_3 := rowcell R1_2 3; have c1_2_4 := rowcell R1_2 4; have c1_2_5 := rowcell R1_2 5; simp only [List.getElem?_toArray, List.getElem?_cons_zero, List.getElem?_cons_succ] at c1_2_0 c1_2_1 c1_2_2 c1_2_3 c1_2_4 c1_2_5; have HR1_2 : Hid _ := R1_2; clear R1_2; have HB1 : Hid (Below _ _ _) := hb1; clear hb1; have f2 := rowfree HR1_2.out)
    | (go_at_call 21; go_must (refine (k3 _).mono ?_); rintro e w3 ⟨rfl, hb3⟩; have R3_0 := (hb3.block (w.heap.size) (by first | (simp; done) | (simp; omega) | omega)).trans ((Below.heap_alloc _ _ _ (by first | (simp; done) | (simp; omega) | omega)).trans HR2_0.out); have z3_0 : w.heap.size < w3.heap.size := Nat.lt_of_lt_of_le (by first | (simp; done) | (simp; omega) | omega) hb3.size; have HR3_0 : Hid _ := R3_0; clear R3_0; have R3_1 := (hb3.block (w.heap.size + 1) (by first | (simp; done) | (simp; omega) | omega)).trans ((Below.heap_alloc _ _ _ (by first | (simp; done) | (simp; omega) | omega)).trans HR2_1.out); have z3_1 : w.heap.size + 1 < w3.heap.size := Nat.lt_of_lt_of_le (by first | (simp; done) | (simp; omega) | omega) hb3.size; have HR3_1 : Hid _ := R3_1; clear R3_1; have R3_2 := (hb3.block (w.heap.size + 1 + 1) (by first | (simp; done) | (simp; omega) | omega)).trans ((Below.heap_alloc _ _ _ (by first | (simp; done) | (simp; omega) | omega)).trans HR2_2.out); have z3_2 : w.heap.size + 1 + 1 < w3.heap.size := Nat.lt_of_lt_of_le (by first | (simp; done) | (simp; omega) | omega) hb3.size; have c3_2_0 := rowcell R3_2 0; have c3_2_1 := rowcell R3_2 1; have c3_2_2 := rowcell R3_2 2; have c3_2_3 := rowcell R3_2 3; have c3_2_4 := rowcell R3_2 4; have c3_2_5 := rowcell R3_2 5; simp only [List.getElem?_toArray, List.getElem?_cons_zero, List.getElem?_cons_succ] at c3_2_0 c3_2_1 c3_2_2 c3_2_3 c3_2_4 c3_2_5; have HR3_2 : Hid _ := R3_2; clear R3_2; have R3_3 := (hb3.block (w1.heap.size) (by first | (simp; done) | (simp; omega) | omega)).trans ((Below.heap_alloc _ _ _ (by first | (simp; done) | (simp; omega) | omega)).trans HR2_3.out); have z3_3 : w1.heap.size < w3.heap.size := Nat.lt_of_lt_of_le (by first | (simp; done) | (simp; omega) | omega) hb3.size; have HR3_3 : Hid _ := R3_3; clear R3_3; have R3_4 := (hb3.block (w2.heap.size) (by first | (simp; done) | (simp; omega) | omega)).trans (rownew' _ _ _ _ (by simp)); have z3_4 : w2.heap.size < w3.heap.size := Nat.lt_of_lt_of_le (by first | (simp; done) | (simp; omega) | omega) hb3.size; have HR3_4 : Hid _ := R3_4; clear R3_4; have HB3 : Hid (Below _ _ _) := hb3; clear hb3; have e2 := rowfree HR3_2.out))
  refine bodyPost_ret (v := .tuple #[.agg #[.int .i64 K, .bool B, .int .i64 S, .int .u64 H, .int .u64 L, .bool R], .nilIface]) (by simp [results, Tryz.results12, go_sem, c3_2_0, c3_2_1, c3_2_2, c3_2_3, c3_2_4, c3_2_5, e2, z3_2]; done) rfl (hQ.out _ _ ⟨rfl, ?_⟩)
  exact cset6 (cthen (cmore (cthen (cmore (cthen (cmore (cmore (cmore (Below.refl _ _) _) _) _) HB1.out) _) HB2.out) _) HB3.out) (by omega)
theorem ssum_bad (k : Int) (neg : Bool) (s : Int) (f : Nat) (k' : Int) (neg' : Bool) (s' : Int) (g : Nat) (hf : f < 2 ^ 64) (hg : g < 2 ^ 64) (h : (soundN k neg s f && soundN k' neg' s' g) = false) (w : World) :
    Calls Tryz.prog 12 #[numV k neg s f, numV k' neg' s' g] w fun e w' => e = .returned (.tuple #[exV 0 false 0 0 0 false, codeV 1]) ∧ Below w.heap.size w w' := by
  cases h1 : soundN k neg s f
  · exact ssum_bad1 k neg s f k' neg' s' g hf hg h1 w
  · cases h2 : soundN k' neg' s' g
    · exact ssum_bad2 k neg s f k' neg' s' g hf hg h1 h2 w
    · rw [h1, h2] at h; cases h
theorem ssum_ok (k : Int) (neg : Bool) (s : Int) (f : Nat) (k' : Int) (neg' : Bool) (s' : Int) (g : Nat) (hf : f < 2 ^ 64) (hg : g < 2 ^ 64) (h1 : soundN k neg s f = true) (h2 : soundN k' neg' s' g = true) (w : World) :
    Calls Tryz.prog 12 #[numV k neg s f, numV k' neg' s' g] w fun e w' => e = .returned (.tuple #[sum9 k neg s f 0 k' neg' s' g 0, .nilIface]) ∧ Below w.heap.size w w' := by
  have cs : ∀ (k : Int) (neg : Bool) (s : Int) (f : Nat), soundN k neg s f = true → ((k = 0 ∨ k = 2) ∧ neg = false ∧ s = 0 ∧ f = 0) ∨ k = 1 := fun k neg s f h => by
    unfold soundN at h
    by_cases c : k = 0 ∨ k = 2
    · rw [if_pos c] at h; exact .inl ⟨c, of_decide_eq_true h⟩
    · rw [if_neg c] at h; exact .inr (of_decide_eq_true h).1
  unfold sum9
  by_cases a2 : k = 2
  · rw [if_pos (.inl a2)]
    rcases cs k neg s f h1 with ⟨_, rfl, rfl, rfl⟩ | c
    · have := ssum_a1 k false 0 0 k' neg' s' g hf hg h1 h2 a2 w
      rw [a2] at this ⊢; exact this
    · omega
  · by_cases b2 : k' = 2
    · rw [if_pos (.inr b2)]
      rcases cs k' neg' s' g h2 with ⟨_, rfl, rfl, rfl⟩ | c
      · have := ssum_b1 k neg s f k' false 0 0 hf hg h1 h2 a2 (by omega) b2 w
        rw [b2] at this ⊢; exact this
      · omega
    · rw [if_neg (by omega)]
      by_cases b0 : k' = 0
      · have hr : (if k = 0 then exV k' neg' s' g 0 false else if k' = 0 then exV k neg s f 0 false else sumR neg s (manX f 0) neg' s' (manX g 0)) = exV k neg s f 0 false := by
          by_cases a0 : k = 0
          · rw [if_pos a0]
            rcases cs k neg s f h1 with ⟨_, rfl, rfl, rfl⟩ | c
            · rcases cs k' neg' s' g h2 with ⟨_, rfl, rfl, rfl⟩ | c
              · rw [a0, b0]
              · omega
            · omega
          · rw [if_neg a0, if_pos b0]
        rw [hr]
        exact ssum_a2 k neg s f k' neg' s' g hf hg h1 h2 a2 b0 w
      · by_cases a0 : k = 0
        · rw [if_pos a0]
          exact ssum_b2 k neg s f k' neg' s' g hf hg h1 h2 a2 b0 b2 a0 w
        · rw [if_neg a0, if_neg b0]
          obtain rfl : k = 1 := by rcases cs k neg s f h1 with ⟨c, _⟩ | c <;> omega
          obtain rfl : k' = 1 := by rcases cs k' neg' s' g h2 with ⟨c, _⟩ | c <;> omega
          obtain ⟨K, B, S, H, L, R, hform⟩ := sumR_form neg s (manX f 0) neg' s' (manX g 0)
          have k3 := fun w => sreals_any neg s f neg' s' g hf hg h1 h2 w
          rw [hform] at k3 ⊢
          exact ssum_r 1 neg s f 1 neg' s' g hf hg h1 h2 a2 b0 b2 a0 K B S H L R k3 w
/-! ### Add, Sub -/
theorem cdecode_v (n x : Nat) (hn : Wd n) (hx : x < 2 ^ 64) (w : World) :
    Calls Tryz.prog 11 #[.int .i64 n, .int .u64 x] w fun e w' => e = .returned (.tuple #[numV (vK n x) (vB n x) (vS n x) (vF n x), .nilIface]) ∧ Below w.heap.size w w' := by
  unfold vK vB vS vF
  by_cases hk : kindOf n (x % 2 ^ n) = 1
  · rw [if_pos hk, if_pos hk, if_pos hk]
    have := cdecode_real n x hn hx hk w
    rwa [← hk] at this
  · rw [if_neg hk, if_neg hk, if_neg hk]
    exact cdecode_other n x hn hx hk w
theorem sadd_no (n : Int) (a b : Nat) (hn : isW n = false) (w : World) :
    Calls Tryz.prog 6 #[.int .i64 n, .int .u64 a, .int .u64 b] w fun e w' => e = .returned (.tuple #[.int .u64 0, codeV 2]) ∧ Below w.heap.size w w' := by
  have k1 := cdecode_no n a hn
  clear hn
  unfold numV at *
  refine cps fun Q hQ => ?_
  go_enter Tryz.func6, Tryz.ntmps6
  go_wp2_with (go_at_call 11; go_must (refine (k1 _).mono ?_); rintro e w1 ⟨rfl, hb1⟩)
  exact hQ.out _ _ ⟨rfl, cmore hb1 _⟩
theorem sadd_ok (n a b : Nat) (hn : Wd n) (ha : a < 2 ^ 64) (hb : b < 2 ^ 64) (w : World) :
    Calls Tryz.prog 6 #[.int .i64 n, .int .u64 a, .int .u64 b] w fun e w' => e = .returned (.tuple #[.int .u64 (patS n a b : Nat), .nilIface]) ∧ Below w.heap.size w w' := by
  have k1 := cdecode_v n a hn ha
  have k2 := cdecode_v n b hn hb
  have k3 := ssum_ok (vK n a) (vB n a) (vS n a) (vF n a) (vK n b) (vB n b) (vS n b) (vF n b) (vF_lt n a) (vF_lt n b) (sound_v n a hn ha) (sound_v n b hn hb)
  rw [sum9_val n a b hn ha hb] at k3
  have k4 : ∀ w, Calls Tryz.prog 13 #[.int .i64 n, if vK n a = 2 ∨ vK n b = 2 then exV 2 false 0 0 0 false else exI (valI n a + valI n b) eN] w fun r w' => r = .returned (.tuple #[.int .u64 (patS n a b : Nat), .nilIface]) ∧ Below w.heap.size w w' := by
    intro w
    unfold patS
    by_cases h : vK n a = 2 ∨ vK n b = 2
    · rw [if_pos h, if_pos h]; exact rround_nar n hn w
    · rw [if_neg h, if_neg h]; exact rround_exI n _ _ hn w
  have hform : ∃ K B S H L R, (if vK n a = 2 ∨ vK n b = 2 then exV 2 false 0 0 0 false else exI (valI n a + valI n b) eN) = exV K B S H L R := by
    by_cases h : vK n a = 2 ∨ vK n b = 2
    · rw [if_pos h]; exact ⟨_, _, _, _, _, _, rfl⟩
    · rw [if_neg h]; exact exI_form _ _
  obtain ⟨K, B, S, H, L, R, hform⟩ := hform
  rw [hform] at k3 k4
  clear hform hn ha hb
  generalize patS n a b = P at *
  generalize vK n a = ka at *
  generalize vB n a = ba at *
  generalize vS n a = sa at *
  generalize vF n a = fa at *
  generalize vK n b = kb at *
  generalize vB n b = bb at *
  generalize vS n b = sb at *
  generalize vF n b = fb at *
  unfold numV exV at *
  refine cps fun Q hQ => ?_
  go_enter Tryz.func6, Tryz.ntmps6
  go_wp2_with (first
    | (go_at_call 11; have chk := HB1; go_must (refine (k2 _).mono ?_); rintro e w2 ⟨rfl, hb2⟩; have R2_0 := (hb2.block (w1.heap.size) (by first | (simp; done) | (simp; omega) | omega)).trans (rownew' _ _ _ _ (by simp)); have z2_0 : w1.heap.size < w2.heap.size := Nat.lt_of_lt_of_le (by first | (simp; done) | (simp; omega) | omega) hb2.size; have c2_0_0 := rowcell R2_0 0; have c2_0_1 := rowcell R2_0 1; have c2_0_2 := rowcell R2_0 2; have c2_0_3 := rowcell R2_0 3; simp only [List.getElem?_toArray, List.getElem?_cons_zero, List.getElem?_cons_succ] at c2_0_0 c2_0_1 c2_0_2 c2_0_3; have HR2_0 : Hid _ := R2_0; clear R2_0; have HB2 : Hid (Below _ _ _) := hb2; clear hb2)
    | (go_at_call 11; go_must (refine (k1 _).mono ?_); rintro e w1 ⟨rfl, hb1⟩; have HB1 : Hid (Below _ _ _) := hb1; clear hb1)
    | (go_at_call 12; go_must (refine (k3 _).mono ?_); rintro e w3 ⟨rfl, hb3⟩; have R3_0 := (hb3.block (w1.heap.size) (by first | (simp; done) | (simp; omega) | omega)).trans ((Below.heap_alloc _ _ _ (by first | (simp; done) | (simp; omega) | omega)).trans HR2_0.out); have z3_0 : w1.heap.size < w3.heap.size := Nat.lt_of_lt_of_le (by first | (simp; done) | (simp; omega) | omega) hb3.size; have HR3_0 : Hid _ := R3_0; clear R3_0; have R3_1 := (hb3.block (w2.heap.size) (by first | (simp; done) | (simp; omega) | omega)).trans (rownew' _ _ _ _ (by simp)); have z3_1 : w2.heap.size < w3.heap.size := Nat.lt_of_lt_of_le (by first | (simp; done) | (simp; omega) | omega) hb3.size; have HR3_1 : Hid _ := R3_1; clear R3_1; have HB3 : Hid (Below _ _ _) := hb3; clear hb3)
    | (go_at_call 13; go_must (refine (k4 _).mono ?_); rintro e w4 ⟨rfl, hb4⟩; have R4_0 := (hb4.block (w1.heap.size) (by first | (simp; done) | (simp; omega) | omega)).trans ((Below.heap_alloc _ _ _ (by first | (simp; done) | (simp; omega) | omega)).trans HR3_0.out); have z4_0 : w1.heap.size < w4.heap.size := Nat.lt_of_lt_of_le (by first | (simp; done) | (simp; omega) | omega) hb4.size; have HR4_0 : Hid _ := R4_0; clear R4_0; have R4_1 := (hb4.block (w2.heap.size) (by first | (simp; done) | (simp; omega) | omega)).trans ((Below.heap_alloc _ _ _ (by first | (simp; done) | (simp; omega) | omega)).trans HR3_1.out); have z4_1 : w2.heap.size < w4.heap.size := Nat.lt_of_lt_of_le (by first | (simp; done) | (simp; omega) | omega) hb4.size; have HR4_1 : Hid _ := R4_1; clear R4_1; have R4_2 := (hb4.block (w3.heap.size) (by first | (simp; done) | (simp; omega) | omega)).trans (rownew' _ _ _ _ (by simp)); have z4_2 : w3.heap.size < w4.heap.size := Nat.lt_of_lt_of_le (by first | (simp; done) | (simp; omega) | omega) hb4.size; have HR4_2 : Hid _ := R4_2; clear R4_2; have HB4 : Hid (Below _ _ _) := hb4; clear hb4))
  exact hQ.out _ _ ⟨rfl, cthen (cmore (cthen (cmore (cthen (cmore (cthen (Below.refl _ _) HB1.out) _) HB2.out) _) HB3.out) _) HB4.out⟩
theorem ssub_walk (n : Int) (a b c : Nat) (P : Int) (v : Value) (hw : IntKind.u64.wrap (-(b : Int)) = (c : Int)) (k1 : ∀ w, Calls Tryz.prog 6 #[.int .i64 n, .int .u64 a, .int .u64 c] w fun e w' => e = .returned (.tuple #[.int .u64 P, v]) ∧ Below w.heap.size w w') (w : World) :
    Calls Tryz.prog 9 #[.int .i64 n, .int .u64 a, .int .u64 b] w fun e w' => e = .returned (.tuple #[.int .u64 P, v]) ∧ Below w.heap.size w w' := by
  refine cps fun Q hQ => ?_
  go_enter Tryz.func9, Tryz.ntmps9
  go_wp2_with (go_at_call 6; go_must (refine (k1 _).mono ?_); rintro e w1 ⟨rfl, hb1⟩)
  exact hQ.out _ _ ⟨rfl, hb1⟩
theorem ssub_no (n : Int) (a b : Nat) (hn : isW n = false) (w : World) :
    Calls Tryz.prog 9 #[.int .i64 n, .int .u64 a, .int .u64 b] w fun e w' => e = .returned (.tuple #[.int .u64 0, codeV 2]) ∧ Below w.heap.size w w' :=
  ssub_walk n a b (IntKind.u64.wrap (-(b : Int))).toNat 0 _ (by rw [IntKind.wrap_u64]; omega) (sadd_no n a _ hn) w
theorem patS_minusU (n a b : Nat) (hn : Wd n) (hb : b < 2 ^ 64) : patS n a (minusU b) = patS n a (negO n b) := by
  have hw := wd_le hn
  have e : minusU b % 2 ^ n = negO n b % 2 ^ n := by unfold negO; rw [Nat.mod_mod]
  have hv := val_mod n (minusU b) (negO n b) hn (minusU_lt b) (negO_lt64 n b hn) e
  have hk : vK n (minusU b) = vK n (negO n b) := by unfold vK; rw [e]
  unfold patS
  rw [hv, hk]
theorem ssub_ok (n a b : Nat) (hn : Wd n) (ha : a < 2 ^ 64) (hb : b < 2 ^ 64) (w : World) :
    Calls Tryz.prog 9 #[.int .i64 n, .int .u64 a, .int .u64 b] w fun e w' => e = .returned (.tuple #[.int .u64 (patS n a (negO n b) : Nat), .nilIface]) ∧ Below w.heap.size w w' := by
  rw [← patS_minusU n a b hn hb]
  exact ssub_walk n a b (minusU b) _ _ (minusU_wrap b hb) (sadd_ok n a (minusU b) hn ha (minusU_lt b)) w
end Go.Proofs.YtmkdnhdbgoehgaaGreat

namespace Go.Proofs.YtmkdnhdbgoehgaaGreat
/-! ### the contracts of package sum stand in SmI -/
end Go.Proofs.YtmkdnhdbgoehgaaGreat

namespace Go.Proofs.YtmkdnhdbgoehgaaGreat
open Go.ChangeShapes Go.WideShapes Go.ChangeAt Go.RowKit
set_option linter.unusedVariables false
set_option linter.unusedSimpArgs false
set_option maxRecDepth 100000

/-- the head of all laws of this layer -/
theorem sumup_any (w : World) : Calls Tryz.prog 5 #[] w fun e w' => e = .returned (.bool true) ∧ Below w.heap.size w w' := by
  have k1 := fun w => sadd_ok 8 64 64 (.inl rfl) (by decide) (by decide) w
  have k2 := fun w => ssub_ok 8 1 127 (.inl rfl) (by decide) (by decide) w
  rw [show patS 8 64 64 = 72 by decide +kernel] at k1
  rw [show patS 8 1 (negO 8 127) = 129 by decide +kernel] at k2
  rw [show ((64 : Nat) : Int) = 64 from rfl, show ((8 : Nat) : Int) = 8 from rfl, show ((72 : Nat) : Int) = 72 from rfl] at k1
  rw [show ((1 : Nat) : Int) = 1 from rfl, show ((8 : Nat) : Int) = 8 from rfl, show ((127 : Nat) : Int) = 127 from rfl, show ((129 : Nat) : Int) = 129 from rfl] at k2
  refine cps fun Q hQ => ?_
  go_enter Tryz.func5, Tryz.ntmps5
  go_wp2_with (first
    | (go_at_call 6; refine (k1 _).mono ?_; rintro e w1 ⟨rfl, hb1⟩)
    | (go_at_call 9; refine (k2 _).mono ?_; rintro e w2 ⟨rfl, hb2⟩))
  exact hQ.out _ _ ⟨rfl, cthen hb1 hb2⟩
theorem nil_not_code (w : World) (c : Int) : (binOp BinOp.eql 25 .nilIface (.iface 43 (.int .i64 c))).run Tryz.prog w = .ok (.bool false) w := by kernel_rfl
end Go.Proofs.YtmkdnhdbgoehgaaGreat
