import Derived.Test.YtheliihkkoohnaaGreatJoin6
import Derived.Test.YtheliihkkoohnaaGreatJoin4
import Derived.Test.YtheliihkkoohnaaGreatJoin2
import Derived.Test.YtheliihkkoohnaaGreatJoin3
import Derived.Test.YtheliihkkoohnaaGreatJoin1
import Derived.Laws.AppendOwnNone
import Derived.Deep.CutBlock
import Derived.Deep.CutRange
namespace Go.Proofs.YtheliihkkoohnaaGreat
open Go.ChangeShapes Go.WideShapes Go.ChangeAt Go.RowKit
set_option linter.unusedVariables false
set_option linter.unusedSimpArgs false
set_option maxRecDepth 100000

/-! ### values and ranks (plain mathematics) -/
theorem val_mod (n x y : Nat) (hn : Wd n) (hx : x < 2 ^ 64) (hy : y < 2 ^ 64) (h : x % 2 ^ n = y % 2 ^ n) : valI n x = valI n y := by
  have e : minusU x % 2 ^ n = (2 ^ n - x % 2 ^ n) % 2 ^ n := minusU_mod n x hn hx
  have a := (val_neg n x (minusU x) hn hx (minusU_lt x) e).2.1
  have b := (val_neg n y (minusU x) hn hy (minusU_lt x) (by rw [e, h])).2.1
  omega
/-! ### numbers ahead of their rounding -/
theorem exI_cases (T e : Int) : (T = 0 ∧ exI T e = exV 0 false 0 0 0 false) ∨ (T ≠ 0 ∧ ∃ neg s hi lo r, exI T e = exV 1 neg s hi lo r ∧ WordsX hi lo ∧ soundX 1 neg s hi lo r = true) := by
  by_cases h : T = 0
  · subst h; exact .inl ⟨rfl, exactV_zero _ _ _⟩
  · refine .inr ⟨h, ?_⟩
    have h0 : T.natAbs ≠ 0 := by omega
    have hwd := normN_words h0
    have hb := heldX_bounds (e + blen T.natAbs - 1)
    refine ⟨decide (T < 0), heldX (e + blen T.natAbs - 1), normN T.natAbs / 2 ^ 64 % 2 ^ 64, normN T.natAbs % 2 ^ 64, (false || lostN T.natAbs), by unfold exI exactV; rw [if_neg h0], hwd, ?_⟩
    unfold soundX
    rw [if_neg (by decide)]
    exact decide_eq_true ⟨rfl, hwd.top, hb.1, hb.2⟩
theorem rround_exI (n : Nat) (T e : Int) (hn : Wd n) (w : World) :
    Calls Tryz.prog 20 #[.int .i64 n, exI T e] w fun r w' => r = .returned (.tuple #[.int .u64 (patI n T e : Nat), .nilIface]) ∧ Below w.heap.size w w' := by
  rcases exI_cases T e with ⟨h, h2⟩ | ⟨h, neg, s, hi, lo, r, h2, hwd, hs⟩
  · rw [h2]
    have : patI n T e = 0 := by unfold patI; rw [if_pos h]
    rw [this]
    exact rround_zero n hn w
  · rw [h2, patI_of h h2]
    exact rround_real n neg s hi lo r hn hs hwd w
theorem rounds7_exI (n : Nat) (T e : Int) (hn : Wd n) (w : World) :
    Calls Tryz.prog 40 #[.int .i64 n, exI T e] w fun r w' => r = .returned (.tuple #[.int .u64 (patI n T e : Nat), .int .i64 0]) ∧ Below w.heap.size w w' := by
  rcases exI_cases T e with ⟨h, h2⟩ | ⟨h, neg, s, hi, lo, r, h2, hwd, hs⟩
  · rw [h2]
    have : patI n T e = 0 := by unfold patI; rw [if_pos h]
    rw [this]
    exact rounds7_plain n 0 0 w (cut7_zero n hn)
  · rw [h2, patI_of h h2]
    exact rounds7_real n neg s hi lo r hn hs hwd w
theorem exI_form (T e : Int) : ∃ k b s h l r, exI T e = exV k b s h l r := exactV_form _ _ _ _
theorem round7_exI (n : Nat) (T e : Int) (hn : Wd n) (w : World) :
    Calls Tryz.prog 25 #[.int .i64 n, exI T e] w fun r w' => r = .returned (.int .u64 (patI n T e : Nat)) ∧ Below w.heap.size w w' := by
  have k1 := rounds7_exI n T e hn
  obtain ⟨k, b, s, h, l, r, hf⟩ := exI_form T e
  rw [hf] at k1 ⊢
  clear hf hn
  generalize patI n T e = P at *
  unfold exV at *
  refine cps fun Q hQ => ?_
  go_enter Tryz.func25, Tryz.ntmps25
  go_wp2_with (go_at_call 40; refine (k1 _).mono ?_; rintro e w1 ⟨rfl, hb1⟩)
  exact hQ.out _ _ ⟨rfl, cthen (cmore (Below.refl _ _) _) hb1⟩
theorem round7_nar (n : Nat) (hn : Wd n) (w : World) :
    Calls Tryz.prog 25 #[.int .i64 n, exV 2 false 0 0 0 false] w fun r w' => r = .returned (.int .u64 (2 ^ (n - 1) : Nat)) ∧ Below w.heap.size w w' := by
  have k1 := fun w => rounds7_plain n 2 (2 ^ (n - 1)) w (cut7_nar n hn)
  clear hn
  generalize 2 ^ (n - 1) = P at *
  unfold exV at *
  refine cps fun Q hQ => ?_
  go_enter Tryz.func25, Tryz.ntmps25
  go_wp2_with (go_at_call 40; refine (k1 _).mono ?_; rintro e w1 ⟨rfl, hb1⟩)
  exact hQ.out _ _ ⟨rfl, cthen (cmore (Below.refl _ _) _) hb1⟩
/-! ### the document's Sum of any two -/
def sum9 (k : Int) (neg : Bool) (s : Int) (hi lo : Nat) (k' : Int) (neg' : Bool) (s' : Int) (hi' lo' : Nat) : Value :=
  if k = 2 ∨ k' = 2 then exV 2 false 0 0 0 false
  else if k = 0 then exV k' neg' s' hi' lo' false
  else if k' = 0 then exV k neg s hi lo false
  else sumR neg s (manX hi lo) neg' s' (manX hi' lo')
theorem v_other (n x : Nat) (h : vK n x ≠ 1) : vB n x = false ∧ vS n x = 0 ∧ vF n x = 0 := by
  have h2 : ¬ kindOf n (x % 2 ^ n) = 1 := h
  refine ⟨?_, ?_, ?_⟩
  · unfold vB; rw [if_neg h2]
  · unfold vS; rw [if_neg h2]
  · unfold vF; rw [if_neg h2]
end Go.Proofs.YtheliihkkoohnaaGreat

namespace Go.Proofs.YtheliihkkoohnaaGreat
set_option maxRecDepth 100000
set_option linter.unusedVariables false
set_option linter.unusedSimpArgs false

/-! ### sums of patterns: what follows (plain mathematics) -/
theorem lt64_of {n y : Nat} (hn : Wd n) (h : y < 2 ^ n) : y < 2 ^ 64 := Nat.lt_of_lt_of_le h (Nat.pow_le_pow_right (by decide) (wd_le hn).2)
theorem negO_lt (n x : Nat) (hn : Wd n) : negO n x < 2 ^ n := Nat.mod_lt _ (Nat.pow_pos (by decide))
theorem negO_lt64 (n x : Nat) (hn : Wd n) : negO n x < 2 ^ 64 := lt64_of hn (negO_lt n x hn)
end Go.Proofs.YtheliihkkoohnaaGreat

namespace Go.Proofs.YtheliihkkoohnaaGreat
open Go.ChangeShapes Go.WideShapes Go.ChangeAt Go.RowKit
set_option linter.unusedVariables false
set_option linter.unusedSimpArgs false
set_option maxRecDepth 100000

/-! ### the first 320 bits of a sum of two numbers of 128 digits are enough (plain mathematics) -/
/-- where the lesser term stands -/
def lowE (s s' : Int) : Nat := (191 - (s - s')).toNat
def sumE (same : Bool) (M M' k : Nat) : Nat := if same then M * 2 ^ 191 + M' * 2 ^ k else M * 2 ^ 191 - M' * 2 ^ k
theorem mant_le {M M' d : Nat} (hM : Mant M) (hM' : Mant M') (h : d = 0 → M' ≤ M) : M' ≤ M * 2 ^ d := by
  by_cases h0 : d = 0
  · subst h0; rw [Nat.pow_zero, Nat.mul_one]; exact h rfl
  · obtain ⟨e, rfl⟩ : ∃ e, d = e + 1 := ⟨d - 1, by omega⟩
    have : 1 ≤ 2 ^ e := Nat.one_le_two_pow
    have h2 : M * 1 ≤ M * 2 ^ e := Nat.mul_le_mul (Nat.le_refl _) this
    have a := hM.1
    have b := hM'.2
    rw [Nat.pow_succ, ← Nat.mul_assoc]
    omega
theorem sumE_words (ng : Bool) (s : Int) (M : Nat) (nl : Bool) (s' : Int) (M' : Nat) (hM : Mant M) (hM' : Mant M')
    (hle : s' ≤ s) (heq : s = s' → M' ≤ M) : sumD ng s M nl s' M' = exactV ng (sumE (ng == nl) M M' (lowE s s')) (s - 318) false := by
  obtain ⟨d, hd⟩ : ∃ d : Nat, (d : Int) = s - s' := ⟨(s - s').toNat, by omega⟩
  rw [sumD_near ng s _ nl s' _ hM hM' hle d hd]
  have hle2 : M' ≤ M * 2 ^ d := mant_le hM hM' (fun h0 => heq (by omega))
  have m0 : 1 ≤ M' := Nat.le_trans Nat.one_le_two_pow hM'.1
  have hlt : ∀ k, 128 ≤ k → M' < 2 ^ k := fun k hk => Nat.lt_of_lt_of_le hM'.2 (Nat.pow_le_pow_right (by decide) hk)
  rw [if_pos hle2]
  by_cases hs : ng = nl
  · rw [if_pos hs]
    have hb : (ng == nl) = true := by rw [hs]; simp
    unfold sumE
    rw [hb, if_pos rfl]
    by_cases hd2 : d ≤ 191
    · have hk : lowE s s' = 191 - d := by unfold lowE; omega
      have e2 : M * 2 ^ 191 + M' * 2 ^ (191 - d) = (M * 2 ^ d + M') * 2 ^ (191 - d) := by rw [Nat.add_mul, Nat.mul_assoc, ← Nat.pow_add, show d + (191 - d) = 191 by omega]
      rw [hk, e2, show s - 318 = (s - 127 - d) - ((191 - d : Nat) : Int) by omega, exactV_two]
    · have hk : lowE s s' = 0 := by unfold lowE; omega
      have a := far_add ng s (B := M') (d := d) hM m0 (hlt d (by omega))
      have b := far_add ng s (M := M) (B := M') (d := 191) hM m0 (hlt 191 (by omega))
      rw [hk, Nat.pow_zero, Nat.mul_one, a, ← b, show s - 127 - ((191 : Nat) : Int) = s - 318 by omega]
  · rw [if_neg hs]
    have hb : (ng == nl) = false := beq_eq_false_iff_ne.2 hs
    unfold sumE
    rw [hb, if_neg (by decide)]
    by_cases hd2 : d ≤ 191
    · have hk : lowE s s' = 191 - d := by unfold lowE; omega
      have e2 : M * 2 ^ 191 - M' * 2 ^ (191 - d) = (M * 2 ^ d - M') * 2 ^ (191 - d) := by rw [Nat.sub_mul, Nat.mul_assoc, ← Nat.pow_add, show d + (191 - d) = 191 by omega]
      rw [hk, e2, show s - 318 = (s - 127 - d) - ((191 - d : Nat) : Int) by omega, exactV_two]
    · have hk : lowE s s' = 0 := by unfold lowE; omega
      obtain ⟨e, rfl⟩ : ∃ e, d = e + 1 := ⟨d - 1, by omega⟩
      have a := far_sub ng s (B := M') (d := e) hM m0 (hlt e (by omega))
      have b := far_sub ng s (M := M) (B := M') (d := 190) hM m0 (hlt 190 (by omega))
      rw [hk, Nat.pow_zero, Nat.mul_one, a, ← b, show 190 + 1 = 191 from rfl, show s - 127 - ((191 : Nat) : Int) = s - 318 by omega]
theorem sumE_lt {same : Bool} {M M' k : Nat} (hM : M < 2 ^ 128) (hM' : M' < 2 ^ 128) (hk : k ≤ 191) : M * 2 ^ 191 < 1067993517960455041197510853084776057301352261178326384973520803911109862890320275011481043468288 ∧ M' * 2 ^ k < 1067993517960455041197510853084776057301352261178326384973520803911109862890320275011481043468288 ∧ sumE same M M' k < 2135987035920910082395021706169552114602704522356652769947041607822219725780640550022962086936576 := by
  have h1 : M * 2 ^ 191 < 1067993517960455041197510853084776057301352261178326384973520803911109862890320275011481043468288 := Nat.lt_of_lt_of_le ((Nat.mul_lt_mul_right (Nat.pow_pos (by decide))).2 hM) (by decide)
  have h2 : M' * 2 ^ k < 1067993517960455041197510853084776057301352261178326384973520803911109862890320275011481043468288 := Nat.lt_of_le_of_lt (Nat.mul_le_mul (Nat.le_refl M') (Nat.pow_le_pow_right (by decide) hk)) (Nat.lt_of_lt_of_le ((Nat.mul_lt_mul_right (Nat.pow_pos (by decide))).2 hM') (by decide))
  refine ⟨h1, h2, ?_⟩
  unfold sumE
  generalize M * 2 ^ 191 = X at *
  generalize M' * 2 ^ k = Y at *
  split <;> omega
/-- the first digits of a number that stands as high as it may -/
theorem exactV_top5 (neg : Bool) {n k a0 a1 a2 a3 a4 : Nat} (s : Int) (hn : n ≠ 0) (hk : k + blen n = 320) (h : Q5 (n * 2 ^ k) a0 a1 a2 a3 a4) :
    exactV neg n (s - 318) false = exactV neg (manX a4 a3) (s + 1 - k - 127) (decide (a0 ≠ 0 ∨ a1 ≠ 0 ∨ a2 ≠ 0)) ∧ 9223372036854775808 ≤ a4 := by
  obtain ⟨n1, n2⟩ := norm_two k hn
  have hb := blen_two k hn
  have hn0 : n * 2 ^ k ≠ 0 := fun c => by
    rcases Nat.mul_eq_zero.1 c with c | c
    · exact hn c
    · exact absurd c (Nat.pos_iff_ne_zero.1 (Nat.pow_pos (by decide)))
  have h320 : blen (n * 2 ^ k) = 320 := by omega
  have lo := blen_lo hn0
  rw [show blen (n * 2 ^ k) - 1 = 127 + 192 by omega] at lo
  have hi : n * 2 ^ k < 2135987035920910082395021706169552114602704522356652769947041607822219725780640550022962086936576 := blen320.1 (by omega)
  obtain ⟨_, m1, m2⟩ := @norm_at (n * 2 ^ k) 192 lo (by rw [pow320 (128 + 192) rfl]; exact hi)
  rw [pow319 (127 + 192) rfl] at lo
  obtain ⟨e, h0, h1, h2, h3, h4⟩ := h
  have et : 9223372036854775808 ≤ a4 := by
    omega
  have w0 : n * 2 ^ k / 2 ^ 192 = manX a4 a3 := by
    unfold manX
    rw [show (2 : Nat) ^ 192 = 6277101735386680763835789423207666416102355444464034512896 by decide]
    omega
  have w3 : decide (n * 2 ^ k % 2 ^ 192 ≠ 0) = decide (a0 ≠ 0 ∨ a1 ≠ 0 ∨ a2 ≠ 0) := by
    refine decide_eq_decide.2 ?_
    rw [show (2 : Nat) ^ 192 = 6277101735386680763835789423207666416102355444464034512896 by decide]
    omega
  have hM : Mant (manX a4 a3) := WordsX.mant ⟨et, by omega, by omega⟩
  obtain ⟨b, c1, c2⟩ := @norm_at (manX a4 a3) 0 hM.1 hM.2
  have hm0 : manX a4 a3 ≠ 0 := by unfold manX; omega
  refine ⟨?_, et⟩
  unfold exactV
  rw [if_neg hn, if_neg hm0, ← n1, ← n2, m1, m2, w0, w3, b, c1, c2, Nat.pow_zero, Nat.div_one, Nat.mod_one, show s - 318 + (blen n : Int) - 1 = s + 1 - (k : Int) - 127 + ((128 + 0 : Nat) : Int) - 1 by omega]
  simp
end Go.Proofs.YtheliihkkoohnaaGreat

namespace Go.Proofs.YtheliihkkoohnaaGreat
open Go.ChangeShapes Go.WideShapes Go.ChangeAt Go.RowKit
set_option linter.unusedVariables false
set_option linter.unusedSimpArgs false
set_option maxRecDepth 100000

/-! ### package fuse: the sum of two reals -/
theorem freals_up (ng : Bool) (s : Int) (hi lo : Nat) (nl : Bool) (s' : Int) (hi' lo' : Nat) (h : WordsX hi lo) (h' : WordsX hi' lo')
    (hs : -1099511627776 ≤ s ∧ s ≤ 1099511627776) (hs' : -1099511627776 ≤ s' ∧ s' ≤ 1099511627776) (hle : s' ≤ s) (heq : s = s' → manX hi' lo' ≤ manX hi lo) (w : World) :
    ((s = s' → manX hi' lo' ≤ manX hi lo) → Calls Tryz.prog 35 #[exV 1 ng s hi lo false, exV 1 nl s' hi' lo' false] w fun e w' => e = .returned (.tuple #[exactV ng (sumE (ng == nl) (manX hi lo) (manX hi' lo') (lowE s s')) (s - 318) false, .nilIface]) ∧ Below w.heap.size w w') ∧
    ((s = s' → manX hi' lo' < manX hi lo) → Calls Tryz.prog 35 #[exV 1 nl s' hi' lo' false, exV 1 ng s hi lo false] w fun e w' => e = .returned (.tuple #[exactV ng (sumE (ng == nl) (manX hi lo) (manX hi' lo') (lowE s s')) (s - 318) false, .nilIface]) ∧ Below w.heap.size w w') := by
  have hk : lowE s s' ≤ 191 := by unfold lowE; omega
  have hM := h.mant
  have hM' := h'.mant
  have ta : Tw (manX hi lo) hi lo := ⟨rfl, by have := h.hi64; omega, by have := h.lo64; omega⟩
  have tb : Tw (manX hi' lo') hi' lo' := ⟨rfl, by have := h'.hi64; omega, by have := h'.lo64; omega⟩
  have hgf0 : ∀ d : Nat, (d : Int) = s - s' → manX hi' lo' ≤ manX hi lo * 2 ^ d := fun d hd => mant_le hM hM' (fun h0 => heq (by omega))
  generalize manX hi lo = M at *
  generalize manX hi' lo' = M' at *
  obtain ⟨b1, b2, b3⟩ := sumE_lt (same := (ng == nl)) hM.2 hM'.2 hk
  obtain ⟨_, _, b4⟩ := sumE_lt (same := true) hM.2 hM'.2 hk
  have b4' : M * 2 ^ 191 + M' * 2 ^ lowE s s' < 2135987035920910082395021706169552114602704522356652769947041607822219725780640550022962086936576 := b4
  have hgf : M' * 2 ^ lowE s s' ≤ M * 2 ^ 191 := by
    obtain ⟨d, hd⟩ : ∃ d : Nat, (d : Int) = s - s' := ⟨(s - s').toNat, by omega⟩
    by_cases hd2 : d ≤ 191
    · have e : lowE s s' = 191 - d := by unfold lowE; omega
      have h1 := Nat.mul_le_mul (hgf0 d hd) (Nat.le_refl (2 ^ (191 - d)))
      rw [Nat.mul_assoc, ← Nat.pow_add, show d + (191 - d) = 191 by omega] at h1
      rw [e]; exact h1
    · have e : lowE s s' = 0 := by unfold lowE; omega
      rw [e, Nat.pow_zero, Nat.mul_one]
      have a := hM'.2
      have b : 1 * 2 ^ 191 ≤ M * 2 ^ 191 := Nat.mul_le_mul (Nat.le_trans Nat.one_le_two_pow hM.1) (Nat.le_refl _)
      omega
  obtain ⟨a0, a1, a2, a3, a4, ca⟩ := q5_ex (n := M * 2 ^ 191) (Nat.lt_trans b1 (by decide))
  obtain ⟨y0, y1, y2, y3, y4, cy⟩ := q5_ex (n := M' * 2 ^ lowE s s') (Nat.lt_trans b2 (by decide))
  obtain ⟨p0, p1, p2, p3, p4, cp⟩ := q5_ex b4'
  have k1 := fun w => fplaced_any (k := 191) ta (Nat.le_refl _) ca w
  have k2 := fun w => fplaced_any tb hk cy w
  have k3 := fun w => fplus_any ca cy cp w
  have ks := fun w => fcompare_any 1 ng s (a := M) (hi := hi) (lo := lo) false 1 nl s' (b := M') (hi' := hi') (lo' := lo') false ta tb w
  have kw := fun w => fcompare_any 1 nl s' (a := M') (hi := hi') (lo := lo') false 1 ng s (b := M) (hi' := hi) (lo' := lo) false tb ta w
  have zs : (s = s' → M' ≤ M) → decide (cmpR2 s M s' M' < 0) = false := fun h => decide_eq_false (fun c => by
    rcases (cmpR2_lt s M s' M').1 c with c | ⟨c, d⟩
    · omega
    · have := h c
      omega)
  have zw : (s = s' → M' < M) → decide (cmpR2 s' M' s M < 0) = true := fun h => decide_eq_true ((cmpR2_lt s' M' s M).2 (by
    by_cases c : s = s'
    · exact .inr ⟨c.symm, h c⟩
    · exact .inl (by omega)))
  have q1 : IntKind.i64.wrap (s - s') = s - s' := wrapI (by omega)
  have q2 : IntKind.i64.wrap (191 - (s - s')) = 191 - (s - s') := wrapI (by omega)
  have q3 : (if 191 - (s - s') < 0 then 0 else 191 - (s - s')) = ((lowE s s' : Nat) : Int) := by unfold lowE; split <;> omega
  have q4 : IntKind.i64.wrap (s + 1) = s + 1 := wrapI (by omega)
  have hX : 0 < M * 2 ^ 191 := Nat.mul_pos (by have := hM.1; have := Nat.pow_pos (n := 127) (show 0 < 2 by decide); omega) (Nat.pow_pos (by decide))
  by_cases hn : ng = nl
  · have hb : (ng == nl) = true := by rw [hn]; simp
    have hv : sumE (ng == nl) M M' (lowE s s') = M * 2 ^ 191 + M' * 2 ^ lowE s s' := by unfold sumE; rw [hb, if_pos rfl]
    rw [hv]
    have h0 : M * 2 ^ 191 + M' * 2 ^ lowE s s' ≠ 0 := by omega
    obtain ⟨k, r0, r1, r2, r3, r4, hkb, cr⟩ := risen5_at h0 b4'
    have hbl : 1 ≤ blen (M * 2 ^ 191 + M' * 2 ^ lowE s s') := by rw [blen_pos h0]; omega
    have k5 := fun w => frisen_any cp h0 hkb cr w
    obtain ⟨o, o2, q6, q9, q7⟩ := or_rest3 r0 r1 r2 cr.h0 cr.h1 cr.h2
    have q5 : IntKind.i64.wrap (s + 1 - (k : Int)) = s + 1 - k := wrapI (by omega)
    have q8 : IntKind.i64.wrap (s + 1 - (k : Int) - 127) = s + 1 - k - 127 := wrapI (by omega)
    have hz := q5_zero cp
    rw [decide_eq_false h0] at hz
    obtain ⟨et, top⟩ := exactV_top5 ng s h0 hkb cr
    rw [et]
    have k6 := rmake_ok ng r4 r3 (s + 1 - k - 127) (decide (r0 ≠ 0 ∨ r1 ≠ 0 ∨ r2 ≠ 0)) (by have := cr.h4; omega) (by have := cr.h3; omega) (by omega) (.inr top)
    obtain ⟨K, B, S, H, L, T, hf⟩ := exactV_form ng (manX r4 r3) (s + 1 - k - 127) (decide (r0 ≠ 0 ∨ r1 ≠ 0 ∨ r2 ≠ 0))
    rw [hf] at k6 ⊢
    exact ⟨fun h => freals_stay_same ng s hi lo nl s' hi' lo' _ _ _ _ _ _ _ _ _ _ _ _ _ _ _ _ _ _ _ _ _ _ _ _ _ _ _ _ _ k _ K B S H L T ks (zs h) k1 q1 q2 q3 k2 k3 hb hz k5 q4 q5 q8 q6 q9 q7 k6 w,
      fun h => freals_swap_same ng s hi lo nl s' hi' lo' _ _ _ _ _ _ _ _ _ _ _ _ _ _ _ _ _ _ _ _ _ _ _ _ _ _ _ _ _ k _ K B S H L T kw (zw h) k1 q1 q2 q3 k2 k3 hb hz k5 q4 q5 q8 q6 q9 q7 k6 w⟩
  · have hb : (ng == nl) = false := beq_eq_false_iff_ne.2 hn
    have hv : sumE (ng == nl) M M' (lowE s s') = M * 2 ^ 191 - M' * 2 ^ lowE s s' := by unfold sumE; rw [hb, if_neg (by decide)]
    rw [hv] at b3 ⊢
    obtain ⟨m0, m1, m2, m3, m4, cm⟩ := q5_ex b3
    have k4 := fun w => fminus_any ca cy hgf cm w
    have hz := q5_zero cm
    by_cases h0 : M * 2 ^ 191 - M' * 2 ^ lowE s s' = 0
    · rw [decide_eq_true h0] at hz
      have he : exactV ng (M * 2 ^ 191 - M' * 2 ^ lowE s s') (s - 318) false = exV 0 false 0 0 0 false := by unfold exactV; rw [if_pos h0]
      rw [he]
      exact ⟨fun h => freals_stay_zero ng s hi lo nl s' hi' lo' _ _ _ _ _ _ _ _ _ _ _ _ _ _ _ _ _ _ _ _ _ _ _ _ ks (zs h) k1 q1 q2 q3 k2 k3 hb k4 hz w,
        fun h => freals_swap_zero ng s hi lo nl s' hi' lo' _ _ _ _ _ _ _ _ _ _ _ _ _ _ _ _ _ _ _ _ _ _ _ _ kw (zw h) k1 q1 q2 q3 k2 k3 hb k4 hz w⟩
    · rw [decide_eq_false h0] at hz
      obtain ⟨k, r0, r1, r2, r3, r4, hkb, cr⟩ := risen5_at h0 b3
      have hbl : 1 ≤ blen (M * 2 ^ 191 - M' * 2 ^ lowE s s') := by rw [blen_pos h0]; omega
      have k5 := fun w => frisen_any cm h0 hkb cr w
      obtain ⟨o, o2, q6, q9, q7⟩ := or_rest3 r0 r1 r2 cr.h0 cr.h1 cr.h2
      have q5 : IntKind.i64.wrap (s + 1 - (k : Int)) = s + 1 - k := wrapI (by omega)
      have q8 : IntKind.i64.wrap (s + 1 - (k : Int) - 127) = s + 1 - k - 127 := wrapI (by omega)
      obtain ⟨et, top⟩ := exactV_top5 ng s h0 hkb cr
      rw [et]
      have k6 := rmake_ok ng r4 r3 (s + 1 - k - 127) (decide (r0 ≠ 0 ∨ r1 ≠ 0 ∨ r2 ≠ 0)) (by have := cr.h4; omega) (by have := cr.h3; omega) (by omega) (.inr top)
      obtain ⟨K, B, S, H, L, T, hf⟩ := exactV_form ng (manX r4 r3) (s + 1 - k - 127) (decide (r0 ≠ 0 ∨ r1 ≠ 0 ∨ r2 ≠ 0))
      rw [hf] at k6 ⊢
      exact ⟨fun h => freals_stay_diff ng s hi lo nl s' hi' lo' _ _ _ _ _ _ _ _ _ _ _ _ _ _ _ _ _ _ _ _ _ _ _ _ _ _ _ _ _ _ _ _ _ _ k _ K B S H L T ks (zs h) k1 q1 q2 q3 k2 k3 hb k4 hz k5 q4 q5 q8 q6 q9 q7 k6 w,
        fun h => freals_swap_diff ng s hi lo nl s' hi' lo' _ _ _ _ _ _ _ _ _ _ _ _ _ _ _ _ _ _ _ _ _ _ _ _ _ _ _ _ _ _ _ _ _ _ k _ K B S H L T kw (zw h) k1 q1 q2 q3 k2 k3 hb k4 hz k5 q4 q5 q8 q6 q9 q7 k6 w⟩
theorem freals_any (neg : Bool) (s : Int) (hi lo : Nat) (neg' : Bool) (s' : Int) (hi' lo' : Nat) (h : WordsX hi lo) (h' : WordsX hi' lo') (hs : -1099511627776 ≤ s ∧ s ≤ 1099511627776) (hs' : -1099511627776 ≤ s' ∧ s' ≤ 1099511627776) (w : World) :
    Calls Tryz.prog 35 #[exV 1 neg s hi lo false, exV 1 neg' s' hi' lo' false] w fun e w' => e = .returned (.tuple #[sumR neg s (manX hi lo) neg' s' (manX hi' lo'), .nilIface]) ∧ Below w.heap.size w w' := by
  by_cases c : s < s' ∨ (s = s' ∧ manX hi lo < manX hi' lo')
  · have hle : s ≤ s' := by omega
    have hw := (freals_up neg' s' hi' lo' neg s hi lo h' h hs' hs hle (fun h => by omega) w).2 (fun h => by omega)
    rw [← sumE_words neg' s' (manX hi' lo') neg s (manX hi lo) h'.mant h.mant hle (fun h => by omega)] at hw
    have e : sumR neg s (manX hi lo) neg' s' (manX hi' lo') = sumD neg' s' (manX hi' lo') neg s (manX hi lo) := by
      unfold sumR
      by_cases c2 : s < s'
      · rw [if_pos c2]
      · rw [if_neg c2]
        obtain rfl : s = s' := by omega
        rw [sumD_int neg s _ neg' s _ h.mant h'.mant (Int.le_refl _) s 0 0 (by omega) (by omega), sumD_int neg' s _ neg s _ h'.mant h.mant (Int.le_refl _) s 0 0 (by omega) (by omega), Int.add_comm]
    rw [e]
    exact hw
  · have hle : s' ≤ s := by omega
    have hw := (freals_up neg s hi lo neg' s' hi' lo' h h' hs hs' hle (fun h => by omega) w).1 (fun h => by omega)
    rw [← sumE_words neg s (manX hi lo) neg' s' (manX hi' lo') h.mant h'.mant hle (fun h => by omega)] at hw
    have e : sumR neg s (manX hi lo) neg' s' (manX hi' lo') = sumD neg s (manX hi lo) neg' s' (manX hi' lo') := by
      unfold sumR; rw [if_neg (by omega)]
    rw [e]
    exact hw
end Go.Proofs.YtheliihkkoohnaaGreat

namespace Go.Proofs.YtheliihkkoohnaaGreat
open Go.ChangeShapes Go.WideShapes Go.ChangeAt Go.RowKit
set_option linter.unusedVariables false
set_option linter.unusedSimpArgs false
set_option maxRecDepth 100000

/-! ### codec.Decode, by what a pattern means -/
theorem cdecode_v (n x : Nat) (hn : Wd n) (hx : x < 2 ^ 64) (w : World) :
    Calls Tryz.prog 17 #[.int .i64 n, .int .u64 x] w fun e w' => e = .returned (.tuple #[numV (vK n x) (vB n x) (vS n x) (vF n x), .nilIface]) ∧ Below w.heap.size w w' := by
  unfold vK vB vS vF
  by_cases hk : kindOf n (x % 2 ^ n) = 1
  · rw [if_pos hk, if_pos hk, if_pos hk]
    have := cdecode_real n x hn hx hk w
    rwa [← hk] at this
  · rw [if_neg hk, if_neg hk, if_neg hk]
    exact cdecode_other n x hn hx hk w
end Go.Proofs.YtheliihkkoohnaaGreat

namespace Go.Proofs.YtheliihkkoohnaaGreat
set_option maxRecDepth 100000
set_option linter.unusedVariables false
set_option linter.unusedSimpArgs false

/-! ### products (plain mathematics) -/
def xorB (a b : Bool) : Bool := decide (a ≠ b)
theorem sg_times (a b : Bool) (N M : Nat) : sg a N * sg b M = sg (xorB a b) (N * M) := by
  unfold sg xorB
  cases a <;> cases b <;> simp [Int.neg_mul, Int.mul_neg]
/-- the product ahead of its rounding -/
def prod10 (k : Int) (neg : Bool) (s : Int) (f : Nat) (k' : Int) (neg' : Bool) (s' : Int) (g : Nat) : Value :=
  if k = 2 ∨ k' = 2 then exV 2 false 0 0 0 false
  else if k = 0 ∨ k' = 0 then exV 0 false 0 0 0 false
  else exactV (xorB neg neg') (f * g) (s + s' - 126) false
theorem manX_zero (f : Nat) : manX f 0 = f * 2 ^ 64 := by unfold manX; rw [Nat.add_zero, show (2 : Nat) ^ 64 = 18446744073709551616 by decide]
/-- the pattern of a product -/
def patP (n a b : Nat) : Nat := if vK n a = 2 ∨ vK n b = 2 then 2 ^ (n - 1) else patI n (valI n a * valI n b) (eN + eN)
end Go.Proofs.YtheliihkkoohnaaGreat

namespace Go.Proofs.YtheliihkkoohnaaGreat
open Go.ChangeShapes Go.WideShapes Go.ChangeAt Go.RowKit
set_option linter.unusedVariables false
set_option maxRecDepth 100000

set_option maxHeartbeats 4000000 in
theorem nmul_anyq (va vb : Value) (a b : Nat) (hA : dlen a ≤ 1099511627776) (hB : dlen b ≤ 1099511627776) (w : World) (ha : Row w va (dig a)) (hb : Row w vb (dig b)) :
    Calls Tryz.prog 53 #[va, vb] w fun e w' => ∃ v, e = .returned v ∧ Row w' v (dig (a * b)) ∧ Below w.heap.size w w' := by
  refine cps fun Q hQ => ?_
  obtain ⟨aa, ca, rfl, h1, h2, hra⟩ := ha.reads
  obtain ⟨ab, cb, rfl, h3, h4, hrb⟩ := hb.reads
  obtain ⟨i0, hi, hz0, hz1, hz2⟩ := info_parts infoInt
  clear ha hb
  have za := @dlen_eq_zero a
  have zb := @dlen_eq_zero b
  by_cases h0 : dlen a = 0 ∨ dlen b = 0
  · have hn : a * b = 0 := by
      rcases h0 with h | h
      · rw [za.1 h, Nat.zero_mul]
      · rw [zb.1 h, Nat.mul_zero]
    have HQ : Hid _ := hQ.out _ w ⟨.slice none 0 0, rfl, by rw [hn, dig_zero]; exact row_nil w, Below.refl _ _⟩
    have h0' : dlen a = 0 ∨ (dlen a ≠ 0 ∧ dlen b = 0) := by omega
    clear za zb hra hrb hn h0
    rcases h0' with h | ⟨h, h'⟩
    · go_enter Tryz.func53, Tryz.ntmps53
      go_wp2
      exact HQ.out
    · go_enter Tryz.func53, Tryz.ntmps53
      go_wp2
      exact HQ.out
  · have hna : 0 < dlen a := by omega
    have hnb : 0 < dlen b := by omega
    obtain ⟨ba, oa, rfl, hba, hra⟩ := hra.resolve_left (by omega)
    obtain ⟨bb, ob, rfl, hbb, hrb⟩ := hrb.resolve_left (by omega)
    clear za zb h0
    have ea : ((dlen a : Int) == 0) = false := by simp; omega
    have eb : ((dlen b : Int) == 0) = false := by simp; omega
    go_enter Tryz.func53, Tryz.ntmps53
    go_wp2_with (at_make; go_must (refine wpList_make_full _ rfl _ _ 76 rfl w.heap.size 3 i0 (.int .i64 0) 1 Tryz.underlying76 hi hz0 hz1 .i64 .i64 _ _ (dlen a + dlen b) rfl rfl (by omega) (by omega) (by rw [hz2]; omega) (by unfold maxLen; omega) (Nat.le_refl _) ?_); intro w1 hown hg)
    rw [made_ints] at hown
    have hb0 := (Below.refl w.heap.size w).grown hg (Nat.le_refl _) (fun k hk => by cases hk)
    have hs0 : w.heap.size < w1.heap.size := by have := hown.lt w.heap.size rfl; omega
    clear hg hi hz0 hz1 hz2 ea eb
    go_loopw [6] (fun iv wr => ∃ (i : Nat) (O : List Nat), i ≤ dlen a ∧ iv = .int .i64 i ∧ MulAt a b i 0 0 O ∧ wr.ownsRow w.heap.size 3 1 (.slice (some ⟨w.heap.size, 0, none⟩) (dlen a + dlen b) (dlen a + dlen b)) (dlen a + dlen b) (O.map enc) ∧ Below w.heap.size w wr) (fun iv _ => dlen a - (intOf iv).toNat)
    case atStart => exact ⟨0, _, Nat.zero_le _, rfl, MulAt.start a b, hown, hb0⟩
    case round =>
      obtain ⟨i, O, hi, rfl, hP, hown, hbel⟩ := hrel
      by_cases hlt : i < dlen a
      · clear hb0
        go_wp2
        go_loopw [7, 8] (fun cv kv wr => ∃ (k c : Nat) (O : List Nat), k ≤ dlen b ∧ c ≤ 16777215 ∧ kv = .int .i64 k ∧ cv = .int .i64 c ∧ MulAt a b i k c O ∧ wr.ownsRow w.heap.size 3 1 (.slice (some ⟨w.heap.size, 0, none⟩) (dlen a + dlen b) (dlen a + dlen b)) (dlen a + dlen b) (O.map enc) ∧ Below w.heap.size w wr) (fun _ kv _ => dlen b - (intOf kv).toNat)
        case atStart => exact ⟨0, 0, O, Nat.zero_le _, by decide, rfl, rfl, hP, hown, hbel⟩
        case round =>
          rename_i wr0
          clear hown hbel hP
          obtain ⟨k, c, O, hk, hc, rfl, rfl, hP, hown, hbel⟩ := hrel
          by_cases hlk : k < dlen b
          · have c1 := (hbel.cell (p := ⟨ba, oa + i, none⟩) hba).trans (hra i hlt)
            have c2 := (hbel.cell (p := ⟨bb, ob + k, none⟩) hbb).trans (hrb k hlk)
            have hl := hP.len
            have c3 := hown.cellAt (i + k) (by omega)
            have c3' : wr.cell? ⟨w.heap.size, i + k, none⟩ = some (.int .i64 (O.getD (i + k) 0 : Nat)) := by
              rw [c3, List.getElem?_map, List.getD_eq_getElem?_getD, List.getElem?_eq_getElem (by omega)]; rfl
            have hf := hown.frozenAt (i + k)
            obtain ⟨x, hx⟩ : ∃ x, x = O.getD (i + k) 0 := ⟨_, rfl⟩
            have hx1 : x < 16777216 := by
              rw [hx, List.getD_eq_getElem?_getD, List.getElem?_eq_getElem (by omega)]
              exact hP.digs _ (List.getElem_mem _)
            obtain ⟨p, hp⟩ : ∃ p, p = (top a i % 16777216) * (top b k % 16777216) := ⟨_, rfl⟩
            have hp1 : p ≤ 16777215 * 16777215 := by rw [hp]; exact Nat.mul_le_mul (by omega) (by omega)
            obtain ⟨A, hA'⟩ : ∃ A, A = top a i % 16777216 := ⟨_, rfl⟩
            obtain ⟨C, hC'⟩ : ∃ C, C = top b k % 16777216 := ⟨_, rfl⟩
            rw [← hA'] at c1
            rw [← hC'] at c2
            rw [← hx] at c3'
            have hpi : (A : Int) * (C : Int) = (p : Int) := by rw [hp, hA', hC']; simp
            have hst : ∀ q, ((wr.drewN q).setCell ⟨w.heap.size, i + k, none⟩ (enc ((x + p + c) % 16777216))).ownsRow w.heap.size 3 1 (.slice (some ⟨w.heap.size, 0, none⟩) (dlen a + dlen b) (dlen a + dlen b)) (dlen a + dlen b) ((O.set (i + k) ((x + p + c) % 16777216)).map enc) := fun q => by
              rw [List.map_set]; exact ((owns_drewN hown q).stored (i + k) (enc ((x + p + c) % 16777216))).1
            have hP2 := hP.step (t := x + p + c) hlt hlk hx (by rw [hp])
            have Hst : Hid _ := hst
            have HP2 : Hid _ := hP2
            have hA2 : A ≤ 16777215 := by omega
            have hC2 : C ≤ 16777215 := by omega
            clear hst hP2 c3 hl hx hp hA' hC' hown hP hra hrb
            go_wp2
            go_quiet (fail)
            go_wp2
            go_roundw
            case rel =>
              refine ⟨k + 1, (x + p + c) / 16777216, _, by omega, by omega, by go_num, by go_num, HP2.out, ?_⟩
              have ev : ((x : Int) + p + c) % 16777216 = (((x + p + c) % 16777216 : Nat) : Int) := by omega
              rw [ev]
              exact ⟨Hst.out _, (below_drewN hbel _).setCell (Nat.le_refl _) _⟩
            case measure => simp [intOf]; omega
          · have e : k = dlen b := by omega
            subst e
            have hl := hP.len
            have c3 := hown.cellAt (i + dlen b) (by omega)
            have c3' : wr.cell? ⟨w.heap.size, i + dlen b, none⟩ = some (.int .i64 (O.getD (i + dlen b) 0 : Nat)) := by
              rw [c3, List.getElem?_map, List.getD_eq_getElem?_getD, List.getElem?_eq_getElem (by omega)]; rfl
            have hf := hown.frozenAt (i + dlen b)
            have hst := hown.stored (i + dlen b) (enc c)
            rw [← List.map_set] at hst
            have hP2 := hP.next hlt (by omega)
            have Hst : Hid _ := hst
            have HP2 : Hid _ := hP2
            generalize O.getD (i + dlen b) 0 = x at *
            clear hst hP2 c3 hl hown hP hra hrb
            go_wp2
            go_roundw
            case rel => exact ⟨i + 1, _, by omega, by go_num, HP2.out, Hst.out.1, hbel.setCell (Nat.le_refl _) _⟩
            case measure => simp [intOf]; omega
      · have e : i = dlen a := by omega
        subst e
        obtain ⟨z, hz⟩ := hP.done
        have hrw := row_own hown
        have HRW : Hid (Row wr _ _) := hrw
        clear hrw hown hb0 hra hrb
        go_wp2_with (go_at_call 85; refine (cut_anyq _ _ (a * b) z hz _ HRW.out).mono ?_; rintro e w' ⟨v', rfl, hv, hw⟩; rw [hw]; clear hw w')
        exact hQ.out _ _ ⟨_, rfl, hv, hbel⟩
end Go.Proofs.YtheliihkkoohnaaGreat

namespace Go.Proofs.YtheliihkkoohnaaGreat
open Go.ChangeShapes Go.WideShapes Go.ChangeAt Go.RowKit
set_option linter.unusedVariables false
set_option linter.unusedSimpArgs false
set_option maxRecDepth 100000

/-! ### the document's Sum -/
theorem Row.cset {w : World} {v : Value} {l : List Nat} (h : Row w v l) (m k : Nat) (u u' : Value) (hc : w.cell? ⟨m, k, none⟩ = some u) (hu : ∀ x, u ≠ .int .i64 x) : Row (w.setCell ⟨m, k, none⟩ u') v l := h.setU m k u u' hc hu
theorem sumD_branch (neg : Bool) (s : Int) (M : Nat) (neg' : Bool) (s' : Int) (M' : Nat) (d b : Nat) (h : (¬ 400 < s - s' ∧ (d : Int) = s - s' ∧ b = M') ∨ (400 < s - s' ∧ d = 400 ∧ b = 1)) :
    sumD neg s M neg' s' M' = if neg = neg' then exactV neg (M * 2 ^ d + b) (s - 127 - d) false else if b ≤ M * 2 ^ d then exactV neg (M * 2 ^ d - b) (s - 127 - d) false else exactV neg' (b - M * 2 ^ d) (s - 127 - d) false := by
  unfold sumD
  rcases h with ⟨h1, h2, rfl⟩ | ⟨h1, h2, rfl⟩
  · simp only [if_neg h1]
    rw [show (s - s').toNat = d by omega]
  · simp only [if_pos h1]
    rw [farD_eq, ← h2]
theorem cmp_ge {a b : Nat} (h : b ≤ a) : decide ((0 : Int) ≤ cmpN a b) = true := by
  refine decide_eq_true ?_
  rcases Nat.lt_or_ge b a with x | x
  · rw [cmpN_gt x]; decide
  · have e : b = a := Nat.le_antisymm h x
    rw [e, cmpN_eq]; decide
theorem mul_blen {M d b : Nat} (hM : M < 2 ^ 128) (hb : b < 2 ^ 128) (hd : d ≤ 400) : blen (M * 2 ^ d + b) ≤ 1000 := by
  have h1 : M * 2 ^ d < 2 ^ (128 + d) := by rw [Nat.pow_add]; exact Nat.mul_lt_mul_of_pos_right hM (Nat.pow_pos (by decide))
  have h2 : b < 2 ^ (128 + d) := Nat.lt_of_lt_of_le hb (Nat.pow_le_pow_right (by decide) (by omega))
  have h3 : blen (M * 2 ^ d + b) ≤ 128 + d + 1 := blen_le.2 (by rw [Nat.pow_succ]; omega)
  omega
set_option maxHeartbeats 4000000 in
theorem sum9_near_add (neg : Bool) (s : Int) (hi lo : Nat) (neg' : Bool) (s' : Int) (hi' lo' : Nat) (h : WordsX hi lo) (h' : WordsX hi' lo') (hs : -1099511627776 ≤ s ∧ s ≤ 1099511627776) (hs' : -1099511627776 ≤ s' ∧ s' ≤ 1099511627776) (hle : s' ≤ s) (hf : ¬ 400 < s - s') (hn : neg = neg') (d : Nat) (hd : (d : Int) = s - s') (w : World) :
    Calls Tryz.prog 26 #[exV 1 neg s hi lo false, exV 1 neg' s' hi' lo' false] w fun e w' => e = .returned (exactV neg (manX hi lo * 2 ^ d + manX hi' lo') (s - 127 - d) false) ∧ Below w.heap.size w w' := by
  have hM := h.mant
  have hM' := h'.mant
  have hd4 : d ≤ 400 := by omega
  have hbl := @mul_blen (manX hi lo) d (manX hi' lo') hM.2 hM'.2 hd4
  have hbl1 := @mul_blen (manX hi lo) d 1 hM.2 (by decide) hd4
  have hTM : Tw (manX hi lo) hi lo := ⟨rfl, by have := h.hi64; omega, by have := h.lo64; omega⟩
  have hTM' : Tw (manX hi' lo') hi' lo' := ⟨rfl, by have := h'.hi64; omega, by have := h'.lo64; omega⟩
  have hA1 : blen (manX hi lo * 2 ^ d) ≤ 1000 := Nat.le_trans (blen_mono (Nat.le_add_right _ _)) hbl
  have hS0 := dlen_mant hM.2
  have hSA := dlen_of_blen (Nat.le_trans hA1 (by decide : 1000 ≤ 1099511627776))
  have k1 := fun w => rof_any hTM w
  have k2 := fun w => rof_any hTM' w
  have k3 := fun v w hr => nshl_anyq v (manX hi lo) d (by omega) hS0 w hr
  have hNb : blen (manX hi lo * 2 ^ d + manX hi' lo') ≤ 1000 := hbl
  have k5 := fun va vb w ha hb => nadd_anyq va vb (manX hi lo * 2 ^ d) (manX hi' lo') (dlen_of_blen (Nat.le_trans hNb (by decide : 1000 ≤ 1099511627776))) w ha hb
  have k6 := fun v w hr => exactly7_any neg v (manX hi lo * 2 ^ d + manX hi' lo') (s - 127 - d) false (Nat.le_trans hNb (by decide)) (by omega) w hr
  obtain ⟨K, B, S, H, L, R, hform⟩ := exactV_form neg (manX hi lo * 2 ^ d + manX hi' lo') (s - 127 - d) false
  rw [hform] at k6 ⊢
  have e1 : IntKind.i64.wrap (s - s') = s - s' := wrapI (by omega)
  have g0 : decide (s < s') = false := decide_eq_false (by omega)
  have e2 : IntKind.i64.wrap (s - 127) = s - 127 := wrapI (by omega)
  have e3 : IntKind.i64.wrap (s - 127 - (d : Int)) = s - 127 - (d : Int) := wrapI (by omega)
  have g1 : decide ((400 : Int) < (d : Int)) = false := decide_eq_false (by omega)
  replace e1 : IntKind.i64.wrap (s - s') = (d : Int) := e1.trans hd.symm
  subst hn
  have hle3 : True := trivial
  generalize (manX hi lo * 2 ^ d + manX hi' lo') = NN at *
  generalize manX hi lo * 2 ^ d = A at *
  generalize manX hi lo = M at *
  generalize manX hi' lo' = M2 at *
  clear hform hbl hbl1 hNb hA1 hSA hS0 hTM hTM' hM hM' h h' hs hs' hle hf hd hd4 hle3
  unfold exV at *
  refine cps fun Q hQ => ?_
  go_enter Tryz.func26, Tryz.ntmps26
  go_wp2_with (first
    | (go_at_call_of 41 hi; go_must (refine (k1 _).mono ?_); rintro e w1 ⟨v1, rfl, hr1, hb1⟩; have R1_0 := (hb1.block (w.heap.size) (by first | (simp; done) | (simp; omega) | omega)).trans ((Below.heap_alloc _ _ _ (by first | (simp; done) | (simp; omega) | omega)).trans ((Below.heap_alloc _ _ _ (by first | (simp; done) | (simp; omega) | omega)).trans (rownew' _ _ _ _ (by simp)))); have z1_0 : w.heap.size < w1.heap.size := Nat.lt_of_lt_of_le (by first | (simp; done) | (simp; omega) | omega) hb1.size; have HR1_0 : Hid _ := R1_0; clear R1_0; have R1_1 := (hb1.block (w.heap.size + 1) (by first | (simp; done) | (simp; omega) | omega)).trans ((Below.heap_alloc _ _ _ (by first | (simp; done) | (simp; omega) | omega)).trans (rownew' _ _ _ _ (by simp))); have z1_1 : w.heap.size + 1 < w1.heap.size := Nat.lt_of_lt_of_le (by first | (simp; done) | (simp; omega) | omega) hb1.size; have c1_1_3 := rowcell R1_1 3; have c1_1_4 := rowcell R1_1 4; simp only [List.getElem?_toArray, List.getElem?_cons_zero, List.getElem?_cons_succ] at c1_1_3 c1_1_4; have HR1_1 : Hid _ := R1_1; clear R1_1; have R1_2 := (hb1.block (w.heap.size + 1 + 1) (by first | (simp; done) | (simp; omega) | omega)).trans (rownew' _ _ _ _ (by simp)); have z1_2 : w.heap.size + 1 + 1 < w1.heap.size := Nat.lt_of_lt_of_le (by first | (simp; done) | (simp; omega) | omega) hb1.size; have HR1_2 : Hid _ := R1_2; clear R1_2; have HB1 : Hid (Below _ _ _) := hb1; clear hb1; have HV1 : Hid (Row w1 v1 (dig M)) := hr1; clear hr1)
    | (go_at_call_of 41 hi'; go_must (refine (k2 _).mono ?_); rintro e w2 ⟨v2, rfl, hr2, hb2⟩; have R2_0 := (hb2.block (w.heap.size) (by first | (simp; done) | (simp; omega) | omega)).trans HR1_0.out; have z2_0 : w.heap.size < w2.heap.size := Nat.lt_of_lt_of_le (by first | (simp; done) | (simp; omega) | omega) hb2.size; have c2_0_2 := rowcell R2_0 2; simp only [List.getElem?_toArray, List.getElem?_cons_zero, List.getElem?_cons_succ] at c2_0_2; have HR2_0 : Hid _ := R2_0; clear R2_0; have R2_1 := (hb2.block (w.heap.size + 1) (by first | (simp; done) | (simp; omega) | omega)).trans HR1_1.out; have z2_1 : w.heap.size + 1 < w2.heap.size := Nat.lt_of_lt_of_le (by first | (simp; done) | (simp; omega) | omega) hb2.size; have c2_1_2 := rowcell R2_1 2; simp only [List.getElem?_toArray, List.getElem?_cons_zero, List.getElem?_cons_succ] at c2_1_2; have HR2_1 : Hid _ := R2_1; clear R2_1; have R2_2 := (hb2.block (w.heap.size + 1 + 1) (by first | (simp; done) | (simp; omega) | omega)).trans HR1_2.out; have z2_2 : w.heap.size + 1 + 1 < w2.heap.size := Nat.lt_of_lt_of_le (by first | (simp; done) | (simp; omega) | omega) hb2.size; have HR2_2 : Hid _ := R2_2; clear R2_2; have HB2 : Hid (Below _ _ _) := hb2; clear hb2; have HV2 : Hid (Row w2 v2 (dig M2)) := hr2; have HW1 : Hid (Row w2 v1 (dig M)) := HV1.out.below HB2.out; clear hr2)
    | (go_at_call 42; go_must (refine (k3 _ _ HW1.out).mono ?_); rintro e w3 ⟨v3, rfl, hr3, hb3⟩; have R3_0 := (hb3.block (w.heap.size) (by first | (simp; done) | (simp; omega) | omega)).trans HR2_0.out; have z3_0 : w.heap.size < w3.heap.size := Nat.lt_of_lt_of_le (by first | (simp; done) | (simp; omega) | omega) hb3.size; have c3_0_2 := rowcell R3_0 2; have c3_0_1 := rowcell R3_0 1; simp only [List.getElem?_toArray, List.getElem?_cons_zero, List.getElem?_cons_succ] at c3_0_2 c3_0_1; have HR3_0 : Hid _ := R3_0; clear R3_0; have R3_1 := (hb3.block (w.heap.size + 1) (by first | (simp; done) | (simp; omega) | omega)).trans HR2_1.out; have z3_1 : w.heap.size + 1 < w3.heap.size := Nat.lt_of_lt_of_le (by first | (simp; done) | (simp; omega) | omega) hb3.size; have c3_1_1 := rowcell R3_1 1; simp only [List.getElem?_toArray, List.getElem?_cons_zero, List.getElem?_cons_succ] at c3_1_1; have HR3_1 : Hid _ := R3_1; clear R3_1; have R3_2 := (hb3.block (w.heap.size + 1 + 1) (by first | (simp; done) | (simp; omega) | omega)).trans HR2_2.out; have z3_2 : w.heap.size + 1 + 1 < w3.heap.size := Nat.lt_of_lt_of_le (by first | (simp; done) | (simp; omega) | omega) hb3.size; have HR3_2 : Hid _ := R3_2; clear R3_2; have HB3 : Hid (Below _ _ _) := hb3; clear hb3; have HV3 : Hid (Row w3 v3 (dig A)) := hr3; have HW2 : Hid (Row w3 v2 (dig M2)) := HV2.out.below HB3.out; clear hr3))
  have bq : Below w3.heap.size w3 w3 := Below.refl _ _
  have cls : ∀ W, Below w3.heap.size w3 W → W.cell? ⟨w.heap.size, 1, none⟩ = some (.bool neg) := fun W hW => (hW.cell (p := ⟨w.heap.size, 1, none⟩) z3_0).trans c3_0_1
  refine wpC_region (fun W => W.cell? ⟨w.heap.size, 1, none⟩ = some (.bool neg)) (by kernel_rfl) ?_
  refine wpC_take 0 (v := ?_) rfl (by kernel_rfl) (fun _ _ _ h => h) (by kernel_rfl) ?_ ?_; rotate_left; · (intro wC hC; obtain c1 := hC; go_simp <;> with_reducible rfl)
  refine wpC_take 1 (v := ?_) rfl (by kernel_rfl) (fun _ _ _ h => h) (by kernel_rfl) ?_ ?_; rotate_left; · (intro wC hC; obtain c1 := hC; go_simp <;> with_reducible rfl)
  refine wpC_take 2 (v := ?_) rfl (by kernel_rfl) (fun _ _ _ h => h) (by kernel_rfl) ?_ ?_; rotate_left; · (intro wC hC; obtain c1 := hC; go_simp <;> with_reducible rfl)
  refine wpC_take 3 (v := ?_) rfl (by kernel_rfl) (fun _ _ _ h => h) (by kernel_rfl) ?_ ?_; rotate_left; · (intro wC hC; obtain c1 := hC; go_simp <;> with_reducible rfl)
  refine wpC_take 5 (v := ?_) rfl (by kernel_rfl) (fun _ _ _ h => h) (by kernel_rfl) ?_ ?_; rotate_left; · (intro wC hC; obtain c1 := hC; go_simp <;> with_reducible rfl)
  refine wpC_step 4 rfl (by kernel_rfl) (by kernel_rfl) (cls _ (cdrew bq)) (fun K hK => ?_)
  go_simp
  go_wp2_with ((go_at_call 44; go_must (refine (k5 _ _ _ (HV3.out.below (cdrew bq)) (HW2.out.below (cdrew bq))).mono ?_); rintro e w4 ⟨v4, rfl, hr4, hb4⟩))
  try (refine hK _ _ ?_; clear hK K)
  have b4 : Below w3.heap.size w3 w4 := cthen (cdrew bq) hb4
  refine wpC_step 6 rfl (by kernel_rfl) (by kernel_rfl) (cls _ b4) (fun K hK => ?_)
  go_simp
  go_wp2_with ((go_at_call 43; go_must (refine (k6 _ _ hr4).mono ?_); rintro e w5 ⟨rfl, hb5⟩))
  try (refine hK _ _ ?_; clear hK K)
  have b5 : Below w3.heap.size w3 w5 := cthen b4 hb5
  have RR := (b5.block (w.heap.size + 1 + 1) z3_2).trans HR3_2.out
  have r0 := rowcell RR 0
  have r1 := rowcell RR 1
  have r2 := rowcell RR 2
  have r3 := rowcell RR 3
  have r4 := rowcell RR 4
  have r5 := rowcell RR 5
  have rf := rowfree RR
  simp only [List.getElem?_toArray, List.getElem?_cons_zero, List.getElem?_cons_succ] at r0 r1 r2 r3 r4 r5
  refine wpC_step 7 rfl (by kernel_rfl) (by kernel_rfl) (cls _ b5) (fun K hK => ?_)
  go_simp
  try (refine hK _ _ ?_; clear hK K)
  refine wpC_done (by kernel_rfl) (by simp [go_sem, cls _ b5]) ?_
  go_wp2
  refine bodyPost_ret (v := .agg #[.int .i64 K, .bool B, .int .i64 S, .int .u64 H, .int .u64 L, .bool R]) (by simp [results, Tryz.results26, go_sem, r0, r1, r2, r3, r4, r5]) rfl (hQ.out _ _ ⟨by simp, ?_⟩)
  exact cset6 (cthen (cthen (cthen (cthen (cmore (cmore (cmore (Below.refl _ _) _) _) _) HB1.out) HB2.out) HB3.out) b5) (by omega)
set_option maxHeartbeats 4000000 in
theorem sum9_near_sub (neg : Bool) (s : Int) (hi lo : Nat) (neg' : Bool) (s' : Int) (hi' lo' : Nat) (h : WordsX hi lo) (h' : WordsX hi' lo') (hs : -1099511627776 ≤ s ∧ s ≤ 1099511627776) (hs' : -1099511627776 ≤ s' ∧ s' ≤ 1099511627776) (hle : s' ≤ s) (hf : ¬ 400 < s - s') (hn : neg ≠ neg') (d : Nat) (hd : (d : Int) = s - s') (hc : manX hi' lo' ≤ manX hi lo * 2 ^ d) (w : World) :
    Calls Tryz.prog 26 #[exV 1 neg s hi lo false, exV 1 neg' s' hi' lo' false] w fun e w' => e = .returned (exactV neg (manX hi lo * 2 ^ d - manX hi' lo') (s - 127 - d) false) ∧ Below w.heap.size w w' := by
  have hM := h.mant
  have hM' := h'.mant
  have hd4 : d ≤ 400 := by omega
  have hbl := @mul_blen (manX hi lo) d (manX hi' lo') hM.2 hM'.2 hd4
  have hbl1 := @mul_blen (manX hi lo) d 1 hM.2 (by decide) hd4
  have hTM : Tw (manX hi lo) hi lo := ⟨rfl, by have := h.hi64; omega, by have := h.lo64; omega⟩
  have hTM' : Tw (manX hi' lo') hi' lo' := ⟨rfl, by have := h'.hi64; omega, by have := h'.lo64; omega⟩
  have hA1 : blen (manX hi lo * 2 ^ d) ≤ 1000 := Nat.le_trans (blen_mono (Nat.le_add_right _ _)) hbl
  have hS0 := dlen_mant hM.2
  have hSA := dlen_of_blen (Nat.le_trans hA1 (by decide : 1000 ≤ 1099511627776))
  have k1 := fun w => rof_any hTM w
  have k2 := fun w => rof_any hTM' w
  have k3 := fun v w hr => nshl_anyq v (manX hi lo) d (by omega) hS0 w hr
  have hNb : blen (manX hi lo * 2 ^ d - manX hi' lo') ≤ 1000 := Nat.le_trans (blen_mono (Nat.sub_le _ _)) hA1
  have k4 := fun va vb w ha hb => ncmp_anyq va vb (manX hi lo * 2 ^ d) (manX hi' lo') w ha hb
  have hcm : decide ((0 : Int) ≤ cmpN (manX hi lo * 2 ^ d) (manX hi' lo')) = true := cmp_ge hc
  have k5 := fun va vb w ha hb => nsub_anyq va vb (manX hi lo * 2 ^ d) (manX hi' lo') hc hSA w ha hb
  have k6 := fun v w hr => exactly7_any neg v (manX hi lo * 2 ^ d - manX hi' lo') (s - 127 - d) false (Nat.le_trans hNb (by decide)) (by omega) w hr
  obtain ⟨K, B, S, H, L, R, hform⟩ := exactV_form neg (manX hi lo * 2 ^ d - manX hi' lo') (s - 127 - d) false
  rw [hform] at k6 ⊢
  have e1 : IntKind.i64.wrap (s - s') = s - s' := wrapI (by omega)
  have g0 : decide (s < s') = false := decide_eq_false (by omega)
  have e2 : IntKind.i64.wrap (s - 127) = s - 127 := wrapI (by omega)
  have e3 : IntKind.i64.wrap (s - 127 - (d : Int)) = s - 127 - (d : Int) := wrapI (by omega)
  have g1 : decide ((400 : Int) < (d : Int)) = false := decide_eq_false (by omega)
  replace e1 : IntKind.i64.wrap (s - s') = (d : Int) := e1.trans hd.symm
  have hnb : (neg == neg') = false := beq_eq_false_iff_ne.2 hn
  have hle3 : True := trivial
  generalize (manX hi lo * 2 ^ d - manX hi' lo') = NN at *
  generalize manX hi lo * 2 ^ d = A at *
  generalize manX hi lo = M at *
  generalize manX hi' lo' = M2 at *
  clear hform hbl hbl1 hNb hA1 hSA hS0 hTM hTM' hM hM' h h' hs hs' hle hf hd hd4 hle3 hn hc
  unfold exV at *
  refine cps fun Q hQ => ?_
  go_enter Tryz.func26, Tryz.ntmps26
  go_wp2_with (first
    | (go_at_call_of 41 hi; go_must (refine (k1 _).mono ?_); rintro e w1 ⟨v1, rfl, hr1, hb1⟩; have R1_0 := (hb1.block (w.heap.size) (by first | (simp; done) | (simp; omega) | omega)).trans ((Below.heap_alloc _ _ _ (by first | (simp; done) | (simp; omega) | omega)).trans ((Below.heap_alloc _ _ _ (by first | (simp; done) | (simp; omega) | omega)).trans (rownew' _ _ _ _ (by simp)))); have z1_0 : w.heap.size < w1.heap.size := Nat.lt_of_lt_of_le (by first | (simp; done) | (simp; omega) | omega) hb1.size; have HR1_0 : Hid _ := R1_0; clear R1_0; have R1_1 := (hb1.block (w.heap.size + 1) (by first | (simp; done) | (simp; omega) | omega)).trans ((Below.heap_alloc _ _ _ (by first | (simp; done) | (simp; omega) | omega)).trans (rownew' _ _ _ _ (by simp))); have z1_1 : w.heap.size + 1 < w1.heap.size := Nat.lt_of_lt_of_le (by first | (simp; done) | (simp; omega) | omega) hb1.size; have c1_1_3 := rowcell R1_1 3; have c1_1_4 := rowcell R1_1 4; simp only [List.getElem?_toArray, List.getElem?_cons_zero, List.getElem?_cons_succ] at c1_1_3 c1_1_4; have HR1_1 : Hid _ := R1_1; clear R1_1; have R1_2 := (hb1.block (w.heap.size + 1 + 1) (by first | (simp; done) | (simp; omega) | omega)).trans (rownew' _ _ _ _ (by simp)); have z1_2 : w.heap.size + 1 + 1 < w1.heap.size := Nat.lt_of_lt_of_le (by first | (simp; done) | (simp; omega) | omega) hb1.size; have HR1_2 : Hid _ := R1_2; clear R1_2; have HB1 : Hid (Below _ _ _) := hb1; clear hb1; have HV1 : Hid (Row w1 v1 (dig M)) := hr1; clear hr1)
    | (go_at_call_of 41 hi'; go_must (refine (k2 _).mono ?_); rintro e w2 ⟨v2, rfl, hr2, hb2⟩; have R2_0 := (hb2.block (w.heap.size) (by first | (simp; done) | (simp; omega) | omega)).trans HR1_0.out; have z2_0 : w.heap.size < w2.heap.size := Nat.lt_of_lt_of_le (by first | (simp; done) | (simp; omega) | omega) hb2.size; have c2_0_2 := rowcell R2_0 2; simp only [List.getElem?_toArray, List.getElem?_cons_zero, List.getElem?_cons_succ] at c2_0_2; have HR2_0 : Hid _ := R2_0; clear R2_0; have R2_1 := (hb2.block (w.heap.size + 1) (by first | (simp; done) | (simp; omega) | omega)).trans HR1_1.out; have z2_1 : w.heap.size + 1 < w2.heap.size := Nat.lt_of_lt_of_le (by first | (simp; done) | (simp; omega) | omega) hb2.size; have c2_1_2 := rowcell R2_1 2; simp only [List.getElem?_toArray, List.getElem?_cons_zero, List.getElem?_cons_succ] at c2_1_2; have HR2_1 : Hid _ := R2_1; clear R2_1; have R2_2 := (hb2.block (w.heap.size + 1 + 1) (by first | (simp; done) | (simp; omega) | omega)).trans HR1_2.out; have z2_2 : w.heap.size + 1 + 1 < w2.heap.size := Nat.lt_of_lt_of_le (by first | (simp; done) | (simp; omega) | omega) hb2.size; have HR2_2 : Hid _ := R2_2; clear R2_2; have HB2 : Hid (Below _ _ _) := hb2; clear hb2; have HV2 : Hid (Row w2 v2 (dig M2)) := hr2; have HW1 : Hid (Row w2 v1 (dig M)) := HV1.out.below HB2.out; clear hr2)
    | (go_at_call 42; go_must (refine (k3 _ _ HW1.out).mono ?_); rintro e w3 ⟨v3, rfl, hr3, hb3⟩; have R3_0 := (hb3.block (w.heap.size) (by first | (simp; done) | (simp; omega) | omega)).trans HR2_0.out; have z3_0 : w.heap.size < w3.heap.size := Nat.lt_of_lt_of_le (by first | (simp; done) | (simp; omega) | omega) hb3.size; have c3_0_2 := rowcell R3_0 2; have c3_0_1 := rowcell R3_0 1; simp only [List.getElem?_toArray, List.getElem?_cons_zero, List.getElem?_cons_succ] at c3_0_2 c3_0_1; have HR3_0 : Hid _ := R3_0; clear R3_0; have R3_1 := (hb3.block (w.heap.size + 1) (by first | (simp; done) | (simp; omega) | omega)).trans HR2_1.out; have z3_1 : w.heap.size + 1 < w3.heap.size := Nat.lt_of_lt_of_le (by first | (simp; done) | (simp; omega) | omega) hb3.size; have c3_1_1 := rowcell R3_1 1; simp only [List.getElem?_toArray, List.getElem?_cons_zero, List.getElem?_cons_succ] at c3_1_1; have HR3_1 : Hid _ := R3_1; clear R3_1; have R3_2 := (hb3.block (w.heap.size + 1 + 1) (by first | (simp; done) | (simp; omega) | omega)).trans HR2_2.out; have z3_2 : w.heap.size + 1 + 1 < w3.heap.size := Nat.lt_of_lt_of_le (by first | (simp; done) | (simp; omega) | omega) hb3.size; have HR3_2 : Hid _ := R3_2; clear R3_2; have HB3 : Hid (Below _ _ _) := hb3; clear hb3; have HV3 : Hid (Row w3 v3 (dig A)) := hr3; have HW2 : Hid (Row w3 v2 (dig M2)) := HV2.out.below HB3.out; clear hr3)
    | (go_at_call 45; go_must (refine (k4 _ _ _ HV3.out HW2.out).mono ?_); rintro e wx ⟨rfl, q, rfl⟩))
  have bq : Below w3.heap.size w3 (w3.drewN q) := below_drewN (Below.refl _ _) q
  have cls : ∀ W, Below w3.heap.size w3 W → W.cell? ⟨w.heap.size, 1, none⟩ = some (.bool neg) := fun W hW => (hW.cell (p := ⟨w.heap.size, 1, none⟩) z3_0).trans c3_0_1
  refine wpC_region (fun W => W.cell? ⟨w.heap.size, 1, none⟩ = some (.bool neg)) (by kernel_rfl) ?_
  refine wpC_take 0 (v := ?_) rfl (by kernel_rfl) (fun _ _ _ h => h) (by kernel_rfl) ?_ ?_; rotate_left; · (intro wC hC; obtain c1 := hC; go_simp <;> with_reducible rfl)
  refine wpC_take 1 (v := ?_) rfl (by kernel_rfl) (fun _ _ _ h => h) (by kernel_rfl) ?_ ?_; rotate_left; · (intro wC hC; obtain c1 := hC; go_simp <;> with_reducible rfl)
  refine wpC_take 2 (v := ?_) rfl (by kernel_rfl) (fun _ _ _ h => h) (by kernel_rfl) ?_ ?_; rotate_left; · (intro wC hC; obtain c1 := hC; go_simp <;> with_reducible rfl)
  refine wpC_take 3 (v := ?_) rfl (by kernel_rfl) (fun _ _ _ h => h) (by kernel_rfl) ?_ ?_; rotate_left; · (intro wC hC; obtain c1 := hC; go_simp <;> with_reducible rfl)
  refine wpC_take 5 (v := ?_) rfl (by kernel_rfl) (fun _ _ _ h => h) (by kernel_rfl) ?_ ?_; rotate_left; · (intro wC hC; obtain c1 := hC; go_simp <;> with_reducible rfl)
  refine wpC_step 4 rfl (by kernel_rfl) (by kernel_rfl) (cls _ (cdrew bq)) (fun K hK => ?_)
  go_simp
  go_wp2_with ((go_at_call 46; go_must (refine (k5 _ _ _ (HV3.out.below (cdrew bq)) (HW2.out.below (cdrew bq))).mono ?_); rintro e w4 ⟨v4, rfl, hr4, hb4⟩))
  try (refine hK _ _ ?_; clear hK K)
  have b4 : Below w3.heap.size w3 w4 := cthen (cdrew bq) hb4
  refine wpC_step 6 rfl (by kernel_rfl) (by kernel_rfl) (cls _ b4) (fun K hK => ?_)
  go_simp
  go_wp2_with ((go_at_call 43; go_must (refine (k6 _ _ hr4).mono ?_); rintro e w5 ⟨rfl, hb5⟩))
  try (refine hK _ _ ?_; clear hK K)
  have b5 : Below w3.heap.size w3 w5 := cthen b4 hb5
  have RR := (b5.block (w.heap.size + 1 + 1) z3_2).trans HR3_2.out
  have r0 := rowcell RR 0
  have r1 := rowcell RR 1
  have r2 := rowcell RR 2
  have r3 := rowcell RR 3
  have r4 := rowcell RR 4
  have r5 := rowcell RR 5
  have rf := rowfree RR
  simp only [List.getElem?_toArray, List.getElem?_cons_zero, List.getElem?_cons_succ] at r0 r1 r2 r3 r4 r5
  refine wpC_step 7 rfl (by kernel_rfl) (by kernel_rfl) (cls _ b5) (fun K hK => ?_)
  go_simp
  try (refine hK _ _ ?_; clear hK K)
  refine wpC_done (by kernel_rfl) (by simp [go_sem, cls _ b5]) ?_
  go_wp2
  refine bodyPost_ret (v := .agg #[.int .i64 K, .bool B, .int .i64 S, .int .u64 H, .int .u64 L, .bool R]) (by simp [results, Tryz.results26, go_sem, r0, r1, r2, r3, r4, r5]) rfl (hQ.out _ _ ⟨by simp, ?_⟩)
  exact cset6 (cthen (cthen (cthen (cthen (cmore (cmore (cmore (Below.refl _ _) _) _) _) HB1.out) HB2.out) HB3.out) b5) (by omega)
set_option maxHeartbeats 4000000 in
theorem sum9_near_bus (neg : Bool) (s : Int) (hi lo : Nat) (neg' : Bool) (s' : Int) (hi' lo' : Nat) (h : WordsX hi lo) (h' : WordsX hi' lo') (hs : -1099511627776 ≤ s ∧ s ≤ 1099511627776) (hs' : -1099511627776 ≤ s' ∧ s' ≤ 1099511627776) (hle : s' ≤ s) (hf : ¬ 400 < s - s') (hn : neg ≠ neg') (d : Nat) (hd : (d : Int) = s - s') (hc : ¬ manX hi' lo' ≤ manX hi lo * 2 ^ d) (w : World) :
    Calls Tryz.prog 26 #[exV 1 neg s hi lo false, exV 1 neg' s' hi' lo' false] w fun e w' => e = .returned (exactV neg' (manX hi' lo' - manX hi lo * 2 ^ d) (s - 127 - d) false) ∧ Below w.heap.size w w' := by
  have hM := h.mant
  have hM' := h'.mant
  have hd4 : d ≤ 400 := by omega
  have hbl := @mul_blen (manX hi lo) d (manX hi' lo') hM.2 hM'.2 hd4
  have hbl1 := @mul_blen (manX hi lo) d 1 hM.2 (by decide) hd4
  have hTM : Tw (manX hi lo) hi lo := ⟨rfl, by have := h.hi64; omega, by have := h.lo64; omega⟩
  have hTM' : Tw (manX hi' lo') hi' lo' := ⟨rfl, by have := h'.hi64; omega, by have := h'.lo64; omega⟩
  have hA1 : blen (manX hi lo * 2 ^ d) ≤ 1000 := Nat.le_trans (blen_mono (Nat.le_add_right _ _)) hbl
  have hS0 := dlen_mant hM.2
  have hSA := dlen_of_blen (Nat.le_trans hA1 (by decide : 1000 ≤ 1099511627776))
  have k1 := fun w => rof_any hTM w
  have k2 := fun w => rof_any hTM' w
  have k3 := fun v w hr => nshl_anyq v (manX hi lo) d (by omega) hS0 w hr
  have hNb : blen (manX hi' lo' - manX hi lo * 2 ^ d) ≤ 1000 := Nat.le_trans (blen_mono (Nat.le_trans (Nat.sub_le _ _) (Nat.le_add_left _ (manX hi lo * 2 ^ d)))) hbl
  have k4 := fun va vb w ha hb => ncmp_anyq va vb (manX hi lo * 2 ^ d) (manX hi' lo') w ha hb
  have hcm : decide ((0 : Int) ≤ cmpN (manX hi lo * 2 ^ d) (manX hi' lo')) = false := decide_eq_false (by rw [cmpN_lt (by omega)]; decide)
  have k5 := fun va vb w ha hb => nsub_anyq va vb (manX hi' lo') (manX hi lo * 2 ^ d) (by omega) (dlen_of_blen (Nat.le_trans (blen_mono (Nat.le_add_left _ (manX hi lo * 2 ^ d))) (Nat.le_trans hbl (by decide : 1000 ≤ 1099511627776)))) w ha hb
  have k6 := fun v w hr => exactly7_any neg' v (manX hi' lo' - manX hi lo * 2 ^ d) (s - 127 - d) false (Nat.le_trans hNb (by decide)) (by omega) w hr
  obtain ⟨K, B, S, H, L, R, hform⟩ := exactV_form neg' (manX hi' lo' - manX hi lo * 2 ^ d) (s - 127 - d) false
  rw [hform] at k6 ⊢
  have e1 : IntKind.i64.wrap (s - s') = s - s' := wrapI (by omega)
  have g0 : decide (s < s') = false := decide_eq_false (by omega)
  have e2 : IntKind.i64.wrap (s - 127) = s - 127 := wrapI (by omega)
  have e3 : IntKind.i64.wrap (s - 127 - (d : Int)) = s - 127 - (d : Int) := wrapI (by omega)
  have g1 : decide ((400 : Int) < (d : Int)) = false := decide_eq_false (by omega)
  replace e1 : IntKind.i64.wrap (s - s') = (d : Int) := e1.trans hd.symm
  have hnb : (neg == neg') = false := beq_eq_false_iff_ne.2 hn
  have hle3 : True := trivial
  generalize (manX hi' lo' - manX hi lo * 2 ^ d) = NN at *
  generalize manX hi lo * 2 ^ d = A at *
  generalize manX hi lo = M at *
  generalize manX hi' lo' = M2 at *
  clear hform hbl hbl1 hNb hA1 hSA hS0 hTM hTM' hM hM' h h' hs hs' hle hf hd hd4 hle3 hn hc
  unfold exV at *
  refine cps fun Q hQ => ?_
  go_enter Tryz.func26, Tryz.ntmps26
  go_wp2_with (first
    | (go_at_call_of 41 hi; go_must (refine (k1 _).mono ?_); rintro e w1 ⟨v1, rfl, hr1, hb1⟩; have R1_0 := (hb1.block (w.heap.size) (by first | (simp; done) | (simp; omega) | omega)).trans ((Below.heap_alloc _ _ _ (by first | (simp; done) | (simp; omega) | omega)).trans ((Below.heap_alloc _ _ _ (by first | (simp; done) | (simp; omega) | omega)).trans (rownew' _ _ _ _ (by simp)))); have z1_0 : w.heap.size < w1.heap.size := Nat.lt_of_lt_of_le (by first | (simp; done) | (simp; omega) | omega) hb1.size; have HR1_0 : Hid _ := R1_0; clear R1_0; have R1_1 := (hb1.block (w.heap.size + 1) (by first | (simp; done) | (simp; omega) | omega)).trans ((Below.heap_alloc _ _ _ (by first | (simp; done) | (simp; omega) | omega)).trans (rownew' _ _ _ _ (by simp))); have z1_1 : w.heap.size + 1 < w1.heap.size := Nat.lt_of_lt_of_le (by first | (simp; done) | (simp; omega) | omega) hb1.size; have c1_1_3 := rowcell R1_1 3; have c1_1_4 := rowcell R1_1 4; simp only [List.getElem?_toArray, List.getElem?_cons_zero, List.getElem?_cons_succ] at c1_1_3 c1_1_4; have HR1_1 : Hid _ := R1_1; clear R1_1; have R1_2 := (hb1.block (w.heap.size + 1 + 1) (by first | (simp; done) | (simp; omega) | omega)).trans (rownew' _ _ _ _ (by simp)); have z1_2 : w.heap.size + 1 + 1 < w1.heap.size := Nat.lt_of_lt_of_le (by first | (simp; done) | (simp; omega) | omega) hb1.size; have HR1_2 : Hid _ := R1_2; clear R1_2; have HB1 : Hid (Below _ _ _) := hb1; clear hb1; have HV1 : Hid (Row w1 v1 (dig M)) := hr1; clear hr1)
    | (go_at_call_of 41 hi'; go_must (refine (k2 _).mono ?_); rintro e w2 ⟨v2, rfl, hr2, hb2⟩; have R2_0 := (hb2.block (w.heap.size) (by first | (simp; done) | (simp; omega) | omega)).trans HR1_0.out; have z2_0 : w.heap.size < w2.heap.size := Nat.lt_of_lt_of_le (by first | (simp; done) | (simp; omega) | omega) hb2.size; have c2_0_2 := rowcell R2_0 2; simp only [List.getElem?_toArray, List.getElem?_cons_zero, List.getElem?_cons_succ] at c2_0_2; have HR2_0 : Hid _ := R2_0; clear R2_0; have R2_1 := (hb2.block (w.heap.size + 1) (by first | (simp; done) | (simp; omega) | omega)).trans HR1_1.out; have z2_1 : w.heap.size + 1 < w2.heap.size := Nat.lt_of_lt_of_le (by first | (simp; done) | (simp; omega) | omega) hb2.size; have c2_1_2 := rowcell R2_1 2; simp only [List.getElem?_toArray, List.getElem?_cons_zero, List.getElem?_cons_succ] at c2_1_2; have HR2_1 : Hid _ := R2_1; clear R2_1; have R2_2 := (hb2.block (w.heap.size + 1 + 1) (by first | (simp; done) | (simp; omega) | omega)).trans HR1_2.out; have z2_2 : w.heap.size + 1 + 1 < w2.heap.size := Nat.lt_of_lt_of_le (by first | (simp; done) | (simp; omega) | omega) hb2.size; have HR2_2 : Hid _ := R2_2; clear R2_2; have HB2 : Hid (Below _ _ _) := hb2; clear hb2; have HV2 : Hid (Row w2 v2 (dig M2)) := hr2; have HW1 : Hid (Row w2 v1 (dig M)) := HV1.out.below HB2.out; clear hr2)
    | (go_at_call 42; go_must (refine (k3 _ _ HW1.out).mono ?_); rintro e w3 ⟨v3, rfl, hr3, hb3⟩; have R3_0 := (hb3.block (w.heap.size) (by first | (simp; done) | (simp; omega) | omega)).trans HR2_0.out; have z3_0 : w.heap.size < w3.heap.size := Nat.lt_of_lt_of_le (by first | (simp; done) | (simp; omega) | omega) hb3.size; have c3_0_2 := rowcell R3_0 2; have c3_0_1 := rowcell R3_0 1; simp only [List.getElem?_toArray, List.getElem?_cons_zero, List.getElem?_cons_succ] at c3_0_2 c3_0_1; have HR3_0 : Hid _ := R3_0; clear R3_0; have R3_1 := (hb3.block (w.heap.size + 1) (by first | (simp; done) | (simp; omega) | omega)).trans HR2_1.out; have z3_1 : w.heap.size + 1 < w3.heap.size := Nat.lt_of_lt_of_le (by first | (simp; done) | (simp; omega) | omega) hb3.size; have c3_1_1 := rowcell R3_1 1; simp only [List.getElem?_toArray, List.getElem?_cons_zero, List.getElem?_cons_succ] at c3_1_1; have HR3_1 : Hid _ := R3_1; clear R3_1; have R3_2 := (hb3.block (w.heap.size + 1 + 1) (by first | (simp; done) | (simp; omega) | omega)).trans HR2_2.out; have z3_2 : w.heap.size + 1 + 1 < w3.heap.size := Nat.lt_of_lt_of_le (by first | (simp; done) | (simp; omega) | omega) hb3.size; have HR3_2 : Hid _ := R3_2; clear R3_2; have HB3 : Hid (Below _ _ _) := hb3; clear hb3; have HV3 : Hid (Row w3 v3 (dig A)) := hr3; have HW2 : Hid (Row w3 v2 (dig M2)) := HV2.out.below HB3.out; clear hr3)
    | (go_at_call 45; go_must (refine (k4 _ _ _ HV3.out HW2.out).mono ?_); rintro e wx ⟨rfl, q, rfl⟩))
  have bq : Below w3.heap.size w3 (w3.drewN q) := below_drewN (Below.refl _ _) q
  have cls : ∀ W, Below w3.heap.size w3 W → W.cell? ⟨w.heap.size + 1, 1, none⟩ = some (.bool neg') := fun W hW => (hW.cell (p := ⟨w.heap.size + 1, 1, none⟩) z3_1).trans c3_1_1
  refine wpC_region (fun W => W.cell? ⟨w.heap.size + 1, 1, none⟩ = some (.bool neg')) (by kernel_rfl) ?_
  refine wpC_take 0 (v := ?_) rfl (by kernel_rfl) (fun _ _ _ h => h) (by kernel_rfl) ?_ ?_; rotate_left; · (intro wC hC; obtain c1 := hC; go_simp <;> with_reducible rfl)
  refine wpC_take 1 (v := ?_) rfl (by kernel_rfl) (fun _ _ _ h => h) (by kernel_rfl) ?_ ?_; rotate_left; · (intro wC hC; obtain c1 := hC; go_simp <;> with_reducible rfl)
  refine wpC_take 2 (v := ?_) rfl (by kernel_rfl) (fun _ _ _ h => h) (by kernel_rfl) ?_ ?_; rotate_left; · (intro wC hC; obtain c1 := hC; go_simp <;> with_reducible rfl)
  refine wpC_take 3 (v := ?_) rfl (by kernel_rfl) (fun _ _ _ h => h) (by kernel_rfl) ?_ ?_; rotate_left; · (intro wC hC; obtain c1 := hC; go_simp <;> with_reducible rfl)
  refine wpC_take 5 (v := ?_) rfl (by kernel_rfl) (fun _ _ _ h => h) (by kernel_rfl) ?_ ?_; rotate_left; · (intro wC hC; obtain c1 := hC; go_simp <;> with_reducible rfl)
  refine wpC_step 4 rfl (by kernel_rfl) (by kernel_rfl) (cls _ (cdrew bq)) (fun K hK => ?_)
  go_simp
  go_wp2_with ((go_at_call 46; go_must (refine (k5 _ _ _ (HW2.out.below (cdrew bq)) (HV3.out.below (cdrew bq))).mono ?_); rintro e w4 ⟨v4, rfl, hr4, hb4⟩))
  try (refine hK _ _ ?_; clear hK K)
  have b4 : Below w3.heap.size w3 w4 := cthen (cdrew bq) hb4
  refine wpC_step 6 rfl (by kernel_rfl) (by kernel_rfl) (cls _ b4) (fun K hK => ?_)
  go_simp
  go_wp2_with ((go_at_call 43; go_must (refine (k6 _ _ hr4).mono ?_); rintro e w5 ⟨rfl, hb5⟩))
  try (refine hK _ _ ?_; clear hK K)
  have b5 : Below w3.heap.size w3 w5 := cthen b4 hb5
  have RR := (b5.block (w.heap.size + 1 + 1) z3_2).trans HR3_2.out
  have r0 := rowcell RR 0
  have r1 := rowcell RR 1
  have r2 := rowcell RR 2
  have r3 := rowcell RR 3
  have r4 := rowcell RR 4
  have r5 := rowcell RR 5
  have rf := rowfree RR
  simp only [List.getElem?_toArray, List.getElem?_cons_zero, List.getElem?_cons_succ] at r0 r1 r2 r3 r4 r5
  refine wpC_step 7 rfl (by kernel_rfl) (by kernel_rfl) (cls _ b5) (fun K hK => ?_)
  go_simp
  try (refine hK _ _ ?_; clear hK K)
  refine wpC_done (by kernel_rfl) (by simp [go_sem, cls _ b5]) ?_
  go_wp2
  refine bodyPost_ret (v := .agg #[.int .i64 K, .bool B, .int .i64 S, .int .u64 H, .int .u64 L, .bool R]) (by simp [results, Tryz.results26, go_sem, r0, r1, r2, r3, r4, r5]) rfl (hQ.out _ _ ⟨by simp, ?_⟩)
  exact cset6 (cthen (cthen (cthen (cthen (cmore (cmore (cmore (Below.refl _ _) _) _) _) HB1.out) HB2.out) HB3.out) b5) (by omega)
set_option maxHeartbeats 4000000 in
theorem sum9_far_add (neg : Bool) (s : Int) (hi lo : Nat) (neg' : Bool) (s' : Int) (hi' lo' : Nat) (h : WordsX hi lo) (h' : WordsX hi' lo') (hs : -1099511627776 ≤ s ∧ s ≤ 1099511627776) (hs' : -1099511627776 ≤ s' ∧ s' ≤ 1099511627776) (hle : s' ≤ s) (hf : 400 < s - s') (hn : neg = neg') (d : Nat) (hd : d = 400) (w : World) :
    Calls Tryz.prog 26 #[exV 1 neg s hi lo false, exV 1 neg' s' hi' lo' false] w fun e w' => e = .returned (exactV neg (manX hi lo * 2 ^ d + 1) (s - 127 - d) false) ∧ Below w.heap.size w w' := by
  have hM := h.mant
  have hM' := h'.mant
  have hd4 : d ≤ 400 := by omega
  have hbl := @mul_blen (manX hi lo) d (manX hi' lo') hM.2 hM'.2 hd4
  have hbl1 := @mul_blen (manX hi lo) d 1 hM.2 (by decide) hd4
  have hTM : Tw (manX hi lo) hi lo := ⟨rfl, by have := h.hi64; omega, by have := h.lo64; omega⟩
  have hTM' : Tw (manX hi' lo') hi' lo' := ⟨rfl, by have := h'.hi64; omega, by have := h'.lo64; omega⟩
  have hA1 : blen (manX hi lo * 2 ^ d) ≤ 1000 := Nat.le_trans (blen_mono (Nat.le_add_right _ _)) hbl
  have hS0 := dlen_mant hM.2
  have hSA := dlen_of_blen (Nat.le_trans hA1 (by decide : 1000 ≤ 1099511627776))
  have k1 := fun w => rof_any hTM w
  have k2 := fun w => rof_any hTM' w
  have k3 := fun v w hr => nshl_anyq v (manX hi lo) d (by omega) hS0 w hr
  have hNb : blen (manX hi lo * 2 ^ d + 1) ≤ 1000 := hbl1
  have k5 := fun va vb w ha hb => nadd_anyq va vb (manX hi lo * 2 ^ d) (1) (dlen_of_blen (Nat.le_trans hNb (by decide : 1000 ≤ 1099511627776))) w ha hb
  have k6 := fun v w hr => exactly7_any neg v (manX hi lo * 2 ^ d + 1) (s - 127 - d) false (Nat.le_trans hNb (by decide)) (by omega) w hr
  obtain ⟨K, B, S, H, L, R, hform⟩ := exactV_form neg (manX hi lo * 2 ^ d + 1) (s - 127 - d) false
  rw [hform] at k6 ⊢
  have e1 : IntKind.i64.wrap (s - s') = s - s' := wrapI (by omega)
  have g0 : decide (s < s') = false := decide_eq_false (by omega)
  have e2 : IntKind.i64.wrap (s - 127) = s - 127 := wrapI (by omega)
  have e3 : IntKind.i64.wrap (s - 127 - (d : Int)) = s - 127 - (d : Int) := wrapI (by omega)
  have g1 : decide ((400 : Int) < s - s') = true := decide_eq_true hf
  rw [show (d : Int) = 400 by rw [hd]; rfl] at *
  subst hn
  have hle3 : True := trivial
  generalize (manX hi lo * 2 ^ d + 1) = NN at *
  generalize manX hi lo * 2 ^ d = A at *
  generalize manX hi lo = M at *
  generalize manX hi' lo' = M2 at *
  clear hform hbl hbl1 hNb hA1 hSA hS0 hTM hTM' hM hM' h h' hs hs' hle hf hd hd4 hle3
  unfold exV at *
  refine cps fun Q hQ => ?_
  go_enter Tryz.func26, Tryz.ntmps26
  go_wp2_with (first
    | (go_at_call_of 41 hi; go_must (refine (k1 _).mono ?_); rintro e w1 ⟨v1, rfl, hr1, hb1⟩; have R1_0 := (hb1.block (w.heap.size) (by first | (simp; done) | (simp; omega) | omega)).trans ((Below.heap_alloc _ _ _ (by first | (simp; done) | (simp; omega) | omega)).trans ((Below.heap_alloc _ _ _ (by first | (simp; done) | (simp; omega) | omega)).trans (rownew' _ _ _ _ (by simp)))); have z1_0 : w.heap.size < w1.heap.size := Nat.lt_of_lt_of_le (by first | (simp; done) | (simp; omega) | omega) hb1.size; have HR1_0 : Hid _ := R1_0; clear R1_0; have R1_1 := (hb1.block (w.heap.size + 1) (by first | (simp; done) | (simp; omega) | omega)).trans ((Below.heap_alloc _ _ _ (by first | (simp; done) | (simp; omega) | omega)).trans (rownew' _ _ _ _ (by simp))); have z1_1 : w.heap.size + 1 < w1.heap.size := Nat.lt_of_lt_of_le (by first | (simp; done) | (simp; omega) | omega) hb1.size; have c1_1_3 := rowcell R1_1 3; have c1_1_4 := rowcell R1_1 4; simp only [List.getElem?_toArray, List.getElem?_cons_zero, List.getElem?_cons_succ] at c1_1_3 c1_1_4; have HR1_1 : Hid _ := R1_1; clear R1_1; have R1_2 := (hb1.block (w.heap.size + 1 + 1) (by first | (simp; done) | (simp; omega) | omega)).trans (rownew' _ _ _ _ (by simp)); have z1_2 : w.heap.size + 1 + 1 < w1.heap.size := Nat.lt_of_lt_of_le (by first | (simp; done) | (simp; omega) | omega) hb1.size; have HR1_2 : Hid _ := R1_2; clear R1_2; have HB1 : Hid (Below _ _ _) := hb1; clear hb1; have HV1 : Hid (Row w1 v1 (dig M)) := hr1; clear hr1)
    | (go_at_call_of 41 hi'; go_must (refine (k2 _).mono ?_); rintro e w2 ⟨v2, rfl, hr2, hb2⟩; have R2_0 := (hb2.block (w.heap.size) (by first | (simp; done) | (simp; omega) | omega)).trans HR1_0.out; have z2_0 : w.heap.size < w2.heap.size := Nat.lt_of_lt_of_le (by first | (simp; done) | (simp; omega) | omega) hb2.size; have c2_0_2 := rowcell R2_0 2; simp only [List.getElem?_toArray, List.getElem?_cons_zero, List.getElem?_cons_succ] at c2_0_2; have HR2_0 : Hid _ := R2_0; clear R2_0; have R2_1 := (hb2.block (w.heap.size + 1) (by first | (simp; done) | (simp; omega) | omega)).trans HR1_1.out; have z2_1 : w.heap.size + 1 < w2.heap.size := Nat.lt_of_lt_of_le (by first | (simp; done) | (simp; omega) | omega) hb2.size; have c2_1_2 := rowcell R2_1 2; simp only [List.getElem?_toArray, List.getElem?_cons_zero, List.getElem?_cons_succ] at c2_1_2; have HR2_1 : Hid _ := R2_1; clear R2_1; have R2_2 := (hb2.block (w.heap.size + 1 + 1) (by first | (simp; done) | (simp; omega) | omega)).trans HR1_2.out; have z2_2 : w.heap.size + 1 + 1 < w2.heap.size := Nat.lt_of_lt_of_le (by first | (simp; done) | (simp; omega) | omega) hb2.size; have HR2_2 : Hid _ := R2_2; clear R2_2; have HB2 : Hid (Below _ _ _) := hb2; clear hb2; have HV2 : Hid (Row w2 v2 (dig M2)) := hr2; have HW1 : Hid (Row w2 v1 (dig M)) := HV1.out.below HB2.out; clear hr2)
    | (go_at_call 42; go_must (refine (k3 _ _ (HW1.out.below (cmore (Below.refl _ _) _))).mono ?_); rintro e w3 ⟨v3, rfl, hr3, hb3⟩; have R3_0 := (hb3.block (w.heap.size) (by first | (simp; done) | (simp; omega) | omega)).trans ((Below.heap_alloc _ _ _ (by first | (simp; done) | (simp; omega) | omega)).trans HR2_0.out); have z3_0 : w.heap.size < w3.heap.size := Nat.lt_of_lt_of_le (by first | (simp; done) | (simp; omega) | omega) hb3.size; have c3_0_2 := rowcell R3_0 2; have c3_0_1 := rowcell R3_0 1; simp only [List.getElem?_toArray, List.getElem?_cons_zero, List.getElem?_cons_succ] at c3_0_2 c3_0_1; have HR3_0 : Hid _ := R3_0; clear R3_0; have R3_1 := (hb3.block (w.heap.size + 1) (by first | (simp; done) | (simp; omega) | omega)).trans ((Below.heap_alloc _ _ _ (by first | (simp; done) | (simp; omega) | omega)).trans HR2_1.out); have z3_1 : w.heap.size + 1 < w3.heap.size := Nat.lt_of_lt_of_le (by first | (simp; done) | (simp; omega) | omega) hb3.size; have c3_1_1 := rowcell R3_1 1; simp only [List.getElem?_toArray, List.getElem?_cons_zero, List.getElem?_cons_succ] at c3_1_1; have HR3_1 : Hid _ := R3_1; clear R3_1; have R3_2 := (hb3.block (w.heap.size + 1 + 1) (by first | (simp; done) | (simp; omega) | omega)).trans ((Below.heap_alloc _ _ _ (by first | (simp; done) | (simp; omega) | omega)).trans HR2_2.out); have z3_2 : w.heap.size + 1 + 1 < w3.heap.size := Nat.lt_of_lt_of_le (by first | (simp; done) | (simp; omega) | omega) hb3.size; have HR3_2 : Hid _ := R3_2; clear R3_2; have R3_3 := (hb3.block (w2.heap.size) (by first | (simp; done) | (simp; omega) | omega)).trans (rownew' _ _ _ _ (by simp)); have z3_3 : w2.heap.size < w3.heap.size := Nat.lt_of_lt_of_le (by first | (simp; done) | (simp; omega) | omega) hb3.size; have HR3_3 : Hid _ := R3_3; clear R3_3; have HB3 : Hid (Below _ _ _) := hb3; clear hb3; have HV3 : Hid (Row w3 v3 (dig A)) := hr3; have HW2 : Hid (Row w3 _ (dig 1)) := (row_lit w2 3 1 (by decide) (by decide)).below HB3.out; clear hr3))
  have bq : Below w3.heap.size w3 w3 := Below.refl _ _
  have cls : ∀ W, Below w3.heap.size w3 W → W.cell? ⟨w.heap.size, 1, none⟩ = some (.bool neg) := fun W hW => (hW.cell (p := ⟨w.heap.size, 1, none⟩) z3_0).trans c3_0_1
  refine wpC_region (fun W => W.cell? ⟨w.heap.size, 1, none⟩ = some (.bool neg)) (by kernel_rfl) ?_
  refine wpC_take 0 (v := ?_) rfl (by kernel_rfl) (fun _ _ _ h => h) (by kernel_rfl) ?_ ?_; rotate_left; · (intro wC hC; obtain c1 := hC; go_simp <;> with_reducible rfl)
  refine wpC_take 1 (v := ?_) rfl (by kernel_rfl) (fun _ _ _ h => h) (by kernel_rfl) ?_ ?_; rotate_left; · (intro wC hC; obtain c1 := hC; go_simp <;> with_reducible rfl)
  refine wpC_take 2 (v := ?_) rfl (by kernel_rfl) (fun _ _ _ h => h) (by kernel_rfl) ?_ ?_; rotate_left; · (intro wC hC; obtain c1 := hC; go_simp <;> with_reducible rfl)
  refine wpC_take 3 (v := ?_) rfl (by kernel_rfl) (fun _ _ _ h => h) (by kernel_rfl) ?_ ?_; rotate_left; · (intro wC hC; obtain c1 := hC; go_simp <;> with_reducible rfl)
  refine wpC_take 5 (v := ?_) rfl (by kernel_rfl) (fun _ _ _ h => h) (by kernel_rfl) ?_ ?_; rotate_left; · (intro wC hC; obtain c1 := hC; go_simp <;> with_reducible rfl)
  refine wpC_step 4 rfl (by kernel_rfl) (by kernel_rfl) (cls _ (cdrew bq)) (fun K hK => ?_)
  go_simp
  go_wp2_with ((go_at_call 44; go_must (refine (k5 _ _ _ (HV3.out.below (cdrew bq)) (HW2.out.below (cdrew bq))).mono ?_); rintro e w4 ⟨v4, rfl, hr4, hb4⟩))
  try (refine hK _ _ ?_; clear hK K)
  have b4 : Below w3.heap.size w3 w4 := cthen (cdrew bq) hb4
  refine wpC_step 6 rfl (by kernel_rfl) (by kernel_rfl) (cls _ b4) (fun K hK => ?_)
  go_simp
  go_wp2_with ((go_at_call 43; go_must (refine (k6 _ _ hr4).mono ?_); rintro e w5 ⟨rfl, hb5⟩))
  try (refine hK _ _ ?_; clear hK K)
  have b5 : Below w3.heap.size w3 w5 := cthen b4 hb5
  have RR := (b5.block (w.heap.size + 1 + 1) z3_2).trans HR3_2.out
  have r0 := rowcell RR 0
  have r1 := rowcell RR 1
  have r2 := rowcell RR 2
  have r3 := rowcell RR 3
  have r4 := rowcell RR 4
  have r5 := rowcell RR 5
  have rf := rowfree RR
  simp only [List.getElem?_toArray, List.getElem?_cons_zero, List.getElem?_cons_succ] at r0 r1 r2 r3 r4 r5
  refine wpC_step 7 rfl (by kernel_rfl) (by kernel_rfl) (cls _ b5) (fun K hK => ?_)
  go_simp
  try (refine hK _ _ ?_; clear hK K)
  refine wpC_done (by kernel_rfl) (by simp [go_sem, cls _ b5]) ?_
  go_wp2
  refine bodyPost_ret (v := .agg #[.int .i64 K, .bool B, .int .i64 S, .int .u64 H, .int .u64 L, .bool R]) (by simp [results, Tryz.results26, go_sem, r0, r1, r2, r3, r4, r5]) rfl (hQ.out _ _ ⟨by simp, ?_⟩)
  exact cset6 (cthen (cthen (cmore (cthen (cthen (cmore (cmore (cmore (Below.refl _ _) _) _) _) HB1.out) HB2.out) _) HB3.out) b5) (by omega)
set_option maxHeartbeats 4000000 in
theorem sum9_far_sub (neg : Bool) (s : Int) (hi lo : Nat) (neg' : Bool) (s' : Int) (hi' lo' : Nat) (h : WordsX hi lo) (h' : WordsX hi' lo') (hs : -1099511627776 ≤ s ∧ s ≤ 1099511627776) (hs' : -1099511627776 ≤ s' ∧ s' ≤ 1099511627776) (hle : s' ≤ s) (hf : 400 < s - s') (hn : neg ≠ neg') (d : Nat) (hd : d = 400) (hc : 1 ≤ manX hi lo * 2 ^ d) (w : World) :
    Calls Tryz.prog 26 #[exV 1 neg s hi lo false, exV 1 neg' s' hi' lo' false] w fun e w' => e = .returned (exactV neg (manX hi lo * 2 ^ d - 1) (s - 127 - d) false) ∧ Below w.heap.size w w' := by
  have hM := h.mant
  have hM' := h'.mant
  have hd4 : d ≤ 400 := by omega
  have hbl := @mul_blen (manX hi lo) d (manX hi' lo') hM.2 hM'.2 hd4
  have hbl1 := @mul_blen (manX hi lo) d 1 hM.2 (by decide) hd4
  have hTM : Tw (manX hi lo) hi lo := ⟨rfl, by have := h.hi64; omega, by have := h.lo64; omega⟩
  have hTM' : Tw (manX hi' lo') hi' lo' := ⟨rfl, by have := h'.hi64; omega, by have := h'.lo64; omega⟩
  have hA1 : blen (manX hi lo * 2 ^ d) ≤ 1000 := Nat.le_trans (blen_mono (Nat.le_add_right _ _)) hbl
  have hS0 := dlen_mant hM.2
  have hSA := dlen_of_blen (Nat.le_trans hA1 (by decide : 1000 ≤ 1099511627776))
  have k1 := fun w => rof_any hTM w
  have k2 := fun w => rof_any hTM' w
  have k3 := fun v w hr => nshl_anyq v (manX hi lo) d (by omega) hS0 w hr
  have hNb : blen (manX hi lo * 2 ^ d - 1) ≤ 1000 := Nat.le_trans (blen_mono (Nat.sub_le _ _)) hA1
  have k4 := fun va vb w ha hb => ncmp_anyq va vb (manX hi lo * 2 ^ d) (1) w ha hb
  have hcm : decide ((0 : Int) ≤ cmpN (manX hi lo * 2 ^ d) (1)) = true := cmp_ge hc
  have k5 := fun va vb w ha hb => nsub_anyq va vb (manX hi lo * 2 ^ d) (1) hc hSA w ha hb
  have k6 := fun v w hr => exactly7_any neg v (manX hi lo * 2 ^ d - 1) (s - 127 - d) false (Nat.le_trans hNb (by decide)) (by omega) w hr
  obtain ⟨K, B, S, H, L, R, hform⟩ := exactV_form neg (manX hi lo * 2 ^ d - 1) (s - 127 - d) false
  rw [hform] at k6 ⊢
  have e1 : IntKind.i64.wrap (s - s') = s - s' := wrapI (by omega)
  have g0 : decide (s < s') = false := decide_eq_false (by omega)
  have e2 : IntKind.i64.wrap (s - 127) = s - 127 := wrapI (by omega)
  have e3 : IntKind.i64.wrap (s - 127 - (d : Int)) = s - 127 - (d : Int) := wrapI (by omega)
  have g1 : decide ((400 : Int) < s - s') = true := decide_eq_true hf
  rw [show (d : Int) = 400 by rw [hd]; rfl] at *
  have hnb : (neg == neg') = false := beq_eq_false_iff_ne.2 hn
  have hle3 : True := trivial
  generalize (manX hi lo * 2 ^ d - 1) = NN at *
  generalize manX hi lo * 2 ^ d = A at *
  generalize manX hi lo = M at *
  generalize manX hi' lo' = M2 at *
  clear hform hbl hbl1 hNb hA1 hSA hS0 hTM hTM' hM hM' h h' hs hs' hle hf hd hd4 hle3 hn hc
  unfold exV at *
  refine cps fun Q hQ => ?_
  go_enter Tryz.func26, Tryz.ntmps26
  go_wp2_with (first
    | (go_at_call_of 41 hi; go_must (refine (k1 _).mono ?_); rintro e w1 ⟨v1, rfl, hr1, hb1⟩; have R1_0 := (hb1.block (w.heap.size) (by first | (simp; done) | (simp; omega) | omega)).trans ((Below.heap_alloc _ _ _ (by first | (simp; done) | (simp; omega) | omega)).trans ((Below.heap_alloc _ _ _ (by first | (simp; done) | (simp; omega) | omega)).trans (rownew' _ _ _ _ (by simp)))); have z1_0 : w.heap.size < w1.heap.size := Nat.lt_of_lt_of_le (by first | (simp; done) | (simp; omega) | omega) hb1.size; have HR1_0 : Hid _ := R1_0; clear R1_0; have R1_1 := (hb1.block (w.heap.size + 1) (by first | (simp; done) | (simp; omega) | omega)).trans ((Below.heap_alloc _ _ _ (by first | (simp; done) | (simp; omega) | omega)).trans (rownew' _ _ _ _ (by simp))); have z1_1 : w.heap.size + 1 < w1.heap.size := Nat.lt_of_lt_of_le (by first | (simp; done) | (simp; omega) | omega) hb1.size; have c1_1_3 := rowcell R1_1 3; have c1_1_4 := rowcell R1_1 4; simp only [List.getElem?_toArray, List.getElem?_cons_zero, List.getElem?_cons_succ] at c1_1_3 c1_1_4; have HR1_1 : Hid _ := R1_1; clear R1_1; have R1_2 := (hb1.block (w.heap.size + 1 + 1) (by first | (simp; done) | (simp; omega) | omega)).trans (rownew' _ _ _ _ (by simp)); have z1_2 : w.heap.size + 1 + 1 < w1.heap.size := Nat.lt_of_lt_of_le (by first | (simp; done) | (simp; omega) | omega) hb1.size; have HR1_2 : Hid _ := R1_2; clear R1_2; have HB1 : Hid (Below _ _ _) := hb1; clear hb1; have HV1 : Hid (Row w1 v1 (dig M)) := hr1; clear hr1)
    | (go_at_call_of 41 hi'; go_must (refine (k2 _).mono ?_); rintro e w2 ⟨v2, rfl, hr2, hb2⟩; have R2_0 := (hb2.block (w.heap.size) (by first | (simp; done) | (simp; omega) | omega)).trans HR1_0.out; have z2_0 : w.heap.size < w2.heap.size := Nat.lt_of_lt_of_le (by first | (simp; done) | (simp; omega) | omega) hb2.size; have c2_0_2 := rowcell R2_0 2; simp only [List.getElem?_toArray, List.getElem?_cons_zero, List.getElem?_cons_succ] at c2_0_2; have HR2_0 : Hid _ := R2_0; clear R2_0; have R2_1 := (hb2.block (w.heap.size + 1) (by first | (simp; done) | (simp; omega) | omega)).trans HR1_1.out; have z2_1 : w.heap.size + 1 < w2.heap.size := Nat.lt_of_lt_of_le (by first | (simp; done) | (simp; omega) | omega) hb2.size; have c2_1_2 := rowcell R2_1 2; simp only [List.getElem?_toArray, List.getElem?_cons_zero, List.getElem?_cons_succ] at c2_1_2; have HR2_1 : Hid _ := R2_1; clear R2_1; have R2_2 := (hb2.block (w.heap.size + 1 + 1) (by first | (simp; done) | (simp; omega) | omega)).trans HR1_2.out; have z2_2 : w.heap.size + 1 + 1 < w2.heap.size := Nat.lt_of_lt_of_le (by first | (simp; done) | (simp; omega) | omega) hb2.size; have HR2_2 : Hid _ := R2_2; clear R2_2; have HB2 : Hid (Below _ _ _) := hb2; clear hb2; have HV2 : Hid (Row w2 v2 (dig M2)) := hr2; have HW1 : Hid (Row w2 v1 (dig M)) := HV1.out.below HB2.out; clear hr2)
    | (go_at_call 42; go_must (refine (k3 _ _ (HW1.out.below (cmore (Below.refl _ _) _))).mono ?_); rintro e w3 ⟨v3, rfl, hr3, hb3⟩; have R3_0 := (hb3.block (w.heap.size) (by first | (simp; done) | (simp; omega) | omega)).trans ((Below.heap_alloc _ _ _ (by first | (simp; done) | (simp; omega) | omega)).trans HR2_0.out); have z3_0 : w.heap.size < w3.heap.size := Nat.lt_of_lt_of_le (by first | (simp; done) | (simp; omega) | omega) hb3.size; have c3_0_2 := rowcell R3_0 2; have c3_0_1 := rowcell R3_0 1; simp only [List.getElem?_toArray, List.getElem?_cons_zero, List.getElem?_cons_succ] at c3_0_2 c3_0_1; have HR3_0 : Hid _ := R3_0; clear R3_0; have R3_1 := (hb3.block (w.heap.size + 1) (by first | (simp; done) | (simp; omega) | omega)).trans ((Below.heap_alloc _ _ _ (by first | (simp; done) | (simp; omega) | omega)).trans HR2_1.out); have z3_1 : w.heap.size + 1 < w3.heap.size := Nat.lt_of_lt_of_le (by first | (simp; done) | (simp; omega) | omega) hb3.size; have c3_1_1 := rowcell R3_1 1; simp only [List.getElem?_toArray, List.getElem?_cons_zero, List.getElem?_cons_succ] at c3_1_1; have HR3_1 : Hid _ := R3_1; clear R3_1; have R3_2 := (hb3.block (w.heap.size + 1 + 1) (by first | (simp; done) | (simp; omega) | omega)).trans ((Below.heap_alloc _ _ _ (by first | (simp; done) | (simp; omega) | omega)).trans HR2_2.out); have z3_2 : w.heap.size + 1 + 1 < w3.heap.size := Nat.lt_of_lt_of_le (by first | (simp; done) | (simp; omega) | omega) hb3.size; have HR3_2 : Hid _ := R3_2; clear R3_2; have R3_3 := (hb3.block (w2.heap.size) (by first | (simp; done) | (simp; omega) | omega)).trans (rownew' _ _ _ _ (by simp)); have z3_3 : w2.heap.size < w3.heap.size := Nat.lt_of_lt_of_le (by first | (simp; done) | (simp; omega) | omega) hb3.size; have HR3_3 : Hid _ := R3_3; clear R3_3; have HB3 : Hid (Below _ _ _) := hb3; clear hb3; have HV3 : Hid (Row w3 v3 (dig A)) := hr3; have HW2 : Hid (Row w3 _ (dig 1)) := (row_lit w2 3 1 (by decide) (by decide)).below HB3.out; clear hr3)
    | (go_at_call 45; go_must (refine (k4 _ _ _ HV3.out HW2.out).mono ?_); rintro e wx ⟨rfl, q, rfl⟩))
  have bq : Below w3.heap.size w3 (w3.drewN q) := below_drewN (Below.refl _ _) q
  have cls : ∀ W, Below w3.heap.size w3 W → W.cell? ⟨w.heap.size, 1, none⟩ = some (.bool neg) := fun W hW => (hW.cell (p := ⟨w.heap.size, 1, none⟩) z3_0).trans c3_0_1
  refine wpC_region (fun W => W.cell? ⟨w.heap.size, 1, none⟩ = some (.bool neg)) (by kernel_rfl) ?_
  refine wpC_take 0 (v := ?_) rfl (by kernel_rfl) (fun _ _ _ h => h) (by kernel_rfl) ?_ ?_; rotate_left; · (intro wC hC; obtain c1 := hC; go_simp <;> with_reducible rfl)
  refine wpC_take 1 (v := ?_) rfl (by kernel_rfl) (fun _ _ _ h => h) (by kernel_rfl) ?_ ?_; rotate_left; · (intro wC hC; obtain c1 := hC; go_simp <;> with_reducible rfl)
  refine wpC_take 2 (v := ?_) rfl (by kernel_rfl) (fun _ _ _ h => h) (by kernel_rfl) ?_ ?_; rotate_left; · (intro wC hC; obtain c1 := hC; go_simp <;> with_reducible rfl)
  refine wpC_take 3 (v := ?_) rfl (by kernel_rfl) (fun _ _ _ h => h) (by kernel_rfl) ?_ ?_; rotate_left; · (intro wC hC; obtain c1 := hC; go_simp <;> with_reducible rfl)
  refine wpC_take 5 (v := ?_) rfl (by kernel_rfl) (fun _ _ _ h => h) (by kernel_rfl) ?_ ?_; rotate_left; · (intro wC hC; obtain c1 := hC; go_simp <;> with_reducible rfl)
  refine wpC_step 4 rfl (by kernel_rfl) (by kernel_rfl) (cls _ (cdrew bq)) (fun K hK => ?_)
  go_simp
  go_wp2_with ((go_at_call 46; go_must (refine (k5 _ _ _ (HV3.out.below (cdrew bq)) (HW2.out.below (cdrew bq))).mono ?_); rintro e w4 ⟨v4, rfl, hr4, hb4⟩))
  try (refine hK _ _ ?_; clear hK K)
  have b4 : Below w3.heap.size w3 w4 := cthen (cdrew bq) hb4
  refine wpC_step 6 rfl (by kernel_rfl) (by kernel_rfl) (cls _ b4) (fun K hK => ?_)
  go_simp
  go_wp2_with ((go_at_call 43; go_must (refine (k6 _ _ hr4).mono ?_); rintro e w5 ⟨rfl, hb5⟩))
  try (refine hK _ _ ?_; clear hK K)
  have b5 : Below w3.heap.size w3 w5 := cthen b4 hb5
  have RR := (b5.block (w.heap.size + 1 + 1) z3_2).trans HR3_2.out
  have r0 := rowcell RR 0
  have r1 := rowcell RR 1
  have r2 := rowcell RR 2
  have r3 := rowcell RR 3
  have r4 := rowcell RR 4
  have r5 := rowcell RR 5
  have rf := rowfree RR
  simp only [List.getElem?_toArray, List.getElem?_cons_zero, List.getElem?_cons_succ] at r0 r1 r2 r3 r4 r5
  refine wpC_step 7 rfl (by kernel_rfl) (by kernel_rfl) (cls _ b5) (fun K hK => ?_)
  go_simp
  try (refine hK _ _ ?_; clear hK K)
  refine wpC_done (by kernel_rfl) (by simp [go_sem, cls _ b5]) ?_
  go_wp2
  refine bodyPost_ret (v := .agg #[.int .i64 K, .bool B, .int .i64 S, .int .u64 H, .int .u64 L, .bool R]) (by simp [results, Tryz.results26, go_sem, r0, r1, r2, r3, r4, r5]) rfl (hQ.out _ _ ⟨by simp, ?_⟩)
  exact cset6 (cthen (cthen (cmore (cthen (cthen (cmore (cmore (cmore (Below.refl _ _) _) _) _) HB1.out) HB2.out) _) HB3.out) b5) (by omega)
theorem sum9_down (neg : Bool) (s : Int) (hi lo : Nat) (neg' : Bool) (s' : Int) (hi' lo' : Nat) (h : WordsX hi lo) (h' : WordsX hi' lo') (hs : -1099511627776 ≤ s ∧ s ≤ 1099511627776) (hs' : -1099511627776 ≤ s' ∧ s' ≤ 1099511627776) (hle : s' ≤ s) (w : World) :
    Calls Tryz.prog 26 #[exV 1 neg s hi lo false, exV 1 neg' s' hi' lo' false] w fun e w' => e = .returned (sumD neg s (manX hi lo) neg' s' (manX hi' lo')) ∧ Below w.heap.size w w' := by
  by_cases hf : 400 < s - s'
  · rw [sumD_branch neg s (manX hi lo) neg' s' (manX hi' lo') 400 1 (.inr ⟨hf, rfl, rfl⟩)]
    obtain ⟨d, hd⟩ : ∃ d : Nat, d = 400 := ⟨_, rfl⟩
    rw [← hd]
    by_cases hn : neg = neg'
    · rw [if_pos hn]; exact sum9_far_add neg s hi lo neg' s' hi' lo' h h' hs hs' hle hf hn d hd w
    · have hc : 1 ≤ manX hi lo * 2 ^ d := Nat.mul_pos (by have := h.mant.1; have := Nat.pow_pos (n := 127) (show 0 < 2 by decide); omega) (Nat.pow_pos (by decide))
      rw [if_neg hn, if_pos hc]
      exact sum9_far_sub neg s hi lo neg' s' hi' lo' h h' hs hs' hle hf hn d hd hc w
  · obtain ⟨d, hd⟩ : ∃ d : Nat, (d : Int) = s - s' := ⟨(s - s').toNat, by omega⟩
    rw [sumD_branch neg s (manX hi lo) neg' s' (manX hi' lo') d (manX hi' lo') (.inl ⟨hf, hd, rfl⟩)]
    by_cases hn : neg = neg'
    · rw [if_pos hn]; exact sum9_near_add neg s hi lo neg' s' hi' lo' h h' hs hs' hle hf hn d hd w
    · rw [if_neg hn]
      by_cases hc : manX hi' lo' ≤ manX hi lo * 2 ^ d
      · rw [if_pos hc]; exact sum9_near_sub neg s hi lo neg' s' hi' lo' h h' hs hs' hle hf hn d hd hc w
      · rw [if_neg hc]; exact sum9_near_bus neg s hi lo neg' s' hi' lo' h h' hs hs' hle hf hn d hd hc w
theorem sumD_form (neg : Bool) (s : Int) (M : Nat) (neg' : Bool) (s' : Int) (M' : Nat) : ∃ k b s2 h l r, sumD neg s M neg' s' M' = exV k b s2 h l r := by
  unfold sumD
  simp only
  generalize (if 400 < s - s' then farD else (s - s').toNat) = d
  generalize (if 400 < s - s' then 1 else M') = b
  by_cases hn : neg = neg'
  · rw [if_pos hn]; exact exactV_form _ _ _ _
  · rw [if_neg hn]
    by_cases hc : b ≤ M * 2 ^ d
    · rw [if_pos hc]; exact exactV_form _ _ _ _
    · rw [if_neg hc]; exact exactV_form _ _ _ _
theorem sum9_up (neg : Bool) (s : Int) (hi lo : Nat) (neg' : Bool) (s' : Int) (hi' lo' : Nat) (h : WordsX hi lo) (h' : WordsX hi' lo') (hs : -1099511627776 ≤ s ∧ s ≤ 1099511627776) (hs' : -1099511627776 ≤ s' ∧ s' ≤ 1099511627776) (hle : s < s') (w : World) :
    Calls Tryz.prog 26 #[exV 1 neg s hi lo false, exV 1 neg' s' hi' lo' false] w fun e w' => e = .returned (sumD neg' s' (manX hi' lo') neg s (manX hi lo)) ∧ Below w.heap.size w w' := by
  have k1 := sum9_down neg' s' hi' lo' neg s hi lo h' h hs' hs (by omega)
  obtain ⟨K, B, S, H, L, R, hform⟩ := sumD_form neg' s' (manX hi' lo') neg s (manX hi lo)
  rw [hform] at k1 ⊢
  have g1 : decide (s < s') = true := decide_eq_true hle
  clear hform h h' hs hs' hle
  unfold exV at *
  refine cps fun Q hQ => ?_
  go_enter Tryz.func26, Tryz.ntmps26
  go_wp2_with (go_at_call 26; go_must (refine (k1 _).mono ?_); rintro e w1 ⟨rfl, hb1⟩; have RR := (hb1.block (w.heap.size + 1 + 1) (by simp)).trans (rownew' _ _ _ _ (by simp)); have r0 := rowcell RR 0; have r1 := rowcell RR 1; have r2 := rowcell RR 2; have r3 := rowcell RR 3; have r4 := rowcell RR 4; have r5 := rowcell RR 5; have rf := rowfree RR; simp only [List.getElem?_toArray, List.getElem?_cons_zero, List.getElem?_cons_succ] at r0 r1 r2 r3 r4 r5; have HB1 : Hid (Below _ _ _) := hb1; clear hb1 RR)
  refine bodyPost_ret (v := .agg #[.int .i64 K, .bool B, .int .i64 S, .int .u64 H, .int .u64 L, .bool R]) (by simp [results, Tryz.results26, go_sem, r0, r1, r2, r3, r4, r5]) rfl (hQ.out _ _ ⟨by simp, ?_⟩)
  exact cset6 (cthen (cmore (cmore (cmore (Below.refl _ _) _) _) _) HB1.out) (by omega)
theorem sum9_nar1 (neg : Bool) (s : Int) (hi lo : Nat) (rest : Bool) (k' : Int) (neg' : Bool) (s' : Int) (hi' lo' : Nat) (rest' : Bool) (w : World) :
    Calls Tryz.prog 26 #[exV 2 neg s hi lo rest, exV k' neg' s' hi' lo' rest'] w fun e w' => e = .returned (exV 2 false 0 0 0 false) ∧ Below w.heap.size w w' := by
  unfold exV at *
  refine cps fun Q hQ => ?_
  go_enter Tryz.func26, Tryz.ntmps26
  go_wp2
  refine bodyPost_ret (v := .agg #[.int .i64 2, .bool false, .int .i64 0, .int .u64 0, .int .u64 0, .bool false]) (by simp [results, Tryz.results26, go_sem]) rfl (hQ.out _ _ ⟨by simp, ?_⟩)
  exact cmore (cmore (cmore (Below.refl _ _) _) _) _
theorem sum9_nar2 (k : Int) (neg : Bool) (s : Int) (hi lo : Nat) (rest : Bool) (neg' : Bool) (s' : Int) (hi' lo' : Nat) (rest' : Bool) (hk : k ≠ 2) (w : World) :
    Calls Tryz.prog 26 #[exV k neg s hi lo rest, exV 2 neg' s' hi' lo' rest'] w fun e w' => e = .returned (exV 2 false 0 0 0 false) ∧ Below w.heap.size w w' := by
  have g : (k == 2) = false := beq_eq_false_iff_ne.2 hk
  clear hk
  unfold exV at *
  refine cps fun Q hQ => ?_
  go_enter Tryz.func26, Tryz.ntmps26
  go_wp2
  refine bodyPost_ret (v := .agg #[.int .i64 2, .bool false, .int .i64 0, .int .u64 0, .int .u64 0, .bool false]) (by simp [results, Tryz.results26, go_sem]) rfl (hQ.out _ _ ⟨by simp, ?_⟩)
  exact cmore (cmore (cmore (Below.refl _ _) _) _) _
theorem sum9_zero1 (neg : Bool) (s : Int) (hi lo : Nat) (rest : Bool) (k' : Int) (neg' : Bool) (s' : Int) (hi' lo' : Nat) (rest' : Bool) (hk : k' ≠ 2) (w : World) :
    Calls Tryz.prog 26 #[exV 0 neg s hi lo rest, exV k' neg' s' hi' lo' rest'] w fun e w' => e = .returned (exV k' neg' s' hi' lo' rest') ∧ Below w.heap.size w w' := by
  have g : (k' == 2) = false := beq_eq_false_iff_ne.2 hk
  clear hk
  unfold exV at *
  refine cps fun Q hQ => ?_
  go_enter Tryz.func26, Tryz.ntmps26
  go_wp2
  refine bodyPost_ret (v := .agg #[.int .i64 k', .bool neg', .int .i64 s', .int .u64 hi', .int .u64 lo', .bool rest']) (by simp [results, Tryz.results26, go_sem]) rfl (hQ.out _ _ ⟨by simp, ?_⟩)
  exact cmore (cmore (cmore (Below.refl _ _) _) _) _
theorem sum9_zero2 (k : Int) (neg : Bool) (s : Int) (hi lo : Nat) (rest : Bool) (neg' : Bool) (s' : Int) (hi' lo' : Nat) (rest' : Bool) (hk : k ≠ 2) (h0 : k ≠ 0) (w : World) :
    Calls Tryz.prog 26 #[exV k neg s hi lo rest, exV 0 neg' s' hi' lo' rest'] w fun e w' => e = .returned (exV k neg s hi lo rest) ∧ Below w.heap.size w w' := by
  have g : (k == 2) = false := beq_eq_false_iff_ne.2 hk
  have g0 : (k == 0) = false := beq_eq_false_iff_ne.2 h0
  clear hk h0
  unfold exV at *
  refine cps fun Q hQ => ?_
  go_enter Tryz.func26, Tryz.ntmps26
  go_wp2
  refine bodyPost_ret (v := .agg #[.int .i64 k, .bool neg, .int .i64 s, .int .u64 hi, .int .u64 lo, .bool rest]) (by simp [results, Tryz.results26, go_sem]) rfl (hQ.out _ _ ⟨by simp, ?_⟩)
  exact cmore (cmore (cmore (Below.refl _ _) _) _) _
theorem sound_words {neg : Bool} {s : Int} {hi lo : Nat} {r : Bool} (hh : hi < 2 ^ 64) (hl : lo < 2 ^ 64) (hs : soundX 1 neg s hi lo r = true) : WordsX hi lo ∧ (-1099511627776 ≤ s ∧ s ≤ 1099511627776) := by
  unfold soundX at hs
  rw [if_neg (by decide)] at hs
  obtain ⟨_, a, b, c⟩ := of_decide_eq_true hs
  exact ⟨⟨a, hh, hl⟩, b, c⟩
/-- of any two that are sound, without Rest -/
theorem sum9_any (k : Int) (neg : Bool) (s : Int) (hi lo : Nat) (k' : Int) (neg' : Bool) (s' : Int) (hi' lo' : Nat) (hh : hi < 2 ^ 64) (hl : lo < 2 ^ 64) (hh' : hi' < 2 ^ 64) (hl' : lo' < 2 ^ 64) (hs : soundX k neg s hi lo false = true) (hs' : soundX k' neg' s' hi' lo' false = true) (w : World) :
    Calls Tryz.prog 26 #[exV k neg s hi lo false, exV k' neg' s' hi' lo' false] w fun e w' => e = .returned (sum9 k neg s hi lo k' neg' s' hi' lo') ∧ Below w.heap.size w w' := by
  unfold sum9
  by_cases h2 : k = 2
  · subst h2
    rw [if_pos (.inl rfl)]
    exact sum9_nar1 neg s hi lo false k' neg' s' hi' lo' false w
  · by_cases h2' : k' = 2
    · subst h2'
      rw [if_pos (.inr rfl)]
      exact sum9_nar2 k neg s hi lo false neg' s' hi' lo' false h2 w
    · rw [if_neg (by rintro (c | c); exact h2 c; exact h2' c)]
      by_cases h0 : k = 0
      · subst h0
        rw [if_pos rfl]
        exact sum9_zero1 neg s hi lo false k' neg' s' hi' lo' false h2' w
      · rw [if_neg h0]
        by_cases h0' : k' = 0
        · subst h0'
          rw [if_pos rfl]
          exact sum9_zero2 k neg s hi lo false neg' s' hi' lo' false h2 h0 w
        · rw [if_neg h0']
          have hk : k = 1 := by rcases soundX_cases hs with ⟨c, _⟩ | ⟨c, _⟩ | c; exact absurd c h0; exact absurd c h2; exact c
          have hk' : k' = 1 := by rcases soundX_cases hs' with ⟨c, _⟩ | ⟨c, _⟩ | c; exact absurd c h0'; exact absurd c h2'; exact c
          subst hk hk'
          obtain ⟨a, b⟩ := sound_words hh hl hs
          obtain ⟨a', b'⟩ := sound_words hh' hl' hs'
          unfold sumR
          by_cases c : s < s'
          · rw [if_pos c]; exact sum9_up neg s hi lo neg' s' hi' lo' a a' b b' c w
          · rw [if_neg c]; exact sum9_down neg s hi lo neg' s' hi' lo' a a' b b' (by omega) w
end Go.Proofs.YtheliihkkoohnaaGreat

namespace Go.Proofs.YtheliihkkoohnaaGreat
open Go.ChangeShapes Go.WideShapes Go.ChangeAt Go.RowKit
set_option linter.unusedVariables false
set_option linter.unusedSimpArgs false
set_option maxRecDepth 100000

theorem sumR_form (neg : Bool) (s : Int) (M : Nat) (neg' : Bool) (s' : Int) (M' : Nat) : ∃ k b s2 h l r, sumR neg s M neg' s' M' = exV k b s2 h l r := by
  unfold sumR
  by_cases c : s < s'
  · rw [if_pos c]; exact sumD_form _ _ _ _ _ _
  · rw [if_neg c]; exact sumD_form _ _ _ _ _ _
theorem vF_lt (n x : Nat) : vF n x < 2 ^ 64 := by
  unfold vF
  split
  · exact (wordL_bounds _).2
  · decide
end Go.Proofs.YtheliihkkoohnaaGreat

namespace Go.Proofs.YtheliihkkoohnaaGreat
open Go.ChangeShapes Go.WideShapes Go.ChangeAt Go.RowKit
set_option linter.unusedVariables false
set_option linter.unusedSimpArgs false
set_option maxRecDepth 100000

/-! ### the document's products -/
theorem prod10_form (k : Int) (neg : Bool) (s : Int) (f : Nat) (k' : Int) (neg' : Bool) (s' : Int) (g : Nat) : ∃ k2 b s2 h l r, prod10 k neg s f k' neg' s' g = exV k2 b s2 h l r := by
  unfold prod10
  by_cases h : k = 2 ∨ k' = 2
  · rw [if_pos h]; exact ⟨_, _, _, _, _, _, rfl⟩
  · rw [if_neg h]
    by_cases h0 : k = 0 ∨ k' = 0
    · rw [if_pos h0]; exact ⟨_, _, _, _, _, _, rfl⟩
    · rw [if_neg h0]; exact exactV_form _ _ _ _
theorem mul64_blen {f g : Nat} (hf : f < 2 ^ 64) (hg : g < 2 ^ 64) : blen (f * g) ≤ 128 := by
  refine blen_le.2 ?_
  rw [show (2 : Nat) ^ 128 = 2 ^ 64 * 2 ^ 64 by decide]
  rcases Nat.eq_zero_or_pos f with rfl | h
  · rw [Nat.zero_mul]; decide
  · exact Nat.mul_lt_mul_of_lt_of_le hf (Nat.le_of_lt hg) (by decide)
set_option maxHeartbeats 2000000 in
theorem exact10_nar1 (k : Int) (neg : Bool) (s : Int) (f : Nat) (k' : Int) (neg' : Bool) (s' : Int) (g : Nat) (h1 : soundN k neg s f = true) (h2 : soundN k' neg' s' g = true) (hk : k = 2) (w : World) :
    Calls Tryz.prog 47 #[numV k neg s f, numV k' neg' s' g] w fun e w' => e = .returned (.tuple #[exV 2 false 0 0 0 false, .int .i64 0]) ∧ Below w.heap.size w w' := by
  have k1 := sound6_any k neg s f
  have k2 := sound6_any k' neg' s' g
  rw [h1] at k1
  rw [h2] at k2
  clear h1 h2
  subst hk
  unfold numV exV at *
  rw [show ((0 : Nat) : Int) = 0 from rfl] at *
  refine cps fun Q hQ => ?_
  go_enter Tryz.func47, Tryz.ntmps47
  go_wp2_with (first
    | (go_at_call_of 71 f; go_must (refine (k1 _).mono ?_); rintro e w1 ⟨rfl, hb1⟩; have R1_0 := (hb1.block (w.heap.size) (by first | (simp; done) | (simp; omega) | omega)).trans ((Below.heap_alloc _ _ _ (by first | (simp; done) | (simp; omega) | omega)).trans ((Below.heap_alloc _ _ _ (by first | (simp; done) | (simp; omega) | omega)).trans (rownew' _ _ _ _ (by simp)))); have z1_0 : w.heap.size < w1.heap.size := Nat.lt_of_lt_of_le (by first | (simp; done) | (simp; omega) | omega) hb1.size; have HR1_0 : Hid _ := R1_0; clear R1_0; have R1_1 := (hb1.block (w.heap.size + 1) (by first | (simp; done) | (simp; omega) | omega)).trans ((Below.heap_alloc _ _ _ (by first | (simp; done) | (simp; omega) | omega)).trans (rownew' _ _ _ _ (by simp))); have z1_1 : w.heap.size + 1 < w1.heap.size := Nat.lt_of_lt_of_le (by first | (simp; done) | (simp; omega) | omega) hb1.size; have c1_1_0 := rowcell R1_1 0; have c1_1_1 := rowcell R1_1 1; have c1_1_2 := rowcell R1_1 2; have c1_1_3 := rowcell R1_1 3; simp only [List.getElem?_toArray, List.getElem?_cons_zero, List.getElem?_cons_succ] at c1_1_0 c1_1_1 c1_1_2 c1_1_3; have HR1_1 : Hid _ := R1_1; clear R1_1; have R1_2 := (hb1.block (w.heap.size + 1 + 1) (by first | (simp; done) | (simp; omega) | omega)).trans (rownew' _ _ _ _ (by simp)); have z1_2 : w.heap.size + 1 + 1 < w1.heap.size := Nat.lt_of_lt_of_le (by first | (simp; done) | (simp; omega) | omega) hb1.size; have HR1_2 : Hid _ := R1_2; clear R1_2; have HB1 : Hid (Below _ _ _) := hb1; clear hb1)
    | (go_at_call_of 71 g; go_must (refine (k2 _).mono ?_); rintro e w2 ⟨rfl, hb2⟩; have R2_0 := (hb2.block (w.heap.size) (by first | (simp; done) | (simp; omega) | omega)).trans HR1_0.out; have z2_0 : w.heap.size < w2.heap.size := Nat.lt_of_lt_of_le (by first | (simp; done) | (simp; omega) | omega) hb2.size; have c2_0_0 := rowcell R2_0 0; have c2_0_1 := rowcell R2_0 1; have c2_0_2 := rowcell R2_0 2; have c2_0_3 := rowcell R2_0 3; simp only [List.getElem?_toArray, List.getElem?_cons_zero, List.getElem?_cons_succ] at c2_0_0 c2_0_1 c2_0_2 c2_0_3; have HR2_0 : Hid _ := R2_0; clear R2_0; have R2_1 := (hb2.block (w.heap.size + 1) (by first | (simp; done) | (simp; omega) | omega)).trans HR1_1.out; have z2_1 : w.heap.size + 1 < w2.heap.size := Nat.lt_of_lt_of_le (by first | (simp; done) | (simp; omega) | omega) hb2.size; have c2_1_0 := rowcell R2_1 0; have c2_1_1 := rowcell R2_1 1; have c2_1_2 := rowcell R2_1 2; have c2_1_3 := rowcell R2_1 3; simp only [List.getElem?_toArray, List.getElem?_cons_zero, List.getElem?_cons_succ] at c2_1_0 c2_1_1 c2_1_2 c2_1_3; have HR2_1 : Hid _ := R2_1; clear R2_1; have R2_2 := (hb2.block (w.heap.size + 1 + 1) (by first | (simp; done) | (simp; omega) | omega)).trans HR1_2.out; have z2_2 : w.heap.size + 1 + 1 < w2.heap.size := Nat.lt_of_lt_of_le (by first | (simp; done) | (simp; omega) | omega) hb2.size; have c2_2_0 := rowcell R2_2 0; have c2_2_1 := rowcell R2_2 1; have c2_2_2 := rowcell R2_2 2; have c2_2_3 := rowcell R2_2 3; have c2_2_4 := rowcell R2_2 4; have c2_2_5 := rowcell R2_2 5; simp only [List.getElem?_toArray, List.getElem?_cons_zero, List.getElem?_cons_succ] at c2_2_0 c2_2_1 c2_2_2 c2_2_3 c2_2_4 c2_2_5; have rf := rowfree R2_2; have HR2_2 : Hid _ := R2_2; clear R2_2; have HB2 : Hid (Below _ _ _) := hb2; clear hb2))
  all_goals
    refine bodyPost_ret (v := .tuple #[.agg #[.int .i64 2, .bool false, .int .i64 0, .int .u64 0, .int .u64 0, .bool false], .int .i64 0]) (by simp [results, Tryz.results47, go_sem, rf, z2_2, c2_2_0, c2_2_1, c2_2_2, c2_2_3, c2_2_4, c2_2_5]) rfl (hQ.out _ _ ⟨by simp, ?_⟩)
    exact cset6 (cthen (cthen (cmore (cmore (cmore (Below.refl _ _) _) _) _) HB1.out) HB2.out) (by omega)
set_option maxHeartbeats 2000000 in
theorem exact10_nar2 (k : Int) (neg : Bool) (s : Int) (f : Nat) (k' : Int) (neg' : Bool) (s' : Int) (g : Nat) (h1 : soundN k neg s f = true) (h2 : soundN k' neg' s' g = true) (hk : k ≠ 2) (hk' : k' = 2) (w : World) :
    Calls Tryz.prog 47 #[numV k neg s f, numV k' neg' s' g] w fun e w' => e = .returned (.tuple #[exV 2 false 0 0 0 false, .int .i64 0]) ∧ Below w.heap.size w w' := by
  have k1 := sound6_any k neg s f
  have k2 := sound6_any k' neg' s' g
  rw [h1] at k1
  rw [h2] at k2
  clear h1 h2
  subst hk'
  have d0 : (k == 2) = false := beq_eq_false_iff_ne.2 hk
  clear hk
  unfold numV exV at *
  rw [show ((0 : Nat) : Int) = 0 from rfl] at *
  refine cps fun Q hQ => ?_
  go_enter Tryz.func47, Tryz.ntmps47
  go_wp2_with (first
    | (go_at_call_of 71 f; go_must (refine (k1 _).mono ?_); rintro e w1 ⟨rfl, hb1⟩; have R1_0 := (hb1.block (w.heap.size) (by first | (simp; done) | (simp; omega) | omega)).trans ((Below.heap_alloc _ _ _ (by first | (simp; done) | (simp; omega) | omega)).trans ((Below.heap_alloc _ _ _ (by first | (simp; done) | (simp; omega) | omega)).trans (rownew' _ _ _ _ (by simp)))); have z1_0 : w.heap.size < w1.heap.size := Nat.lt_of_lt_of_le (by first | (simp; done) | (simp; omega) | omega) hb1.size; have HR1_0 : Hid _ := R1_0; clear R1_0; have R1_1 := (hb1.block (w.heap.size + 1) (by first | (simp; done) | (simp; omega) | omega)).trans ((Below.heap_alloc _ _ _ (by first | (simp; done) | (simp; omega) | omega)).trans (rownew' _ _ _ _ (by simp))); have z1_1 : w.heap.size + 1 < w1.heap.size := Nat.lt_of_lt_of_le (by first | (simp; done) | (simp; omega) | omega) hb1.size; have c1_1_0 := rowcell R1_1 0; have c1_1_1 := rowcell R1_1 1; have c1_1_2 := rowcell R1_1 2; have c1_1_3 := rowcell R1_1 3; simp only [List.getElem?_toArray, List.getElem?_cons_zero, List.getElem?_cons_succ] at c1_1_0 c1_1_1 c1_1_2 c1_1_3; have HR1_1 : Hid _ := R1_1; clear R1_1; have R1_2 := (hb1.block (w.heap.size + 1 + 1) (by first | (simp; done) | (simp; omega) | omega)).trans (rownew' _ _ _ _ (by simp)); have z1_2 : w.heap.size + 1 + 1 < w1.heap.size := Nat.lt_of_lt_of_le (by first | (simp; done) | (simp; omega) | omega) hb1.size; have HR1_2 : Hid _ := R1_2; clear R1_2; have HB1 : Hid (Below _ _ _) := hb1; clear hb1)
    | (go_at_call_of 71 g; go_must (refine (k2 _).mono ?_); rintro e w2 ⟨rfl, hb2⟩; have R2_0 := (hb2.block (w.heap.size) (by first | (simp; done) | (simp; omega) | omega)).trans HR1_0.out; have z2_0 : w.heap.size < w2.heap.size := Nat.lt_of_lt_of_le (by first | (simp; done) | (simp; omega) | omega) hb2.size; have c2_0_0 := rowcell R2_0 0; have c2_0_1 := rowcell R2_0 1; have c2_0_2 := rowcell R2_0 2; have c2_0_3 := rowcell R2_0 3; simp only [List.getElem?_toArray, List.getElem?_cons_zero, List.getElem?_cons_succ] at c2_0_0 c2_0_1 c2_0_2 c2_0_3; have HR2_0 : Hid _ := R2_0; clear R2_0; have R2_1 := (hb2.block (w.heap.size + 1) (by first | (simp; done) | (simp; omega) | omega)).trans HR1_1.out; have z2_1 : w.heap.size + 1 < w2.heap.size := Nat.lt_of_lt_of_le (by first | (simp; done) | (simp; omega) | omega) hb2.size; have c2_1_0 := rowcell R2_1 0; have c2_1_1 := rowcell R2_1 1; have c2_1_2 := rowcell R2_1 2; have c2_1_3 := rowcell R2_1 3; simp only [List.getElem?_toArray, List.getElem?_cons_zero, List.getElem?_cons_succ] at c2_1_0 c2_1_1 c2_1_2 c2_1_3; have HR2_1 : Hid _ := R2_1; clear R2_1; have R2_2 := (hb2.block (w.heap.size + 1 + 1) (by first | (simp; done) | (simp; omega) | omega)).trans HR1_2.out; have z2_2 : w.heap.size + 1 + 1 < w2.heap.size := Nat.lt_of_lt_of_le (by first | (simp; done) | (simp; omega) | omega) hb2.size; have c2_2_0 := rowcell R2_2 0; have c2_2_1 := rowcell R2_2 1; have c2_2_2 := rowcell R2_2 2; have c2_2_3 := rowcell R2_2 3; have c2_2_4 := rowcell R2_2 4; have c2_2_5 := rowcell R2_2 5; simp only [List.getElem?_toArray, List.getElem?_cons_zero, List.getElem?_cons_succ] at c2_2_0 c2_2_1 c2_2_2 c2_2_3 c2_2_4 c2_2_5; have rf := rowfree R2_2; have HR2_2 : Hid _ := R2_2; clear R2_2; have HB2 : Hid (Below _ _ _) := hb2; clear hb2))
  all_goals
    refine bodyPost_ret (v := .tuple #[.agg #[.int .i64 2, .bool false, .int .i64 0, .int .u64 0, .int .u64 0, .bool false], .int .i64 0]) (by simp [results, Tryz.results47, go_sem, rf, z2_2, c2_2_0, c2_2_1, c2_2_2, c2_2_3, c2_2_4, c2_2_5]) rfl (hQ.out _ _ ⟨by simp, ?_⟩)
    exact cset6 (cthen (cthen (cmore (cmore (cmore (Below.refl _ _) _) _) _) HB1.out) HB2.out) (by omega)
set_option maxHeartbeats 2000000 in
theorem exact10_zero1 (k : Int) (neg : Bool) (s : Int) (f : Nat) (k' : Int) (neg' : Bool) (s' : Int) (g : Nat) (h1 : soundN k neg s f = true) (h2 : soundN k' neg' s' g = true) (hk : k = 0) (hk' : k' ≠ 2) (w : World) :
    Calls Tryz.prog 47 #[numV k neg s f, numV k' neg' s' g] w fun e w' => e = .returned (.tuple #[exV 0 false 0 0 0 false, .int .i64 0]) ∧ Below w.heap.size w w' := by
  have k1 := sound6_any k neg s f
  have k2 := sound6_any k' neg' s' g
  rw [h1] at k1
  rw [h2] at k2
  clear h1 h2
  subst hk
  have d0 : (k' == 2) = false := beq_eq_false_iff_ne.2 hk'
  clear hk'
  unfold numV exV at *
  rw [show ((0 : Nat) : Int) = 0 from rfl] at *
  refine cps fun Q hQ => ?_
  go_enter Tryz.func47, Tryz.ntmps47
  go_wp2_with (first
    | (go_at_call_of 71 f; go_must (refine (k1 _).mono ?_); rintro e w1 ⟨rfl, hb1⟩; have R1_0 := (hb1.block (w.heap.size) (by first | (simp; done) | (simp; omega) | omega)).trans ((Below.heap_alloc _ _ _ (by first | (simp; done) | (simp; omega) | omega)).trans ((Below.heap_alloc _ _ _ (by first | (simp; done) | (simp; omega) | omega)).trans (rownew' _ _ _ _ (by simp)))); have z1_0 : w.heap.size < w1.heap.size := Nat.lt_of_lt_of_le (by first | (simp; done) | (simp; omega) | omega) hb1.size; have HR1_0 : Hid _ := R1_0; clear R1_0; have R1_1 := (hb1.block (w.heap.size + 1) (by first | (simp; done) | (simp; omega) | omega)).trans ((Below.heap_alloc _ _ _ (by first | (simp; done) | (simp; omega) | omega)).trans (rownew' _ _ _ _ (by simp))); have z1_1 : w.heap.size + 1 < w1.heap.size := Nat.lt_of_lt_of_le (by first | (simp; done) | (simp; omega) | omega) hb1.size; have c1_1_0 := rowcell R1_1 0; have c1_1_1 := rowcell R1_1 1; have c1_1_2 := rowcell R1_1 2; have c1_1_3 := rowcell R1_1 3; simp only [List.getElem?_toArray, List.getElem?_cons_zero, List.getElem?_cons_succ] at c1_1_0 c1_1_1 c1_1_2 c1_1_3; have HR1_1 : Hid _ := R1_1; clear R1_1; have R1_2 := (hb1.block (w.heap.size + 1 + 1) (by first | (simp; done) | (simp; omega) | omega)).trans (rownew' _ _ _ _ (by simp)); have z1_2 : w.heap.size + 1 + 1 < w1.heap.size := Nat.lt_of_lt_of_le (by first | (simp; done) | (simp; omega) | omega) hb1.size; have HR1_2 : Hid _ := R1_2; clear R1_2; have HB1 : Hid (Below _ _ _) := hb1; clear hb1)
    | (go_at_call_of 71 g; go_must (refine (k2 _).mono ?_); rintro e w2 ⟨rfl, hb2⟩; have R2_0 := (hb2.block (w.heap.size) (by first | (simp; done) | (simp; omega) | omega)).trans HR1_0.out; have z2_0 : w.heap.size < w2.heap.size := Nat.lt_of_lt_of_le (by first | (simp; done) | (simp; omega) | omega) hb2.size; have c2_0_0 := rowcell R2_0 0; have c2_0_1 := rowcell R2_0 1; have c2_0_2 := rowcell R2_0 2; have c2_0_3 := rowcell R2_0 3; simp only [List.getElem?_toArray, List.getElem?_cons_zero, List.getElem?_cons_succ] at c2_0_0 c2_0_1 c2_0_2 c2_0_3; have HR2_0 : Hid _ := R2_0; clear R2_0; have R2_1 := (hb2.block (w.heap.size + 1) (by first | (simp; done) | (simp; omega) | omega)).trans HR1_1.out; have z2_1 : w.heap.size + 1 < w2.heap.size := Nat.lt_of_lt_of_le (by first | (simp; done) | (simp; omega) | omega) hb2.size; have c2_1_0 := rowcell R2_1 0; have c2_1_1 := rowcell R2_1 1; have c2_1_2 := rowcell R2_1 2; have c2_1_3 := rowcell R2_1 3; simp only [List.getElem?_toArray, List.getElem?_cons_zero, List.getElem?_cons_succ] at c2_1_0 c2_1_1 c2_1_2 c2_1_3; have HR2_1 : Hid _ := R2_1; clear R2_1; have R2_2 := (hb2.block (w.heap.size + 1 + 1) (by first | (simp; done) | (simp; omega) | omega)).trans HR1_2.out; have z2_2 : w.heap.size + 1 + 1 < w2.heap.size := Nat.lt_of_lt_of_le (by first | (simp; done) | (simp; omega) | omega) hb2.size; have c2_2_0 := rowcell R2_2 0; have c2_2_1 := rowcell R2_2 1; have c2_2_2 := rowcell R2_2 2; have c2_2_3 := rowcell R2_2 3; have c2_2_4 := rowcell R2_2 4; have c2_2_5 := rowcell R2_2 5; simp only [List.getElem?_toArray, List.getElem?_cons_zero, List.getElem?_cons_succ] at c2_2_0 c2_2_1 c2_2_2 c2_2_3 c2_2_4 c2_2_5; have rf := rowfree R2_2; have HR2_2 : Hid _ := R2_2; clear R2_2; have HB2 : Hid (Below _ _ _) := hb2; clear hb2))
  all_goals
    refine bodyPost_ret (v := .tuple #[.agg #[.int .i64 0, .bool false, .int .i64 0, .int .u64 0, .int .u64 0, .bool false], .int .i64 0]) (by simp [results, Tryz.results47, go_sem, rf, z2_2, c2_2_0, c2_2_1, c2_2_2, c2_2_3, c2_2_4, c2_2_5]) rfl (hQ.out _ _ ⟨by simp, ?_⟩)
    exact cset6 (cthen (cthen (cmore (cmore (cmore (Below.refl _ _) _) _) _) HB1.out) HB2.out) (by omega)
set_option maxHeartbeats 2000000 in
theorem exact10_zero2 (k : Int) (neg : Bool) (s : Int) (f : Nat) (k' : Int) (neg' : Bool) (s' : Int) (g : Nat) (h1 : soundN k neg s f = true) (h2 : soundN k' neg' s' g = true) (hk : k ≠ 2) (hk0 : k ≠ 0) (hk' : k' = 0) (w : World) :
    Calls Tryz.prog 47 #[numV k neg s f, numV k' neg' s' g] w fun e w' => e = .returned (.tuple #[exV 0 false 0 0 0 false, .int .i64 0]) ∧ Below w.heap.size w w' := by
  have k1 := sound6_any k neg s f
  have k2 := sound6_any k' neg' s' g
  rw [h1] at k1
  rw [h2] at k2
  clear h1 h2
  subst hk'
  have d0 : (k == 2) = false := beq_eq_false_iff_ne.2 hk
  have d1 : (k == 0) = false := beq_eq_false_iff_ne.2 hk0
  clear hk hk0
  unfold numV exV at *
  rw [show ((0 : Nat) : Int) = 0 from rfl] at *
  refine cps fun Q hQ => ?_
  go_enter Tryz.func47, Tryz.ntmps47
  go_wp2_with (first
    | (go_at_call_of 71 f; go_must (refine (k1 _).mono ?_); rintro e w1 ⟨rfl, hb1⟩; have R1_0 := (hb1.block (w.heap.size) (by first | (simp; done) | (simp; omega) | omega)).trans ((Below.heap_alloc _ _ _ (by first | (simp; done) | (simp; omega) | omega)).trans ((Below.heap_alloc _ _ _ (by first | (simp; done) | (simp; omega) | omega)).trans (rownew' _ _ _ _ (by simp)))); have z1_0 : w.heap.size < w1.heap.size := Nat.lt_of_lt_of_le (by first | (simp; done) | (simp; omega) | omega) hb1.size; have HR1_0 : Hid _ := R1_0; clear R1_0; have R1_1 := (hb1.block (w.heap.size + 1) (by first | (simp; done) | (simp; omega) | omega)).trans ((Below.heap_alloc _ _ _ (by first | (simp; done) | (simp; omega) | omega)).trans (rownew' _ _ _ _ (by simp))); have z1_1 : w.heap.size + 1 < w1.heap.size := Nat.lt_of_lt_of_le (by first | (simp; done) | (simp; omega) | omega) hb1.size; have c1_1_0 := rowcell R1_1 0; have c1_1_1 := rowcell R1_1 1; have c1_1_2 := rowcell R1_1 2; have c1_1_3 := rowcell R1_1 3; simp only [List.getElem?_toArray, List.getElem?_cons_zero, List.getElem?_cons_succ] at c1_1_0 c1_1_1 c1_1_2 c1_1_3; have HR1_1 : Hid _ := R1_1; clear R1_1; have R1_2 := (hb1.block (w.heap.size + 1 + 1) (by first | (simp; done) | (simp; omega) | omega)).trans (rownew' _ _ _ _ (by simp)); have z1_2 : w.heap.size + 1 + 1 < w1.heap.size := Nat.lt_of_lt_of_le (by first | (simp; done) | (simp; omega) | omega) hb1.size; have HR1_2 : Hid _ := R1_2; clear R1_2; have HB1 : Hid (Below _ _ _) := hb1; clear hb1)
    | (go_at_call_of 71 g; go_must (refine (k2 _).mono ?_); rintro e w2 ⟨rfl, hb2⟩; have R2_0 := (hb2.block (w.heap.size) (by first | (simp; done) | (simp; omega) | omega)).trans HR1_0.out; have z2_0 : w.heap.size < w2.heap.size := Nat.lt_of_lt_of_le (by first | (simp; done) | (simp; omega) | omega) hb2.size; have c2_0_0 := rowcell R2_0 0; have c2_0_1 := rowcell R2_0 1; have c2_0_2 := rowcell R2_0 2; have c2_0_3 := rowcell R2_0 3; simp only [List.getElem?_toArray, List.getElem?_cons_zero, List.getElem?_cons_succ] at c2_0_0 c2_0_1 c2_0_2 c2_0_3; have HR2_0 : Hid _ := R2_0; clear R2_0; have R2_1 := (hb2.block (w.heap.size + 1) (by first | (simp; done) | (simp; omega) | omega)).trans HR1_1.out; have z2_1 : w.heap.size + 1 < w2.heap.size := Nat.lt_of_lt_of_le (by first | (simp; done) | (simp; omega) | omega) hb2.size; have c2_1_0 := rowcell R2_1 0; have c2_1_1 := rowcell R2_1 1; have c2_1_2 := rowcell R2_1 2; have c2_1_3 := rowcell R2_1 3; simp only [List.getElem?_toArray, List.getElem?_cons_zero, List.getElem?_cons_succ] at c2_1_0 c2_1_1 c2_1_2 c2_1_3; have HR2_1 : Hid _ := R2_1; clear R2_1; have R2_2 := (hb2.block (w.heap.size + 1 + 1) (by first | (simp; done) | (simp; omega) | omega)).trans HR1_2.out; have z2_2 : w.heap.size + 1 + 1 < w2.heap.size := Nat.lt_of_lt_of_le (by first | (simp; done) | (simp; omega) | omega) hb2.size; have c2_2_0 := rowcell R2_2 0; have c2_2_1 := rowcell R2_2 1; have c2_2_2 := rowcell R2_2 2; have c2_2_3 := rowcell R2_2 3; have c2_2_4 := rowcell R2_2 4; have c2_2_5 := rowcell R2_2 5; simp only [List.getElem?_toArray, List.getElem?_cons_zero, List.getElem?_cons_succ] at c2_2_0 c2_2_1 c2_2_2 c2_2_3 c2_2_4 c2_2_5; have rf := rowfree R2_2; have HR2_2 : Hid _ := R2_2; clear R2_2; have HB2 : Hid (Below _ _ _) := hb2; clear hb2))
  all_goals
    refine bodyPost_ret (v := .tuple #[.agg #[.int .i64 0, .bool false, .int .i64 0, .int .u64 0, .int .u64 0, .bool false], .int .i64 0]) (by simp [results, Tryz.results47, go_sem, rf, z2_2, c2_2_0, c2_2_1, c2_2_2, c2_2_3, c2_2_4, c2_2_5]) rfl (hQ.out _ _ ⟨by simp, ?_⟩)
    exact cset6 (cthen (cthen (cmore (cmore (cmore (Below.refl _ _) _) _) _) HB1.out) HB2.out) (by omega)
set_option maxHeartbeats 2000000 in
theorem exact10_real (k : Int) (neg : Bool) (s : Int) (f : Nat) (k' : Int) (neg' : Bool) (s' : Int) (g : Nat) (hf : f < 2 ^ 64) (hg : g < 2 ^ 64) (h1 : soundN k neg s f = true) (h2 : soundN k' neg' s' g = true) (hk : k = 1) (hk' : k' = 1) (w : World) :
    Calls Tryz.prog 47 #[numV k neg s f, numV k' neg' s' g] w fun e w' => e = .returned (.tuple #[exactV (xorB neg neg') (f * g) (s + s' - 126) false, .int .i64 0]) ∧ Below w.heap.size w w' := by
  subst hk hk'
  have hb1 : -1073741824 ≤ s ∧ s ≤ 1073741824 := by
    unfold soundN at h1; rw [if_neg (by decide)] at h1; exact (of_decide_eq_true h1).2.2
  have hb2 : -1073741824 ≤ s' ∧ s' ≤ 1073741824 := by
    unfold soundN at h2; rw [if_neg (by decide)] at h2; exact (of_decide_eq_true h2).2.2
  have k1 := sound6_any 1 neg s f
  have k2 := sound6_any 1 neg' s' g
  rw [h1] at k1
  rw [h2] at k2
  have hM := mul64_blen hf hg
  have k3 := of_anyq f hf
  have k4 := of_anyq g hg
  have k5 := fun va vb w ha hb => nmul_anyq va vb f g (dlen_mant (Nat.lt_of_lt_of_le hf (by decide))) (dlen_mant (Nat.lt_of_lt_of_le hg (by decide))) w ha hb
  have k6 := fun v w hr => exactly7_any (xorB neg neg') v (f * g) (s + s' - 126) false (Nat.le_trans hM (by decide)) (by omega) w hr
  obtain ⟨K, B, S, H, L, R, hform⟩ := exactV_form (xorB neg neg') (f * g) (s + s' - 126) false
  rw [hform] at k6 ⊢
  obtain ⟨xb, hxb⟩ : ∃ xb, xorB neg neg' = xb := ⟨_, rfl⟩
  have x1 : (neg != neg') = xb := by rw [← hxb]; cases neg <;> cases neg' <;> rfl
  have x2 : (!(neg == neg')) = xb := by rw [← hxb]; cases neg <;> cases neg' <;> rfl
  have x3 : (!decide (neg = neg')) = xb := by rw [← hxb]; cases neg <;> cases neg' <;> rfl
  rw [hxb] at k6
  have e1 : IntKind.i64.wrap (s + s') = s + s' := wrapI (by omega)
  have e2 : IntKind.i64.wrap (s + s' - 126) = s + s' - 126 := wrapI (by omega)
  generalize f * g = M at *
  clear h1 h2 hb1 hb2 hM hform hf hg hxb
  unfold numV exV at *
  refine cps fun Q hQ => ?_
  go_enter Tryz.func47, Tryz.ntmps47
  go_wp2_with (first
    | (go_at_call_of 71 f; go_must (refine (k1 _).mono ?_); rintro e w1 ⟨rfl, hb1⟩; have R1_0 := (hb1.block (w.heap.size) (by first | (simp; done) | (simp; omega) | omega)).trans ((Below.heap_alloc _ _ _ (by first | (simp; done) | (simp; omega) | omega)).trans ((Below.heap_alloc _ _ _ (by first | (simp; done) | (simp; omega) | omega)).trans (rownew' _ _ _ _ (by simp)))); have z1_0 : w.heap.size < w1.heap.size := Nat.lt_of_lt_of_le (by first | (simp; done) | (simp; omega) | omega) hb1.size; have HR1_0 : Hid _ := R1_0; clear R1_0; have R1_1 := (hb1.block (w.heap.size + 1) (by first | (simp; done) | (simp; omega) | omega)).trans ((Below.heap_alloc _ _ _ (by first | (simp; done) | (simp; omega) | omega)).trans (rownew' _ _ _ _ (by simp))); have z1_1 : w.heap.size + 1 < w1.heap.size := Nat.lt_of_lt_of_le (by first | (simp; done) | (simp; omega) | omega) hb1.size; have c1_1_0 := rowcell R1_1 0; have c1_1_1 := rowcell R1_1 1; have c1_1_2 := rowcell R1_1 2; have c1_1_3 := rowcell R1_1 3; simp only [List.getElem?_toArray, List.getElem?_cons_zero, List.getElem?_cons_succ] at c1_1_0 c1_1_1 c1_1_2 c1_1_3; have HR1_1 : Hid _ := R1_1; clear R1_1; have R1_2 := (hb1.block (w.heap.size + 1 + 1) (by first | (simp; done) | (simp; omega) | omega)).trans (rownew' _ _ _ _ (by simp)); have z1_2 : w.heap.size + 1 + 1 < w1.heap.size := Nat.lt_of_lt_of_le (by first | (simp; done) | (simp; omega) | omega) hb1.size; have HR1_2 : Hid _ := R1_2; clear R1_2; have HB1 : Hid (Below _ _ _) := hb1; clear hb1)
    | (go_at_call_of 71 g; go_must (refine (k2 _).mono ?_); rintro e w2 ⟨rfl, hb2⟩; have R2_0 := (hb2.block (w.heap.size) (by first | (simp; done) | (simp; omega) | omega)).trans HR1_0.out; have z2_0 : w.heap.size < w2.heap.size := Nat.lt_of_lt_of_le (by first | (simp; done) | (simp; omega) | omega) hb2.size; have c2_0_0 := rowcell R2_0 0; have c2_0_1 := rowcell R2_0 1; have c2_0_2 := rowcell R2_0 2; have c2_0_3 := rowcell R2_0 3; simp only [List.getElem?_toArray, List.getElem?_cons_zero, List.getElem?_cons_succ] at c2_0_0 c2_0_1 c2_0_2 c2_0_3; have HR2_0 : Hid _ := R2_0; clear R2_0; have R2_1 := (hb2.block (w.heap.size + 1) (by first | (simp; done) | (simp; omega) | omega)).trans HR1_1.out; have z2_1 : w.heap.size + 1 < w2.heap.size := Nat.lt_of_lt_of_le (by first | (simp; done) | (simp; omega) | omega) hb2.size; have c2_1_0 := rowcell R2_1 0; have c2_1_1 := rowcell R2_1 1; have c2_1_2 := rowcell R2_1 2; have c2_1_3 := rowcell R2_1 3; simp only [List.getElem?_toArray, List.getElem?_cons_zero, List.getElem?_cons_succ] at c2_1_0 c2_1_1 c2_1_2 c2_1_3; have HR2_1 : Hid _ := R2_1; clear R2_1; have R2_2 := (hb2.block (w.heap.size + 1 + 1) (by first | (simp; done) | (simp; omega) | omega)).trans HR1_2.out; have z2_2 : w.heap.size + 1 + 1 < w2.heap.size := Nat.lt_of_lt_of_le (by first | (simp; done) | (simp; omega) | omega) hb2.size; have c2_2_0 := rowcell R2_2 0; have c2_2_1 := rowcell R2_2 1; have c2_2_2 := rowcell R2_2 2; have c2_2_3 := rowcell R2_2 3; have c2_2_4 := rowcell R2_2 4; have c2_2_5 := rowcell R2_2 5; simp only [List.getElem?_toArray, List.getElem?_cons_zero, List.getElem?_cons_succ] at c2_2_0 c2_2_1 c2_2_2 c2_2_3 c2_2_4 c2_2_5; have rf := rowfree R2_2; have HR2_2 : Hid _ := R2_2; clear R2_2; have HB2 : Hid (Below _ _ _) := hb2; clear hb2))
  have cls : ∀ W, Below w2.heap.size w2 W → W.cell? ⟨w.heap.size, 3, none⟩ = some (.int .u64 f) ∧ W.cell? ⟨w.heap.size + 1, 3, none⟩ = some (.int .u64 g) := fun W hW => ⟨(hW.cell (p := ⟨w.heap.size, 3, none⟩) z2_0).trans c2_0_3, (hW.cell (p := ⟨w.heap.size + 1, 3, none⟩) z2_1).trans c2_1_3⟩
  refine wpC_region (fun W => W.cell? ⟨w.heap.size, 3, none⟩ = some (.int .u64 f) ∧ W.cell? ⟨w.heap.size + 1, 3, none⟩ = some (.int .u64 g)) (by kernel_rfl) ?_
  refine wpC_take 0 (v := ?_) rfl (by kernel_rfl) (fun _ _ _ h => h) (by kernel_rfl) ?_ ?_; rotate_left; · (intro wC hC; obtain ⟨c1, c2⟩ := hC; go_simp <;> with_reducible rfl)
  refine wpC_take 1 (v := ?_) rfl (by kernel_rfl) (fun _ _ _ h => h) (by kernel_rfl) ?_ ?_; rotate_left; · (intro wC hC; obtain ⟨c1, c2⟩ := hC; go_simp <;> with_reducible rfl)
  refine wpC_take 3 (v := ?_) rfl (by kernel_rfl) (fun _ _ _ h => h) (by kernel_rfl) ?_ ?_; rotate_left; · (intro wC hC; obtain ⟨c1, c2⟩ := hC; go_simp <;> with_reducible rfl)
  refine wpC_take 4 (v := ?_) rfl (by kernel_rfl) (fun _ _ _ h => h) (by kernel_rfl) ?_ ?_; rotate_left; · (intro wC hC; obtain ⟨c1, c2⟩ := hC; go_simp <;> with_reducible rfl)
  have b2 := cdrew (Below.refl w2.heap.size w2)
  refine wpC_step 2 rfl (by kernel_rfl) (by kernel_rfl) (cls _ b2) (fun K hK => ?_)
  go_simp
  go_wp2_with ((go_at_call_of 86 f; go_must (refine (k3 _).mono ?_); rintro e w3 ⟨v3, rfl, hr3, hb3⟩))
  try (refine hK _ _ ?_; clear hK K)
  have b3 : Below w2.heap.size w2 w3 := cthen b2 hb3
  refine wpC_step 5 rfl (by kernel_rfl) (by kernel_rfl) (cls _ b3) (fun K hK => ?_)
  go_simp
  go_wp2_with ((go_at_call_of 86 g; go_must (refine (k4 _).mono ?_); rintro e w4 ⟨v4, rfl, hr4, hb4⟩))
  try (refine hK _ _ ?_; clear hK K)
  have b4 : Below w2.heap.size w2 w4 := cthen b3 hb4
  refine wpC_step 6 rfl (by kernel_rfl) (by kernel_rfl) (cls _ b4) (fun K hK => ?_)
  go_simp
  go_wp2_with ((go_at_call 53; go_must (refine (k5 _ _ _ (hr3.below hb4) hr4).mono ?_); rintro e w5 ⟨v5, rfl, hr5, hb5⟩))
  try (refine hK _ _ ?_; clear hK K)
  have b5 : Below w2.heap.size w2 w5 := cthen b4 hb5
  refine wpC_take 7 (v := ?_) rfl (by kernel_rfl) (fun _ _ _ h => h) (by kernel_rfl) ?_ ?_; rotate_left; · (intro wC hC; obtain ⟨c1, c2⟩ := hC; go_simp <;> with_reducible rfl)
  refine wpC_done (by kernel_rfl) (cls _ b5) ?_
  have X0 := (b5.block w.heap.size z2_0).trans HR2_0.out
  have X1 := (b5.block (w.heap.size + 1) z2_1).trans HR2_1.out
  have a1 := rowcell X0 1
  have a2 := rowcell X0 2
  have d1 := rowcell X1 1
  have d2 := rowcell X1 2
  simp only [List.getElem?_toArray, List.getElem?_cons_zero, List.getElem?_cons_succ] at a1 a2 d1 d2
  have y2 : w.heap.size + 1 + 1 < w5.heap.size := Nat.lt_of_lt_of_le z2_2 b5.size
  have HV5 : Hid (Row w5 v5 (dig M)) := hr5
  have HB5 : Hid (Below w2.heap.size w2 w5) := b5
  clear cls X0 X1 b2 b3 b4 b5 hb3 hb4 hb5 hr3 hr4 hr5 k3 k4 k5
  go_wp2_with (go_at_call 43; go_must (refine (k6 _ _ HV5.out).mono ?_); rintro e w6 ⟨rfl, hb6⟩; have RR := (hb6.block (w.heap.size + 1 + 1) y2).trans ((HB5.out.block (w.heap.size + 1 + 1) z2_2).trans HR2_2.out); have y6 : w.heap.size + 1 + 1 < w6.heap.size := rowlt RR; have r0 := rowcell RR 0; have r1 := rowcell RR 1; have r2 := rowcell RR 2; have r3 := rowcell RR 3; have r4 := rowcell RR 4; have r5 := rowcell RR 5; have rg := rowfree RR; simp only [List.getElem?_toArray, List.getElem?_cons_zero, List.getElem?_cons_succ] at r0 r1 r2 r3 r4 r5; have HB6 : Hid (Below _ _ _) := hb6; clear hb6 RR)
  refine bodyPost_ret (v := .tuple #[.agg #[.int .i64 K, .bool B, .int .i64 S, .int .u64 H, .int .u64 L, .bool R], .int .i64 0]) (by simp [results, Tryz.results47, go_sem, rg, y6, r0, r1, r2, r3, r4, r5]) rfl (hQ.out _ _ ⟨by simp, ?_⟩)
  exact cset6 (cthen (cthen (cthen (cthen (cmore (cmore (cmore (Below.refl _ _) _) _) _) HB1.out) HB2.out) HB5.out) HB6.out) (by omega)
theorem soundN_kinds {k : Int} {neg : Bool} {s : Int} {f : Nat} (h : soundN k neg s f = true) : k = 0 ∨ k = 2 ∨ k = 1 := by
  rcases sound_cases h with ⟨a, _⟩ | ⟨a, _⟩ | a
  · exact .inl a
  · exact .inr (.inl a)
  · exact .inr (.inr a)
theorem exact10_ok (k : Int) (neg : Bool) (s : Int) (f : Nat) (k' : Int) (neg' : Bool) (s' : Int) (g : Nat) (hf : f < 2 ^ 64) (hg : g < 2 ^ 64) (h1 : soundN k neg s f = true) (h2 : soundN k' neg' s' g = true) (w : World) :
    Calls Tryz.prog 47 #[numV k neg s f, numV k' neg' s' g] w fun e w' => e = .returned (.tuple #[prod10 k neg s f k' neg' s' g, .int .i64 0]) ∧ Below w.heap.size w w' := by
  unfold prod10
  by_cases a2 : k = 2
  · rw [if_pos (.inl a2)]; exact exact10_nar1 k neg s f k' neg' s' g h1 h2 a2 w
  · by_cases b2 : k' = 2
    · rw [if_pos (.inr b2)]; exact exact10_nar2 k neg s f k' neg' s' g h1 h2 a2 b2 w
    · rw [if_neg (by rintro (c | c); exact a2 c; exact b2 c)]
      by_cases a0 : k = 0
      · rw [if_pos (.inl a0)]; exact exact10_zero1 k neg s f k' neg' s' g h1 h2 a0 b2 w
      · by_cases b0 : k' = 0
        · rw [if_pos (.inr b0)]; exact exact10_zero2 k neg s f k' neg' s' g h1 h2 a2 a0 b0 w
        · rw [if_neg (by rintro (c | c); exact a0 c; exact b0 c)]
          have ka : k = 1 := by rcases soundN_kinds h1 with c | c | c; exact absurd c a0; exact absurd c a2; exact c
          have kb : k' = 1 := by rcases soundN_kinds h2 with c | c | c; exact absurd c b0; exact absurd c b2; exact c
          exact exact10_real k neg s f k' neg' s' g hf hg h1 h2 ka kb w
end Go.Proofs.YtheliihkkoohnaaGreat

namespace Go.Proofs.YtheliihkkoohnaaGreat
open Go.ChangeShapes Go.WideShapes Go.ChangeAt Go.RowKit
set_option linter.unusedVariables false
set_option linter.unusedSimpArgs false
set_option maxRecDepth 100000

/-! ### powers of 2 as patterns -/
def P63 : Nat := 9223372036854775808
theorem P63_man : manX P63 0 = 2 ^ 127 := by unfold manX P63; decide
theorem P63_words : WordsX P63 0 := ⟨by decide, by decide, by decide⟩
def okT (n : Nat) (s : Int) : Bool := inR n s && fitsN n s P63
def patT (n : Nat) (s : Int) : Nat := if okT n s then patOf n false (cutL n s P63) else 0
theorem okT_facts (n : Nat) (s : Int) (hn : Wd n) (h : okT n s = true) :
    patT n s < 2 ^ n ∧ vK n (patT n s) = 1 ∧ valI n (patT n s) = sg false (manX P63 0) * ((2 ^ (s + 248).toNat : Nat) : Int) ∧ 8 - 4 * (n : Int) ≤ s ∧ s ≤ 4 * n - 8 ∧ patT n s = rndX n s P63 0 false := by
  obtain ⟨h1, h2⟩ := Bool.and_eq_true_iff.1 h
  obtain ⟨ht, hl⟩ := cut_true n s P63 hn h1
  obtain ⟨p1, p2, p3, p4⟩ := patOf_facts n hn false (cutL n s P63) hl ht
  obtain ⟨f1, f2⟩ := of_decide_eq_true h2
  have hr := of_decide_eq_true h1
  have e : patT n s = patOf n false (cutL n s P63) := by unfold patT; rw [if_pos h]
  rw [e]
  refine ⟨p1, p2, ?_, hr.1, hr.2, ?_⟩
  · unfold valI
    have k1 : vK n (patOf n false (cutL n s P63)) = 1 := p2
    have k2 : vB n (patOf n false (cutL n s P63)) = false := by unfold vB; rw [if_pos p2, p3]
    have k3 : vS n (patOf n false (cutL n s P63)) = s := by unfold vS; rw [if_pos p2, p4, f1]
    have k4 : vF n (patOf n false (cutL n s P63)) = P63 := by unfold vF; rw [if_pos p2, p4, f2]
    rw [if_pos k1, k2, k3, k4]
  · have := rnd_home n (cutL n s P63) hn hl ht
    rw [f1, f2] at this
    rw [this]; rfl
theorem two_mul (n : Nat) (s t : Int) (hn : Wd n) (hs : okT n s = true) (ht : okT n t = true) : patP n (patT n s) (patT n t) = rndX n (s + t) P63 0 false := by
  obtain ⟨_, a2, a3, a4, a5, _⟩ := okT_facts n s hn hs
  obtain ⟨_, b2, b3, b4, b5, _⟩ := okT_facts n t hn ht
  have hw := wd_le hn
  unfold patP
  rw [if_neg (by rw [a2, b2]; decide), a3, b3]
  have e1 : sg false (manX P63 0) * ((2 ^ (s + 248).toNat : Nat) : Int) * (sg false (manX P63 0) * ((2 ^ (t + 248).toNat : Nat) : Int)) = sg false (manX P63 0) * ((2 ^ (s + t + 623).toNat : Nat) : Int) := by
    rw [← sg_mul, ← sg_mul, ← sg_mul, sg_times]
    have hx : xorB false false = false := rfl
    rw [hx]
    congr 1
    rw [P63_man, ← Nat.pow_add, ← Nat.pow_add, ← Nat.pow_add, ← Nat.pow_add]
    congr 1
    omega
  rw [e1]
  have h := exI_real false (s + t) P63 0 P63_words (by omega) (-623) (s + t + 623).toNat (by omega)
  rw [show (-623 : Int) - 127 = eN + eN from rfl] at h
  have h0 : sg false (manX P63 0) * ((2 ^ (s + t + 623).toNat : Nat) : Int) ≠ 0 := by
    rw [← sg_mul, P63_man]
    have : 0 < 2 ^ 127 * 2 ^ (s + t + 623).toNat := Nat.mul_pos (Nat.pow_pos (by decide)) (Nat.pow_pos (by decide))
    unfold sg
    rw [if_neg (by decide)]
    generalize 2 ^ 127 * 2 ^ (s + t + 623).toNat = x at *
    omega
  rw [patI_of h0 h]
  rfl
end Go.Proofs.YtheliihkkoohnaaGreat

namespace Go.Proofs.YtheliihkkoohnaaGreat
set_option maxRecDepth 100000
set_option linter.unusedVariables false
set_option linter.unusedSimpArgs false

/-! ### quotients (plain mathematics) -/
theorem real_or (n a : Nat) (hn : Wd n) (h2 : vK n a ≠ 2) (h0 : vK n a ≠ 0) : vK n a = 1 := by
  rcases v_kinds n a hn with ⟨h, _⟩ | h | ⟨h, _⟩
  · exact absurd h h0
  · exact h
  · exact absurd h h2
end Go.Proofs.YtheliihkkoohnaaGreat

namespace Go.Proofs.YtheliihkkoohnaaGreat
set_option linter.unusedVariables false
set_option linter.unusedSimpArgs false
set_option maxRecDepth 100000

/-! ### roots (plain mathematics) -/
def rtF (m : Nat) : Nat → Nat → Nat
  | r, 0 => r
  | r, k + 1 => rtF m (if (r + 2 ^ k) * (r + 2 ^ k) ≤ m then r + 2 ^ k else r) k
theorem rtF_ok (m : Nat) : ∀ k r, r * r ≤ m → m < (r + 2 ^ k) * (r + 2 ^ k) → rtF m r k * rtF m r k ≤ m ∧ m < (rtF m r k + 1) * (rtF m r k + 1) := by
  intro k
  induction k with
  | zero => intro r h1 h2; exact ⟨h1, h2⟩
  | succ k ih =>
    intro r h1 h2
    unfold rtF
    by_cases h : (r + 2 ^ k) * (r + 2 ^ k) ≤ m
    · rw [if_pos h]
      refine ih _ h ?_
      rw [Nat.add_assoc, ← Nat.two_mul, ← Nat.pow_succ']
      exact h2
    · rw [if_neg h]
      exact ih _ h1 (by omega)
def rtN (m : Nat) : Nat := rtF m 0 71
theorem rtN_ok {m : Nat} (h : m < 2 ^ 142) : rtN m * rtN m ≤ m ∧ m < (rtN m + 1) * (rtN m + 1) :=
  rtF_ok m 71 0 (by omega) (by rw [Nat.zero_add, ← Nat.pow_add]; exact h)
theorem sq_le' {a b : Nat} (h : a * a < (b + 1) * (b + 1)) : a ≤ b := by
  refine Nat.le_of_not_lt fun c => ?_
  have := Nat.mul_le_mul (show b + 1 ≤ a by omega) (show b + 1 ≤ a by omega)
  omega
def rtH (m : Nat) : Nat := rtN m / 2 ^ 7
def rtR (m : Nat) : Bool := decide (rtH m * rtH m * 2 ^ 14 ≠ m)
theorem sq_shift (a : Nat) : (a * 2 ^ 7) * (a * 2 ^ 7) = a * a * 2 ^ 14 := by rw [Nat.mul_mul_mul_comm, ← Nat.pow_add]
theorem rtH_ok {m : Nat} (h : m < 2 ^ 142) : rtH m * rtH m * 2 ^ 14 ≤ m ∧ m < (rtH m + 1) * (rtH m + 1) * 2 ^ 14 := by
  obtain ⟨h1, h2⟩ := rtN_ok h
  have hd := Nat.div_add_mod (rtN m) (2 ^ 7)
  have hm := Nat.mod_lt (rtN m) (show 0 < 2 ^ 7 by decide)
  rw [show rtN m / 2 ^ 7 = rtH m from rfl] at hd
  rw [← sq_shift, ← sq_shift]
  constructor
  · exact Nat.le_trans (Nat.mul_le_mul (show rtH m * 2 ^ 7 ≤ rtN m by omega) (show rtH m * 2 ^ 7 ≤ rtN m by omega)) h1
  · exact Nat.lt_of_lt_of_le h2 (Nat.mul_le_mul (by omega) (by omega))
theorem rtR_eq {m : Nat} (h : m < 2 ^ 142) : (decide (rtN m % 2 ^ 7 ≠ 0) || decide (rtN m * rtN m ≠ m)) = rtR m := by
  obtain ⟨h1, h2⟩ := rtN_ok h
  have hd := Nat.div_add_mod (rtN m) (2 ^ 7)
  rw [show rtN m / 2 ^ 7 = rtH m from rfl] at hd
  have hm := Nat.mod_lt (rtN m) (show 0 < 2 ^ 7 by decide)
  unfold rtR
  rw [Bool.eq_iff_iff, Bool.or_eq_true, decide_eq_true_eq, decide_eq_true_eq, decide_eq_true_eq, ← sq_shift]
  constructor
  · intro hor hc
    have he : rtN m = rtH m * 2 ^ 7 := by
      have e1 : rtN m ≤ rtH m * 2 ^ 7 := sq_le' (by
        have e2 : rtH m * 2 ^ 7 < rtH m * 2 ^ 7 + 1 := Nat.lt_succ_self _
        exact Nat.lt_of_le_of_lt (Nat.le_trans h1 (Nat.le_of_eq hc.symm)) (Nat.mul_lt_mul_of_lt_of_lt e2 e2))
      omega
    rcases hor with c | c
    · exact c (by omega)
    · exact c (by rw [he]; exact hc)
  · intro hc
    by_cases c : rtN m % 2 ^ 7 = 0
    · refine .inr fun e => hc ?_
      have he : rtN m = rtH m * 2 ^ 7 := by omega
      rw [← he]; exact e
    · exact .inl c
/-- the number whose root is taken, times 2^14 -/
def mR (s : Int) (M : Nat) : Nat := M * 2 ^ (13 + (s % 2).toNat)
theorem mR_two (s : Int) (M : Nat) : (s % 2 = 0 ∧ mR s M = M * 2 ^ 13) ∨ (s % 2 = 1 ∧ mR s M = M * 2 ^ 14) := by
  rcases Int.emod_two_eq s with h | h
  · exact .inl ⟨h, by unfold mR; rw [h]; rfl⟩
  · exact .inr ⟨h, by unfold mR; rw [h]; rfl⟩
theorem mR_size (s : Int) {M : Nat} (h : Mant M) : 2 ^ 140 ≤ mR s M ∧ mR s M < 2 ^ 142 := by
  obtain ⟨h1, h2⟩ := h
  rcases mR_two s M with ⟨_, e⟩ | ⟨_, e⟩ <;> rw [e] <;> omega
theorem rt_words {m : Nat} (h1 : 2 ^ 140 ≤ m) (h2 : m < 2 ^ 142) : 2 ^ 70 ≤ rtN m ∧ rtN m < 2 ^ 71 ∧ WordsX (rtH m) 0 := by
  obtain ⟨a, b⟩ := rtN_ok h2
  have c1 : 2 ^ 70 ≤ rtN m := sq_le' (by rw [← Nat.pow_add]; exact Nat.lt_of_le_of_lt h1 b)
  have c2 : rtN m < 2 ^ 71 := by
    have : rtN m ≤ 2 ^ 71 - 1 := sq_le' (by rw [Nat.sub_add_cancel (by decide), ← Nat.pow_add]; exact Nat.lt_of_le_of_lt a h2)
    have h0 : 0 < 2 ^ 71 := by decide
    omega
  refine ⟨c1, c2, ⟨?_, ?_, by decide⟩⟩
  · unfold rtH; omega
  · unfold rtH; omega
def root12 (k : Int) (neg : Bool) (s : Int) (hi lo : Nat) (rest : Bool) : Value :=
  if k = 2 ∨ neg = true then exV 2 false 0 0 0 false
  else if k = 0 then exV 0 false 0 0 0 false
  else exV 1 false (s / 2) (rtH (mR s (manX hi lo))) 0 (rtR (mR s (manX hi lo)) || rest)
end Go.Proofs.YtheliihkkoohnaaGreat

namespace Go.Proofs.YtheliihkkoohnaaGreat
set_option linter.unusedVariables false
set_option linter.unusedSimpArgs false
set_option maxRecDepth 100000

/-! ### the root of a square, as patterns (plain mathematics) -/
end Go.Proofs.YtheliihkkoohnaaGreat

namespace Go.Proofs.YtheliihkkoohnaaGreat
open Go.ChangeShapes Go.WideShapes Go.ChangeAt Go.RowKit
set_option linter.unusedVariables false
set_option maxRecDepth 100000

theorem Row.other {w : World} {v u : Value} {l : List Nat} {g j : Nat} (h : Row w v l) (hne : v.ownBlock ≠ some g) : Row (w.setCell ⟨g, j, none⟩ u) v l := by
  obtain ⟨ao, c, rfl, hc, hl, h⟩ := h
  refine ⟨ao, c, rfl, hc, hl, ?_⟩
  rcases h with h | ⟨b, off, rfl, hlt, h⟩
  · exact .inl h
  · have hb : b ≠ g := fun e => hne (by rw [e]; rfl)
    refine .inr ⟨b, off, rfl, hlt.set, fun i hi => ?_⟩
    rw [World.cell?_setCell_other w ⟨g, j, none⟩ ⟨b, off + i, none⟩ u (by intro e; exact hb (by injection e with e1; exact e1.symm)), h i hi]
theorem bdrewN' {B : Nat} {a W : World} (h : Below B a W) (q : Nat) : Below B a (W.drewN q) := below_drewN h q

end Go.Proofs.YtheliihkkoohnaaGreat

namespace Go.Proofs.YtheliihkkoohnaaGreat
open Go.ChangeShapes Go.WideShapes Go.ChangeAt Go.RowKit
set_option linter.unusedVariables false
set_option maxRecDepth 100000

end Go.Proofs.YtheliihkkoohnaaGreat

namespace Go.Proofs.YtheliihkkoohnaaGreat
open Go.ChangeShapes Go.WideShapes Go.ChangeAt Go.RowKit
set_option linter.unusedVariables false
set_option linter.unusedSimpArgs false
set_option maxRecDepth 100000

/-! ### the document's quotients -/
theorem cut11_any (k : Int) (neg : Bool) (s : Int) (hi lo : Nat) (rest : Bool) (w : World) :
    Calls Tryz.prog 54 #[exV k neg s hi lo rest] w fun e w' => e = .returned (exV k neg s hi 0 (rest || decide (lo ≠ 0))) ∧ Below w.heap.size w w' := by
  unfold exV
  rw [show ((0 : Nat) : Int) = 0 from rfl]
  refine cps fun Q hQ => ?_
  by_cases h : lo = 0
  · subst h
    rw [show ((0 : Nat) : Int) = 0 from rfl]
    cases rest
    · skip
      go_enter Tryz.func54, Tryz.ntmps54
      go_wp2
      refine bodyPost_ret (v := .agg #[.int .i64 k, .bool neg, .int .i64 s, .int .u64 hi, .int .u64 0, .bool false]) (by simp [results, Tryz.results54, go_sem]) rfl (hQ.out _ _ ⟨by simp, ?_⟩)
      exact cmore (cmore (Below.refl _ _) _) _
    · skip
      go_enter Tryz.func54, Tryz.ntmps54
      go_wp2
      refine bodyPost_ret (v := .agg #[.int .i64 k, .bool neg, .int .i64 s, .int .u64 hi, .int .u64 0, .bool true]) (by simp [results, Tryz.results54, go_sem]) rfl (hQ.out _ _ ⟨by simp, ?_⟩)
      exact cmore (cmore (Below.refl _ _) _) _
  · have d : ((lo : Int) == 0) = false := beq_eq_false_iff_ne.2 (by omega)
    rw [decide_eq_true h, Bool.or_true] at hQ
    cases rest
    · skip
      go_enter Tryz.func54, Tryz.ntmps54
      go_wp2
      refine bodyPost_ret (v := .agg #[.int .i64 k, .bool neg, .int .i64 s, .int .u64 hi, .int .u64 0, .bool true]) (by simp [results, Tryz.results54, go_sem, h]) rfl (hQ.out _ _ ⟨by simp, ?_⟩)
      exact cmore (cmore (Below.refl _ _) _) _
    · skip
      go_enter Tryz.func54, Tryz.ntmps54
      go_wp2
      refine bodyPost_ret (v := .agg #[.int .i64 k, .bool neg, .int .i64 s, .int .u64 hi, .int .u64 0, .bool true]) (by simp [results, Tryz.results54, go_sem, h]) rfl (hQ.out _ _ ⟨by simp, ?_⟩)
      exact cmore (cmore (Below.refl _ _) _) _
theorem round7_via (n : Nat) (V : Value) (P : Nat) (hV : ∃ k b s h l r, V = exV k b s h l r) (k1 : ∀ w, Calls Tryz.prog 40 #[.int .i64 n, V] w fun r w' => r = .returned (.tuple #[.int .u64 P, .int .i64 0]) ∧ Below w.heap.size w w') (w : World) :
    Calls Tryz.prog 25 #[.int .i64 n, V] w fun r w' => r = .returned (.int .u64 P) ∧ Below w.heap.size w w' := by
  obtain ⟨k, b, s, h, l, r, rfl⟩ := hV
  unfold exV at *
  refine cps fun Q hQ => ?_
  go_enter Tryz.func25, Tryz.ntmps25
  go_wp2_with (go_at_call 40; refine (k1 _).mono ?_; rintro e w1 ⟨rfl, hb1⟩)
  exact hQ.out _ _ ⟨rfl, cthen (cmore (Below.refl _ _) _) hb1⟩
end Go.Proofs.YtheliihkkoohnaaGreat

namespace Go.Proofs.YtheliihkkoohnaaGreat
open Go.ChangeShapes Go.WideShapes Go.ChangeAt Go.RowKit
set_option linter.unusedVariables false

/-! ### one digit (32 bits) of a quotient, as the library's Div64 finds it -/
end Go.Proofs.YtheliihkkoohnaaGreat

namespace Go.Proofs.YtheliihkkoohnaaGreat
set_option maxRecDepth 100000
open Go.ChangeShapes Go.WideShapes Go.ChangeAt Go.RowKit
set_option linter.unusedVariables false

end Go.Proofs.YtheliihkkoohnaaGreat

namespace Go.Proofs.YtheliihkkoohnaaGreat
set_option maxRecDepth 100000
open Go.ChangeShapes Go.WideShapes Go.ChangeAt Go.RowKit
set_option linter.unusedVariables false

theorem tw_some {n : Nat} (h : n < 340282366920938463463374607431768211456) : ∃ h l, Tw n h l := ⟨n / 18446744073709551616, n % 18446744073709551616, by omega, by omega, by omega⟩
end Go.Proofs.YtheliihkkoohnaaGreat

namespace Go.Proofs.YtheliihkkoohnaaGreat
set_option maxRecDepth 100000
open Go.ChangeShapes Go.WideShapes Go.ChangeAt Go.RowKit
set_option linter.unusedVariables false

end Go.Proofs.YtheliihkkoohnaaGreat

namespace Go.Proofs.YtheliihkkoohnaaGreat
set_option maxRecDepth 100000
open Go.ChangeShapes Go.WideShapes Go.ChangeAt Go.RowKit
set_option linter.unusedVariables false

theorem sq_lt {r a : Nat} (h : r * r ≤ a) (ha : a < 340282366920938463463374607431768211456) : r < 18446744073709551616 := by
  by_cases g : r < 18446744073709551616
  · exact g
  · have := Nat.mul_le_mul (show 18446744073709551616 ≤ r by omega) (show 18446744073709551616 ≤ r by omega)
    omega
theorem sq_one {r s a : Nat} (h1 : r * r ≤ a) (h2 : a < (r + 1) * (r + 1)) (h3 : s * s ≤ a) (h4 : a < (s + 1) * (s + 1)) : r = s := by
  rcases Nat.lt_trichotomy r s with g | g | g
  · have := Nat.mul_le_mul (show r + 1 ≤ s by omega) (show r + 1 ≤ s by omega); omega
  · exact g
  · have := Nat.mul_le_mul (show s + 1 ≤ r by omega) (show s + 1 ≤ r by omega); omega
end Go.Proofs.YtheliihkkoohnaaGreat

namespace Go.Proofs.YtheliihkkoohnaaGreat
set_option maxRecDepth 100000
open Go.ChangeShapes Go.WideShapes Go.ChangeAt Go.RowKit
set_option linter.unusedVariables false

theorem or_bit (m i : Nat) : m * 2 ^ (i + 1) ||| 2 ^ i = m * 2 ^ (i + 1) + 2 ^ i := by
  have h := Nat.shiftLeft_add_eq_or_of_lt (a := m) (b := 2 ^ i) (i := i + 1) (Nat.pow_lt_pow_right (by decide) (by omega))
  rw [Nat.shiftLeft_eq] at h
  exact h.symm
theorem or_room {m i : Nat} (hi : i < 64) (h : m * 2 ^ (i + 1) < 18446744073709551616) : m * 2 ^ (i + 1) + 2 ^ i < 18446744073709551616 := by
  have e : 2 ^ (63 - i) * 2 ^ (i + 1) = 18446744073709551616 := by rw [← Nat.pow_add, show 63 - i + (i + 1) = 64 by omega]
  have h1 : m < 2 ^ (63 - i) := by
    by_cases g : m < 2 ^ (63 - i)
    · exact g
    · have := Nat.mul_le_mul_right (2 ^ (i + 1)) (Nat.le_of_not_lt g)
      omega
  have h2 := Nat.mul_le_mul_right (2 ^ (i + 1)) h1
  rw [Nat.succ_mul] at h2
  have h3 : 2 ^ (i + 1) = 2 ^ i * 2 := Nat.pow_succ 2 i
  have h4 : 0 < 2 ^ i := Nat.pow_pos (by decide)
  generalize 2 ^ i = p at *
  generalize 2 ^ (i + 1) = p2 at *
  generalize m * p2 = x at *
  omega
set_option maxHeartbeats 4000000 in
theorem proot_any {a h1 l1 r h l : Nat} (ha : Tw a h1 l1) (hr1 : r * r ≤ a) (hr2 : a < (r + 1) * (r + 1)) (hl : Tw (a - r * r) h l) (w : World) :
    Calls Tryz.prog 89 #[.agg #[.int .u64 h1, .int .u64 l1]] w fun e w' => e = .returned (.tuple #[.int .u64 r, .agg #[.int .u64 h, .int .u64 l]]) ∧ Below w.heap.size w w' := by
  refine cps fun Q hQ => ?_
  have la := ha.lt
  have lr := sq_lt hr1 la
  obtain ⟨h2, l2, t2⟩ := tw_some (n := r * r) (by omega)
  have k1 := fun w => tmul_any (show r ≤ 18446744073709551615 by omega) (show r ≤ 18446744073709551615 by omega) t2 w
  have k2 := fun w => tsub_any (c := false) ha t2 (h := h) (l := l) (by
    rw [show a + 340282366920938463463374607431768211456 - r * r = (a - r * r) + 340282366920938463463374607431768211456 by omega, Nat.add_mod_right, Nat.mod_eq_of_lt (by omega)]
    exact hl) (decide_eq_false (by omega)).symm w
  have HR : Hid (∀ R, R * R ≤ a → a < (R + 1) * (R + 1) → R = r) := fun R x y => sq_one x y hr1 hr2
  have HA : Hid (Tw a h1 l1 ∧ a < 340282366920938463463374607431768211456) := ⟨ha, la⟩
  have HS : Hid (a < (0 + 2 ^ 64) * (0 + 2 ^ 64)) := show _ < _ by omega
  clear ha hr1 hr2 hl la lr t2
  obtain ⟨W, hW⟩ : ∃ W, W = (w.alloc (.cells #[.int .u64 h1, .int .u64 l1] 79)).alloc (.cells #[.int .u64 0, .int .u64 0] 79) := ⟨_, rfl⟩
  have H0 : Below w.heap.size w W := by rw [hW]; exact bmore (bmore (Below.refl _ _) _) _
  have z0 : w.heap.size + 1 < W.heap.size := by rw [hW]; simp
  have z1 : w.heap.size < W.heap.size := by omega
  have cls : ∀ V, Below W.heap.size W V → V.cell? ⟨w.heap.size, 0, none⟩ = some (.int .u64 h1) ∧ V.cell? ⟨w.heap.size, 1, none⟩ = some (.int .u64 l1) := fun V hV => by
    obtain ⟨c, _⟩ := bcell hV
    rw [c _ _ z1, c _ _ z1, hW]
    simp [go_sem]
  have box : ∀ V, Below W.heap.size W V → V.cell? ⟨w.heap.size + 1, 0, none⟩ = some (.int .u64 0) ∧ V.cell? ⟨w.heap.size + 1, 1, none⟩ = some (.int .u64 0) ∧ V.frozen? ⟨w.heap.size + 1, 0, none⟩ = false ∧ V.frozen? ⟨w.heap.size + 1, 1, none⟩ = false := fun V hV => by
    obtain ⟨c, f⟩ := bcell hV
    rw [c _ _ z0, c _ _ z0, f _ _ z0, f _ _ z0, hW]
    simp [go_sem]
  go_enter Tryz.func89, Tryz.ntmps89
  go_wp2
  rw [← hW]
  clear hW
  go_loopw [4, 5] (fun rv kv wr => ∃ R j m : Nat, j ≤ 64 ∧ rv = .int .u64 R ∧ kv = .int .u64 ((2 ^ j / 2 : Nat) : Int) ∧ Hid (R = m * 2 ^ j) ∧ Hid (R * R ≤ a) ∧ Hid (a < (R + 2 ^ j) * (R + 2 ^ j)) ∧ Below W.heap.size W wr) (fun _ kv _ => (intOf kv).toNat)
  case atStart => exact ⟨0, 64, 0, by decide, rfl, rfl, (Nat.zero_mul _).symm, Nat.zero_le _, HS.out, Below.refl _ _⟩
  case round =>
    obtain ⟨R, j, m, hj, rfl, rfl, hmul, hlo, hup, hbel⟩ := hrel
    by_cases h0 : 0 < j
    · obtain ⟨i, rfl⟩ : ∃ i, j = i + 1 := ⟨j - 1, by omega⟩
      have lR := sq_lt hlo.out HA.out.2
      have pp : 2 ^ (i + 1) / 2 = 2 ^ i := by rw [Nat.pow_succ]; omega
      have p0 : 0 < 2 ^ i := Nat.pow_pos (by decide)
      have room : R + 2 ^ i < 18446744073709551616 := by rw [hmul.out]; exact or_room (by omega) (by rw [← hmul.out]; exact lR)
      have v1 : bits .or .u64 (R : Int) ((2 ^ i : Nat) : Int) = ((R + 2 ^ i : Nat) : Int) := by
        rw [u64_or_nat R (2 ^ i) lR (by omega), hmul.out, or_bit]
      have hup' : a < (R + 2 ^ i + 2 ^ i) * (R + 2 ^ i + 2 ^ i) := by
        have := hup.out
        rw [Nat.pow_succ, show R + 2 ^ i * 2 = R + 2 ^ i + 2 ^ i by omega] at this
        exact this
      have m1 : R = (m * 2) * 2 ^ i := by rw [hmul.out, Nat.pow_succ, Nat.mul_assoc, Nat.mul_comm 2]
      have m2 : R + 2 ^ i = (m * 2 + 1) * 2 ^ i := by rw [Nat.add_mul, Nat.one_mul, ← m1]
      have HM : Hid (R = (m * 2) * 2 ^ i ∧ R + 2 ^ i = (m * 2 + 1) * 2 ^ i) := ⟨m1, m2⟩
      clear m1 m2
      rw [pp]
      have v2 : ((2 ^ i : Nat) : Int) / 2 = ((2 ^ i / 2 : Nat) : Int) := by omega
      obtain ⟨p, hp⟩ : ∃ p, p = 2 ^ i := ⟨_, rfl⟩
      obtain ⟨s, hs⟩ : ∃ s, s = R + 2 ^ i := ⟨_, rfl⟩
      obtain ⟨n, hn⟩ : ∃ n, n = 2 ^ i / 2 := ⟨_, rfl⟩
      rw [← hs] at v1 hup' room
      rw [← hn] at v2
      rw [← hp] at v1 v2 p0 hup' ⊢
      have HP : Hid (p = 2 ^ i ∧ s = R + 2 ^ i ∧ n = 2 ^ i / 2) := ⟨hp, hs, hn⟩
      clear hp hs hn pp
      obtain ⟨h3, l3, t3⟩ := tw_some (n := s * s) (by have := Nat.mul_le_mul (show s ≤ 18446744073709551615 by omega) (show s ≤ 18446744073709551615 by omega); omega)
      have g1 := fun w => tmul_any (show s ≤ 18446744073709551615 by omega) (show s ≤ 18446744073709551615 by omega) t3 w
      have g2 := fun w => tcmp_any t3 HA.out.1 w
      obtain ⟨x, hx⟩ : ∃ x, x = cmpN (s * s) a := ⟨_, rfl⟩
      rw [← hx] at g2
      have hxx : (x ≤ 0 ∧ s * s ≤ a) ∨ (0 < x ∧ a < s * s) := by
        rw [hx]
        rcases Nat.lt_trichotomy (s * s) a with g | g | g
        · rw [cmpN_lt g]; exact .inl ⟨by decide, by omega⟩
        · rw [g, cmpN_eq]; exact .inl ⟨by decide, Nat.le_refl _⟩
        · rw [cmpN_gt g]; exact .inr ⟨by decide, g⟩
      have HU : Hid _ := hup'
      have px : ((p : Int) > 0) = True := by simp; omega
      clear hup' hx t3 room lR
      go_upto_region 5 with fail
      refine wpC_region (fun W => W.cell? ⟨w.heap.size, 0, none⟩ = some (.int .u64 h1) ∧ W.cell? ⟨w.heap.size, 1, none⟩ = some (.int .u64 l1)) (by kernel_rfl) ?_
      refine wpC_take 0 (v := ?_) rfl (by kernel_rfl) (fun _ _ _ h => h) (by kernel_rfl) ?_ ?_; rotate_left; · (intro wC hC; obtain ⟨c1, c2⟩ := hC; go_simp <;> with_reducible rfl)
      refine wpC_take 1 (v := ?_) rfl (by kernel_rfl) (fun _ _ _ h => h) (by kernel_rfl) ?_ ?_; rotate_left; · (intro wC hC; obtain ⟨c1, c2⟩ := hC; go_simp <;> with_reducible rfl)
      refine wpC_take 2 (v := ?_) rfl (by kernel_rfl) (fun _ _ _ h => h) (by kernel_rfl) ?_ ?_; rotate_left; · (intro wC hC; obtain ⟨c1, c2⟩ := hC; go_simp <;> with_reducible rfl)
      refine wpC_take 3 (v := ?_) rfl (by kernel_rfl) (fun _ _ _ h => h) (by kernel_rfl) ?_ ?_; rotate_left; · (intro wC hC; obtain ⟨c1, c2⟩ := hC; go_simp <;> with_reducible rfl)
      refine wpC_take 4 (v := ?_) rfl (by kernel_rfl) (fun _ _ _ h => h) (by kernel_rfl) ?_ ?_; rotate_left; · (intro wC hC; obtain ⟨c1, c2⟩ := hC; go_simp <;> with_reducible rfl)
      refine wpC_take 5 (v := ?_) rfl (by kernel_rfl) (fun _ _ _ h => h) (by kernel_rfl) ?_ ?_; rotate_left; · (intro wC hC; obtain ⟨c1, c2⟩ := hC; go_simp <;> with_reducible rfl)
      refine wpC_take 7 (v := ?_) rfl (by kernel_rfl) (fun _ _ _ h => h) (by kernel_rfl) ?_ ?_; rotate_left; · (intro wC hC; obtain ⟨c1, c2⟩ := hC; go_simp <;> with_reducible rfl)
      refine wpC_step 6 rfl (by kernel_rfl) (by kernel_rfl) (cls _ (bdrew hbel)) (fun K hK => ?_)
      go_simp
      go_wp2_with ((go_at_call 55; refine (g1 _).mono ?_; rintro e w1 ⟨rfl, hb1⟩; have B1 := bthen (bdrew hbel) hb1))
      try (refine hK _ _ ?_; clear hK K)
      refine wpC_step 8 rfl (by kernel_rfl) (by kernel_rfl) (cls _ B1) (fun K hK => ?_)
      go_simp
      go_wp2_with ((go_at_call 98; refine (g2 _).mono ?_; rintro e w2 ⟨rfl, hb2⟩; have B2 := bthen B1 hb2))
      try (refine hK _ _ ?_; clear hK K)
      refine wpC_step 9 rfl (by kernel_rfl) (by kernel_rfl) (cls _ B2) (fun K hK => ?_)
      go_simp
      try (refine hK _ _ ?_; clear hK K)
      refine wpC_done (by kernel_rfl) (cls _ B2) ?_
      rcases hxx with ⟨x1, x2⟩ | ⟨x1, x2⟩
      all_goals
        have HX : Hid _ := x2
        clear x2
        go_wp2
        go_roundw
        case measure => have := HP.out; simp [intOf]; omega
        case rel =>
          obtain ⟨e1, e2, e3⟩ := HP.out
          obtain ⟨m1, m2⟩ := HM.out
          first
            | exact ⟨s, i, m * 2 + 1, by omega, rfl, by rw [← e3], (by show _ = _; rw [e2]; exact m2), HX.out, (by show _ < _; rw [← e1]; exact HU.out), B2⟩
            | exact ⟨R, i, m * 2, by omega, rfl, by rw [← e3], m1, hlo.out, (by show _ < _; rw [← e2]; exact HX.out), B2⟩
    · have e : j = 0 := by omega
      subst e
      have hR : R = r := HR.out R hlo.out hup.out
      subst hR
      rw [show 2 ^ 0 / 2 = 0 from rfl]
      clear hmul hlo hup HS HR HA
      have y0 : W.heap.size ≤ wr.heap.size := hbel.size
      have r1 : Below wr.heap.size wr wr := Below.refl _ _
      go_upto_region 7 with fail
      go_cut [6, 7] from 25 (fun s11 s12 wx => ∃ n : Nat, s11 = .pointer (some ⟨n, 0, none⟩) ∧ Below wr.heap.size wr wx ∧ wr.heap.size ≤ n ∧ n < wx.heap.size ∧
        wx.cell? ⟨n, 0, none⟩ = some (.int .u64 h) ∧ wx.cell? ⟨n, 1, none⟩ = some (.int .u64 l))
      case first =>
        refine wpC_region (fun W => W.cell? ⟨w.heap.size, 0, none⟩ = some (.int .u64 h1) ∧ W.cell? ⟨w.heap.size, 1, none⟩ = some (.int .u64 l1)) (by kernel_rfl) ?_
        refine wpC_take 0 (v := ?_) rfl (by kernel_rfl) (fun _ _ _ h => h) (by kernel_rfl) ?_ ?_; rotate_left; · (intro wC hC; obtain ⟨c1, c2⟩ := hC; go_simp <;> with_reducible rfl)
        refine wpC_take 1 (v := ?_) rfl (by kernel_rfl) (fun _ _ _ h => h) (by kernel_rfl) ?_ ?_; rotate_left; · (intro wC hC; obtain ⟨c1, c2⟩ := hC; go_simp <;> with_reducible rfl)
        refine wpC_take 2 (v := ?_) rfl (by kernel_rfl) (fun _ _ _ h => h) (by kernel_rfl) ?_ ?_; rotate_left; · (intro wC hC; obtain ⟨c1, c2⟩ := hC; go_simp <;> with_reducible rfl)
        refine wpC_two 3 8 rfl rfl (by kernel_rfl) (by kernel_rfl) (by kernel_rfl) (cls _ (bdrew hbel)) (fun K hK => ?_) (fun K hK => ?_)
        · skip
          go_simp
          go_wp2_with ((go_at_call 55; refine (k1 _).mono ?_; rintro e w2 ⟨rfl, hb2⟩; have B2 := bthen (bdrew r1) hb2))
          try (refine hK _ _ ?_; clear hK K)
          have y2 : wr.heap.size ≤ w2.heap.size := B2.size
          refine wpC_two 4 8 rfl rfl (by kernel_rfl) (by kernel_rfl) (by kernel_rfl) (cls _ (bthen hbel B2)) (fun K hK => ?_) (fun K hK => ?_)
          · skip
            go_simp
            go_wp2_with ((go_at_call 120; refine (k2 _).mono ?_; rintro e w3 ⟨rfl, hb3⟩; have B3 := bthen B2 hb3))
            try (refine hK _ _ ?_; clear hK K)
            have y3 : wr.heap.size ≤ w3.heap.size := B3.size
            refine wpC_take 5 (v := ?_) rfl (by kernel_rfl) (fun _ _ _ h => h) (by kernel_rfl) ?_ ?_; rotate_left; · (intro wC hC; obtain ⟨c1, c2⟩ := hC; go_simp <;> with_reducible rfl)
            refine wpC_take 6 (v := ?_) rfl (by kernel_rfl) (fun _ _ _ h => h) (by kernel_rfl) ?_ ?_; rotate_left; · (intro wC hC; obtain ⟨c1, c2⟩ := hC; go_simp <;> with_reducible rfl)
            refine wpC_take 7 (v := ?_) rfl (by kernel_rfl) (fun _ _ _ h => h) (by kernel_rfl) ?_ ?_; rotate_left; · (intro wC hC; obtain ⟨c1, c2⟩ := hC; go_simp <;> with_reducible rfl)
            refine wpC_step 8 rfl (by kernel_rfl) (by kernel_rfl) (cls _ (bthen hbel B3)) (fun K hK => ?_)
            go_simp
            try (refine hK _ _ ?_; clear hK K)
            refine wpC_step 9 rfl (by kernel_rfl) (by kernel_rfl) (cls _ (bthen hbel (bmore B3 _))) (fun K hK => ?_)
            go_simp
            try (refine hK _ _ ?_; clear hK K)
            refine wpC_step 10 rfl (by kernel_rfl) (by kernel_rfl) (cls _ (bthen hbel (bmore B3 _))) (fun K hK => ?_)
            go_simp
            try (refine hK _ _ ?_; clear hK K)
            refine wpC_done (by kernel_rfl) (cls _ (bthen hbel (bmore B3 _))) ?_
            go_wp2_with fail
            go_meet
            case rel =>
              refine ⟨_, rfl, bmore B3 _, y3, by simp, ?_, ?_⟩ <;> simp [go_sem]
          · skip
            go_simp
            try (refine hK _ _ ?_; clear hK K)
            refine wpC_step 4 rfl (by kernel_rfl) (by kernel_rfl) (cls _ (bthen hbel (bmore B2 _))) (fun K hK => ?_)
            go_simp
            go_wp2_with ((go_at_call 120; refine (k2 _).mono ?_; rintro e w3 ⟨rfl, hb3⟩; have B3 := bthen (bmore B2 _) hb3; obtain ⟨hc3, hf3⟩ := bcell hb3; have y4 : w2.heap.size < w3.heap.size := (by have := hb3.size; simp at this; omega)))
            try (refine hK _ _ ?_; clear hK K)
            refine wpC_step 5 rfl (by kernel_rfl) (by kernel_rfl) (cls _ (bthen hbel B3)) (fun K hK => ?_)
            go_simp
            try (refine hK _ _ ?_; clear hK K)
            refine wpC_take 6 (v := ?_) rfl (by kernel_rfl) (fun _ _ _ h => h) (by kernel_rfl) ?_ ?_; rotate_left; · (intro wC hC; obtain ⟨c1, c2⟩ := hC; go_simp <;> with_reducible rfl)
            refine wpC_take 7 (v := ?_) rfl (by kernel_rfl) (fun _ _ _ h => h) (by kernel_rfl) ?_ ?_; rotate_left; · (intro wC hC; obtain ⟨c1, c2⟩ := hC; go_simp <;> with_reducible rfl)
            refine wpC_step 9 rfl (by kernel_rfl) (by kernel_rfl) (cls _ (bthen hbel B3)) (fun K hK => ?_)
            go_simp
            try (refine hK _ _ ?_; clear hK K)
            refine wpC_step 10 rfl (by kernel_rfl) (by kernel_rfl) (cls _ (bthen hbel (bset (bset B3 y2 _ _) y2 _ _))) (fun K hK => ?_)
            go_simp
            try (refine hK _ _ ?_; clear hK K)
            refine wpC_done (by kernel_rfl) (cls _ (bthen hbel (bset (bset B3 y2 _ _) y2 _ _))) ?_
            go_wp2_with fail
            go_meet
            case rel =>
              refine ⟨_, rfl, bset (bset B3 y2 _ _) y2 _ _, y2, by simp [y4], ?_, ?_⟩ <;> simp [go_sem, hc3]
        · skip
          go_simp
          try (refine hK _ _ ?_; clear hK K)
          refine wpC_step 3 rfl (by kernel_rfl) (by kernel_rfl) (cls _ (bthen hbel (bmore (bdrew r1) _))) (fun K hK => ?_)
          go_simp
          go_wp2_with ((go_at_call 55; refine (k1 _).mono ?_; rintro e w2 ⟨rfl, hb2⟩; obtain ⟨hc2, hf2⟩ := bcell hb2; have B2 := bthen (bmore (bdrew r1) _) hb2; have y4 : wr.heap.size < w2.heap.size := (by have := hb2.size; simp at this; omega)))
          try (refine hK _ _ ?_; clear hK K)
          refine wpC_step 4 rfl (by kernel_rfl) (by kernel_rfl) (cls _ (bthen hbel B2)) (fun K hK => ?_)
          go_simp
          go_wp2_with ((go_at_call 120; refine (k2 _).mono ?_; rintro e w3 ⟨rfl, hb3⟩; have B3 := bthen B2 hb3; obtain ⟨hc3, hf3⟩ := bcell hb3; have y5 : wr.heap.size < w3.heap.size := (by have := hb3.size; omega)))
          try (refine hK _ _ ?_; clear hK K)
          refine wpC_step 5 rfl (by kernel_rfl) (by kernel_rfl) (cls _ (bthen hbel B3)) (fun K hK => ?_)
          go_simp
          try (refine hK _ _ ?_; clear hK K)
          refine wpC_take 6 (v := ?_) rfl (by kernel_rfl) (fun _ _ _ h => h) (by kernel_rfl) ?_ ?_; rotate_left; · (intro wC hC; obtain ⟨c1, c2⟩ := hC; go_simp <;> with_reducible rfl)
          refine wpC_take 7 (v := ?_) rfl (by kernel_rfl) (fun _ _ _ h => h) (by kernel_rfl) ?_ ?_; rotate_left; · (intro wC hC; obtain ⟨c1, c2⟩ := hC; go_simp <;> with_reducible rfl)
          refine wpC_step 9 rfl (by kernel_rfl) (by kernel_rfl) (cls _ (bthen hbel B3)) (fun K hK => ?_)
          go_simp
          try (refine hK _ _ ?_; clear hK K)
          refine wpC_step 10 rfl (by kernel_rfl) (by kernel_rfl) (cls _ (bthen hbel (bset (bset B3 (Nat.le_refl _) _ _) (Nat.le_refl _) _ _))) (fun K hK => ?_)
          go_simp
          try (refine hK _ _ ?_; clear hK K)
          refine wpC_done (by kernel_rfl) (cls _ (bthen hbel (bset (bset B3 (Nat.le_refl _) _ _) (Nat.le_refl _) _ _))) ?_
          go_wp2_with fail
          go_meet
          case rel =>
            refine ⟨_, rfl, bset (bset B3 (Nat.le_refl _) _ _) (Nat.le_refl _) _ _, Nat.le_refl _, by simp [y5], ?_, ?_⟩ <;> simp [go_sem, hc2, hc3, y4]
      case rest =>
        obtain ⟨n, rfl, HB, n1, n2, c5, c6⟩ := hcut
        have H2 := bthen hbel HB
        obtain ⟨b1, b2, b3, b4⟩ := box _ H2
        have m1 : ¬ (w.heap.size + 1 = n) := by omega
        have m2 : ¬ (n = w.heap.size + 1) := by omega
        go_wp2
        go_region
        all_goals
          go_wp2
          refine bodyPost_ret (v := .tuple #[.int .u64 R, .agg #[.int .u64 h, .int .u64 l]]) (by simp [results, Tryz.results89, go_sem, b1, b2]) rfl (hQ.out _ _ ⟨rfl, ?_⟩)
          exact bdrew (bset (bset (bthen H0 H2) (by omega) _ _) (by omega) _ _)
end Go.Proofs.YtheliihkkoohnaaGreat
