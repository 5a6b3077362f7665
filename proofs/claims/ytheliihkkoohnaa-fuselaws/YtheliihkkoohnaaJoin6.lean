import Derived.Test.YtheliihkkoohnaaJoin5
import Derived.Test.YtheliihkkoohnaaJoin3
import Derived.Test.YtheliihkkoohnaaJoin2
import Derived.Test.YtheliihkkoohnaaJoin1
import Derived.Laws.AppendOwnNone
import Derived.Deep.CutBlock
import Derived.Deep.CutRange
namespace Go.Proofs.Ytheliihkkoohnaa
set_option maxRecDepth 100000
set_option linter.unusedVariables false
set_option linter.unusedSimpArgs false

/-! ### what patterns mean, as whole numbers times 2^(-375) (plain mathematics) -/
def eN : Int := -375
def valI (n x : Nat) : Int := if vK n x = 1 then sg (vB n x) (manX (vF n x) 0) * ((2 ^ (vS n x + 248).toNat : Nat) : Int) else 0
theorem v_real (n x : Nat) (hn : Wd n) (hx : x < 2 ^ 64) (hk : vK n x = 1) : vB n x = x.testBit (n - 1) ∧ vS n x = scaleL (strS n x) ∧ vF n x = wordL (strS n x) ∧ true ∈ strS n x ∧ (strS n x).length = n - 1 ∧ kindOf n (x % 2 ^ n) = 1 ∧ WordsX (vF n x) 0 ∧ 8 - 4 * (n : Int) ≤ vS n x ∧ vS n x ≤ 4 * n - 8 := by
  have hk' : kindOf n (x % 2 ^ n) = 1 := hk
  obtain ⟨ht, hp⟩ := patOf_str n x hn hx hk'
  have e1 : vB n x = x.testBit (n - 1) := by unfold vB; rw [if_pos hk']
  have e2 : vS n x = scaleL (strS n x) := by unfold vS; rw [if_pos hk']
  have e3 : vF n x = wordL (strS n x) := by unfold vF; rw [if_pos hk']
  refine ⟨e1, e2, e3, ht, strS_length n x, hk', by rw [e3]; exact words_of _, ?_⟩
  rw [e2]
  have := of_decide_eq_true (inR_of n _ hn (strS_length n x) ht)
  exact ⟨by omega, by omega⟩
theorem v_kinds (n x : Nat) (hn : Wd n) : vK n x = 0 ∧ x % 2 ^ n = 0 ∨ vK n x = 1 ∨ vK n x = 2 ∧ x % 2 ^ n = 2 ^ (n - 1) := by
  by_cases hk : kindOf n (x % 2 ^ n) = 1
  · exact .inr (.inl hk)
  · rcases kind_cases n _ hk with ⟨h, h2⟩ | ⟨h, h2⟩
    · exact .inl ⟨h, h2⟩
    · exact .inr (.inr ⟨h, h2⟩)
/-- a real's value, ahead of its rounding -/
theorem val_real (n x : Nat) (hn : Wd n) (hx : x < 2 ^ 64) (hk : vK n x = 1) : exI (valI n x) eN = exV 1 (vB n x) (vS n x) (vF n x) 0 false := by
  obtain ⟨_, _, _, _, _, _, hwd, h1, h2⟩ := v_real n x hn hx hk
  have hw := wd_le hn
  unfold valI
  rw [if_pos hk]
  have e := exI_real (vB n x) (vS n x) (vF n x) 0 hwd (by omega) (-248) (vS n x + 248).toNat (by omega)
  rw [show (-248 : Int) - 127 = eN from rfl] at e
  exact e
theorem val_zero (n x : Nat) (hk : vK n x ≠ 1) : valI n x = 0 := by unfold valI; rw [if_neg hk]
theorem sg_abs (neg : Bool) (N : Nat) : (sg neg N).natAbs = N := by unfold sg; cases neg <;> simp
theorem val_inj {k k' : Int} {neg neg' : Bool} {s s' : Int} {hi lo hi' lo' : Nat} {r r' : Bool} (h : exV k neg s hi lo r = exV k' neg' s' hi' lo' r') : neg = neg' ∧ s = s' ∧ hi = hi' ∧ lo = lo' ∧ r = r' := by
  unfold exV at h
  simp only [Value.agg.injEq, Array.mk.injEq, List.cons.injEq, Value.int.injEq, Value.bool.injEq, true_and, and_true] at h
  obtain ⟨_, h1, h2, h3, h4, h5⟩ := h
  exact ⟨h1, h2, by omega, by omega, h5⟩
/-- the magnitude that is rounded, from the number ahead of its rounding -/
theorem patI_of {n : Nat} {T e : Int} {neg : Bool} {s : Int} {hi lo : Nat} {r : Bool} (h0 : T ≠ 0) (h : exI T e = exV 1 neg s hi lo r) : patI n T e = patR n neg (rndX n s hi lo r) := by
  unfold exI exactV at h
  rw [if_neg (by omega)] at h
  obtain ⟨h1, h2, h3, h4, h5⟩ := val_inj h
  unfold patI mgI
  rw [if_neg h0, h1, h2, h3, h4, h5]
theorem patR_of (n : Nat) (neg : Bool) (t : List Bool) : patR n neg (numOf t) = patOf n neg t := rfl
/-- the negative pattern means the negative number -/
theorem val_neg (n x y : Nat) (hn : Wd n) (hx : x < 2 ^ 64) (hy : y < 2 ^ 64) (h : y % 2 ^ n = (2 ^ n - x % 2 ^ n) % 2 ^ n) : vK n y = vK n x ∧ valI n y = -valI n x ∧ (vK n x = 1 → vB n y = !vB n x) ∧ vS n y = vS n x ∧ vF n y = vF n x := by
  obtain ⟨H, p1, p2, p3, _⟩ := wd_pows hn
  have hm := Nat.mod_lt x (show 0 < 2 ^ n by omega)
  have hw := wd_le hn
  have hkk : vK n y = vK n x := by
    unfold vK kindOf
    rw [h, p2]
    by_cases c0 : x % 2 ^ n = 0
    · rw [c0, Nat.sub_zero, Nat.mod_self, if_pos rfl]
    · rw [Nat.mod_eq_of_lt (by omega), if_neg c0, if_neg (by omega)]
      by_cases c1 : x % 2 ^ n = H
      · rw [if_pos c1, if_pos (by omega)]
      · rw [if_neg c1, if_neg (by omega)]
  by_cases hk : vK n x = 1
  · have hk2 : vK n y = 1 := by rw [hkk, hk]
    obtain ⟨a1, a2, a3, at_, al, ak, _⟩ := v_real n x hn hx hk
    obtain ⟨b1, b2, b3, bt, bl, bk, _⟩ := v_real n y hn hy hk2
    have hne : x % 2 ^ n ≠ 0 ∧ x % 2 ^ n ≠ H := by
      unfold kindOf at ak
      constructor
      · intro c; rw [if_pos c] at ak; exact absurd ak (by decide)
      · intro c; rw [if_neg (by omega), p2, if_pos c] at ak; exact absurd ak (by decide)
    have hy2 : y % 2 ^ n = 2 ^ n - x % 2 ^ n := by rw [h, Nat.mod_eq_of_lt (by omega)]
    have tx := top_of n (x % 2 ^ n) hn hm
    have ty := top_of n (y % 2 ^ n) hn (Nat.mod_lt _ (by omega))
    rw [← testBit_low x n (by omega), p2] at tx
    rw [← testBit_low y n (by omega), p2, hy2] at ty
    have hs : strS n y = strS n x := by
      refine numOf_inj (by rw [al, bl]) ?_
      rw [strS_num n y hn hy, strS_num n x hn hx, tx, ty, hy2]
      by_cases c : H ≤ x % 2 ^ n
      · rw [decide_eq_true c, decide_eq_false (show ¬ H ≤ 2 ^ n - x % 2 ^ n by omega)]; rfl
      · rw [decide_eq_false c, decide_eq_true (show H ≤ 2 ^ n - x % 2 ^ n by omega)]
        simp only [Bool.false_eq_true, if_false, if_true]
        congr 1
        omega
    have hB : vB n y = !vB n x := by
      rw [a1, b1, tx, ty]
      by_cases c : H ≤ x % 2 ^ n
      · rw [decide_eq_true c, decide_eq_false (by omega)]; rfl
      · rw [decide_eq_false c, decide_eq_true (by omega)]; rfl
    have hS : vS n y = vS n x := by rw [a2, b2, hs]
    have hF : vF n y = vF n x := by rw [a3, b3, hs]
    refine ⟨hkk, ?_, fun _ => hB, hS, hF⟩
    unfold valI
    rw [if_pos hk, if_pos hk2, hB, hS, hF, ← Int.neg_mul]
    congr 1
    unfold sg
    cases vB n x <;> simp
  · have hk2 : vK n y ≠ 1 := by rw [hkk]; exact hk
    have ak : ¬ kindOf n (x % 2 ^ n) = 1 := hk
    have bk : ¬ kindOf n (y % 2 ^ n) = 1 := hk2
    refine ⟨hkk, by rw [val_zero n x hk, val_zero n y hk2]; rfl, fun c => absurd c hk, ?_, ?_⟩
    · unfold vS; rw [if_neg ak, if_neg bk]
    · unfold vF; rw [if_neg ak, if_neg bk]
end Go.Proofs.Ytheliihkkoohnaa

namespace Go.Proofs.Ytheliihkkoohnaa
open Go.ChangeShapes Go.WideShapes Go.ChangeAt Go.RowKit
set_option linter.unusedVariables false
set_option linter.unusedSimpArgs false
set_option maxRecDepth 100000

/-! ### values and ranks (plain mathematics) -/
theorem val_mod (n x y : Nat) (hn : Wd n) (hx : x < 2 ^ 64) (hy : y < 2 ^ 64) (h : x % 2 ^ n = y % 2 ^ n) : valI n x = valI n y := by
  have e : minusU x % 2 ^ n = (2 ^ n - x % 2 ^ n) % 2 ^ n := minusU_mod n x hn hx
  have a := (val_neg n x (minusU x) hn hx (minusU_lt x) e).2.1
  have b := (val_neg n y (minusU x) hn hy (minusU_lt x) (by rw [e, h])).2.1
  omega
/-! ### numbers ahead of their rounding -/
theorem exI_cases (T e : Int) : (T = 0 ∧ exI T e = exV 0 false 0 0 0 false) ∨ (T ≠ 0 ∧ ∃ neg s hi lo r, exI T e = exV 1 neg s hi lo r ∧ WordsX hi lo ∧ soundX 1 neg s hi lo r = true) := by
  by_cases h : T = 0
  · subst h; exact .inl ⟨rfl, exactV_zero _ _ _⟩
  · refine .inr ⟨h, ?_⟩
    have h0 : T.natAbs ≠ 0 := by omega
    have hwd := normN_words h0
    have hb := heldX_bounds (e + blen T.natAbs - 1)
    refine ⟨decide (T < 0), heldX (e + blen T.natAbs - 1), normN T.natAbs / 2 ^ 64 % 2 ^ 64, normN T.natAbs % 2 ^ 64, (false || lostN T.natAbs), by unfold exI exactV; rw [if_neg h0], hwd, ?_⟩
    unfold soundX
    rw [if_neg (by decide)]
    exact decide_eq_true ⟨rfl, hwd.top, hb.1, hb.2⟩
theorem rround_exI (n : Nat) (T e : Int) (hn : Wd n) (w : World) :
    Calls Try.prog 21 #[.int .i64 n, exI T e] w fun r w' => r = .returned (.tuple #[.int .u64 (patI n T e : Nat), .nilIface]) ∧ Below w.heap.size w w' := by
  rcases exI_cases T e with ⟨h, h2⟩ | ⟨h, neg, s, hi, lo, r, h2, hwd, hs⟩
  · rw [h2]
    have : patI n T e = 0 := by unfold patI; rw [if_pos h]
    rw [this]
    exact rround_zero n hn w
  · rw [h2, patI_of h h2]
    exact rround_real n neg s hi lo r hn hs hwd w
theorem exI_form (T e : Int) : ∃ k b s h l r, exI T e = exV k b s h l r := exactV_form _ _ _ _
/-! ### the document's Sum of any two -/
def sum9 (k : Int) (neg : Bool) (s : Int) (hi lo : Nat) (k' : Int) (neg' : Bool) (s' : Int) (hi' lo' : Nat) : Value :=
  if k = 2 ∨ k' = 2 then exV 2 false 0 0 0 false
  else if k = 0 then exV k' neg' s' hi' lo' false
  else if k' = 0 then exV k neg s hi lo false
  else sumR neg s (manX hi lo) neg' s' (manX hi' lo')
theorem v_other (n x : Nat) (h : vK n x ≠ 1) : vB n x = false ∧ vS n x = 0 ∧ vF n x = 0 := by
  have h2 : ¬ kindOf n (x % 2 ^ n) = 1 := h
  refine ⟨?_, ?_, ?_⟩
  · unfold vB; rw [if_neg h2]
  · unfold vS; rw [if_neg h2]
  · unfold vF; rw [if_neg h2]
/-- a pattern's value, as it is ahead of its rounding -/
theorem val_exV (n x : Nat) (hn : Wd n) (hx : x < 2 ^ 64) (hk : vK n x ≠ 2) : exV (vK n x) (vB n x) (vS n x) (vF n x) 0 false = exI (valI n x) eN := by
  rcases v_kinds n x hn with ⟨h, _⟩ | h | ⟨h, _⟩
  · obtain ⟨a, b, c⟩ := v_other n x (by rw [h]; decide)
    rw [h, a, b, c, val_zero n x (by rw [h]; decide)]
    exact (exactV_zero _ _ _).symm
  · rw [val_real n x hn hx h, h]
  · exact absurd h hk
theorem sum9_val (n a b : Nat) (hn : Wd n) (ha : a < 2 ^ 64) (hb : b < 2 ^ 64) :
    sum9 (vK n a) (vB n a) (vS n a) (vF n a) 0 (vK n b) (vB n b) (vS n b) (vF n b) 0 = if vK n a = 2 ∨ vK n b = 2 then exV 2 false 0 0 0 false else exI (valI n a + valI n b) eN := by
  unfold sum9
  by_cases h2 : vK n a = 2 ∨ vK n b = 2
  · rw [if_pos h2, if_pos h2]
  · rw [if_neg h2, if_neg h2]
    have na : vK n a ≠ 2 := fun c => h2 (.inl c)
    have nb : vK n b ≠ 2 := fun c => h2 (.inr c)
    by_cases a0 : vK n a = 0
    · rw [if_pos a0, val_exV n b hn hb nb, val_zero n a (by rw [a0]; decide), Int.zero_add]
    · rw [if_neg a0]
      by_cases b0 : vK n b = 0
      · rw [if_pos b0, val_exV n a hn ha na, val_zero n b (by rw [b0]; decide), Int.add_zero]
      · rw [if_neg b0]
        have a1 : vK n a = 1 := by rcases v_kinds n a hn with ⟨h, _⟩ | h | ⟨h, _⟩; exact absurd h a0; exact h; exact absurd h na
        have b1 : vK n b = 1 := by rcases v_kinds n b hn with ⟨h, _⟩ | h | ⟨h, _⟩; exact absurd h b0; exact h; exact absurd h nb
        obtain ⟨_, _, _, _, _, _, wa, sa1, sa2⟩ := v_real n a hn ha a1
        obtain ⟨_, _, _, _, _, _, wb, sb1, sb2⟩ := v_real n b hn hb b1
        have hw := wd_le hn
        have e := sumR_int (vB n a) (vS n a) (manX (vF n a) 0) (vB n b) (vS n b) (manX (vF n b) 0) wa.mant wb.mant (-248) (vS n a + 248).toNat (vS n b + 248).toNat (by omega) (by omega)
        rw [show (-248 : Int) - 127 = eN from rfl] at e
        unfold valI
        rw [if_pos a1, if_pos b1]
        exact e
/-- the pattern of a sum -/
def patS (n a b : Nat) : Nat := if vK n a = 2 ∨ vK n b = 2 then 2 ^ (n - 1) else patI n (valI n a + valI n b) eN
end Go.Proofs.Ytheliihkkoohnaa

namespace Go.Proofs.Ytheliihkkoohnaa
set_option maxRecDepth 100000
set_option linter.unusedVariables false
set_option linter.unusedSimpArgs false

/-! ### sums of patterns: what follows (plain mathematics) -/
theorem negO_eq (n x : Nat) (hn : Wd n) (hx : x < 2 ^ 64) : negO n x = (2 ^ n - x % 2 ^ n) % 2 ^ n := minusU_mod n x hn hx
theorem lt64_of {n y : Nat} (hn : Wd n) (h : y < 2 ^ n) : y < 2 ^ 64 := Nat.lt_of_lt_of_le h (Nat.pow_le_pow_right (by decide) (wd_le hn).2)
theorem negO_lt (n x : Nat) (hn : Wd n) : negO n x < 2 ^ n := Nat.mod_lt _ (Nat.pow_pos (by decide))
theorem negO_lt64 (n x : Nat) (hn : Wd n) : negO n x < 2 ^ 64 := lt64_of hn (negO_lt n x hn)
theorem val_negO (n x : Nat) (hn : Wd n) (hx : x < 2 ^ 64) : vK n (negO n x) = vK n x ∧ valI n (negO n x) = -valI n x := by
  have h := negO_eq n x hn hx
  have a := val_neg n x (negO n x) hn hx (negO_lt64 n x hn) (by rw [Nat.mod_eq_of_lt (negO_lt n x hn), h])
  exact ⟨a.1, a.2.1⟩
theorem val_minus (n x : Nat) (hn : Wd n) (hx : x < 2 ^ 64) : vK n (minusU x) = vK n x ∧ valI n (minusU x) = -valI n x := by
  have a := val_neg n x (minusU x) hn hx (minusU_lt x) (minusU_mod n x hn hx)
  exact ⟨a.1, a.2.1⟩
theorem vK_zero (n : Nat) : vK n 0 = 0 := by unfold vK kindOf; rw [Nat.zero_mod, if_pos rfl]
theorem negO_nar (n : Nat) (hn : Wd n) : negO n (2 ^ (n - 1)) = 2 ^ (n - 1) := by
  obtain ⟨H, p1, p2, p3, _⟩ := wd_pows hn
  rw [negO_eq n _ hn (lt64_of hn (by omega)), p1, p2, Nat.mod_eq_of_lt (a := H) (by omega), Nat.mod_eq_of_lt (by omega)]
  omega
end Go.Proofs.Ytheliihkkoohnaa

namespace Go.Proofs.Ytheliihkkoohnaa
open Go.ChangeShapes Go.WideShapes Go.ChangeAt Go.RowKit
set_option linter.unusedVariables false
set_option linter.unusedSimpArgs false
set_option maxRecDepth 100000

/-! ### the first 320 bits of a sum of two numbers of 128 digits are enough (plain mathematics) -/
/-- where the lesser term stands -/
def lowE (s s' : Int) : Nat := (191 - (s - s')).toNat
def sumE (same : Bool) (M M' k : Nat) : Nat := if same then M * 2 ^ 191 + M' * 2 ^ k else M * 2 ^ 191 - M' * 2 ^ k
theorem mant_le {M M' d : Nat} (hM : Mant M) (hM' : Mant M') (h : d = 0 → M' ≤ M) : M' ≤ M * 2 ^ d := by
  by_cases h0 : d = 0
  · subst h0; rw [Nat.pow_zero, Nat.mul_one]; exact h rfl
  · obtain ⟨e, rfl⟩ : ∃ e, d = e + 1 := ⟨d - 1, by omega⟩
    have : 1 ≤ 2 ^ e := Nat.one_le_two_pow
    have h2 : M * 1 ≤ M * 2 ^ e := Nat.mul_le_mul (Nat.le_refl _) this
    have a := hM.1
    have b := hM'.2
    rw [Nat.pow_succ, ← Nat.mul_assoc]
    omega
theorem sumE_words (ng : Bool) (s : Int) (M : Nat) (nl : Bool) (s' : Int) (M' : Nat) (hM : Mant M) (hM' : Mant M')
    (hle : s' ≤ s) (heq : s = s' → M' ≤ M) : sumD ng s M nl s' M' = exactV ng (sumE (ng == nl) M M' (lowE s s')) (s - 318) false := by
  obtain ⟨d, hd⟩ : ∃ d : Nat, (d : Int) = s - s' := ⟨(s - s').toNat, by omega⟩
  rw [sumD_near ng s _ nl s' _ hM hM' hle d hd]
  have hle2 : M' ≤ M * 2 ^ d := mant_le hM hM' (fun h0 => heq (by omega))
  have m0 : 1 ≤ M' := Nat.le_trans Nat.one_le_two_pow hM'.1
  have hlt : ∀ k, 128 ≤ k → M' < 2 ^ k := fun k hk => Nat.lt_of_lt_of_le hM'.2 (Nat.pow_le_pow_right (by decide) hk)
  rw [if_pos hle2]
  by_cases hs : ng = nl
  · rw [if_pos hs]
    have hb : (ng == nl) = true := by rw [hs]; simp
    unfold sumE
    rw [hb, if_pos rfl]
    by_cases hd2 : d ≤ 191
    · have hk : lowE s s' = 191 - d := by unfold lowE; omega
      have e2 : M * 2 ^ 191 + M' * 2 ^ (191 - d) = (M * 2 ^ d + M') * 2 ^ (191 - d) := by rw [Nat.add_mul, Nat.mul_assoc, ← Nat.pow_add, show d + (191 - d) = 191 by omega]
      rw [hk, e2, show s - 318 = (s - 127 - d) - ((191 - d : Nat) : Int) by omega, exactV_two]
    · have hk : lowE s s' = 0 := by unfold lowE; omega
      have a := far_add ng s (B := M') (d := d) hM m0 (hlt d (by omega))
      have b := far_add ng s (M := M) (B := M') (d := 191) hM m0 (hlt 191 (by omega))
      rw [hk, Nat.pow_zero, Nat.mul_one, a, ← b, show s - 127 - ((191 : Nat) : Int) = s - 318 by omega]
  · rw [if_neg hs]
    have hb : (ng == nl) = false := beq_eq_false_iff_ne.2 hs
    unfold sumE
    rw [hb, if_neg (by decide)]
    by_cases hd2 : d ≤ 191
    · have hk : lowE s s' = 191 - d := by unfold lowE; omega
      have e2 : M * 2 ^ 191 - M' * 2 ^ (191 - d) = (M * 2 ^ d - M') * 2 ^ (191 - d) := by rw [Nat.sub_mul, Nat.mul_assoc, ← Nat.pow_add, show d + (191 - d) = 191 by omega]
      rw [hk, e2, show s - 318 = (s - 127 - d) - ((191 - d : Nat) : Int) by omega, exactV_two]
    · have hk : lowE s s' = 0 := by unfold lowE; omega
      obtain ⟨e, rfl⟩ : ∃ e, d = e + 1 := ⟨d - 1, by omega⟩
      have a := far_sub ng s (B := M') (d := e) hM m0 (hlt e (by omega))
      have b := far_sub ng s (M := M) (B := M') (d := 190) hM m0 (hlt 190 (by omega))
      rw [hk, Nat.pow_zero, Nat.mul_one, a, ← b, show 190 + 1 = 191 from rfl, show s - 127 - ((191 : Nat) : Int) = s - 318 by omega]
theorem sumE_lt {same : Bool} {M M' k : Nat} (hM : M < 2 ^ 128) (hM' : M' < 2 ^ 128) (hk : k ≤ 191) : M * 2 ^ 191 < 1067993517960455041197510853084776057301352261178326384973520803911109862890320275011481043468288 ∧ M' * 2 ^ k < 1067993517960455041197510853084776057301352261178326384973520803911109862890320275011481043468288 ∧ sumE same M M' k < 2135987035920910082395021706169552114602704522356652769947041607822219725780640550022962086936576 := by
  have h1 : M * 2 ^ 191 < 1067993517960455041197510853084776057301352261178326384973520803911109862890320275011481043468288 := Nat.lt_of_lt_of_le ((Nat.mul_lt_mul_right (Nat.pow_pos (by decide))).2 hM) (by decide)
  have h2 : M' * 2 ^ k < 1067993517960455041197510853084776057301352261178326384973520803911109862890320275011481043468288 := Nat.lt_of_le_of_lt (Nat.mul_le_mul (Nat.le_refl M') (Nat.pow_le_pow_right (by decide) hk)) (Nat.lt_of_lt_of_le ((Nat.mul_lt_mul_right (Nat.pow_pos (by decide))).2 hM') (by decide))
  refine ⟨h1, h2, ?_⟩
  unfold sumE
  generalize M * 2 ^ 191 = X at *
  generalize M' * 2 ^ k = Y at *
  split <;> omega
/-- the first digits of a number that stands as high as it may -/
theorem exactV_top5 (neg : Bool) {n k a0 a1 a2 a3 a4 : Nat} (s : Int) (hn : n ≠ 0) (hk : k + blen n = 320) (h : Q5 (n * 2 ^ k) a0 a1 a2 a3 a4) :
    exactV neg n (s - 318) false = exactV neg (manX a4 a3) (s + 1 - k - 127) (decide (a0 ≠ 0 ∨ a1 ≠ 0 ∨ a2 ≠ 0)) ∧ 9223372036854775808 ≤ a4 := by
  obtain ⟨n1, n2⟩ := norm_two k hn
  have hb := blen_two k hn
  have hn0 : n * 2 ^ k ≠ 0 := fun c => by
    rcases Nat.mul_eq_zero.1 c with c | c
    · exact hn c
    · exact absurd c (Nat.pos_iff_ne_zero.1 (Nat.pow_pos (by decide)))
  have h320 : blen (n * 2 ^ k) = 320 := by omega
  have lo := blen_lo hn0
  rw [show blen (n * 2 ^ k) - 1 = 127 + 192 by omega] at lo
  have hi : n * 2 ^ k < 2135987035920910082395021706169552114602704522356652769947041607822219725780640550022962086936576 := blen320.1 (by omega)
  obtain ⟨_, m1, m2⟩ := @norm_at (n * 2 ^ k) 192 lo (by rw [pow320 (128 + 192) rfl]; exact hi)
  rw [pow319 (127 + 192) rfl] at lo
  obtain ⟨e, h0, h1, h2, h3, h4⟩ := h
  have et : 9223372036854775808 ≤ a4 := by
    omega
  have w0 : n * 2 ^ k / 2 ^ 192 = manX a4 a3 := by
    unfold manX
    rw [show (2 : Nat) ^ 192 = 6277101735386680763835789423207666416102355444464034512896 by decide]
    omega
  have w3 : decide (n * 2 ^ k % 2 ^ 192 ≠ 0) = decide (a0 ≠ 0 ∨ a1 ≠ 0 ∨ a2 ≠ 0) := by
    refine decide_eq_decide.2 ?_
    rw [show (2 : Nat) ^ 192 = 6277101735386680763835789423207666416102355444464034512896 by decide]
    omega
  have hM : Mant (manX a4 a3) := WordsX.mant ⟨et, by omega, by omega⟩
  obtain ⟨b, c1, c2⟩ := @norm_at (manX a4 a3) 0 hM.1 hM.2
  have hm0 : manX a4 a3 ≠ 0 := by unfold manX; omega
  refine ⟨?_, et⟩
  unfold exactV
  rw [if_neg hn, if_neg hm0, ← n1, ← n2, m1, m2, w0, w3, b, c1, c2, Nat.pow_zero, Nat.div_one, Nat.mod_one, show s - 318 + (blen n : Int) - 1 = s + 1 - (k : Int) - 127 + ((128 + 0 : Nat) : Int) - 1 by omega]
  simp
end Go.Proofs.Ytheliihkkoohnaa

namespace Go.Proofs.Ytheliihkkoohnaa
open Go.ChangeShapes Go.WideShapes Go.ChangeAt Go.RowKit
set_option linter.unusedVariables false
set_option linter.unusedSimpArgs false
set_option maxRecDepth 100000

/-! ### package fuse: the sum of two reals -/
theorem freals_up (ng : Bool) (s : Int) (hi lo : Nat) (nl : Bool) (s' : Int) (hi' lo' : Nat) (h : WordsX hi lo) (h' : WordsX hi' lo')
    (hs : -1099511627776 ≤ s ∧ s ≤ 1099511627776) (hs' : -1099511627776 ≤ s' ∧ s' ≤ 1099511627776) (hle : s' ≤ s) (heq : s = s' → manX hi' lo' ≤ manX hi lo) (w : World) :
    ((s = s' → manX hi' lo' ≤ manX hi lo) → Calls Try.prog 22 #[exV 1 ng s hi lo false, exV 1 nl s' hi' lo' false] w fun e w' => e = .returned (.tuple #[exactV ng (sumE (ng == nl) (manX hi lo) (manX hi' lo') (lowE s s')) (s - 318) false, .nilIface]) ∧ Below w.heap.size w w') ∧
    ((s = s' → manX hi' lo' < manX hi lo) → Calls Try.prog 22 #[exV 1 nl s' hi' lo' false, exV 1 ng s hi lo false] w fun e w' => e = .returned (.tuple #[exactV ng (sumE (ng == nl) (manX hi lo) (manX hi' lo') (lowE s s')) (s - 318) false, .nilIface]) ∧ Below w.heap.size w w') := by
  have hk : lowE s s' ≤ 191 := by unfold lowE; omega
  have hM := h.mant
  have hM' := h'.mant
  have ta : Tw (manX hi lo) hi lo := ⟨rfl, by have := h.hi64; omega, by have := h.lo64; omega⟩
  have tb : Tw (manX hi' lo') hi' lo' := ⟨rfl, by have := h'.hi64; omega, by have := h'.lo64; omega⟩
  have hgf0 : ∀ d : Nat, (d : Int) = s - s' → manX hi' lo' ≤ manX hi lo * 2 ^ d := fun d hd => mant_le hM hM' (fun h0 => heq (by omega))
  generalize manX hi lo = M at *
  generalize manX hi' lo' = M' at *
  obtain ⟨b1, b2, b3⟩ := sumE_lt (same := (ng == nl)) hM.2 hM'.2 hk
  obtain ⟨_, _, b4⟩ := sumE_lt (same := true) hM.2 hM'.2 hk
  have b4' : M * 2 ^ 191 + M' * 2 ^ lowE s s' < 2135987035920910082395021706169552114602704522356652769947041607822219725780640550022962086936576 := b4
  have hgf : M' * 2 ^ lowE s s' ≤ M * 2 ^ 191 := by
    obtain ⟨d, hd⟩ : ∃ d : Nat, (d : Int) = s - s' := ⟨(s - s').toNat, by omega⟩
    by_cases hd2 : d ≤ 191
    · have e : lowE s s' = 191 - d := by unfold lowE; omega
      have h1 := Nat.mul_le_mul (hgf0 d hd) (Nat.le_refl (2 ^ (191 - d)))
      rw [Nat.mul_assoc, ← Nat.pow_add, show d + (191 - d) = 191 by omega] at h1
      rw [e]; exact h1
    · have e : lowE s s' = 0 := by unfold lowE; omega
      rw [e, Nat.pow_zero, Nat.mul_one]
      have a := hM'.2
      have b : 1 * 2 ^ 191 ≤ M * 2 ^ 191 := Nat.mul_le_mul (Nat.le_trans Nat.one_le_two_pow hM.1) (Nat.le_refl _)
      omega
  obtain ⟨a0, a1, a2, a3, a4, ca⟩ := q5_ex (n := M * 2 ^ 191) (Nat.lt_trans b1 (by decide))
  obtain ⟨y0, y1, y2, y3, y4, cy⟩ := q5_ex (n := M' * 2 ^ lowE s s') (Nat.lt_trans b2 (by decide))
  obtain ⟨p0, p1, p2, p3, p4, cp⟩ := q5_ex b4'
  have k1 := fun w => fplaced_any (k := 191) ta (Nat.le_refl _) ca w
  have k2 := fun w => fplaced_any tb hk cy w
  have k3 := fun w => fplus_any ca cy cp w
  have ks := fun w => fcompare_any 1 ng s (a := M) (hi := hi) (lo := lo) false 1 nl s' (b := M') (hi' := hi') (lo' := lo') false ta tb w
  have kw := fun w => fcompare_any 1 nl s' (a := M') (hi := hi') (lo := lo') false 1 ng s (b := M) (hi' := hi) (lo' := lo) false tb ta w
  have zs : (s = s' → M' ≤ M) → decide (cmpR2 s M s' M' < 0) = false := fun h => decide_eq_false (fun c => by
    rcases (cmpR2_lt s M s' M').1 c with c | ⟨c, d⟩
    · omega
    · have := h c
      omega)
  have zw : (s = s' → M' < M) → decide (cmpR2 s' M' s M < 0) = true := fun h => decide_eq_true ((cmpR2_lt s' M' s M).2 (by
    by_cases c : s = s'
    · exact .inr ⟨c.symm, h c⟩
    · exact .inl (by omega)))
  have q1 : IntKind.i64.wrap (s - s') = s - s' := wrapI (by omega)
  have q2 : IntKind.i64.wrap (191 - (s - s')) = 191 - (s - s') := wrapI (by omega)
  have q3 : (if 191 - (s - s') < 0 then 0 else 191 - (s - s')) = ((lowE s s' : Nat) : Int) := by unfold lowE; split <;> omega
  have q4 : IntKind.i64.wrap (s + 1) = s + 1 := wrapI (by omega)
  have hX : 0 < M * 2 ^ 191 := Nat.mul_pos (by have := hM.1; have := Nat.pow_pos (n := 127) (show 0 < 2 by decide); omega) (Nat.pow_pos (by decide))
  by_cases hn : ng = nl
  · have hb : (ng == nl) = true := by rw [hn]; simp
    have hv : sumE (ng == nl) M M' (lowE s s') = M * 2 ^ 191 + M' * 2 ^ lowE s s' := by unfold sumE; rw [hb, if_pos rfl]
    rw [hv]
    have h0 : M * 2 ^ 191 + M' * 2 ^ lowE s s' ≠ 0 := by omega
    obtain ⟨k, r0, r1, r2, r3, r4, hkb, cr⟩ := risen5_at h0 b4'
    have hbl : 1 ≤ blen (M * 2 ^ 191 + M' * 2 ^ lowE s s') := by rw [blen_pos h0]; omega
    have k5 := fun w => frisen_any cp h0 hkb cr w
    obtain ⟨o, o2, q6, q9, q7⟩ := or_rest3 r0 r1 r2 cr.h0 cr.h1 cr.h2
    have q5 : IntKind.i64.wrap (s + 1 - (k : Int)) = s + 1 - k := wrapI (by omega)
    have q8 : IntKind.i64.wrap (s + 1 - (k : Int) - 127) = s + 1 - k - 127 := wrapI (by omega)
    have hz := q5_zero cp
    rw [decide_eq_false h0] at hz
    obtain ⟨et, top⟩ := exactV_top5 ng s h0 hkb cr
    rw [et]
    have k6 := rmake_ok ng r4 r3 (s + 1 - k - 127) (decide (r0 ≠ 0 ∨ r1 ≠ 0 ∨ r2 ≠ 0)) (by have := cr.h4; omega) (by have := cr.h3; omega) (by omega) (.inr top)
    obtain ⟨K, B, S, H, L, T, hf⟩ := exactV_form ng (manX r4 r3) (s + 1 - k - 127) (decide (r0 ≠ 0 ∨ r1 ≠ 0 ∨ r2 ≠ 0))
    rw [hf] at k6 ⊢
    exact ⟨fun h => freals_stay_same ng s hi lo nl s' hi' lo' _ _ _ _ _ _ _ _ _ _ _ _ _ _ _ _ _ _ _ _ _ _ _ _ _ _ _ _ _ k _ K B S H L T ks (zs h) k1 q1 q2 q3 k2 k3 hb hz k5 q4 q5 q8 q6 q9 q7 k6 w,
      fun h => freals_swap_same ng s hi lo nl s' hi' lo' _ _ _ _ _ _ _ _ _ _ _ _ _ _ _ _ _ _ _ _ _ _ _ _ _ _ _ _ _ k _ K B S H L T kw (zw h) k1 q1 q2 q3 k2 k3 hb hz k5 q4 q5 q8 q6 q9 q7 k6 w⟩
  · have hb : (ng == nl) = false := beq_eq_false_iff_ne.2 hn
    have hv : sumE (ng == nl) M M' (lowE s s') = M * 2 ^ 191 - M' * 2 ^ lowE s s' := by unfold sumE; rw [hb, if_neg (by decide)]
    rw [hv] at b3 ⊢
    obtain ⟨m0, m1, m2, m3, m4, cm⟩ := q5_ex b3
    have k4 := fun w => fminus_any ca cy hgf cm w
    have hz := q5_zero cm
    by_cases h0 : M * 2 ^ 191 - M' * 2 ^ lowE s s' = 0
    · rw [decide_eq_true h0] at hz
      have he : exactV ng (M * 2 ^ 191 - M' * 2 ^ lowE s s') (s - 318) false = exV 0 false 0 0 0 false := by unfold exactV; rw [if_pos h0]
      rw [he]
      exact ⟨fun h => freals_stay_zero ng s hi lo nl s' hi' lo' _ _ _ _ _ _ _ _ _ _ _ _ _ _ _ _ _ _ _ _ _ _ _ _ ks (zs h) k1 q1 q2 q3 k2 k3 hb k4 hz w,
        fun h => freals_swap_zero ng s hi lo nl s' hi' lo' _ _ _ _ _ _ _ _ _ _ _ _ _ _ _ _ _ _ _ _ _ _ _ _ kw (zw h) k1 q1 q2 q3 k2 k3 hb k4 hz w⟩
    · rw [decide_eq_false h0] at hz
      obtain ⟨k, r0, r1, r2, r3, r4, hkb, cr⟩ := risen5_at h0 b3
      have hbl : 1 ≤ blen (M * 2 ^ 191 - M' * 2 ^ lowE s s') := by rw [blen_pos h0]; omega
      have k5 := fun w => frisen_any cm h0 hkb cr w
      obtain ⟨o, o2, q6, q9, q7⟩ := or_rest3 r0 r1 r2 cr.h0 cr.h1 cr.h2
      have q5 : IntKind.i64.wrap (s + 1 - (k : Int)) = s + 1 - k := wrapI (by omega)
      have q8 : IntKind.i64.wrap (s + 1 - (k : Int) - 127) = s + 1 - k - 127 := wrapI (by omega)
      obtain ⟨et, top⟩ := exactV_top5 ng s h0 hkb cr
      rw [et]
      have k6 := rmake_ok ng r4 r3 (s + 1 - k - 127) (decide (r0 ≠ 0 ∨ r1 ≠ 0 ∨ r2 ≠ 0)) (by have := cr.h4; omega) (by have := cr.h3; omega) (by omega) (.inr top)
      obtain ⟨K, B, S, H, L, T, hf⟩ := exactV_form ng (manX r4 r3) (s + 1 - k - 127) (decide (r0 ≠ 0 ∨ r1 ≠ 0 ∨ r2 ≠ 0))
      rw [hf] at k6 ⊢
      exact ⟨fun h => freals_stay_diff ng s hi lo nl s' hi' lo' _ _ _ _ _ _ _ _ _ _ _ _ _ _ _ _ _ _ _ _ _ _ _ _ _ _ _ _ _ _ _ _ _ _ k _ K B S H L T ks (zs h) k1 q1 q2 q3 k2 k3 hb k4 hz k5 q4 q5 q8 q6 q9 q7 k6 w,
        fun h => freals_swap_diff ng s hi lo nl s' hi' lo' _ _ _ _ _ _ _ _ _ _ _ _ _ _ _ _ _ _ _ _ _ _ _ _ _ _ _ _ _ _ _ _ _ _ k _ K B S H L T kw (zw h) k1 q1 q2 q3 k2 k3 hb k4 hz k5 q4 q5 q8 q6 q9 q7 k6 w⟩
theorem freals_any (neg : Bool) (s : Int) (hi lo : Nat) (neg' : Bool) (s' : Int) (hi' lo' : Nat) (h : WordsX hi lo) (h' : WordsX hi' lo') (hs : -1099511627776 ≤ s ∧ s ≤ 1099511627776) (hs' : -1099511627776 ≤ s' ∧ s' ≤ 1099511627776) (w : World) :
    Calls Try.prog 22 #[exV 1 neg s hi lo false, exV 1 neg' s' hi' lo' false] w fun e w' => e = .returned (.tuple #[sumR neg s (manX hi lo) neg' s' (manX hi' lo'), .nilIface]) ∧ Below w.heap.size w w' := by
  by_cases c : s < s' ∨ (s = s' ∧ manX hi lo < manX hi' lo')
  · have hle : s ≤ s' := by omega
    have hw := (freals_up neg' s' hi' lo' neg s hi lo h' h hs' hs hle (fun h => by omega) w).2 (fun h => by omega)
    rw [← sumE_words neg' s' (manX hi' lo') neg s (manX hi lo) h'.mant h.mant hle (fun h => by omega)] at hw
    have e : sumR neg s (manX hi lo) neg' s' (manX hi' lo') = sumD neg' s' (manX hi' lo') neg s (manX hi lo) := by
      unfold sumR
      by_cases c2 : s < s'
      · rw [if_pos c2]
      · rw [if_neg c2]
        obtain rfl : s = s' := by omega
        rw [sumD_int neg s _ neg' s _ h.mant h'.mant (Int.le_refl _) s 0 0 (by omega) (by omega), sumD_int neg' s _ neg s _ h'.mant h.mant (Int.le_refl _) s 0 0 (by omega) (by omega), Int.add_comm]
    rw [e]
    exact hw
  · have hle : s' ≤ s := by omega
    have hw := (freals_up neg s hi lo neg' s' hi' lo' h h' hs hs' hle (fun h => by omega) w).1 (fun h => by omega)
    rw [← sumE_words neg s (manX hi lo) neg' s' (manX hi' lo') h.mant h'.mant hle (fun h => by omega)] at hw
    have e : sumR neg s (manX hi lo) neg' s' (manX hi' lo') = sumD neg s (manX hi lo) neg' s' (manX hi' lo') := by
      unfold sumR; rw [if_neg (by omega)]
    rw [e]
    exact hw
end Go.Proofs.Ytheliihkkoohnaa

namespace Go.Proofs.Ytheliihkkoohnaa
open Go.ChangeShapes Go.WideShapes Go.ChangeAt Go.RowKit
set_option linter.unusedVariables false
set_option linter.unusedSimpArgs false
set_option maxRecDepth 100000

/-! ### codec.Decode, by what a pattern means -/
theorem cdecode_v (n x : Nat) (hn : Wd n) (hx : x < 2 ^ 64) (w : World) :
    Calls Try.prog 27 #[.int .i64 n, .int .u64 x] w fun e w' => e = .returned (.tuple #[numV (vK n x) (vB n x) (vS n x) (vF n x), .nilIface]) ∧ Below w.heap.size w w' := by
  unfold vK vB vS vF
  by_cases hk : kindOf n (x % 2 ^ n) = 1
  · rw [if_pos hk, if_pos hk, if_pos hk]
    have := cdecode_real n x hn hx hk w
    rwa [← hk] at this
  · rw [if_neg hk, if_neg hk, if_neg hk]
    exact cdecode_other n x hn hx hk w
end Go.Proofs.Ytheliihkkoohnaa

namespace Go.Proofs.Ytheliihkkoohnaa
set_option maxRecDepth 100000
set_option linter.unusedVariables false
set_option linter.unusedSimpArgs false

/-! ### products (plain mathematics) -/
theorem patI_two (n : Nat) (T : Int) (j : Nat) (e : Int) : patI n (T * ((2 ^ j : Nat) : Int)) (e - j) = patI n T e := by
  have hp : 0 < 2 ^ j := Nat.pow_pos (by decide)
  unfold patI mgI
  by_cases h : T = 0
  · rw [h, Int.zero_mul, if_pos rfl, if_pos rfl]
  · have hpI : (0 : Int) < ((2 ^ j : Nat) : Int) := by omega
    have h2 : T * ((2 ^ j : Nat) : Int) ≠ 0 := Int.mul_ne_zero h (by omega)
    have h0 : T.natAbs ≠ 0 := by omega
    obtain ⟨a, b⟩ := norm_two j h0
    rw [if_neg h, if_neg h2, Int.natAbs_mul, Int.natAbs_natCast, a, b, blen_two j h0]
    have hs : decide (T * ((2 ^ j : Nat) : Int) < 0) = decide (T < 0) := by
      by_cases c : T < 0
      · rw [decide_eq_true c, decide_eq_true (Int.mul_neg_of_neg_of_pos c hpI)]
      · rw [decide_eq_false c, decide_eq_false (Int.not_lt.2 (Int.mul_nonneg (by omega) (by omega)))]
    rw [hs, show e - (j : Int) + ((blen T.natAbs + j : Nat) : Int) - 1 = e + (blen T.natAbs : Int) - 1 by omega]
def xorB (a b : Bool) : Bool := decide (a ≠ b)
theorem sg_times (a b : Bool) (N M : Nat) : sg a N * sg b M = sg (xorB a b) (N * M) := by
  unfold sg xorB
  cases a <;> cases b <;> simp [Int.neg_mul, Int.mul_neg]
/-- the product ahead of its rounding -/
def prod10 (k : Int) (neg : Bool) (s : Int) (f : Nat) (k' : Int) (neg' : Bool) (s' : Int) (g : Nat) : Value :=
  if k = 2 ∨ k' = 2 then exV 2 false 0 0 0 false
  else if k = 0 ∨ k' = 0 then exV 0 false 0 0 0 false
  else exactV (xorB neg neg') (f * g) (s + s' - 126) false
theorem manX_zero (f : Nat) : manX f 0 = f * 2 ^ 64 := by unfold manX; rw [Nat.add_zero, show (2 : Nat) ^ 64 = 18446744073709551616 by decide]
theorem prod_val (n a b : Nat) (hn : Wd n) (ha : a < 2 ^ 64) (hb : b < 2 ^ 64) (ka : vK n a = 1) (kb : vK n b = 1) :
    exactV (xorB (vB n a) (vB n b)) (vF n a * vF n b) (vS n a + vS n b - 126) false = exI (valI n a * valI n b) (eN + eN) := by
  obtain ⟨_, _, _, _, _, _, _, sa1, sa2⟩ := v_real n a hn ha ka
  obtain ⟨_, _, _, _, _, _, _, sb1, sb2⟩ := v_real n b hn hb kb
  have hw := wd_le hn
  unfold valI
  rw [if_pos ka, if_pos kb, manX_zero, manX_zero, ← exI_sg]
  obtain ⟨j, hj⟩ : ∃ j : Nat, (j : Int) = vS n a + 248 := ⟨(vS n a + 248).toNat, by omega⟩
  obtain ⟨j', hj'⟩ : ∃ j' : Nat, (j' : Int) = vS n b + 248 := ⟨(vS n b + 248).toNat, by omega⟩
  rw [show (vS n a + 248).toNat = j by omega, show (vS n b + 248).toNat = j' by omega]
  have e1 : sg (vB n a) (vF n a * 2 ^ 64) * ((2 ^ j : Nat) : Int) * (sg (vB n b) (vF n b * 2 ^ 64) * ((2 ^ j' : Nat) : Int)) = sg (xorB (vB n a) (vB n b)) (vF n a * vF n b) * ((2 ^ (64 + j + (64 + j')) : Nat) : Int) := by
    rw [← sg_mul, ← sg_mul, sg_times, ← sg_mul]
    congr 1
    rw [Nat.mul_assoc (vF n a), ← Nat.pow_add, Nat.mul_assoc (vF n b), ← Nat.pow_add, Nat.pow_add 2 (64 + j)]
    simp only [Nat.mul_assoc, Nat.mul_left_comm, Nat.mul_comm]
  rw [e1]
  have e2 : eN + eN = vS n a + vS n b - 126 - ((64 + j + (64 + j') : Nat) : Int) := by unfold eN; omega
  rw [e2, exI_two]
theorem prod10_val (n a b : Nat) (hn : Wd n) (ha : a < 2 ^ 64) (hb : b < 2 ^ 64) :
    prod10 (vK n a) (vB n a) (vS n a) (vF n a) (vK n b) (vB n b) (vS n b) (vF n b) = if vK n a = 2 ∨ vK n b = 2 then exV 2 false 0 0 0 false else exI (valI n a * valI n b) (eN + eN) := by
  unfold prod10
  by_cases h2 : vK n a = 2 ∨ vK n b = 2
  · rw [if_pos h2, if_pos h2]
  · rw [if_neg h2, if_neg h2]
    have na : vK n a ≠ 2 := fun c => h2 (.inl c)
    have nb : vK n b ≠ 2 := fun c => h2 (.inr c)
    by_cases h0 : vK n a = 0 ∨ vK n b = 0
    · rw [if_pos h0]
      have hz : valI n a * valI n b = 0 := by
        rcases h0 with c | c
        · rw [val_zero n a (by rw [c]; decide), Int.zero_mul]
        · rw [val_zero n b (by rw [c]; decide), Int.mul_zero]
      rw [hz]
      exact (exactV_zero _ _ _).symm
    · rw [if_neg h0]
      have a1 : vK n a = 1 := by rcases v_kinds n a hn with ⟨h, _⟩ | h | ⟨h, _⟩; exact absurd (.inl h) h0; exact h; exact absurd h na
      have b1 : vK n b = 1 := by rcases v_kinds n b hn with ⟨h, _⟩ | h | ⟨h, _⟩; exact absurd (.inr h) h0; exact h; exact absurd h nb
      exact prod_val n a b hn ha hb a1 b1
/-- the pattern of a product -/
def patP (n a b : Nat) : Nat := if vK n a = 2 ∨ vK n b = 2 then 2 ^ (n - 1) else patI n (valI n a * valI n b) (eN + eN)
/-- 1 -/
theorem one_val (n : Nat) (hn : Wd n) : vK n (2 ^ (n - 2)) = 1 ∧ valI n (2 ^ (n - 2)) = ((2 ^ 375 : Nat) : Int) := by
  rcases hn with rfl | rfl | rfl | rfl
  · exact ⟨by decide, by decide +kernel⟩
  · exact ⟨by decide +kernel, by decide +kernel⟩
  · exact ⟨by decide +kernel, by decide +kernel⟩
  · exact ⟨by decide +kernel, by decide +kernel⟩
theorem one_lt (n : Nat) (hn : Wd n) : 2 ^ (n - 2) < 2 ^ 64 := by rcases hn with rfl | rfl | rfl | rfl <;> decide
theorem patI_one (n : Nat) (T : Int) : patI n (T * ((2 ^ 375 : Nat) : Int)) (eN + eN) = patI n T eN := by
  have := patI_two n T 375 eN
  rw [show eN - ((375 : Nat) : Int) = eN + eN from rfl] at this
  exact this
theorem negO_mod (n a : Nat) (hn : Wd n) (ha : a < 2 ^ 64) : negO n (a % 2 ^ n) = negO n a := by
  have hm := Nat.mod_lt a (show 0 < 2 ^ n from Nat.pow_pos (by decide))
  rw [negO_eq n _ hn (lt64_of hn hm), negO_eq n a hn ha, Nat.mod_eq_of_lt hm]
end Go.Proofs.Ytheliihkkoohnaa

namespace Go.Proofs.Ytheliihkkoohnaa
open Go.ChangeShapes Go.WideShapes Go.ChangeAt Go.RowKit
set_option linter.unusedVariables false
set_option maxRecDepth 100000

end Go.Proofs.Ytheliihkkoohnaa

namespace Go.Proofs.Ytheliihkkoohnaa
open Go.ChangeShapes Go.WideShapes Go.ChangeAt Go.RowKit
set_option linter.unusedVariables false
set_option linter.unusedSimpArgs false
set_option maxRecDepth 100000

/-! ### the document's Sum -/
theorem Row.cset {w : World} {v : Value} {l : List Nat} (h : Row w v l) (m k : Nat) (u u' : Value) (hc : w.cell? ⟨m, k, none⟩ = some u) (hu : ∀ x, u ≠ .int .i64 x) : Row (w.setCell ⟨m, k, none⟩ u') v l := h.setU m k u u' hc hu
theorem sumD_branch (neg : Bool) (s : Int) (M : Nat) (neg' : Bool) (s' : Int) (M' : Nat) (d b : Nat) (h : (¬ 400 < s - s' ∧ (d : Int) = s - s' ∧ b = M') ∨ (400 < s - s' ∧ d = 400 ∧ b = 1)) :
    sumD neg s M neg' s' M' = if neg = neg' then exactV neg (M * 2 ^ d + b) (s - 127 - d) false else if b ≤ M * 2 ^ d then exactV neg (M * 2 ^ d - b) (s - 127 - d) false else exactV neg' (b - M * 2 ^ d) (s - 127 - d) false := by
  unfold sumD
  rcases h with ⟨h1, h2, rfl⟩ | ⟨h1, h2, rfl⟩
  · simp only [if_neg h1]
    rw [show (s - s').toNat = d by omega]
  · simp only [if_pos h1]
    rw [farD_eq, ← h2]
theorem cmp_ge {a b : Nat} (h : b ≤ a) : decide ((0 : Int) ≤ cmpN a b) = true := by
  refine decide_eq_true ?_
  rcases Nat.lt_or_ge b a with x | x
  · rw [cmpN_gt x]; decide
  · have e : b = a := Nat.le_antisymm h x
    rw [e, cmpN_eq]; decide
theorem mul_blen {M d b : Nat} (hM : M < 2 ^ 128) (hb : b < 2 ^ 128) (hd : d ≤ 400) : blen (M * 2 ^ d + b) ≤ 1000 := by
  have h1 : M * 2 ^ d < 2 ^ (128 + d) := by rw [Nat.pow_add]; exact Nat.mul_lt_mul_of_pos_right hM (Nat.pow_pos (by decide))
  have h2 : b < 2 ^ (128 + d) := Nat.lt_of_lt_of_le hb (Nat.pow_le_pow_right (by decide) (by omega))
  have h3 : blen (M * 2 ^ d + b) ≤ 128 + d + 1 := blen_le.2 (by rw [Nat.pow_succ]; omega)
  omega
set_option maxHeartbeats 4000000 in
theorem sum9_near_add (neg : Bool) (s : Int) (hi lo : Nat) (neg' : Bool) (s' : Int) (hi' lo' : Nat) (h : WordsX hi lo) (h' : WordsX hi' lo') (hs : -1099511627776 ≤ s ∧ s ≤ 1099511627776) (hs' : -1099511627776 ≤ s' ∧ s' ≤ 1099511627776) (hle : s' ≤ s) (hf : ¬ 400 < s - s') (hn : neg = neg') (d : Nat) (hd : (d : Int) = s - s') (w : World) :
    Calls Try.prog 24 #[exV 1 neg s hi lo false, exV 1 neg' s' hi' lo' false] w fun e w' => e = .returned (exactV neg (manX hi lo * 2 ^ d + manX hi' lo') (s - 127 - d) false) ∧ Below w.heap.size w w' := by
  have hM := h.mant
  have hM' := h'.mant
  have hd4 : d ≤ 400 := by omega
  have hbl := @mul_blen (manX hi lo) d (manX hi' lo') hM.2 hM'.2 hd4
  have hbl1 := @mul_blen (manX hi lo) d 1 hM.2 (by decide) hd4
  have hTM : Tw (manX hi lo) hi lo := ⟨rfl, by have := h.hi64; omega, by have := h.lo64; omega⟩
  have hTM' : Tw (manX hi' lo') hi' lo' := ⟨rfl, by have := h'.hi64; omega, by have := h'.lo64; omega⟩
  have hA1 : blen (manX hi lo * 2 ^ d) ≤ 1000 := Nat.le_trans (blen_mono (Nat.le_add_right _ _)) hbl
  have hS0 := dlen_mant hM.2
  have hSA := dlen_of_blen (Nat.le_trans hA1 (by decide : 1000 ≤ 1099511627776))
  have k1 := fun w => rof_any hTM w
  have k2 := fun w => rof_any hTM' w
  have k3 := fun v w hr => nshl_anyq v (manX hi lo) d (by omega) hS0 w hr
  have hNb : blen (manX hi lo * 2 ^ d + manX hi' lo') ≤ 1000 := hbl
  have k5 := fun va vb w ha hb => nadd_anyq va vb (manX hi lo * 2 ^ d) (manX hi' lo') (dlen_of_blen (Nat.le_trans hNb (by decide : 1000 ≤ 1099511627776))) w ha hb
  have k6 := fun v w hr => exactly7_any neg v (manX hi lo * 2 ^ d + manX hi' lo') (s - 127 - d) false (Nat.le_trans hNb (by decide)) (by omega) w hr
  obtain ⟨K, B, S, H, L, R, hform⟩ := exactV_form neg (manX hi lo * 2 ^ d + manX hi' lo') (s - 127 - d) false
  rw [hform] at k6 ⊢
  have e1 : IntKind.i64.wrap (s - s') = s - s' := wrapI (by omega)
  have g0 : decide (s < s') = false := decide_eq_false (by omega)
  have e2 : IntKind.i64.wrap (s - 127) = s - 127 := wrapI (by omega)
  have e3 : IntKind.i64.wrap (s - 127 - (d : Int)) = s - 127 - (d : Int) := wrapI (by omega)
  have g1 : decide ((400 : Int) < (d : Int)) = false := decide_eq_false (by omega)
  replace e1 : IntKind.i64.wrap (s - s') = (d : Int) := e1.trans hd.symm
  subst hn
  have hle3 : True := trivial
  generalize (manX hi lo * 2 ^ d + manX hi' lo') = NN at *
  generalize manX hi lo * 2 ^ d = A at *
  generalize manX hi lo = M at *
  generalize manX hi' lo' = M2 at *
  clear hform hbl hbl1 hNb hA1 hSA hS0 hTM hTM' hM hM' h h' hs hs' hle hf hd hd4 hle3
  unfold exV at *
  refine cps fun Q hQ => ?_
  go_enter Try.func24, Try.ntmps24
  go_wp2_with (first
    | (go_at_call_of 44 hi; go_must (refine (k1 _).mono ?_); rintro e w1 ⟨v1, rfl, hr1, hb1⟩; have R1_0 := (hb1.block (w.heap.size) (by first | (simp; done) | (simp; omega) | omega)).trans ((Below.heap_alloc _ _ _ (by first | (simp; done) | (simp; omega) | omega)).trans ((Below.heap_alloc _ _ _ (by first | (simp; done) | (simp; omega) | omega)).trans (rownew' _ _ _ _ (by simp)))); have z1_0 : w.heap.size < w1.heap.size := Nat.lt_of_lt_of_le (by first | (simp; done) | (simp; omega) | omega) hb1.size; have HR1_0 : Hid _ := R1_0; clear R1_0; have R1_1 := (hb1.block (w.heap.size + 1) (by first | (simp; done) | (simp; omega) | omega)).trans ((Below.heap_alloc _ _ _ (by first | (simp; done) | (simp; omega) | omega)).trans (rownew' _ _ _ _ (by simp))); have z1_1 : w.heap.size + 1 < w1.heap.size := Nat.lt_of_lt_of_le (by first | (simp; done) | (simp; omega) | omega) hb1.size; have c1_1_3 := rowcell R1_1 3; have c1_1_4 := rowcell R1_1 4; simp only [List.getElem?_toArray, List.getElem?_cons_zero, List.getElem?_cons_succ] at c1_1_3 c1_1_4; have HR1_1 : Hid _ := R1_1; clear R1_1; have R1_2 := (hb1.block (w.heap.size + 1 + 1) (by first | (simp; done) | (simp; omega) | omega)).trans (rownew' _ _ _ _ (by simp)); have z1_2 : w.heap.size + 1 + 1 < w1.heap.size := Nat.lt_of_lt_of_le (by first | (simp; done) | (simp; omega) | omega) hb1.size; have HR1_2 : Hid _ := R1_2; clear R1_2; have HB1 : Hid (Below _ _ _) := hb1; clear hb1; have HV1 : Hid (Row w1 v1 (dig M)) := hr1; clear hr1)
    | (go_at_call_of 44 hi'; go_must (refine (k2 _).mono ?_); rintro e w2 ⟨v2, rfl, hr2, hb2⟩; have R2_0 := (hb2.block (w.heap.size) (by first | (simp; done) | (simp; omega) | omega)).trans HR1_0.out; have z2_0 : w.heap.size < w2.heap.size := Nat.lt_of_lt_of_le (by first | (simp; done) | (simp; omega) | omega) hb2.size; have c2_0_2 := rowcell R2_0 2; simp only [List.getElem?_toArray, List.getElem?_cons_zero, List.getElem?_cons_succ] at c2_0_2; have HR2_0 : Hid _ := R2_0; clear R2_0; have R2_1 := (hb2.block (w.heap.size + 1) (by first | (simp; done) | (simp; omega) | omega)).trans HR1_1.out; have z2_1 : w.heap.size + 1 < w2.heap.size := Nat.lt_of_lt_of_le (by first | (simp; done) | (simp; omega) | omega) hb2.size; have c2_1_2 := rowcell R2_1 2; simp only [List.getElem?_toArray, List.getElem?_cons_zero, List.getElem?_cons_succ] at c2_1_2; have HR2_1 : Hid _ := R2_1; clear R2_1; have R2_2 := (hb2.block (w.heap.size + 1 + 1) (by first | (simp; done) | (simp; omega) | omega)).trans HR1_2.out; have z2_2 : w.heap.size + 1 + 1 < w2.heap.size := Nat.lt_of_lt_of_le (by first | (simp; done) | (simp; omega) | omega) hb2.size; have HR2_2 : Hid _ := R2_2; clear R2_2; have HB2 : Hid (Below _ _ _) := hb2; clear hb2; have HV2 : Hid (Row w2 v2 (dig M2)) := hr2; have HW1 : Hid (Row w2 v1 (dig M)) := HV1.out.below HB2.out; clear hr2)
    | (go_at_call 45; go_must (refine (k3 _ _ HW1.out).mono ?_); rintro e w3 ⟨v3, rfl, hr3, hb3⟩; have R3_0 := (hb3.block (w.heap.size) (by first | (simp; done) | (simp; omega) | omega)).trans HR2_0.out; have z3_0 : w.heap.size < w3.heap.size := Nat.lt_of_lt_of_le (by first | (simp; done) | (simp; omega) | omega) hb3.size; have c3_0_2 := rowcell R3_0 2; have c3_0_1 := rowcell R3_0 1; simp only [List.getElem?_toArray, List.getElem?_cons_zero, List.getElem?_cons_succ] at c3_0_2 c3_0_1; have HR3_0 : Hid _ := R3_0; clear R3_0; have R3_1 := (hb3.block (w.heap.size + 1) (by first | (simp; done) | (simp; omega) | omega)).trans HR2_1.out; have z3_1 : w.heap.size + 1 < w3.heap.size := Nat.lt_of_lt_of_le (by first | (simp; done) | (simp; omega) | omega) hb3.size; have c3_1_1 := rowcell R3_1 1; simp only [List.getElem?_toArray, List.getElem?_cons_zero, List.getElem?_cons_succ] at c3_1_1; have HR3_1 : Hid _ := R3_1; clear R3_1; have R3_2 := (hb3.block (w.heap.size + 1 + 1) (by first | (simp; done) | (simp; omega) | omega)).trans HR2_2.out; have z3_2 : w.heap.size + 1 + 1 < w3.heap.size := Nat.lt_of_lt_of_le (by first | (simp; done) | (simp; omega) | omega) hb3.size; have HR3_2 : Hid _ := R3_2; clear R3_2; have HB3 : Hid (Below _ _ _) := hb3; clear hb3; have HV3 : Hid (Row w3 v3 (dig A)) := hr3; have HW2 : Hid (Row w3 v2 (dig M2)) := HV2.out.below HB3.out; clear hr3))
  have bq : Below w3.heap.size w3 w3 := Below.refl _ _
  have cls : ∀ W, Below w3.heap.size w3 W → W.cell? ⟨w.heap.size, 1, none⟩ = some (.bool neg) := fun W hW => (hW.cell (p := ⟨w.heap.size, 1, none⟩) z3_0).trans c3_0_1
  refine wpC_region (fun W => W.cell? ⟨w.heap.size, 1, none⟩ = some (.bool neg)) (by kernel_rfl) ?_
  refine wpC_take 0 (v := ?_) rfl (by kernel_rfl) (fun _ _ _ h => h) (by kernel_rfl) ?_ ?_; rotate_left; · (intro wC hC; obtain c1 := hC; go_simp <;> with_reducible rfl)
  refine wpC_take 1 (v := ?_) rfl (by kernel_rfl) (fun _ _ _ h => h) (by kernel_rfl) ?_ ?_; rotate_left; · (intro wC hC; obtain c1 := hC; go_simp <;> with_reducible rfl)
  refine wpC_take 2 (v := ?_) rfl (by kernel_rfl) (fun _ _ _ h => h) (by kernel_rfl) ?_ ?_; rotate_left; · (intro wC hC; obtain c1 := hC; go_simp <;> with_reducible rfl)
  refine wpC_take 3 (v := ?_) rfl (by kernel_rfl) (fun _ _ _ h => h) (by kernel_rfl) ?_ ?_; rotate_left; · (intro wC hC; obtain c1 := hC; go_simp <;> with_reducible rfl)
  refine wpC_take 5 (v := ?_) rfl (by kernel_rfl) (fun _ _ _ h => h) (by kernel_rfl) ?_ ?_; rotate_left; · (intro wC hC; obtain c1 := hC; go_simp <;> with_reducible rfl)
  refine wpC_step 4 rfl (by kernel_rfl) (by kernel_rfl) (cls _ (cdrew bq)) (fun K hK => ?_)
  go_simp
  go_wp2_with ((go_at_call 47; go_must (refine (k5 _ _ _ (HV3.out.below (cdrew bq)) (HW2.out.below (cdrew bq))).mono ?_); rintro e w4 ⟨v4, rfl, hr4, hb4⟩))
  try (refine hK _ _ ?_; clear hK K)
  have b4 : Below w3.heap.size w3 w4 := cthen (cdrew bq) hb4
  refine wpC_step 6 rfl (by kernel_rfl) (by kernel_rfl) (cls _ b4) (fun K hK => ?_)
  go_simp
  go_wp2_with ((go_at_call 46; go_must (refine (k6 _ _ hr4).mono ?_); rintro e w5 ⟨rfl, hb5⟩))
  try (refine hK _ _ ?_; clear hK K)
  have b5 : Below w3.heap.size w3 w5 := cthen b4 hb5
  have RR := (b5.block (w.heap.size + 1 + 1) z3_2).trans HR3_2.out
  have r0 := rowcell RR 0
  have r1 := rowcell RR 1
  have r2 := rowcell RR 2
  have r3 := rowcell RR 3
  have r4 := rowcell RR 4
  have r5 := rowcell RR 5
  have rf := rowfree RR
  simp only [List.getElem?_toArray, List.getElem?_cons_zero, List.getElem?_cons_succ] at r0 r1 r2 r3 r4 r5
  refine wpC_step 7 rfl (by kernel_rfl) (by kernel_rfl) (cls _ b5) (fun K hK => ?_)
  go_simp
  try (refine hK _ _ ?_; clear hK K)
  refine wpC_done (by kernel_rfl) (by simp [go_sem, cls _ b5]) ?_
  go_wp2
  refine bodyPost_ret (v := .agg #[.int .i64 K, .bool B, .int .i64 S, .int .u64 H, .int .u64 L, .bool R]) (by simp [results, Try.results24, go_sem, r0, r1, r2, r3, r4, r5]) rfl (hQ.out _ _ ⟨by simp, ?_⟩)
  exact cset6 (cthen (cthen (cthen (cthen (cmore (cmore (cmore (Below.refl _ _) _) _) _) HB1.out) HB2.out) HB3.out) b5) (by omega)
set_option maxHeartbeats 4000000 in
theorem sum9_near_sub (neg : Bool) (s : Int) (hi lo : Nat) (neg' : Bool) (s' : Int) (hi' lo' : Nat) (h : WordsX hi lo) (h' : WordsX hi' lo') (hs : -1099511627776 ≤ s ∧ s ≤ 1099511627776) (hs' : -1099511627776 ≤ s' ∧ s' ≤ 1099511627776) (hle : s' ≤ s) (hf : ¬ 400 < s - s') (hn : neg ≠ neg') (d : Nat) (hd : (d : Int) = s - s') (hc : manX hi' lo' ≤ manX hi lo * 2 ^ d) (w : World) :
    Calls Try.prog 24 #[exV 1 neg s hi lo false, exV 1 neg' s' hi' lo' false] w fun e w' => e = .returned (exactV neg (manX hi lo * 2 ^ d - manX hi' lo') (s - 127 - d) false) ∧ Below w.heap.size w w' := by
  have hM := h.mant
  have hM' := h'.mant
  have hd4 : d ≤ 400 := by omega
  have hbl := @mul_blen (manX hi lo) d (manX hi' lo') hM.2 hM'.2 hd4
  have hbl1 := @mul_blen (manX hi lo) d 1 hM.2 (by decide) hd4
  have hTM : Tw (manX hi lo) hi lo := ⟨rfl, by have := h.hi64; omega, by have := h.lo64; omega⟩
  have hTM' : Tw (manX hi' lo') hi' lo' := ⟨rfl, by have := h'.hi64; omega, by have := h'.lo64; omega⟩
  have hA1 : blen (manX hi lo * 2 ^ d) ≤ 1000 := Nat.le_trans (blen_mono (Nat.le_add_right _ _)) hbl
  have hS0 := dlen_mant hM.2
  have hSA := dlen_of_blen (Nat.le_trans hA1 (by decide : 1000 ≤ 1099511627776))
  have k1 := fun w => rof_any hTM w
  have k2 := fun w => rof_any hTM' w
  have k3 := fun v w hr => nshl_anyq v (manX hi lo) d (by omega) hS0 w hr
  have hNb : blen (manX hi lo * 2 ^ d - manX hi' lo') ≤ 1000 := Nat.le_trans (blen_mono (Nat.sub_le _ _)) hA1
  have k4 := fun va vb w ha hb => ncmp_anyq va vb (manX hi lo * 2 ^ d) (manX hi' lo') w ha hb
  have hcm : decide ((0 : Int) ≤ cmpN (manX hi lo * 2 ^ d) (manX hi' lo')) = true := cmp_ge hc
  have k5 := fun va vb w ha hb => nsub_anyq va vb (manX hi lo * 2 ^ d) (manX hi' lo') hc hSA w ha hb
  have k6 := fun v w hr => exactly7_any neg v (manX hi lo * 2 ^ d - manX hi' lo') (s - 127 - d) false (Nat.le_trans hNb (by decide)) (by omega) w hr
  obtain ⟨K, B, S, H, L, R, hform⟩ := exactV_form neg (manX hi lo * 2 ^ d - manX hi' lo') (s - 127 - d) false
  rw [hform] at k6 ⊢
  have e1 : IntKind.i64.wrap (s - s') = s - s' := wrapI (by omega)
  have g0 : decide (s < s') = false := decide_eq_false (by omega)
  have e2 : IntKind.i64.wrap (s - 127) = s - 127 := wrapI (by omega)
  have e3 : IntKind.i64.wrap (s - 127 - (d : Int)) = s - 127 - (d : Int) := wrapI (by omega)
  have g1 : decide ((400 : Int) < (d : Int)) = false := decide_eq_false (by omega)
  replace e1 : IntKind.i64.wrap (s - s') = (d : Int) := e1.trans hd.symm
  have hnb : (neg == neg') = false := beq_eq_false_iff_ne.2 hn
  have hle3 : True := trivial
  generalize (manX hi lo * 2 ^ d - manX hi' lo') = NN at *
  generalize manX hi lo * 2 ^ d = A at *
  generalize manX hi lo = M at *
  generalize manX hi' lo' = M2 at *
  clear hform hbl hbl1 hNb hA1 hSA hS0 hTM hTM' hM hM' h h' hs hs' hle hf hd hd4 hle3 hn hc
  unfold exV at *
  refine cps fun Q hQ => ?_
  go_enter Try.func24, Try.ntmps24
  go_wp2_with (first
    | (go_at_call_of 44 hi; go_must (refine (k1 _).mono ?_); rintro e w1 ⟨v1, rfl, hr1, hb1⟩; have R1_0 := (hb1.block (w.heap.size) (by first | (simp; done) | (simp; omega) | omega)).trans ((Below.heap_alloc _ _ _ (by first | (simp; done) | (simp; omega) | omega)).trans ((Below.heap_alloc _ _ _ (by first | (simp; done) | (simp; omega) | omega)).trans (rownew' _ _ _ _ (by simp)))); have z1_0 : w.heap.size < w1.heap.size := Nat.lt_of_lt_of_le (by first | (simp; done) | (simp; omega) | omega) hb1.size; have HR1_0 : Hid _ := R1_0; clear R1_0; have R1_1 := (hb1.block (w.heap.size + 1) (by first | (simp; done) | (simp; omega) | omega)).trans ((Below.heap_alloc _ _ _ (by first | (simp; done) | (simp; omega) | omega)).trans (rownew' _ _ _ _ (by simp))); have z1_1 : w.heap.size + 1 < w1.heap.size := Nat.lt_of_lt_of_le (by first | (simp; done) | (simp; omega) | omega) hb1.size; have c1_1_3 := rowcell R1_1 3; have c1_1_4 := rowcell R1_1 4; simp only [List.getElem?_toArray, List.getElem?_cons_zero, List.getElem?_cons_succ] at c1_1_3 c1_1_4; have HR1_1 : Hid _ := R1_1; clear R1_1; have R1_2 := (hb1.block (w.heap.size + 1 + 1) (by first | (simp; done) | (simp; omega) | omega)).trans (rownew' _ _ _ _ (by simp)); have z1_2 : w.heap.size + 1 + 1 < w1.heap.size := Nat.lt_of_lt_of_le (by first | (simp; done) | (simp; omega) | omega) hb1.size; have HR1_2 : Hid _ := R1_2; clear R1_2; have HB1 : Hid (Below _ _ _) := hb1; clear hb1; have HV1 : Hid (Row w1 v1 (dig M)) := hr1; clear hr1)
    | (go_at_call_of 44 hi'; go_must (refine (k2 _).mono ?_); rintro e w2 ⟨v2, rfl, hr2, hb2⟩; have R2_0 := (hb2.block (w.heap.size) (by first | (simp; done) | (simp; omega) | omega)).trans HR1_0.out; have z2_0 : w.heap.size < w2.heap.size := Nat.lt_of_lt_of_le (by first | (simp; done) | (simp; omega) | omega) hb2.size; have c2_0_2 := rowcell R2_0 2; simp only [List.getElem?_toArray, List.getElem?_cons_zero, List.getElem?_cons_succ] at c2_0_2; have HR2_0 : Hid _ := R2_0; clear R2_0; have R2_1 := (hb2.block (w.heap.size + 1) (by first | (simp; done) | (simp; omega) | omega)).trans HR1_1.out; have z2_1 : w.heap.size + 1 < w2.heap.size := Nat.lt_of_lt_of_le (by first | (simp; done) | (simp; omega) | omega) hb2.size; have c2_1_2 := rowcell R2_1 2; simp only [List.getElem?_toArray, List.getElem?_cons_zero, List.getElem?_cons_succ] at c2_1_2; have HR2_1 : Hid _ := R2_1; clear R2_1; have R2_2 := (hb2.block (w.heap.size + 1 + 1) (by first | (simp; done) | (simp; omega) | omega)).trans HR1_2.out; have z2_2 : w.heap.size + 1 + 1 < w2.heap.size := Nat.lt_of_lt_of_le (by first | (simp; done) | (simp; omega) | omega) hb2.size; have HR2_2 : Hid _ := R2_2; clear R2_2; have HB2 : Hid (Below _ _ _) := hb2; clear hb2; have HV2 : Hid (Row w2 v2 (dig M2)) := hr2; have HW1 : Hid (Row w2 v1 (dig M)) := HV1.out.below HB2.out; clear hr2)
    | (go_at_call 45; go_must (refine (k3 _ _ HW1.out).mono ?_); rintro e w3 ⟨v3, rfl, hr3, hb3⟩; have R3_0 := (hb3.block (w.heap.size) (by first | (simp; done) | (simp; omega) | omega)).trans HR2_0.out; have z3_0 : w.heap.size < w3.heap.size := Nat.lt_of_lt_of_le (by first | (simp; done) | (simp; omega) | omega) hb3.size; have c3_0_2 := rowcell R3_0 2; have c3_0_1 := rowcell R3_0 1; simp only [List.getElem?_toArray, List.getElem?_cons_zero, List.getElem?_cons_succ] at c3_0_2 c3_0_1; have HR3_0 : Hid _ := R3_0; clear R3_0; have R3_1 := (hb3.block (w.heap.size + 1) (by first | (simp; done) | (simp; omega) | omega)).trans HR2_1.out; have z3_1 : w.heap.size + 1 < w3.heap.size := Nat.lt_of_lt_of_le (by first | (simp; done) | (simp; omega) | omega) hb3.size; have c3_1_1 := rowcell R3_1 1; simp only [List.getElem?_toArray, List.getElem?_cons_zero, List.getElem?_cons_succ] at c3_1_1; have HR3_1 : Hid _ := R3_1; clear R3_1; have R3_2 := (hb3.block (w.heap.size + 1 + 1) (by first | (simp; done) | (simp; omega) | omega)).trans HR2_2.out; have z3_2 : w.heap.size + 1 + 1 < w3.heap.size := Nat.lt_of_lt_of_le (by first | (simp; done) | (simp; omega) | omega) hb3.size; have HR3_2 : Hid _ := R3_2; clear R3_2; have HB3 : Hid (Below _ _ _) := hb3; clear hb3; have HV3 : Hid (Row w3 v3 (dig A)) := hr3; have HW2 : Hid (Row w3 v2 (dig M2)) := HV2.out.below HB3.out; clear hr3)
    | (go_at_call 48; go_must (refine (k4 _ _ _ HV3.out HW2.out).mono ?_); rintro e wx ⟨rfl, q, rfl⟩))
  have bq : Below w3.heap.size w3 (w3.drewN q) := below_drewN (Below.refl _ _) q
  have cls : ∀ W, Below w3.heap.size w3 W → W.cell? ⟨w.heap.size, 1, none⟩ = some (.bool neg) := fun W hW => (hW.cell (p := ⟨w.heap.size, 1, none⟩) z3_0).trans c3_0_1
  refine wpC_region (fun W => W.cell? ⟨w.heap.size, 1, none⟩ = some (.bool neg)) (by kernel_rfl) ?_
  refine wpC_take 0 (v := ?_) rfl (by kernel_rfl) (fun _ _ _ h => h) (by kernel_rfl) ?_ ?_; rotate_left; · (intro wC hC; obtain c1 := hC; go_simp <;> with_reducible rfl)
  refine wpC_take 1 (v := ?_) rfl (by kernel_rfl) (fun _ _ _ h => h) (by kernel_rfl) ?_ ?_; rotate_left; · (intro wC hC; obtain c1 := hC; go_simp <;> with_reducible rfl)
  refine wpC_take 2 (v := ?_) rfl (by kernel_rfl) (fun _ _ _ h => h) (by kernel_rfl) ?_ ?_; rotate_left; · (intro wC hC; obtain c1 := hC; go_simp <;> with_reducible rfl)
  refine wpC_take 3 (v := ?_) rfl (by kernel_rfl) (fun _ _ _ h => h) (by kernel_rfl) ?_ ?_; rotate_left; · (intro wC hC; obtain c1 := hC; go_simp <;> with_reducible rfl)
  refine wpC_take 5 (v := ?_) rfl (by kernel_rfl) (fun _ _ _ h => h) (by kernel_rfl) ?_ ?_; rotate_left; · (intro wC hC; obtain c1 := hC; go_simp <;> with_reducible rfl)
  refine wpC_step 4 rfl (by kernel_rfl) (by kernel_rfl) (cls _ (cdrew bq)) (fun K hK => ?_)
  go_simp
  go_wp2_with ((go_at_call 49; go_must (refine (k5 _ _ _ (HV3.out.below (cdrew bq)) (HW2.out.below (cdrew bq))).mono ?_); rintro e w4 ⟨v4, rfl, hr4, hb4⟩))
  try (refine hK _ _ ?_; clear hK K)
  have b4 : Below w3.heap.size w3 w4 := cthen (cdrew bq) hb4
  refine wpC_step 6 rfl (by kernel_rfl) (by kernel_rfl) (cls _ b4) (fun K hK => ?_)
  go_simp
  go_wp2_with ((go_at_call 46; go_must (refine (k6 _ _ hr4).mono ?_); rintro e w5 ⟨rfl, hb5⟩))
  try (refine hK _ _ ?_; clear hK K)
  have b5 : Below w3.heap.size w3 w5 := cthen b4 hb5
  have RR := (b5.block (w.heap.size + 1 + 1) z3_2).trans HR3_2.out
  have r0 := rowcell RR 0
  have r1 := rowcell RR 1
  have r2 := rowcell RR 2
  have r3 := rowcell RR 3
  have r4 := rowcell RR 4
  have r5 := rowcell RR 5
  have rf := rowfree RR
  simp only [List.getElem?_toArray, List.getElem?_cons_zero, List.getElem?_cons_succ] at r0 r1 r2 r3 r4 r5
  refine wpC_step 7 rfl (by kernel_rfl) (by kernel_rfl) (cls _ b5) (fun K hK => ?_)
  go_simp
  try (refine hK _ _ ?_; clear hK K)
  refine wpC_done (by kernel_rfl) (by simp [go_sem, cls _ b5]) ?_
  go_wp2
  refine bodyPost_ret (v := .agg #[.int .i64 K, .bool B, .int .i64 S, .int .u64 H, .int .u64 L, .bool R]) (by simp [results, Try.results24, go_sem, r0, r1, r2, r3, r4, r5]) rfl (hQ.out _ _ ⟨by simp, ?_⟩)
  exact cset6 (cthen (cthen (cthen (cthen (cmore (cmore (cmore (Below.refl _ _) _) _) _) HB1.out) HB2.out) HB3.out) b5) (by omega)
set_option maxHeartbeats 4000000 in
theorem sum9_near_bus (neg : Bool) (s : Int) (hi lo : Nat) (neg' : Bool) (s' : Int) (hi' lo' : Nat) (h : WordsX hi lo) (h' : WordsX hi' lo') (hs : -1099511627776 ≤ s ∧ s ≤ 1099511627776) (hs' : -1099511627776 ≤ s' ∧ s' ≤ 1099511627776) (hle : s' ≤ s) (hf : ¬ 400 < s - s') (hn : neg ≠ neg') (d : Nat) (hd : (d : Int) = s - s') (hc : ¬ manX hi' lo' ≤ manX hi lo * 2 ^ d) (w : World) :
    Calls Try.prog 24 #[exV 1 neg s hi lo false, exV 1 neg' s' hi' lo' false] w fun e w' => e = .returned (exactV neg' (manX hi' lo' - manX hi lo * 2 ^ d) (s - 127 - d) false) ∧ Below w.heap.size w w' := by
  have hM := h.mant
  have hM' := h'.mant
  have hd4 : d ≤ 400 := by omega
  have hbl := @mul_blen (manX hi lo) d (manX hi' lo') hM.2 hM'.2 hd4
  have hbl1 := @mul_blen (manX hi lo) d 1 hM.2 (by decide) hd4
  have hTM : Tw (manX hi lo) hi lo := ⟨rfl, by have := h.hi64; omega, by have := h.lo64; omega⟩
  have hTM' : Tw (manX hi' lo') hi' lo' := ⟨rfl, by have := h'.hi64; omega, by have := h'.lo64; omega⟩
  have hA1 : blen (manX hi lo * 2 ^ d) ≤ 1000 := Nat.le_trans (blen_mono (Nat.le_add_right _ _)) hbl
  have hS0 := dlen_mant hM.2
  have hSA := dlen_of_blen (Nat.le_trans hA1 (by decide : 1000 ≤ 1099511627776))
  have k1 := fun w => rof_any hTM w
  have k2 := fun w => rof_any hTM' w
  have k3 := fun v w hr => nshl_anyq v (manX hi lo) d (by omega) hS0 w hr
  have hNb : blen (manX hi' lo' - manX hi lo * 2 ^ d) ≤ 1000 := Nat.le_trans (blen_mono (Nat.le_trans (Nat.sub_le _ _) (Nat.le_add_left _ (manX hi lo * 2 ^ d)))) hbl
  have k4 := fun va vb w ha hb => ncmp_anyq va vb (manX hi lo * 2 ^ d) (manX hi' lo') w ha hb
  have hcm : decide ((0 : Int) ≤ cmpN (manX hi lo * 2 ^ d) (manX hi' lo')) = false := decide_eq_false (by rw [cmpN_lt (by omega)]; decide)
  have k5 := fun va vb w ha hb => nsub_anyq va vb (manX hi' lo') (manX hi lo * 2 ^ d) (by omega) (dlen_of_blen (Nat.le_trans (blen_mono (Nat.le_add_left _ (manX hi lo * 2 ^ d))) (Nat.le_trans hbl (by decide : 1000 ≤ 1099511627776)))) w ha hb
  have k6 := fun v w hr => exactly7_any neg' v (manX hi' lo' - manX hi lo * 2 ^ d) (s - 127 - d) false (Nat.le_trans hNb (by decide)) (by omega) w hr
  obtain ⟨K, B, S, H, L, R, hform⟩ := exactV_form neg' (manX hi' lo' - manX hi lo * 2 ^ d) (s - 127 - d) false
  rw [hform] at k6 ⊢
  have e1 : IntKind.i64.wrap (s - s') = s - s' := wrapI (by omega)
  have g0 : decide (s < s') = false := decide_eq_false (by omega)
  have e2 : IntKind.i64.wrap (s - 127) = s - 127 := wrapI (by omega)
  have e3 : IntKind.i64.wrap (s - 127 - (d : Int)) = s - 127 - (d : Int) := wrapI (by omega)
  have g1 : decide ((400 : Int) < (d : Int)) = false := decide_eq_false (by omega)
  replace e1 : IntKind.i64.wrap (s - s') = (d : Int) := e1.trans hd.symm
  have hnb : (neg == neg') = false := beq_eq_false_iff_ne.2 hn
  have hle3 : True := trivial
  generalize (manX hi' lo' - manX hi lo * 2 ^ d) = NN at *
  generalize manX hi lo * 2 ^ d = A at *
  generalize manX hi lo = M at *
  generalize manX hi' lo' = M2 at *
  clear hform hbl hbl1 hNb hA1 hSA hS0 hTM hTM' hM hM' h h' hs hs' hle hf hd hd4 hle3 hn hc
  unfold exV at *
  refine cps fun Q hQ => ?_
  go_enter Try.func24, Try.ntmps24
  go_wp2_with (first
    | (go_at_call_of 44 hi; go_must (refine (k1 _).mono ?_); rintro e w1 ⟨v1, rfl, hr1, hb1⟩; have R1_0 := (hb1.block (w.heap.size) (by first | (simp; done) | (simp; omega) | omega)).trans ((Below.heap_alloc _ _ _ (by first | (simp; done) | (simp; omega) | omega)).trans ((Below.heap_alloc _ _ _ (by first | (simp; done) | (simp; omega) | omega)).trans (rownew' _ _ _ _ (by simp)))); have z1_0 : w.heap.size < w1.heap.size := Nat.lt_of_lt_of_le (by first | (simp; done) | (simp; omega) | omega) hb1.size; have HR1_0 : Hid _ := R1_0; clear R1_0; have R1_1 := (hb1.block (w.heap.size + 1) (by first | (simp; done) | (simp; omega) | omega)).trans ((Below.heap_alloc _ _ _ (by first | (simp; done) | (simp; omega) | omega)).trans (rownew' _ _ _ _ (by simp))); have z1_1 : w.heap.size + 1 < w1.heap.size := Nat.lt_of_lt_of_le (by first | (simp; done) | (simp; omega) | omega) hb1.size; have c1_1_3 := rowcell R1_1 3; have c1_1_4 := rowcell R1_1 4; simp only [List.getElem?_toArray, List.getElem?_cons_zero, List.getElem?_cons_succ] at c1_1_3 c1_1_4; have HR1_1 : Hid _ := R1_1; clear R1_1; have R1_2 := (hb1.block (w.heap.size + 1 + 1) (by first | (simp; done) | (simp; omega) | omega)).trans (rownew' _ _ _ _ (by simp)); have z1_2 : w.heap.size + 1 + 1 < w1.heap.size := Nat.lt_of_lt_of_le (by first | (simp; done) | (simp; omega) | omega) hb1.size; have HR1_2 : Hid _ := R1_2; clear R1_2; have HB1 : Hid (Below _ _ _) := hb1; clear hb1; have HV1 : Hid (Row w1 v1 (dig M)) := hr1; clear hr1)
    | (go_at_call_of 44 hi'; go_must (refine (k2 _).mono ?_); rintro e w2 ⟨v2, rfl, hr2, hb2⟩; have R2_0 := (hb2.block (w.heap.size) (by first | (simp; done) | (simp; omega) | omega)).trans HR1_0.out; have z2_0 : w.heap.size < w2.heap.size := Nat.lt_of_lt_of_le (by first | (simp; done) | (simp; omega) | omega) hb2.size; have c2_0_2 := rowcell R2_0 2; simp only [List.getElem?_toArray, List.getElem?_cons_zero, List.getElem?_cons_succ] at c2_0_2; have HR2_0 : Hid _ := R2_0; clear R2_0; have R2_1 := (hb2.block (w.heap.size + 1) (by first | (simp; done) | (simp; omega) | omega)).trans HR1_1.out; have z2_1 : w.heap.size + 1 < w2.heap.size := Nat.lt_of_lt_of_le (by first | (simp; done) | (simp; omega) | omega) hb2.size; have c2_1_2 := rowcell R2_1 2; simp only [List.getElem?_toArray, List.getElem?_cons_zero, List.getElem?_cons_succ] at c2_1_2; have HR2_1 : Hid _ := R2_1; clear R2_1; have R2_2 := (hb2.block (w.heap.size + 1 + 1) (by first | (simp; done) | (simp; omega) | omega)).trans HR1_2.out; have z2_2 : w.heap.size + 1 + 1 < w2.heap.size := Nat.lt_of_lt_of_le (by first | (simp; done) | (simp; omega) | omega) hb2.size; have HR2_2 : Hid _ := R2_2; clear R2_2; have HB2 : Hid (Below _ _ _) := hb2; clear hb2; have HV2 : Hid (Row w2 v2 (dig M2)) := hr2; have HW1 : Hid (Row w2 v1 (dig M)) := HV1.out.below HB2.out; clear hr2)
    | (go_at_call 45; go_must (refine (k3 _ _ HW1.out).mono ?_); rintro e w3 ⟨v3, rfl, hr3, hb3⟩; have R3_0 := (hb3.block (w.heap.size) (by first | (simp; done) | (simp; omega) | omega)).trans HR2_0.out; have z3_0 : w.heap.size < w3.heap.size := Nat.lt_of_lt_of_le (by first | (simp; done) | (simp; omega) | omega) hb3.size; have c3_0_2 := rowcell R3_0 2; have c3_0_1 := rowcell R3_0 1; simp only [List.getElem?_toArray, List.getElem?_cons_zero, List.getElem?_cons_succ] at c3_0_2 c3_0_1; have HR3_0 : Hid _ := R3_0; clear R3_0; have R3_1 := (hb3.block (w.heap.size + 1) (by first | (simp; done) | (simp; omega) | omega)).trans HR2_1.out; have z3_1 : w.heap.size + 1 < w3.heap.size := Nat.lt_of_lt_of_le (by first | (simp; done) | (simp; omega) | omega) hb3.size; have c3_1_1 := rowcell R3_1 1; simp only [List.getElem?_toArray, List.getElem?_cons_zero, List.getElem?_cons_succ] at c3_1_1; have HR3_1 : Hid _ := R3_1; clear R3_1; have R3_2 := (hb3.block (w.heap.size + 1 + 1) (by first | (simp; done) | (simp; omega) | omega)).trans HR2_2.out; have z3_2 : w.heap.size + 1 + 1 < w3.heap.size := Nat.lt_of_lt_of_le (by first | (simp; done) | (simp; omega) | omega) hb3.size; have HR3_2 : Hid _ := R3_2; clear R3_2; have HB3 : Hid (Below _ _ _) := hb3; clear hb3; have HV3 : Hid (Row w3 v3 (dig A)) := hr3; have HW2 : Hid (Row w3 v2 (dig M2)) := HV2.out.below HB3.out; clear hr3)
    | (go_at_call 48; go_must (refine (k4 _ _ _ HV3.out HW2.out).mono ?_); rintro e wx ⟨rfl, q, rfl⟩))
  have bq : Below w3.heap.size w3 (w3.drewN q) := below_drewN (Below.refl _ _) q
  have cls : ∀ W, Below w3.heap.size w3 W → W.cell? ⟨w.heap.size + 1, 1, none⟩ = some (.bool neg') := fun W hW => (hW.cell (p := ⟨w.heap.size + 1, 1, none⟩) z3_1).trans c3_1_1
  refine wpC_region (fun W => W.cell? ⟨w.heap.size + 1, 1, none⟩ = some (.bool neg')) (by kernel_rfl) ?_
  refine wpC_take 0 (v := ?_) rfl (by kernel_rfl) (fun _ _ _ h => h) (by kernel_rfl) ?_ ?_; rotate_left; · (intro wC hC; obtain c1 := hC; go_simp <;> with_reducible rfl)
  refine wpC_take 1 (v := ?_) rfl (by kernel_rfl) (fun _ _ _ h => h) (by kernel_rfl) ?_ ?_; rotate_left; · (intro wC hC; obtain c1 := hC; go_simp <;> with_reducible rfl)
  refine wpC_take 2 (v := ?_) rfl (by kernel_rfl) (fun _ _ _ h => h) (by kernel_rfl) ?_ ?_; rotate_left; · (intro wC hC; obtain c1 := hC; go_simp <;> with_reducible rfl)
  refine wpC_take 3 (v := ?_) rfl (by kernel_rfl) (fun _ _ _ h => h) (by kernel_rfl) ?_ ?_; rotate_left; · (intro wC hC; obtain c1 := hC; go_simp <;> with_reducible rfl)
  refine wpC_take 5 (v := ?_) rfl (by kernel_rfl) (fun _ _ _ h => h) (by kernel_rfl) ?_ ?_; rotate_left; · (intro wC hC; obtain c1 := hC; go_simp <;> with_reducible rfl)
  refine wpC_step 4 rfl (by kernel_rfl) (by kernel_rfl) (cls _ (cdrew bq)) (fun K hK => ?_)
  go_simp
  go_wp2_with ((go_at_call 49; go_must (refine (k5 _ _ _ (HW2.out.below (cdrew bq)) (HV3.out.below (cdrew bq))).mono ?_); rintro e w4 ⟨v4, rfl, hr4, hb4⟩))
  try (refine hK _ _ ?_; clear hK K)
  have b4 : Below w3.heap.size w3 w4 := cthen (cdrew bq) hb4
  refine wpC_step 6 rfl (by kernel_rfl) (by kernel_rfl) (cls _ b4) (fun K hK => ?_)
  go_simp
  go_wp2_with ((go_at_call 46; go_must (refine (k6 _ _ hr4).mono ?_); rintro e w5 ⟨rfl, hb5⟩))
  try (refine hK _ _ ?_; clear hK K)
  have b5 : Below w3.heap.size w3 w5 := cthen b4 hb5
  have RR := (b5.block (w.heap.size + 1 + 1) z3_2).trans HR3_2.out
  have r0 := rowcell RR 0
  have r1 := rowcell RR 1
  have r2 := rowcell RR 2
  have r3 := rowcell RR 3
  have r4 := rowcell RR 4
  have r5 := rowcell RR 5
  have rf := rowfree RR
  simp only [List.getElem?_toArray, List.getElem?_cons_zero, List.getElem?_cons_succ] at r0 r1 r2 r3 r4 r5
  refine wpC_step 7 rfl (by kernel_rfl) (by kernel_rfl) (cls _ b5) (fun K hK => ?_)
  go_simp
  try (refine hK _ _ ?_; clear hK K)
  refine wpC_done (by kernel_rfl) (by simp [go_sem, cls _ b5]) ?_
  go_wp2
  refine bodyPost_ret (v := .agg #[.int .i64 K, .bool B, .int .i64 S, .int .u64 H, .int .u64 L, .bool R]) (by simp [results, Try.results24, go_sem, r0, r1, r2, r3, r4, r5]) rfl (hQ.out _ _ ⟨by simp, ?_⟩)
  exact cset6 (cthen (cthen (cthen (cthen (cmore (cmore (cmore (Below.refl _ _) _) _) _) HB1.out) HB2.out) HB3.out) b5) (by omega)
set_option maxHeartbeats 4000000 in
theorem sum9_far_add (neg : Bool) (s : Int) (hi lo : Nat) (neg' : Bool) (s' : Int) (hi' lo' : Nat) (h : WordsX hi lo) (h' : WordsX hi' lo') (hs : -1099511627776 ≤ s ∧ s ≤ 1099511627776) (hs' : -1099511627776 ≤ s' ∧ s' ≤ 1099511627776) (hle : s' ≤ s) (hf : 400 < s - s') (hn : neg = neg') (d : Nat) (hd : d = 400) (w : World) :
    Calls Try.prog 24 #[exV 1 neg s hi lo false, exV 1 neg' s' hi' lo' false] w fun e w' => e = .returned (exactV neg (manX hi lo * 2 ^ d + 1) (s - 127 - d) false) ∧ Below w.heap.size w w' := by
  have hM := h.mant
  have hM' := h'.mant
  have hd4 : d ≤ 400 := by omega
  have hbl := @mul_blen (manX hi lo) d (manX hi' lo') hM.2 hM'.2 hd4
  have hbl1 := @mul_blen (manX hi lo) d 1 hM.2 (by decide) hd4
  have hTM : Tw (manX hi lo) hi lo := ⟨rfl, by have := h.hi64; omega, by have := h.lo64; omega⟩
  have hTM' : Tw (manX hi' lo') hi' lo' := ⟨rfl, by have := h'.hi64; omega, by have := h'.lo64; omega⟩
  have hA1 : blen (manX hi lo * 2 ^ d) ≤ 1000 := Nat.le_trans (blen_mono (Nat.le_add_right _ _)) hbl
  have hS0 := dlen_mant hM.2
  have hSA := dlen_of_blen (Nat.le_trans hA1 (by decide : 1000 ≤ 1099511627776))
  have k1 := fun w => rof_any hTM w
  have k2 := fun w => rof_any hTM' w
  have k3 := fun v w hr => nshl_anyq v (manX hi lo) d (by omega) hS0 w hr
  have hNb : blen (manX hi lo * 2 ^ d + 1) ≤ 1000 := hbl1
  have k5 := fun va vb w ha hb => nadd_anyq va vb (manX hi lo * 2 ^ d) (1) (dlen_of_blen (Nat.le_trans hNb (by decide : 1000 ≤ 1099511627776))) w ha hb
  have k6 := fun v w hr => exactly7_any neg v (manX hi lo * 2 ^ d + 1) (s - 127 - d) false (Nat.le_trans hNb (by decide)) (by omega) w hr
  obtain ⟨K, B, S, H, L, R, hform⟩ := exactV_form neg (manX hi lo * 2 ^ d + 1) (s - 127 - d) false
  rw [hform] at k6 ⊢
  have e1 : IntKind.i64.wrap (s - s') = s - s' := wrapI (by omega)
  have g0 : decide (s < s') = false := decide_eq_false (by omega)
  have e2 : IntKind.i64.wrap (s - 127) = s - 127 := wrapI (by omega)
  have e3 : IntKind.i64.wrap (s - 127 - (d : Int)) = s - 127 - (d : Int) := wrapI (by omega)
  have g1 : decide ((400 : Int) < s - s') = true := decide_eq_true hf
  rw [show (d : Int) = 400 by rw [hd]; rfl] at *
  subst hn
  have hle3 : True := trivial
  generalize (manX hi lo * 2 ^ d + 1) = NN at *
  generalize manX hi lo * 2 ^ d = A at *
  generalize manX hi lo = M at *
  generalize manX hi' lo' = M2 at *
  clear hform hbl hbl1 hNb hA1 hSA hS0 hTM hTM' hM hM' h h' hs hs' hle hf hd hd4 hle3
  unfold exV at *
  refine cps fun Q hQ => ?_
  go_enter Try.func24, Try.ntmps24
  go_wp2_with (first
    | (go_at_call_of 44 hi; go_must (refine (k1 _).mono ?_); rintro e w1 ⟨v1, rfl, hr1, hb1⟩; have R1_0 := (hb1.block (w.heap.size) (by first | (simp; done) | (simp; omega) | omega)).trans ((Below.heap_alloc _ _ _ (by first | (simp; done) | (simp; omega) | omega)).trans ((Below.heap_alloc _ _ _ (by first | (simp; done) | (simp; omega) | omega)).trans (rownew' _ _ _ _ (by simp)))); have z1_0 : w.heap.size < w1.heap.size := Nat.lt_of_lt_of_le (by first | (simp; done) | (simp; omega) | omega) hb1.size; have HR1_0 : Hid _ := R1_0; clear R1_0; have R1_1 := (hb1.block (w.heap.size + 1) (by first | (simp; done) | (simp; omega) | omega)).trans ((Below.heap_alloc _ _ _ (by first | (simp; done) | (simp; omega) | omega)).trans (rownew' _ _ _ _ (by simp))); have z1_1 : w.heap.size + 1 < w1.heap.size := Nat.lt_of_lt_of_le (by first | (simp; done) | (simp; omega) | omega) hb1.size; have c1_1_3 := rowcell R1_1 3; have c1_1_4 := rowcell R1_1 4; simp only [List.getElem?_toArray, List.getElem?_cons_zero, List.getElem?_cons_succ] at c1_1_3 c1_1_4; have HR1_1 : Hid _ := R1_1; clear R1_1; have R1_2 := (hb1.block (w.heap.size + 1 + 1) (by first | (simp; done) | (simp; omega) | omega)).trans (rownew' _ _ _ _ (by simp)); have z1_2 : w.heap.size + 1 + 1 < w1.heap.size := Nat.lt_of_lt_of_le (by first | (simp; done) | (simp; omega) | omega) hb1.size; have HR1_2 : Hid _ := R1_2; clear R1_2; have HB1 : Hid (Below _ _ _) := hb1; clear hb1; have HV1 : Hid (Row w1 v1 (dig M)) := hr1; clear hr1)
    | (go_at_call_of 44 hi'; go_must (refine (k2 _).mono ?_); rintro e w2 ⟨v2, rfl, hr2, hb2⟩; have R2_0 := (hb2.block (w.heap.size) (by first | (simp; done) | (simp; omega) | omega)).trans HR1_0.out; have z2_0 : w.heap.size < w2.heap.size := Nat.lt_of_lt_of_le (by first | (simp; done) | (simp; omega) | omega) hb2.size; have c2_0_2 := rowcell R2_0 2; simp only [List.getElem?_toArray, List.getElem?_cons_zero, List.getElem?_cons_succ] at c2_0_2; have HR2_0 : Hid _ := R2_0; clear R2_0; have R2_1 := (hb2.block (w.heap.size + 1) (by first | (simp; done) | (simp; omega) | omega)).trans HR1_1.out; have z2_1 : w.heap.size + 1 < w2.heap.size := Nat.lt_of_lt_of_le (by first | (simp; done) | (simp; omega) | omega) hb2.size; have c2_1_2 := rowcell R2_1 2; simp only [List.getElem?_toArray, List.getElem?_cons_zero, List.getElem?_cons_succ] at c2_1_2; have HR2_1 : Hid _ := R2_1; clear R2_1; have R2_2 := (hb2.block (w.heap.size + 1 + 1) (by first | (simp; done) | (simp; omega) | omega)).trans HR1_2.out; have z2_2 : w.heap.size + 1 + 1 < w2.heap.size := Nat.lt_of_lt_of_le (by first | (simp; done) | (simp; omega) | omega) hb2.size; have HR2_2 : Hid _ := R2_2; clear R2_2; have HB2 : Hid (Below _ _ _) := hb2; clear hb2; have HV2 : Hid (Row w2 v2 (dig M2)) := hr2; have HW1 : Hid (Row w2 v1 (dig M)) := HV1.out.below HB2.out; clear hr2)
    | (go_at_call 45; go_must (refine (k3 _ _ (HW1.out.below (cmore (Below.refl _ _) _))).mono ?_); rintro e w3 ⟨v3, rfl, hr3, hb3⟩; have R3_0 := (hb3.block (w.heap.size) (by first | (simp; done) | (simp; omega) | omega)).trans ((Below.heap_alloc _ _ _ (by first | (simp; done) | (simp; omega) | omega)).trans HR2_0.out); have z3_0 : w.heap.size < w3.heap.size := Nat.lt_of_lt_of_le (by first | (simp; done) | (simp; omega) | omega) hb3.size; have c3_0_2 := rowcell R3_0 2; have c3_0_1 := rowcell R3_0 1; simp only [List.getElem?_toArray, List.getElem?_cons_zero, List.getElem?_cons_succ] at c3_0_2 c3_0_1; have HR3_0 : Hid _ := R3_0; clear R3_0; have R3_1 := (hb3.block (w.heap.size + 1) (by first | (simp; done) | (simp; omega) | omega)).trans ((Below.heap_alloc _ _ _ (by first | (simp; done) | (simp; omega) | omega)).trans HR2_1.out); have z3_1 : w.heap.size + 1 < w3.heap.size := Nat.lt_of_lt_of_le (by first | (simp; done) | (simp; omega) | omega) hb3.size; have c3_1_1 := rowcell R3_1 1; simp only [List.getElem?_toArray, List.getElem?_cons_zero, List.getElem?_cons_succ] at c3_1_1; have HR3_1 : Hid _ := R3_1; clear R3_1; have R3_2 := (hb3.block (w.heap.size + 1 + 1) (by first | (simp; done) | (simp; omega) | omega)).trans ((Below.heap_alloc _ _ _ (by first | (simp; done) | (simp; omega) | omega)).trans HR2_2.out); have z3_2 : w.heap.size + 1 + 1 < w3.heap.size := Nat.lt_of_lt_of_le (by first | (simp; done) | (simp; omega) | omega) hb3.size; have HR3_2 : Hid _ := R3_2; clear R3_2; have R3_3 := (hb3.block (w2.heap.size) (by first | (simp; done) | (simp; omega) | omega)).trans (rownew' _ _ _ _ (by simp)); have z3_3 : w2.heap.size < w3.heap.size := Nat.lt_of_lt_of_le (by first | (simp; done) | (simp; omega) | omega) hb3.size; have HR3_3 : Hid _ := R3_3; clear R3_3; have HB3 : Hid (Below _ _ _) := hb3; clear hb3; have HV3 : Hid (Row w3 v3 (dig A)) := hr3; have HW2 : Hid (Row w3 _ (dig 1)) := (row_lit w2 3 1 (by decide) (by decide)).below HB3.out; clear hr3))
  have bq : Below w3.heap.size w3 w3 := Below.refl _ _
  have cls : ∀ W, Below w3.heap.size w3 W → W.cell? ⟨w.heap.size, 1, none⟩ = some (.bool neg) := fun W hW => (hW.cell (p := ⟨w.heap.size, 1, none⟩) z3_0).trans c3_0_1
  refine wpC_region (fun W => W.cell? ⟨w.heap.size, 1, none⟩ = some (.bool neg)) (by kernel_rfl) ?_
  refine wpC_take 0 (v := ?_) rfl (by kernel_rfl) (fun _ _ _ h => h) (by kernel_rfl) ?_ ?_; rotate_left; · (intro wC hC; obtain c1 := hC; go_simp <;> with_reducible rfl)
  refine wpC_take 1 (v := ?_) rfl (by kernel_rfl) (fun _ _ _ h => h) (by kernel_rfl) ?_ ?_; rotate_left; · (intro wC hC; obtain c1 := hC; go_simp <;> with_reducible rfl)
  refine wpC_take 2 (v := ?_) rfl (by kernel_rfl) (fun _ _ _ h => h) (by kernel_rfl) ?_ ?_; rotate_left; · (intro wC hC; obtain c1 := hC; go_simp <;> with_reducible rfl)
  refine wpC_take 3 (v := ?_) rfl (by kernel_rfl) (fun _ _ _ h => h) (by kernel_rfl) ?_ ?_; rotate_left; · (intro wC hC; obtain c1 := hC; go_simp <;> with_reducible rfl)
  refine wpC_take 5 (v := ?_) rfl (by kernel_rfl) (fun _ _ _ h => h) (by kernel_rfl) ?_ ?_; rotate_left; · (intro wC hC; obtain c1 := hC; go_simp <;> with_reducible rfl)
  refine wpC_step 4 rfl (by kernel_rfl) (by kernel_rfl) (cls _ (cdrew bq)) (fun K hK => ?_)
  go_simp
  go_wp2_with ((go_at_call 47; go_must (refine (k5 _ _ _ (HV3.out.below (cdrew bq)) (HW2.out.below (cdrew bq))).mono ?_); rintro e w4 ⟨v4, rfl, hr4, hb4⟩))
  try (refine hK _ _ ?_; clear hK K)
  have b4 : Below w3.heap.size w3 w4 := cthen (cdrew bq) hb4
  refine wpC_step 6 rfl (by kernel_rfl) (by kernel_rfl) (cls _ b4) (fun K hK => ?_)
  go_simp
  go_wp2_with ((go_at_call 46; go_must (refine (k6 _ _ hr4).mono ?_); rintro e w5 ⟨rfl, hb5⟩))
  try (refine hK _ _ ?_; clear hK K)
  have b5 : Below w3.heap.size w3 w5 := cthen b4 hb5
  have RR := (b5.block (w.heap.size + 1 + 1) z3_2).trans HR3_2.out
  have r0 := rowcell RR 0
  have r1 := rowcell RR 1
  have r2 := rowcell RR 2
  have r3 := rowcell RR 3
  have r4 := rowcell RR 4
  have r5 := rowcell RR 5
  have rf := rowfree RR
  simp only [List.getElem?_toArray, List.getElem?_cons_zero, List.getElem?_cons_succ] at r0 r1 r2 r3 r4 r5
  refine wpC_step 7 rfl (by kernel_rfl) (by kernel_rfl) (cls _ b5) (fun K hK => ?_)
  go_simp
  try (refine hK _ _ ?_; clear hK K)
  refine wpC_done (by kernel_rfl) (by simp [go_sem, cls _ b5]) ?_
  go_wp2
  refine bodyPost_ret (v := .agg #[.int .i64 K, .bool B, .int .i64 S, .int .u64 H, .int .u64 L, .bool R]) (by simp [results, Try.results24, go_sem, r0, r1, r2, r3, r4, r5]) rfl (hQ.out _ _ ⟨by simp, ?_⟩)
  exact cset6 (cthen (cthen (cmore (cthen (cthen (cmore (cmore (cmore (Below.refl _ _) _) _) _) HB1.out) HB2.out) _) HB3.out) b5) (by omega)
set_option maxHeartbeats 4000000 in
theorem sum9_far_sub (neg : Bool) (s : Int) (hi lo : Nat) (neg' : Bool) (s' : Int) (hi' lo' : Nat) (h : WordsX hi lo) (h' : WordsX hi' lo') (hs : -1099511627776 ≤ s ∧ s ≤ 1099511627776) (hs' : -1099511627776 ≤ s' ∧ s' ≤ 1099511627776) (hle : s' ≤ s) (hf : 400 < s - s') (hn : neg ≠ neg') (d : Nat) (hd : d = 400) (hc : 1 ≤ manX hi lo * 2 ^ d) (w : World) :
    Calls Try.prog 24 #[exV 1 neg s hi lo false, exV 1 neg' s' hi' lo' false] w fun e w' => e = .returned (exactV neg (manX hi lo * 2 ^ d - 1) (s - 127 - d) false) ∧ Below w.heap.size w w' := by
  have hM := h.mant
  have hM' := h'.mant
  have hd4 : d ≤ 400 := by omega
  have hbl := @mul_blen (manX hi lo) d (manX hi' lo') hM.2 hM'.2 hd4
  have hbl1 := @mul_blen (manX hi lo) d 1 hM.2 (by decide) hd4
  have hTM : Tw (manX hi lo) hi lo := ⟨rfl, by have := h.hi64; omega, by have := h.lo64; omega⟩
  have hTM' : Tw (manX hi' lo') hi' lo' := ⟨rfl, by have := h'.hi64; omega, by have := h'.lo64; omega⟩
  have hA1 : blen (manX hi lo * 2 ^ d) ≤ 1000 := Nat.le_trans (blen_mono (Nat.le_add_right _ _)) hbl
  have hS0 := dlen_mant hM.2
  have hSA := dlen_of_blen (Nat.le_trans hA1 (by decide : 1000 ≤ 1099511627776))
  have k1 := fun w => rof_any hTM w
  have k2 := fun w => rof_any hTM' w
  have k3 := fun v w hr => nshl_anyq v (manX hi lo) d (by omega) hS0 w hr
  have hNb : blen (manX hi lo * 2 ^ d - 1) ≤ 1000 := Nat.le_trans (blen_mono (Nat.sub_le _ _)) hA1
  have k4 := fun va vb w ha hb => ncmp_anyq va vb (manX hi lo * 2 ^ d) (1) w ha hb
  have hcm : decide ((0 : Int) ≤ cmpN (manX hi lo * 2 ^ d) (1)) = true := cmp_ge hc
  have k5 := fun va vb w ha hb => nsub_anyq va vb (manX hi lo * 2 ^ d) (1) hc hSA w ha hb
  have k6 := fun v w hr => exactly7_any neg v (manX hi lo * 2 ^ d - 1) (s - 127 - d) false (Nat.le_trans hNb (by decide)) (by omega) w hr
  obtain ⟨K, B, S, H, L, R, hform⟩ := exactV_form neg (manX hi lo * 2 ^ d - 1) (s - 127 - d) false
  rw [hform] at k6 ⊢
  have e1 : IntKind.i64.wrap (s - s') = s - s' := wrapI (by omega)
  have g0 : decide (s < s') = false := decide_eq_false (by omega)
  have e2 : IntKind.i64.wrap (s - 127) = s - 127 := wrapI (by omega)
  have e3 : IntKind.i64.wrap (s - 127 - (d : Int)) = s - 127 - (d : Int) := wrapI (by omega)
  have g1 : decide ((400 : Int) < s - s') = true := decide_eq_true hf
  rw [show (d : Int) = 400 by rw [hd]; rfl] at *
  have hnb : (neg == neg') = false := beq_eq_false_iff_ne.2 hn
  have hle3 : True := trivial
  generalize (manX hi lo * 2 ^ d - 1) = NN at *
  generalize manX hi lo * 2 ^ d = A at *
  generalize manX hi lo = M at *
  generalize manX hi' lo' = M2 at *
  clear hform hbl hbl1 hNb hA1 hSA hS0 hTM hTM' hM hM' h h' hs hs' hle hf hd hd4 hle3 hn hc
  unfold exV at *
  refine cps fun Q hQ => ?_
  go_enter Try.func24, Try.ntmps24
  go_wp2_with (first
    | (go_at_call_of 44 hi; go_must (refine (k1 _).mono ?_); rintro e w1 ⟨v1, rfl, hr1, hb1⟩; have R1_0 := (hb1.block (w.heap.size) (by first | (simp; done) | (simp; omega) | omega)).trans ((Below.heap_alloc _ _ _ (by first | (simp; done) | (simp; omega) | omega)).trans ((Below.heap_alloc _ _ _ (by first | (simp; done) | (simp; omega) | omega)).trans (rownew' _ _ _ _ (by simp)))); have z1_0 : w.heap.size < w1.heap.size := Nat.lt_of_lt_of_le (by first | (simp; done) | (simp; omega) | omega) hb1.size; have HR1_0 : Hid _ := R1_0; clear R1_0; have R1_1 := (hb1.block (w.heap.size + 1) (by first | (simp; done) | (simp; omega) | omega)).trans ((Below.heap_alloc _ _ _ (by first | (simp; done) | (simp; omega) | omega)).trans (rownew' _ _ _ _ (by simp))); have z1_1 : w.heap.size + 1 < w1.heap.size := Nat.lt_of_lt_of_le (by first | (simp; done) | (simp; omega) | omega) hb1.size; have c1_1_3 := rowcell R1_1 3; have c1_1_4 := rowcell R1_1 4; simp only [List.getElem?_toArray, List.getElem?_cons_zero, List.getElem?_cons_succ] at c1_1_3 c1_1_4; have HR1_1 : Hid _ := R1_1; clear R1_1; have R1_2 := (hb1.block (w.heap.size + 1 + 1) (by first | (simp; done) | (simp; omega) | omega)).trans (rownew' _ _ _ _ (by simp)); have z1_2 : w.heap.size + 1 + 1 < w1.heap.size := Nat.lt_of_lt_of_le (by first | (simp; done) | (simp; omega) | omega) hb1.size; have HR1_2 : Hid _ := R1_2; clear R1_2; have HB1 : Hid (Below _ _ _) := hb1; clear hb1; have HV1 : Hid (Row w1 v1 (dig M)) := hr1; clear hr1)
    | (go_at_call_of 44 hi'; go_must (refine (k2 _).mono ?_); rintro e w2 ⟨v2, rfl, hr2, hb2⟩; have R2_0 := (hb2.block (w.heap.size) (by first | (simp; done) | (simp; omega) | omega)).trans HR1_0.out; have z2_0 : w.heap.size < w2.heap.size := Nat.lt_of_lt_of_le (by first | (simp; done) | (simp; omega) | omega) hb2.size; have c2_0_2 := rowcell R2_0 2; simp only [List.getElem?_toArray, List.getElem?_cons_zero, List.getElem?_cons_succ] at c2_0_2; have HR2_0 : Hid _ := R2_0; clear R2_0; have R2_1 := (hb2.block (w.heap.size + 1) (by first | (simp; done) | (simp; omega) | omega)).trans HR1_1.out; have z2_1 : w.heap.size + 1 < w2.heap.size := Nat.lt_of_lt_of_le (by first | (simp; done) | (simp; omega) | omega) hb2.size; have c2_1_2 := rowcell R2_1 2; simp only [List.getElem?_toArray, List.getElem?_cons_zero, List.getElem?_cons_succ] at c2_1_2; have HR2_1 : Hid _ := R2_1; clear R2_1; have R2_2 := (hb2.block (w.heap.size + 1 + 1) (by first | (simp; done) | (simp; omega) | omega)).trans HR1_2.out; have z2_2 : w.heap.size + 1 + 1 < w2.heap.size := Nat.lt_of_lt_of_le (by first | (simp; done) | (simp; omega) | omega) hb2.size; have HR2_2 : Hid _ := R2_2; clear R2_2; have HB2 : Hid (Below _ _ _) := hb2; clear hb2; have HV2 : Hid (Row w2 v2 (dig M2)) := hr2; have HW1 : Hid (Row w2 v1 (dig M)) := HV1.out.below HB2.out; clear hr2)
    | (go_at_call 45; go_must (refine (k3 _ _ (HW1.out.below (cmore (Below.refl _ _) _))).mono ?_); rintro e w3 ⟨v3, rfl, hr3, hb3⟩; have R3_0 := (hb3.block (w.heap.size) (by first | (simp; done) | (simp; omega) | omega)).trans ((Below.heap_alloc _ _ _ (by first | (simp; done) | (simp; omega) | omega)).trans HR2_0.out); have z3_0 : w.heap.size < w3.heap.size := Nat.lt_of_lt_of_le (by first | (simp; done) | (simp; omega) | omega) hb3.size; have c3_0_2 := rowcell R3_0 2; have c3_0_1 := rowcell R3_0 1; simp only [List.getElem?_toArray, List.getElem?_cons_zero, List.getElem?_cons_succ] at c3_0_2 c3_0_1; have HR3_0 : Hid _ := R3_0; clear R3_0; have R3_1 := (hb3.block (w.heap.size + 1) (by first | (simp; done) | (simp; omega) | omega)).trans ((Below.heap_alloc _ _ _ (by first | (simp; done) | (simp; omega) | omega)).trans HR2_1.out); have z3_1 : w.heap.size + 1 < w3.heap.size := Nat.lt_of_lt_of_le (by first | (simp; done) | (simp; omega) | omega) hb3.size; have c3_1_1 := rowcell R3_1 1; simp only [List.getElem?_toArray, List.getElem?_cons_zero, List.getElem?_cons_succ] at c3_1_1; have HR3_1 : Hid _ := R3_1; clear R3_1; have R3_2 := (hb3.block (w.heap.size + 1 + 1) (by first | (simp; done) | (simp; omega) | omega)).trans ((Below.heap_alloc _ _ _ (by first | (simp; done) | (simp; omega) | omega)).trans HR2_2.out); have z3_2 : w.heap.size + 1 + 1 < w3.heap.size := Nat.lt_of_lt_of_le (by first | (simp; done) | (simp; omega) | omega) hb3.size; have HR3_2 : Hid _ := R3_2; clear R3_2; have R3_3 := (hb3.block (w2.heap.size) (by first | (simp; done) | (simp; omega) | omega)).trans (rownew' _ _ _ _ (by simp)); have z3_3 : w2.heap.size < w3.heap.size := Nat.lt_of_lt_of_le (by first | (simp; done) | (simp; omega) | omega) hb3.size; have HR3_3 : Hid _ := R3_3; clear R3_3; have HB3 : Hid (Below _ _ _) := hb3; clear hb3; have HV3 : Hid (Row w3 v3 (dig A)) := hr3; have HW2 : Hid (Row w3 _ (dig 1)) := (row_lit w2 3 1 (by decide) (by decide)).below HB3.out; clear hr3)
    | (go_at_call 48; go_must (refine (k4 _ _ _ HV3.out HW2.out).mono ?_); rintro e wx ⟨rfl, q, rfl⟩))
  have bq : Below w3.heap.size w3 (w3.drewN q) := below_drewN (Below.refl _ _) q
  have cls : ∀ W, Below w3.heap.size w3 W → W.cell? ⟨w.heap.size, 1, none⟩ = some (.bool neg) := fun W hW => (hW.cell (p := ⟨w.heap.size, 1, none⟩) z3_0).trans c3_0_1
  refine wpC_region (fun W => W.cell? ⟨w.heap.size, 1, none⟩ = some (.bool neg)) (by kernel_rfl) ?_
  refine wpC_take 0 (v := ?_) rfl (by kernel_rfl) (fun _ _ _ h => h) (by kernel_rfl) ?_ ?_; rotate_left; · (intro wC hC; obtain c1 := hC; go_simp <;> with_reducible rfl)
  refine wpC_take 1 (v := ?_) rfl (by kernel_rfl) (fun _ _ _ h => h) (by kernel_rfl) ?_ ?_; rotate_left; · (intro wC hC; obtain c1 := hC; go_simp <;> with_reducible rfl)
  refine wpC_take 2 (v := ?_) rfl (by kernel_rfl) (fun _ _ _ h => h) (by kernel_rfl) ?_ ?_; rotate_left; · (intro wC hC; obtain c1 := hC; go_simp <;> with_reducible rfl)
  refine wpC_take 3 (v := ?_) rfl (by kernel_rfl) (fun _ _ _ h => h) (by kernel_rfl) ?_ ?_; rotate_left; · (intro wC hC; obtain c1 := hC; go_simp <;> with_reducible rfl)
  refine wpC_take 5 (v := ?_) rfl (by kernel_rfl) (fun _ _ _ h => h) (by kernel_rfl) ?_ ?_; rotate_left; · (intro wC hC; obtain c1 := hC; go_simp <;> with_reducible rfl)
  refine wpC_step 4 rfl (by kernel_rfl) (by kernel_rfl) (cls _ (cdrew bq)) (fun K hK => ?_)
  go_simp
  go_wp2_with ((go_at_call 49; go_must (refine (k5 _ _ _ (HV3.out.below (cdrew bq)) (HW2.out.below (cdrew bq))).mono ?_); rintro e w4 ⟨v4, rfl, hr4, hb4⟩))
  try (refine hK _ _ ?_; clear hK K)
  have b4 : Below w3.heap.size w3 w4 := cthen (cdrew bq) hb4
  refine wpC_step 6 rfl (by kernel_rfl) (by kernel_rfl) (cls _ b4) (fun K hK => ?_)
  go_simp
  go_wp2_with ((go_at_call 46; go_must (refine (k6 _ _ hr4).mono ?_); rintro e w5 ⟨rfl, hb5⟩))
  try (refine hK _ _ ?_; clear hK K)
  have b5 : Below w3.heap.size w3 w5 := cthen b4 hb5
  have RR := (b5.block (w.heap.size + 1 + 1) z3_2).trans HR3_2.out
  have r0 := rowcell RR 0
  have r1 := rowcell RR 1
  have r2 := rowcell RR 2
  have r3 := rowcell RR 3
  have r4 := rowcell RR 4
  have r5 := rowcell RR 5
  have rf := rowfree RR
  simp only [List.getElem?_toArray, List.getElem?_cons_zero, List.getElem?_cons_succ] at r0 r1 r2 r3 r4 r5
  refine wpC_step 7 rfl (by kernel_rfl) (by kernel_rfl) (cls _ b5) (fun K hK => ?_)
  go_simp
  try (refine hK _ _ ?_; clear hK K)
  refine wpC_done (by kernel_rfl) (by simp [go_sem, cls _ b5]) ?_
  go_wp2
  refine bodyPost_ret (v := .agg #[.int .i64 K, .bool B, .int .i64 S, .int .u64 H, .int .u64 L, .bool R]) (by simp [results, Try.results24, go_sem, r0, r1, r2, r3, r4, r5]) rfl (hQ.out _ _ ⟨by simp, ?_⟩)
  exact cset6 (cthen (cthen (cmore (cthen (cthen (cmore (cmore (cmore (Below.refl _ _) _) _) _) HB1.out) HB2.out) _) HB3.out) b5) (by omega)
theorem sum9_down (neg : Bool) (s : Int) (hi lo : Nat) (neg' : Bool) (s' : Int) (hi' lo' : Nat) (h : WordsX hi lo) (h' : WordsX hi' lo') (hs : -1099511627776 ≤ s ∧ s ≤ 1099511627776) (hs' : -1099511627776 ≤ s' ∧ s' ≤ 1099511627776) (hle : s' ≤ s) (w : World) :
    Calls Try.prog 24 #[exV 1 neg s hi lo false, exV 1 neg' s' hi' lo' false] w fun e w' => e = .returned (sumD neg s (manX hi lo) neg' s' (manX hi' lo')) ∧ Below w.heap.size w w' := by
  by_cases hf : 400 < s - s'
  · rw [sumD_branch neg s (manX hi lo) neg' s' (manX hi' lo') 400 1 (.inr ⟨hf, rfl, rfl⟩)]
    obtain ⟨d, hd⟩ : ∃ d : Nat, d = 400 := ⟨_, rfl⟩
    rw [← hd]
    by_cases hn : neg = neg'
    · rw [if_pos hn]; exact sum9_far_add neg s hi lo neg' s' hi' lo' h h' hs hs' hle hf hn d hd w
    · have hc : 1 ≤ manX hi lo * 2 ^ d := Nat.mul_pos (by have := h.mant.1; have := Nat.pow_pos (n := 127) (show 0 < 2 by decide); omega) (Nat.pow_pos (by decide))
      rw [if_neg hn, if_pos hc]
      exact sum9_far_sub neg s hi lo neg' s' hi' lo' h h' hs hs' hle hf hn d hd hc w
  · obtain ⟨d, hd⟩ : ∃ d : Nat, (d : Int) = s - s' := ⟨(s - s').toNat, by omega⟩
    rw [sumD_branch neg s (manX hi lo) neg' s' (manX hi' lo') d (manX hi' lo') (.inl ⟨hf, hd, rfl⟩)]
    by_cases hn : neg = neg'
    · rw [if_pos hn]; exact sum9_near_add neg s hi lo neg' s' hi' lo' h h' hs hs' hle hf hn d hd w
    · rw [if_neg hn]
      by_cases hc : manX hi' lo' ≤ manX hi lo * 2 ^ d
      · rw [if_pos hc]; exact sum9_near_sub neg s hi lo neg' s' hi' lo' h h' hs hs' hle hf hn d hd hc w
      · rw [if_neg hc]; exact sum9_near_bus neg s hi lo neg' s' hi' lo' h h' hs hs' hle hf hn d hd hc w
theorem sumD_form (neg : Bool) (s : Int) (M : Nat) (neg' : Bool) (s' : Int) (M' : Nat) : ∃ k b s2 h l r, sumD neg s M neg' s' M' = exV k b s2 h l r := by
  unfold sumD
  simp only
  generalize (if 400 < s - s' then farD else (s - s').toNat) = d
  generalize (if 400 < s - s' then 1 else M') = b
  by_cases hn : neg = neg'
  · rw [if_pos hn]; exact exactV_form _ _ _ _
  · rw [if_neg hn]
    by_cases hc : b ≤ M * 2 ^ d
    · rw [if_pos hc]; exact exactV_form _ _ _ _
    · rw [if_neg hc]; exact exactV_form _ _ _ _
theorem sum9_up (neg : Bool) (s : Int) (hi lo : Nat) (neg' : Bool) (s' : Int) (hi' lo' : Nat) (h : WordsX hi lo) (h' : WordsX hi' lo') (hs : -1099511627776 ≤ s ∧ s ≤ 1099511627776) (hs' : -1099511627776 ≤ s' ∧ s' ≤ 1099511627776) (hle : s < s') (w : World) :
    Calls Try.prog 24 #[exV 1 neg s hi lo false, exV 1 neg' s' hi' lo' false] w fun e w' => e = .returned (sumD neg' s' (manX hi' lo') neg s (manX hi lo)) ∧ Below w.heap.size w w' := by
  have k1 := sum9_down neg' s' hi' lo' neg s hi lo h' h hs' hs (by omega)
  obtain ⟨K, B, S, H, L, R, hform⟩ := sumD_form neg' s' (manX hi' lo') neg s (manX hi lo)
  rw [hform] at k1 ⊢
  have g1 : decide (s < s') = true := decide_eq_true hle
  clear hform h h' hs hs' hle
  unfold exV at *
  refine cps fun Q hQ => ?_
  go_enter Try.func24, Try.ntmps24
  go_wp2_with (go_at_call 24; go_must (refine (k1 _).mono ?_); rintro e w1 ⟨rfl, hb1⟩; have RR := (hb1.block (w.heap.size + 1 + 1) (by simp)).trans (rownew' _ _ _ _ (by simp)); have r0 := rowcell RR 0; have r1 := rowcell RR 1; have r2 := rowcell RR 2; have r3 := rowcell RR 3; have r4 := rowcell RR 4; have r5 := rowcell RR 5; have rf := rowfree RR; simp only [List.getElem?_toArray, List.getElem?_cons_zero, List.getElem?_cons_succ] at r0 r1 r2 r3 r4 r5; have HB1 : Hid (Below _ _ _) := hb1; clear hb1 RR)
  refine bodyPost_ret (v := .agg #[.int .i64 K, .bool B, .int .i64 S, .int .u64 H, .int .u64 L, .bool R]) (by simp [results, Try.results24, go_sem, r0, r1, r2, r3, r4, r5]) rfl (hQ.out _ _ ⟨by simp, ?_⟩)
  exact cset6 (cthen (cmore (cmore (cmore (Below.refl _ _) _) _) _) HB1.out) (by omega)
theorem sum9_nar1 (neg : Bool) (s : Int) (hi lo : Nat) (rest : Bool) (k' : Int) (neg' : Bool) (s' : Int) (hi' lo' : Nat) (rest' : Bool) (w : World) :
    Calls Try.prog 24 #[exV 2 neg s hi lo rest, exV k' neg' s' hi' lo' rest'] w fun e w' => e = .returned (exV 2 false 0 0 0 false) ∧ Below w.heap.size w w' := by
  unfold exV at *
  refine cps fun Q hQ => ?_
  go_enter Try.func24, Try.ntmps24
  go_wp2
  refine bodyPost_ret (v := .agg #[.int .i64 2, .bool false, .int .i64 0, .int .u64 0, .int .u64 0, .bool false]) (by simp [results, Try.results24, go_sem]) rfl (hQ.out _ _ ⟨by simp, ?_⟩)
  exact cmore (cmore (cmore (Below.refl _ _) _) _) _
theorem sum9_nar2 (k : Int) (neg : Bool) (s : Int) (hi lo : Nat) (rest : Bool) (neg' : Bool) (s' : Int) (hi' lo' : Nat) (rest' : Bool) (hk : k ≠ 2) (w : World) :
    Calls Try.prog 24 #[exV k neg s hi lo rest, exV 2 neg' s' hi' lo' rest'] w fun e w' => e = .returned (exV 2 false 0 0 0 false) ∧ Below w.heap.size w w' := by
  have g : (k == 2) = false := beq_eq_false_iff_ne.2 hk
  clear hk
  unfold exV at *
  refine cps fun Q hQ => ?_
  go_enter Try.func24, Try.ntmps24
  go_wp2
  refine bodyPost_ret (v := .agg #[.int .i64 2, .bool false, .int .i64 0, .int .u64 0, .int .u64 0, .bool false]) (by simp [results, Try.results24, go_sem]) rfl (hQ.out _ _ ⟨by simp, ?_⟩)
  exact cmore (cmore (cmore (Below.refl _ _) _) _) _
theorem sum9_zero1 (neg : Bool) (s : Int) (hi lo : Nat) (rest : Bool) (k' : Int) (neg' : Bool) (s' : Int) (hi' lo' : Nat) (rest' : Bool) (hk : k' ≠ 2) (w : World) :
    Calls Try.prog 24 #[exV 0 neg s hi lo rest, exV k' neg' s' hi' lo' rest'] w fun e w' => e = .returned (exV k' neg' s' hi' lo' rest') ∧ Below w.heap.size w w' := by
  have g : (k' == 2) = false := beq_eq_false_iff_ne.2 hk
  clear hk
  unfold exV at *
  refine cps fun Q hQ => ?_
  go_enter Try.func24, Try.ntmps24
  go_wp2
  refine bodyPost_ret (v := .agg #[.int .i64 k', .bool neg', .int .i64 s', .int .u64 hi', .int .u64 lo', .bool rest']) (by simp [results, Try.results24, go_sem]) rfl (hQ.out _ _ ⟨by simp, ?_⟩)
  exact cmore (cmore (cmore (Below.refl _ _) _) _) _
theorem sum9_zero2 (k : Int) (neg : Bool) (s : Int) (hi lo : Nat) (rest : Bool) (neg' : Bool) (s' : Int) (hi' lo' : Nat) (rest' : Bool) (hk : k ≠ 2) (h0 : k ≠ 0) (w : World) :
    Calls Try.prog 24 #[exV k neg s hi lo rest, exV 0 neg' s' hi' lo' rest'] w fun e w' => e = .returned (exV k neg s hi lo rest) ∧ Below w.heap.size w w' := by
  have g : (k == 2) = false := beq_eq_false_iff_ne.2 hk
  have g0 : (k == 0) = false := beq_eq_false_iff_ne.2 h0
  clear hk h0
  unfold exV at *
  refine cps fun Q hQ => ?_
  go_enter Try.func24, Try.ntmps24
  go_wp2
  refine bodyPost_ret (v := .agg #[.int .i64 k, .bool neg, .int .i64 s, .int .u64 hi, .int .u64 lo, .bool rest]) (by simp [results, Try.results24, go_sem]) rfl (hQ.out _ _ ⟨by simp, ?_⟩)
  exact cmore (cmore (cmore (Below.refl _ _) _) _) _
theorem sound_words {neg : Bool} {s : Int} {hi lo : Nat} {r : Bool} (hh : hi < 2 ^ 64) (hl : lo < 2 ^ 64) (hs : soundX 1 neg s hi lo r = true) : WordsX hi lo ∧ (-1099511627776 ≤ s ∧ s ≤ 1099511627776) := by
  unfold soundX at hs
  rw [if_neg (by decide)] at hs
  obtain ⟨_, a, b, c⟩ := of_decide_eq_true hs
  exact ⟨⟨a, hh, hl⟩, b, c⟩
/-- of any two that are sound, without Rest -/
theorem sum9_any (k : Int) (neg : Bool) (s : Int) (hi lo : Nat) (k' : Int) (neg' : Bool) (s' : Int) (hi' lo' : Nat) (hh : hi < 2 ^ 64) (hl : lo < 2 ^ 64) (hh' : hi' < 2 ^ 64) (hl' : lo' < 2 ^ 64) (hs : soundX k neg s hi lo false = true) (hs' : soundX k' neg' s' hi' lo' false = true) (w : World) :
    Calls Try.prog 24 #[exV k neg s hi lo false, exV k' neg' s' hi' lo' false] w fun e w' => e = .returned (sum9 k neg s hi lo k' neg' s' hi' lo') ∧ Below w.heap.size w w' := by
  unfold sum9
  by_cases h2 : k = 2
  · subst h2
    rw [if_pos (.inl rfl)]
    exact sum9_nar1 neg s hi lo false k' neg' s' hi' lo' false w
  · by_cases h2' : k' = 2
    · subst h2'
      rw [if_pos (.inr rfl)]
      exact sum9_nar2 k neg s hi lo false neg' s' hi' lo' false h2 w
    · rw [if_neg (by rintro (c | c); exact h2 c; exact h2' c)]
      by_cases h0 : k = 0
      · subst h0
        rw [if_pos rfl]
        exact sum9_zero1 neg s hi lo false k' neg' s' hi' lo' false h2' w
      · rw [if_neg h0]
        by_cases h0' : k' = 0
        · subst h0'
          rw [if_pos rfl]
          exact sum9_zero2 k neg s hi lo false neg' s' hi' lo' false h2 h0 w
        · rw [if_neg h0']
          have hk : k = 1 := by rcases soundX_cases hs with ⟨c, _⟩ | ⟨c, _⟩ | c; exact absurd c h0; exact absurd c h2; exact c
          have hk' : k' = 1 := by rcases soundX_cases hs' with ⟨c, _⟩ | ⟨c, _⟩ | c; exact absurd c h0'; exact absurd c h2'; exact c
          subst hk hk'
          obtain ⟨a, b⟩ := sound_words hh hl hs
          obtain ⟨a', b'⟩ := sound_words hh' hl' hs'
          unfold sumR
          by_cases c : s < s'
          · rw [if_pos c]; exact sum9_up neg s hi lo neg' s' hi' lo' a a' b b' c w
          · rw [if_neg c]; exact sum9_down neg s hi lo neg' s' hi' lo' a a' b b' (by omega) w
end Go.Proofs.Ytheliihkkoohnaa

namespace Go.Proofs.Ytheliihkkoohnaa
open Go.ChangeShapes Go.WideShapes Go.ChangeAt Go.RowKit
set_option linter.unusedVariables false
set_option linter.unusedSimpArgs false
set_option maxRecDepth 100000

theorem sumR_form (neg : Bool) (s : Int) (M : Nat) (neg' : Bool) (s' : Int) (M' : Nat) : ∃ k b s2 h l r, sumR neg s M neg' s' M' = exV k b s2 h l r := by
  unfold sumR
  by_cases c : s < s'
  · rw [if_pos c]; exact sumD_form _ _ _ _ _ _
  · rw [if_neg c]; exact sumD_form _ _ _ _ _ _
theorem sum9_form (k : Int) (neg : Bool) (s : Int) (hi lo : Nat) (k' : Int) (neg' : Bool) (s' : Int) (hi' lo' : Nat) : ∃ k2 b s2 h l r, sum9 k neg s hi lo k' neg' s' hi' lo' = exV k2 b s2 h l r := by
  unfold sum9
  by_cases h : k = 2 ∨ k' = 2
  · rw [if_pos h]; exact ⟨_, _, _, _, _, _, rfl⟩
  · rw [if_neg h]
    by_cases h0 : k = 0
    · rw [if_pos h0]; exact ⟨_, _, _, _, _, _, rfl⟩
    · rw [if_neg h0]
      by_cases h1 : k' = 0
      · rw [if_pos h1]; exact ⟨_, _, _, _, _, _, rfl⟩
      · rw [if_neg h1]; exact sumR_form _ _ _ _ _ _
theorem vF_lt (n x : Nat) : vF n x < 2 ^ 64 := by
  unfold vF
  split
  · exact (wordL_bounds _).2
  · decide
end Go.Proofs.Ytheliihkkoohnaa

namespace Go.Proofs.Ytheliihkkoohnaa
open Go.ChangeShapes Go.WideShapes Go.ChangeAt Go.RowKit
set_option linter.unusedVariables false
set_option linter.unusedSimpArgs false
set_option maxRecDepth 100000

/-! ### the document's products -/
theorem prod10_form (k : Int) (neg : Bool) (s : Int) (f : Nat) (k' : Int) (neg' : Bool) (s' : Int) (g : Nat) : ∃ k2 b s2 h l r, prod10 k neg s f k' neg' s' g = exV k2 b s2 h l r := by
  unfold prod10
  by_cases h : k = 2 ∨ k' = 2
  · rw [if_pos h]; exact ⟨_, _, _, _, _, _, rfl⟩
  · rw [if_neg h]
    by_cases h0 : k = 0 ∨ k' = 0
    · rw [if_pos h0]; exact ⟨_, _, _, _, _, _, rfl⟩
    · rw [if_neg h0]; exact exactV_form _ _ _ _
end Go.Proofs.Ytheliihkkoohnaa

namespace Go.Proofs.Ytheliihkkoohnaa
open Go.ChangeShapes Go.WideShapes Go.ChangeAt Go.RowKit
set_option linter.unusedVariables false
set_option linter.unusedSimpArgs false
set_option maxRecDepth 100000

/-! ### powers of 2 as patterns -/
def P63 : Nat := 9223372036854775808
theorem P63_man : manX P63 0 = 2 ^ 127 := by unfold manX P63; decide
theorem P63_words : WordsX P63 0 := ⟨by decide, by decide, by decide⟩
def okT (n : Nat) (s : Int) : Bool := inR n s && fitsN n s P63
def patT (n : Nat) (s : Int) : Nat := if okT n s then patOf n false (cutL n s P63) else 0
theorem okT_facts (n : Nat) (s : Int) (hn : Wd n) (h : okT n s = true) :
    patT n s < 2 ^ n ∧ vK n (patT n s) = 1 ∧ valI n (patT n s) = sg false (manX P63 0) * ((2 ^ (s + 248).toNat : Nat) : Int) ∧ 8 - 4 * (n : Int) ≤ s ∧ s ≤ 4 * n - 8 ∧ patT n s = rndX n s P63 0 false := by
  obtain ⟨h1, h2⟩ := Bool.and_eq_true_iff.1 h
  obtain ⟨ht, hl⟩ := cut_true n s P63 hn h1
  obtain ⟨p1, p2, p3, p4⟩ := patOf_facts n hn false (cutL n s P63) hl ht
  obtain ⟨f1, f2⟩ := of_decide_eq_true h2
  have hr := of_decide_eq_true h1
  have e : patT n s = patOf n false (cutL n s P63) := by unfold patT; rw [if_pos h]
  rw [e]
  refine ⟨p1, p2, ?_, hr.1, hr.2, ?_⟩
  · unfold valI
    have k1 : vK n (patOf n false (cutL n s P63)) = 1 := p2
    have k2 : vB n (patOf n false (cutL n s P63)) = false := by unfold vB; rw [if_pos p2, p3]
    have k3 : vS n (patOf n false (cutL n s P63)) = s := by unfold vS; rw [if_pos p2, p4, f1]
    have k4 : vF n (patOf n false (cutL n s P63)) = P63 := by unfold vF; rw [if_pos p2, p4, f2]
    rw [if_pos k1, k2, k3, k4]
  · have := rnd_home n (cutL n s P63) hn hl ht
    rw [f1, f2] at this
    rw [this]; rfl
theorem two_mul (n : Nat) (s t : Int) (hn : Wd n) (hs : okT n s = true) (ht : okT n t = true) : patP n (patT n s) (patT n t) = rndX n (s + t) P63 0 false := by
  obtain ⟨_, a2, a3, a4, a5, _⟩ := okT_facts n s hn hs
  obtain ⟨_, b2, b3, b4, b5, _⟩ := okT_facts n t hn ht
  have hw := wd_le hn
  unfold patP
  rw [if_neg (by rw [a2, b2]; decide), a3, b3]
  have e1 : sg false (manX P63 0) * ((2 ^ (s + 248).toNat : Nat) : Int) * (sg false (manX P63 0) * ((2 ^ (t + 248).toNat : Nat) : Int)) = sg false (manX P63 0) * ((2 ^ (s + t + 623).toNat : Nat) : Int) := by
    rw [← sg_mul, ← sg_mul, ← sg_mul, sg_times]
    have hx : xorB false false = false := rfl
    rw [hx]
    congr 1
    rw [P63_man, ← Nat.pow_add, ← Nat.pow_add, ← Nat.pow_add, ← Nat.pow_add]
    congr 1
    omega
  rw [e1]
  have h := exI_real false (s + t) P63 0 P63_words (by omega) (-623) (s + t + 623).toNat (by omega)
  rw [show (-623 : Int) - 127 = eN + eN from rfl] at h
  have h0 : sg false (manX P63 0) * ((2 ^ (s + t + 623).toNat : Nat) : Int) ≠ 0 := by
    rw [← sg_mul, P63_man]
    have : 0 < 2 ^ 127 * 2 ^ (s + t + 623).toNat := Nat.mul_pos (Nat.pow_pos (by decide)) (Nat.pow_pos (by decide))
    unfold sg
    rw [if_neg (by decide)]
    generalize 2 ^ 127 * 2 ^ (s + t + 623).toNat = x at *
    omega
  rw [patI_of h0 h]
  rfl
end Go.Proofs.Ytheliihkkoohnaa

namespace Go.Proofs.Ytheliihkkoohnaa
set_option maxRecDepth 100000
set_option linter.unusedVariables false
set_option linter.unusedSimpArgs false

/-! ### quotients (plain mathematics) -/
theorem own_real (n a : Nat) (hn : Wd n) (ha : a < 2 ^ 64) (ka : vK n a = 1) : patR n (vB n a) (rndX n (vS n a) (vF n a) 0 false) = a % 2 ^ n := by
  obtain ⟨e1, e2, e3, ht, hl, hk', hwd, _⟩ := v_real n a hn ha ka
  rw [e2, e3, rnd_home n _ hn hl ht, patR_of, e1]
  exact (patOf_str n a hn ha hk').2
theorem patR_not (n : Nat) (neg : Bool) (R : Nat) (hn : Wd n) (h1 : 1 ≤ R) (h2 : R ≤ 2 ^ (n - 1) - 1) : patR n (!neg) R = negO n (patR n neg R) := by
  obtain ⟨H, p1, p2, p3, _⟩ := wd_pows hn
  rw [p2] at h2
  have hlt : patR n neg R < 2 ^ n := by unfold patR; split <;> omega
  rw [negO_eq n _ hn (lt64_of hn hlt), Nat.mod_eq_of_lt hlt]
  unfold patR
  cases neg
  · simp only [Bool.not_false, if_true, Bool.false_eq_true, if_false]
    rw [Nat.mod_eq_of_lt (by omega)]
  · simp only [Bool.not_true, if_true, Bool.false_eq_true, if_false]
    rw [Nat.mod_eq_of_lt (by omega)]; omega
theorem xorB_self (a : Bool) : xorB a a = false := by cases a <;> rfl
theorem real_or (n a : Nat) (hn : Wd n) (h2 : vK n a ≠ 2) (h0 : vK n a ≠ 0) : vK n a = 1 := by
  rcases v_kinds n a hn with ⟨h, _⟩ | h | ⟨h, _⟩
  · exact absurd h h0
  · exact h
  · exact absurd h h2
end Go.Proofs.Ytheliihkkoohnaa

namespace Go.Proofs.Ytheliihkkoohnaa
set_option linter.unusedVariables false
set_option linter.unusedSimpArgs false
set_option maxRecDepth 100000

/-! ### roots (plain mathematics) -/
def rtF (m : Nat) : Nat → Nat → Nat
  | r, 0 => r
  | r, k + 1 => rtF m (if (r + 2 ^ k) * (r + 2 ^ k) ≤ m then r + 2 ^ k else r) k
theorem rtF_ok (m : Nat) : ∀ k r, r * r ≤ m → m < (r + 2 ^ k) * (r + 2 ^ k) → rtF m r k * rtF m r k ≤ m ∧ m < (rtF m r k + 1) * (rtF m r k + 1) := by
  intro k
  induction k with
  | zero => intro r h1 h2; exact ⟨h1, h2⟩
  | succ k ih =>
    intro r h1 h2
    unfold rtF
    by_cases h : (r + 2 ^ k) * (r + 2 ^ k) ≤ m
    · rw [if_pos h]
      refine ih _ h ?_
      rw [Nat.add_assoc, ← Nat.two_mul, ← Nat.pow_succ']
      exact h2
    · rw [if_neg h]
      exact ih _ h1 (by omega)
def rtN (m : Nat) : Nat := rtF m 0 71
theorem rtN_ok {m : Nat} (h : m < 2 ^ 142) : rtN m * rtN m ≤ m ∧ m < (rtN m + 1) * (rtN m + 1) :=
  rtF_ok m 71 0 (by omega) (by rw [Nat.zero_add, ← Nat.pow_add]; exact h)
theorem sq_le' {a b : Nat} (h : a * a < (b + 1) * (b + 1)) : a ≤ b := by
  refine Nat.le_of_not_lt fun c => ?_
  have := Nat.mul_le_mul (show b + 1 ≤ a by omega) (show b + 1 ≤ a by omega)
  omega
def rtH (m : Nat) : Nat := rtN m / 2 ^ 7
def rtR (m : Nat) : Bool := decide (rtH m * rtH m * 2 ^ 14 ≠ m)
theorem sq_shift (a : Nat) : (a * 2 ^ 7) * (a * 2 ^ 7) = a * a * 2 ^ 14 := by rw [Nat.mul_mul_mul_comm, ← Nat.pow_add]
theorem rtH_ok {m : Nat} (h : m < 2 ^ 142) : rtH m * rtH m * 2 ^ 14 ≤ m ∧ m < (rtH m + 1) * (rtH m + 1) * 2 ^ 14 := by
  obtain ⟨h1, h2⟩ := rtN_ok h
  have hd := Nat.div_add_mod (rtN m) (2 ^ 7)
  have hm := Nat.mod_lt (rtN m) (show 0 < 2 ^ 7 by decide)
  rw [show rtN m / 2 ^ 7 = rtH m from rfl] at hd
  rw [← sq_shift, ← sq_shift]
  constructor
  · exact Nat.le_trans (Nat.mul_le_mul (show rtH m * 2 ^ 7 ≤ rtN m by omega) (show rtH m * 2 ^ 7 ≤ rtN m by omega)) h1
  · exact Nat.lt_of_lt_of_le h2 (Nat.mul_le_mul (by omega) (by omega))
theorem rtH_one {m r : Nat} (h : m < 2 ^ 142) (h1 : r * r * 2 ^ 14 ≤ m) (h2 : m < (r + 1) * (r + 1) * 2 ^ 14) : r = rtH m := by
  obtain ⟨a, b⟩ := rtH_ok h
  have c1 : r ≤ rtH m := sq_le' (by
    have := Nat.lt_of_le_of_lt h1 b
    exact Nat.lt_of_mul_lt_mul_right this)
  have c2 : rtH m ≤ r := sq_le' (by
    have := Nat.lt_of_le_of_lt a h2
    exact Nat.lt_of_mul_lt_mul_right this)
  omega
/-- the number whose root is taken, times 2^14 -/
def mR (s : Int) (M : Nat) : Nat := M * 2 ^ (13 + (s % 2).toNat)
theorem mR_two (s : Int) (M : Nat) : (s % 2 = 0 ∧ mR s M = M * 2 ^ 13) ∨ (s % 2 = 1 ∧ mR s M = M * 2 ^ 14) := by
  rcases Int.emod_two_eq s with h | h
  · exact .inl ⟨h, by unfold mR; rw [h]; rfl⟩
  · exact .inr ⟨h, by unfold mR; rw [h]; rfl⟩
theorem mR_size (s : Int) {M : Nat} (h : Mant M) : 2 ^ 140 ≤ mR s M ∧ mR s M < 2 ^ 142 := by
  obtain ⟨h1, h2⟩ := h
  rcases mR_two s M with ⟨_, e⟩ | ⟨_, e⟩ <;> rw [e] <;> omega
theorem rt_words {m : Nat} (h1 : 2 ^ 140 ≤ m) (h2 : m < 2 ^ 142) : 2 ^ 70 ≤ rtN m ∧ rtN m < 2 ^ 71 ∧ WordsX (rtH m) 0 := by
  obtain ⟨a, b⟩ := rtN_ok h2
  have c1 : 2 ^ 70 ≤ rtN m := sq_le' (by rw [← Nat.pow_add]; exact Nat.lt_of_le_of_lt h1 b)
  have c2 : rtN m < 2 ^ 71 := by
    have : rtN m ≤ 2 ^ 71 - 1 := sq_le' (by rw [Nat.sub_add_cancel (by decide), ← Nat.pow_add]; exact Nat.lt_of_le_of_lt a h2)
    have h0 : 0 < 2 ^ 71 := by decide
    omega
  refine ⟨c1, c2, ⟨?_, ?_, by decide⟩⟩
  · unfold rtH; omega
  · unfold rtH; omega
def root12 (k : Int) (neg : Bool) (s : Int) (hi lo : Nat) (rest : Bool) : Value :=
  if k = 2 ∨ neg = true then exV 2 false 0 0 0 false
  else if k = 0 then exV 0 false 0 0 0 false
  else exV 1 false (s / 2) (rtH (mR s (manX hi lo))) 0 (rtR (mR s (manX hi lo)) || rest)
/-- the root of a square -/
theorem square_root {f : Nat} (h : WordsX f 0) (s : Int) : rtH (mR (2 * s - 126 + blen (f * f) - 1) (normN (f * f))) = f ∧ rtR (mR (2 * s - 126 + blen (f * f) - 1) (normN (f * f))) = false ∧ (2 * s - 126 + blen (f * f) - 1) / 2 = s ∧ lostN (f * f) = false := by
  have h1 := h.top
  have h2 := h.hi64
  have hl : 2 ^ 126 ≤ f * f := by
    have := Nat.mul_le_mul h1 h1
    exact Nat.le_trans (by decide) this
  have hu : f * f < 2 ^ 128 := by
    have := Nat.mul_lt_mul_of_lt_of_lt h2 h2
    exact Nat.lt_of_lt_of_le this (by decide)
  have key : mR (2 * s - 126 + blen (f * f) - 1) (normN (f * f)) = f * f * 2 ^ 14 ∧ (2 * s - 126 + blen (f * f) - 1) / 2 = s ∧ lostN (f * f) = false := by
    by_cases c : f * f < 2 ^ 127
    · have hb : blen (f * f) = 127 := blen_at (m := 126) hl c
      have hn : normN (f * f) = f * f * 2 ^ 1 := by unfold normN; rw [hb, if_pos (by decide)]
      have hlo : lostN (f * f) = false := by unfold lostN; rw [hb, decide_eq_false (by omega), Bool.false_and]
      refine ⟨?_, by rw [hb]; omega, hlo⟩
      rw [hb, hn]
      rcases mR_two (2 * s - 126 + ((127 : Nat) : Int) - 1) (f * f * 2 ^ 1) with ⟨p, e⟩ | ⟨p, e⟩
      · rw [e, Nat.mul_assoc]
      · exfalso; clear hl hu c hb hn hlo e h1 h2; omega
    · have hb : blen (f * f) = 128 := blen_at (m := 127) (by omega) hu
      have hn : normN (f * f) = f * f := by unfold normN; rw [hb, if_neg (by decide)]; simp
      have hlo : lostN (f * f) = false := by unfold lostN; rw [hb, decide_eq_false (by omega), Bool.false_and]
      refine ⟨?_, by rw [hb]; omega, hlo⟩
      rw [hb, hn]
      rcases mR_two (2 * s - 126 + ((128 : Nat) : Int) - 1) (f * f) with ⟨p, e⟩ | ⟨p, e⟩
      · exfalso; clear hl hu c hb hn hlo e h1 h2; omega
      · rw [e]
  obtain ⟨e, e2, e3⟩ := key
  rw [e]
  have hm : f * f * 2 ^ 14 < 2 ^ 142 := by omega
  have hr : f = rtH (f * f * 2 ^ 14) := rtH_one hm (Nat.le_refl _) (Nat.mul_lt_mul_of_pos_right (Nat.mul_lt_mul_of_lt_of_lt (by omega) (by omega)) (by decide))
  refine ⟨hr.symm, ?_, e2, e3⟩
  unfold rtR
  rw [← hr]
  simp
end Go.Proofs.Ytheliihkkoohnaa

namespace Go.Proofs.Ytheliihkkoohnaa
set_option linter.unusedVariables false
set_option linter.unusedSimpArgs false
set_option maxRecDepth 100000

/-! ### the root of a square, as patterns (plain mathematics) -/
theorem abs_home (n a : Nat) (hn : Wd n) (ha : a < 2 ^ 64) (ka : vK n a = 1) : rndX n (vS n a) (vF n a) 0 false = absO n a := by
  obtain ⟨_, _, _, _, _, _, wa, _⟩ := v_real n a hn ha ka
  obtain ⟨r1, r2⟩ := rnd_range n (vS n a) (vF n a) 0 false hn wa
  have h := own_real n a hn ha ka
  have hr : patR n false (rndX n (vS n a) (vF n a) 0 false) = rndX n (vS n a) (vF n a) 0 false := rfl
  have he := extOf_patR n hn (vB n a) _ r1 r2
  rw [h, rank_mod n a hn] at he
  unfold absO
  cases hb : vB n a
  · rw [hb] at h he
    simp only [Bool.false_eq_true, if_false] at he
    rw [if_neg (by omega), ← h, hr]
  · rw [hb] at h he
    simp only [if_true] at he
    rw [if_pos (by omega), ← negO_mod n a hn ha, ← h, ← patR_not n true _ hn r1 r2]
    exact hr
theorem abs_zero (n a : Nat) (hn : Wd n) (ka : vK n a = 0) : absO n a = 0 := by
  have hz : a % 2 ^ n = 0 := by
    rcases v_kinds n a hn with ⟨_, h⟩ | h | ⟨h, _⟩
    · exact h
    · rw [ka] at h; exact absurd h (by decide)
    · rw [ka] at h; exact absurd h (by decide)
  unfold absO
  rw [rank_zero n a hn hz, if_neg (by decide), hz]
end Go.Proofs.Ytheliihkkoohnaa

namespace Go.Proofs.Ytheliihkkoohnaa
open Go.ChangeShapes Go.WideShapes Go.ChangeAt Go.RowKit
set_option linter.unusedVariables false
set_option maxRecDepth 100000

theorem Row.other {w : World} {v u : Value} {l : List Nat} {g j : Nat} (h : Row w v l) (hne : v.ownBlock ≠ some g) : Row (w.setCell ⟨g, j, none⟩ u) v l := by
  obtain ⟨ao, c, rfl, hc, hl, h⟩ := h
  refine ⟨ao, c, rfl, hc, hl, ?_⟩
  rcases h with h | ⟨b, off, rfl, hlt, h⟩
  · exact .inl h
  · have hb : b ≠ g := fun e => hne (by rw [e]; rfl)
    refine .inr ⟨b, off, rfl, hlt.set, fun i hi => ?_⟩
    rw [World.cell?_setCell_other w ⟨g, j, none⟩ ⟨b, off + i, none⟩ u (by intro e; exact hb (by injection e with e1; exact e1.symm)), h i hi]
end Go.Proofs.Ytheliihkkoohnaa

namespace Go.Proofs.Ytheliihkkoohnaa
open Go.ChangeShapes Go.WideShapes Go.ChangeAt Go.RowKit
set_option linter.unusedVariables false
set_option maxRecDepth 100000

end Go.Proofs.Ytheliihkkoohnaa

namespace Go.Proofs.Ytheliihkkoohnaa
open Go.ChangeShapes Go.WideShapes Go.ChangeAt Go.RowKit
set_option linter.unusedVariables false
set_option linter.unusedSimpArgs false
set_option maxRecDepth 100000

/-! ### the document's quotients -/
end Go.Proofs.Ytheliihkkoohnaa

namespace Go.Proofs.Ytheliihkkoohnaa
open Go.ChangeShapes Go.WideShapes Go.ChangeAt Go.RowKit
set_option linter.unusedVariables false

/-! ### one digit (32 bits) of a quotient, as the library's Div64 finds it -/
end Go.Proofs.Ytheliihkkoohnaa

namespace Go.Proofs.Ytheliihkkoohnaa
set_option maxRecDepth 100000
open Go.ChangeShapes Go.WideShapes Go.ChangeAt Go.RowKit
set_option linter.unusedVariables false

end Go.Proofs.Ytheliihkkoohnaa

namespace Go.Proofs.Ytheliihkkoohnaa
set_option maxRecDepth 100000
open Go.ChangeShapes Go.WideShapes Go.ChangeAt Go.RowKit
set_option linter.unusedVariables false

theorem tw_some {n : Nat} (h : n < 340282366920938463463374607431768211456) : ∃ h l, Tw n h l := ⟨n / 18446744073709551616, n % 18446744073709551616, by omega, by omega, by omega⟩
end Go.Proofs.Ytheliihkkoohnaa

namespace Go.Proofs.Ytheliihkkoohnaa
set_option maxRecDepth 100000
open Go.ChangeShapes Go.WideShapes Go.ChangeAt Go.RowKit
set_option linter.unusedVariables false

end Go.Proofs.Ytheliihkkoohnaa

namespace Go.Proofs.Ytheliihkkoohnaa
set_option maxRecDepth 100000
open Go.ChangeShapes Go.WideShapes Go.ChangeAt Go.RowKit
set_option linter.unusedVariables false

theorem sq_lt {r a : Nat} (h : r * r ≤ a) (ha : a < 340282366920938463463374607431768211456) : r < 18446744073709551616 := by
  by_cases g : r < 18446744073709551616
  · exact g
  · have := Nat.mul_le_mul (show 18446744073709551616 ≤ r by omega) (show 18446744073709551616 ≤ r by omega)
    omega
theorem sq_one {r s a : Nat} (h1 : r * r ≤ a) (h2 : a < (r + 1) * (r + 1)) (h3 : s * s ≤ a) (h4 : a < (s + 1) * (s + 1)) : r = s := by
  rcases Nat.lt_trichotomy r s with g | g | g
  · have := Nat.mul_le_mul (show r + 1 ≤ s by omega) (show r + 1 ≤ s by omega); omega
  · exact g
  · have := Nat.mul_le_mul (show s + 1 ≤ r by omega) (show s + 1 ≤ r by omega); omega
end Go.Proofs.Ytheliihkkoohnaa

namespace Go.Proofs.Ytheliihkkoohnaa
set_option maxRecDepth 100000
open Go.ChangeShapes Go.WideShapes Go.ChangeAt Go.RowKit
set_option linter.unusedVariables false

theorem or_bit (m i : Nat) : m * 2 ^ (i + 1) ||| 2 ^ i = m * 2 ^ (i + 1) + 2 ^ i := by
  have h := Nat.shiftLeft_add_eq_or_of_lt (a := m) (b := 2 ^ i) (i := i + 1) (Nat.pow_lt_pow_right (by decide) (by omega))
  rw [Nat.shiftLeft_eq] at h
  exact h.symm
theorem or_room {m i : Nat} (hi : i < 64) (h : m * 2 ^ (i + 1) < 18446744073709551616) : m * 2 ^ (i + 1) + 2 ^ i < 18446744073709551616 := by
  have e : 2 ^ (63 - i) * 2 ^ (i + 1) = 18446744073709551616 := by rw [← Nat.pow_add, show 63 - i + (i + 1) = 64 by omega]
  have h1 : m < 2 ^ (63 - i) := by
    by_cases g : m < 2 ^ (63 - i)
    · exact g
    · have := Nat.mul_le_mul_right (2 ^ (i + 1)) (Nat.le_of_not_lt g)
      omega
  have h2 := Nat.mul_le_mul_right (2 ^ (i + 1)) h1
  rw [Nat.succ_mul] at h2
  have h3 : 2 ^ (i + 1) = 2 ^ i * 2 := Nat.pow_succ 2 i
  have h4 : 0 < 2 ^ i := Nat.pow_pos (by decide)
  generalize 2 ^ i = p at *
  generalize 2 ^ (i + 1) = p2 at *
  generalize m * p2 = x at *
  omega
set_option maxHeartbeats 4000000 in
theorem proot_any {a h1 l1 r h l : Nat} (ha : Tw a h1 l1) (hr1 : r * r ≤ a) (hr2 : a < (r + 1) * (r + 1)) (hl : Tw (a - r * r) h l) (w : World) :
    Calls Try.prog 95 #[.agg #[.int .u64 h1, .int .u64 l1]] w fun e w' => e = .returned (.tuple #[.int .u64 r, .agg #[.int .u64 h, .int .u64 l]]) ∧ Below w.heap.size w w' := by
  refine cps fun Q hQ => ?_
  have la := ha.lt
  have lr := sq_lt hr1 la
  obtain ⟨h2, l2, t2⟩ := tw_some (n := r * r) (by omega)
  have k1 := fun w => tmul_any (show r ≤ 18446744073709551615 by omega) (show r ≤ 18446744073709551615 by omega) t2 w
  have k2 := fun w => tsub_any (c := false) ha t2 (h := h) (l := l) (by
    rw [show a + 340282366920938463463374607431768211456 - r * r = (a - r * r) + 340282366920938463463374607431768211456 by omega, Nat.add_mod_right, Nat.mod_eq_of_lt (by omega)]
    exact hl) (decide_eq_false (by omega)).symm w
  have HR : Hid (∀ R, R * R ≤ a → a < (R + 1) * (R + 1) → R = r) := fun R x y => sq_one x y hr1 hr2
  have HA : Hid (Tw a h1 l1 ∧ a < 340282366920938463463374607431768211456) := ⟨ha, la⟩
  have HS : Hid (a < (0 + 2 ^ 64) * (0 + 2 ^ 64)) := show _ < _ by omega
  clear ha hr1 hr2 hl la lr t2
  obtain ⟨W, hW⟩ : ∃ W, W = (w.alloc (.cells #[.int .u64 h1, .int .u64 l1] 69)).alloc (.cells #[.int .u64 0, .int .u64 0] 69) := ⟨_, rfl⟩
  have H0 : Below w.heap.size w W := by rw [hW]; exact bmore (bmore (Below.refl _ _) _) _
  have z0 : w.heap.size + 1 < W.heap.size := by rw [hW]; simp
  have z1 : w.heap.size < W.heap.size := by omega
  have cls : ∀ V, Below W.heap.size W V → V.cell? ⟨w.heap.size, 0, none⟩ = some (.int .u64 h1) ∧ V.cell? ⟨w.heap.size, 1, none⟩ = some (.int .u64 l1) := fun V hV => by
    obtain ⟨c, _⟩ := bcell hV
    rw [c _ _ z1, c _ _ z1, hW]
    simp [go_sem]
  have box : ∀ V, Below W.heap.size W V → V.cell? ⟨w.heap.size + 1, 0, none⟩ = some (.int .u64 0) ∧ V.cell? ⟨w.heap.size + 1, 1, none⟩ = some (.int .u64 0) ∧ V.frozen? ⟨w.heap.size + 1, 0, none⟩ = false ∧ V.frozen? ⟨w.heap.size + 1, 1, none⟩ = false := fun V hV => by
    obtain ⟨c, f⟩ := bcell hV
    rw [c _ _ z0, c _ _ z0, f _ _ z0, f _ _ z0, hW]
    simp [go_sem]
  go_enter Try.func95, Try.ntmps95
  go_wp2
  rw [← hW]
  clear hW
  go_loopw [4, 5] (fun rv kv wr => ∃ R j m : Nat, j ≤ 64 ∧ rv = .int .u64 R ∧ kv = .int .u64 ((2 ^ j / 2 : Nat) : Int) ∧ Hid (R = m * 2 ^ j) ∧ Hid (R * R ≤ a) ∧ Hid (a < (R + 2 ^ j) * (R + 2 ^ j)) ∧ Below W.heap.size W wr) (fun _ kv _ => (intOf kv).toNat)
  case atStart => exact ⟨0, 64, 0, by decide, rfl, rfl, (Nat.zero_mul _).symm, Nat.zero_le _, HS.out, Below.refl _ _⟩
  case round =>
    obtain ⟨R, j, m, hj, rfl, rfl, hmul, hlo, hup, hbel⟩ := hrel
    by_cases h0 : 0 < j
    · obtain ⟨i, rfl⟩ : ∃ i, j = i + 1 := ⟨j - 1, by omega⟩
      have lR := sq_lt hlo.out HA.out.2
      have pp : 2 ^ (i + 1) / 2 = 2 ^ i := by rw [Nat.pow_succ]; omega
      have p0 : 0 < 2 ^ i := Nat.pow_pos (by decide)
      have room : R + 2 ^ i < 18446744073709551616 := by rw [hmul.out]; exact or_room (by omega) (by rw [← hmul.out]; exact lR)
      have v1 : bits .or .u64 (R : Int) ((2 ^ i : Nat) : Int) = ((R + 2 ^ i : Nat) : Int) := by
        rw [u64_or_nat R (2 ^ i) lR (by omega), hmul.out, or_bit]
      have hup' : a < (R + 2 ^ i + 2 ^ i) * (R + 2 ^ i + 2 ^ i) := by
        have := hup.out
        rw [Nat.pow_succ, show R + 2 ^ i * 2 = R + 2 ^ i + 2 ^ i by omega] at this
        exact this
      have m1 : R = (m * 2) * 2 ^ i := by rw [hmul.out, Nat.pow_succ, Nat.mul_assoc, Nat.mul_comm 2]
      have m2 : R + 2 ^ i = (m * 2 + 1) * 2 ^ i := by rw [Nat.add_mul, Nat.one_mul, ← m1]
      have HM : Hid (R = (m * 2) * 2 ^ i ∧ R + 2 ^ i = (m * 2 + 1) * 2 ^ i) := ⟨m1, m2⟩
      clear m1 m2
      rw [pp]
      have v2 : ((2 ^ i : Nat) : Int) / 2 = ((2 ^ i / 2 : Nat) : Int) := by omega
      obtain ⟨p, hp⟩ : ∃ p, p = 2 ^ i := ⟨_, rfl⟩
      obtain ⟨s, hs⟩ : ∃ s, s = R + 2 ^ i := ⟨_, rfl⟩
      obtain ⟨n, hn⟩ : ∃ n, n = 2 ^ i / 2 := ⟨_, rfl⟩
      rw [← hs] at v1 hup' room
      rw [← hn] at v2
      rw [← hp] at v1 v2 p0 hup' ⊢
      have HP : Hid (p = 2 ^ i ∧ s = R + 2 ^ i ∧ n = 2 ^ i / 2) := ⟨hp, hs, hn⟩
      clear hp hs hn pp
      obtain ⟨h3, l3, t3⟩ := tw_some (n := s * s) (by have := Nat.mul_le_mul (show s ≤ 18446744073709551615 by omega) (show s ≤ 18446744073709551615 by omega); omega)
      have g1 := fun w => tmul_any (show s ≤ 18446744073709551615 by omega) (show s ≤ 18446744073709551615 by omega) t3 w
      have g2 := fun w => tcmp_any t3 HA.out.1 w
      obtain ⟨x, hx⟩ : ∃ x, x = cmpN (s * s) a := ⟨_, rfl⟩
      rw [← hx] at g2
      have hxx : (x ≤ 0 ∧ s * s ≤ a) ∨ (0 < x ∧ a < s * s) := by
        rw [hx]
        rcases Nat.lt_trichotomy (s * s) a with g | g | g
        · rw [cmpN_lt g]; exact .inl ⟨by decide, by omega⟩
        · rw [g, cmpN_eq]; exact .inl ⟨by decide, Nat.le_refl _⟩
        · rw [cmpN_gt g]; exact .inr ⟨by decide, g⟩
      have HU : Hid _ := hup'
      have px : ((p : Int) > 0) = True := by simp; omega
      clear hup' hx t3 room lR
      go_upto_region 5 with fail
      refine wpC_region (fun W => W.cell? ⟨w.heap.size, 0, none⟩ = some (.int .u64 h1) ∧ W.cell? ⟨w.heap.size, 1, none⟩ = some (.int .u64 l1)) (by kernel_rfl) ?_
      refine wpC_take 0 (v := ?_) rfl (by kernel_rfl) (fun _ _ _ h => h) (by kernel_rfl) ?_ ?_; rotate_left; · (intro wC hC; obtain ⟨c1, c2⟩ := hC; go_simp <;> with_reducible rfl)
      refine wpC_take 1 (v := ?_) rfl (by kernel_rfl) (fun _ _ _ h => h) (by kernel_rfl) ?_ ?_; rotate_left; · (intro wC hC; obtain ⟨c1, c2⟩ := hC; go_simp <;> with_reducible rfl)
      refine wpC_take 2 (v := ?_) rfl (by kernel_rfl) (fun _ _ _ h => h) (by kernel_rfl) ?_ ?_; rotate_left; · (intro wC hC; obtain ⟨c1, c2⟩ := hC; go_simp <;> with_reducible rfl)
      refine wpC_take 3 (v := ?_) rfl (by kernel_rfl) (fun _ _ _ h => h) (by kernel_rfl) ?_ ?_; rotate_left; · (intro wC hC; obtain ⟨c1, c2⟩ := hC; go_simp <;> with_reducible rfl)
      refine wpC_take 4 (v := ?_) rfl (by kernel_rfl) (fun _ _ _ h => h) (by kernel_rfl) ?_ ?_; rotate_left; · (intro wC hC; obtain ⟨c1, c2⟩ := hC; go_simp <;> with_reducible rfl)
      refine wpC_take 5 (v := ?_) rfl (by kernel_rfl) (fun _ _ _ h => h) (by kernel_rfl) ?_ ?_; rotate_left; · (intro wC hC; obtain ⟨c1, c2⟩ := hC; go_simp <;> with_reducible rfl)
      refine wpC_take 7 (v := ?_) rfl (by kernel_rfl) (fun _ _ _ h => h) (by kernel_rfl) ?_ ?_; rotate_left; · (intro wC hC; obtain ⟨c1, c2⟩ := hC; go_simp <;> with_reducible rfl)
      refine wpC_step 6 rfl (by kernel_rfl) (by kernel_rfl) (cls _ (bdrew hbel)) (fun K hK => ?_)
      go_simp
      go_wp2_with ((go_at_call 54; refine (g1 _).mono ?_; rintro e w1 ⟨rfl, hb1⟩; have B1 := bthen (bdrew hbel) hb1))
      try (refine hK _ _ ?_; clear hK K)
      refine wpC_step 8 rfl (by kernel_rfl) (by kernel_rfl) (cls _ B1) (fun K hK => ?_)
      go_simp
      go_wp2_with ((go_at_call 65; refine (g2 _).mono ?_; rintro e w2 ⟨rfl, hb2⟩; have B2 := bthen B1 hb2))
      try (refine hK _ _ ?_; clear hK K)
      refine wpC_step 9 rfl (by kernel_rfl) (by kernel_rfl) (cls _ B2) (fun K hK => ?_)
      go_simp
      try (refine hK _ _ ?_; clear hK K)
      refine wpC_done (by kernel_rfl) (cls _ B2) ?_
      rcases hxx with ⟨x1, x2⟩ | ⟨x1, x2⟩
      all_goals
        have HX : Hid _ := x2
        clear x2
        go_wp2
        go_roundw
        case measure => have := HP.out; simp [intOf]; omega
        case rel =>
          obtain ⟨e1, e2, e3⟩ := HP.out
          obtain ⟨m1, m2⟩ := HM.out
          first
            | exact ⟨s, i, m * 2 + 1, by omega, rfl, by rw [← e3], (by show _ = _; rw [e2]; exact m2), HX.out, (by show _ < _; rw [← e1]; exact HU.out), B2⟩
            | exact ⟨R, i, m * 2, by omega, rfl, by rw [← e3], m1, hlo.out, (by show _ < _; rw [← e2]; exact HX.out), B2⟩
    · have e : j = 0 := by omega
      subst e
      have hR : R = r := HR.out R hlo.out hup.out
      subst hR
      rw [show 2 ^ 0 / 2 = 0 from rfl]
      clear hmul hlo hup HS HR HA
      have y0 : W.heap.size ≤ wr.heap.size := hbel.size
      have r1 : Below wr.heap.size wr wr := Below.refl _ _
      go_upto_region 7 with fail
      go_cut [6, 7] from 25 (fun s11 s12 wx => ∃ n : Nat, s11 = .pointer (some ⟨n, 0, none⟩) ∧ Below wr.heap.size wr wx ∧ wr.heap.size ≤ n ∧ n < wx.heap.size ∧
        wx.cell? ⟨n, 0, none⟩ = some (.int .u64 h) ∧ wx.cell? ⟨n, 1, none⟩ = some (.int .u64 l))
      case first =>
        refine wpC_region (fun W => W.cell? ⟨w.heap.size, 0, none⟩ = some (.int .u64 h1) ∧ W.cell? ⟨w.heap.size, 1, none⟩ = some (.int .u64 l1)) (by kernel_rfl) ?_
        refine wpC_take 0 (v := ?_) rfl (by kernel_rfl) (fun _ _ _ h => h) (by kernel_rfl) ?_ ?_; rotate_left; · (intro wC hC; obtain ⟨c1, c2⟩ := hC; go_simp <;> with_reducible rfl)
        refine wpC_take 1 (v := ?_) rfl (by kernel_rfl) (fun _ _ _ h => h) (by kernel_rfl) ?_ ?_; rotate_left; · (intro wC hC; obtain ⟨c1, c2⟩ := hC; go_simp <;> with_reducible rfl)
        refine wpC_take 2 (v := ?_) rfl (by kernel_rfl) (fun _ _ _ h => h) (by kernel_rfl) ?_ ?_; rotate_left; · (intro wC hC; obtain ⟨c1, c2⟩ := hC; go_simp <;> with_reducible rfl)
        refine wpC_two 3 8 rfl rfl (by kernel_rfl) (by kernel_rfl) (by kernel_rfl) (cls _ (bdrew hbel)) (fun K hK => ?_) (fun K hK => ?_)
        · skip
          go_simp
          go_wp2_with ((go_at_call 54; refine (k1 _).mono ?_; rintro e w2 ⟨rfl, hb2⟩; have B2 := bthen (bdrew r1) hb2))
          try (refine hK _ _ ?_; clear hK K)
          have y2 : wr.heap.size ≤ w2.heap.size := B2.size
          refine wpC_two 4 8 rfl rfl (by kernel_rfl) (by kernel_rfl) (by kernel_rfl) (cls _ (bthen hbel B2)) (fun K hK => ?_) (fun K hK => ?_)
          · skip
            go_simp
            go_wp2_with ((go_at_call 113; refine (k2 _).mono ?_; rintro e w3 ⟨rfl, hb3⟩; have B3 := bthen B2 hb3))
            try (refine hK _ _ ?_; clear hK K)
            have y3 : wr.heap.size ≤ w3.heap.size := B3.size
            refine wpC_take 5 (v := ?_) rfl (by kernel_rfl) (fun _ _ _ h => h) (by kernel_rfl) ?_ ?_; rotate_left; · (intro wC hC; obtain ⟨c1, c2⟩ := hC; go_simp <;> with_reducible rfl)
            refine wpC_take 6 (v := ?_) rfl (by kernel_rfl) (fun _ _ _ h => h) (by kernel_rfl) ?_ ?_; rotate_left; · (intro wC hC; obtain ⟨c1, c2⟩ := hC; go_simp <;> with_reducible rfl)
            refine wpC_take 7 (v := ?_) rfl (by kernel_rfl) (fun _ _ _ h => h) (by kernel_rfl) ?_ ?_; rotate_left; · (intro wC hC; obtain ⟨c1, c2⟩ := hC; go_simp <;> with_reducible rfl)
            refine wpC_step 8 rfl (by kernel_rfl) (by kernel_rfl) (cls _ (bthen hbel B3)) (fun K hK => ?_)
            go_simp
            try (refine hK _ _ ?_; clear hK K)
            refine wpC_step 9 rfl (by kernel_rfl) (by kernel_rfl) (cls _ (bthen hbel (bmore B3 _))) (fun K hK => ?_)
            go_simp
            try (refine hK _ _ ?_; clear hK K)
            refine wpC_step 10 rfl (by kernel_rfl) (by kernel_rfl) (cls _ (bthen hbel (bmore B3 _))) (fun K hK => ?_)
            go_simp
            try (refine hK _ _ ?_; clear hK K)
            refine wpC_done (by kernel_rfl) (cls _ (bthen hbel (bmore B3 _))) ?_
            go_wp2_with fail
            go_meet
            case rel =>
              refine ⟨_, rfl, bmore B3 _, y3, by simp, ?_, ?_⟩ <;> simp [go_sem]
          · skip
            go_simp
            try (refine hK _ _ ?_; clear hK K)
            refine wpC_step 4 rfl (by kernel_rfl) (by kernel_rfl) (cls _ (bthen hbel (bmore B2 _))) (fun K hK => ?_)
            go_simp
            go_wp2_with ((go_at_call 113; refine (k2 _).mono ?_; rintro e w3 ⟨rfl, hb3⟩; have B3 := bthen (bmore B2 _) hb3; obtain ⟨hc3, hf3⟩ := bcell hb3; have y4 : w2.heap.size < w3.heap.size := (by have := hb3.size; simp at this; omega)))
            try (refine hK _ _ ?_; clear hK K)
            refine wpC_step 5 rfl (by kernel_rfl) (by kernel_rfl) (cls _ (bthen hbel B3)) (fun K hK => ?_)
            go_simp
            try (refine hK _ _ ?_; clear hK K)
            refine wpC_take 6 (v := ?_) rfl (by kernel_rfl) (fun _ _ _ h => h) (by kernel_rfl) ?_ ?_; rotate_left; · (intro wC hC; obtain ⟨c1, c2⟩ := hC; go_simp <;> with_reducible rfl)
            refine wpC_take 7 (v := ?_) rfl (by kernel_rfl) (fun _ _ _ h => h) (by kernel_rfl) ?_ ?_; rotate_left; · (intro wC hC; obtain ⟨c1, c2⟩ := hC; go_simp <;> with_reducible rfl)
            refine wpC_step 9 rfl (by kernel_rfl) (by kernel_rfl) (cls _ (bthen hbel B3)) (fun K hK => ?_)
            go_simp
            try (refine hK _ _ ?_; clear hK K)
            refine wpC_step 10 rfl (by kernel_rfl) (by kernel_rfl) (cls _ (bthen hbel (bset (bset B3 y2 _ _) y2 _ _))) (fun K hK => ?_)
            go_simp
            try (refine hK _ _ ?_; clear hK K)
            refine wpC_done (by kernel_rfl) (cls _ (bthen hbel (bset (bset B3 y2 _ _) y2 _ _))) ?_
            go_wp2_with fail
            go_meet
            case rel =>
              refine ⟨_, rfl, bset (bset B3 y2 _ _) y2 _ _, y2, by simp [y4], ?_, ?_⟩ <;> simp [go_sem, hc3]
        · skip
          go_simp
          try (refine hK _ _ ?_; clear hK K)
          refine wpC_step 3 rfl (by kernel_rfl) (by kernel_rfl) (cls _ (bthen hbel (bmore (bdrew r1) _))) (fun K hK => ?_)
          go_simp
          go_wp2_with ((go_at_call 54; refine (k1 _).mono ?_; rintro e w2 ⟨rfl, hb2⟩; obtain ⟨hc2, hf2⟩ := bcell hb2; have B2 := bthen (bmore (bdrew r1) _) hb2; have y4 : wr.heap.size < w2.heap.size := (by have := hb2.size; simp at this; omega)))
          try (refine hK _ _ ?_; clear hK K)
          refine wpC_step 4 rfl (by kernel_rfl) (by kernel_rfl) (cls _ (bthen hbel B2)) (fun K hK => ?_)
          go_simp
          go_wp2_with ((go_at_call 113; refine (k2 _).mono ?_; rintro e w3 ⟨rfl, hb3⟩; have B3 := bthen B2 hb3; obtain ⟨hc3, hf3⟩ := bcell hb3; have y5 : wr.heap.size < w3.heap.size := (by have := hb3.size; omega)))
          try (refine hK _ _ ?_; clear hK K)
          refine wpC_step 5 rfl (by kernel_rfl) (by kernel_rfl) (cls _ (bthen hbel B3)) (fun K hK => ?_)
          go_simp
          try (refine hK _ _ ?_; clear hK K)
          refine wpC_take 6 (v := ?_) rfl (by kernel_rfl) (fun _ _ _ h => h) (by kernel_rfl) ?_ ?_; rotate_left; · (intro wC hC; obtain ⟨c1, c2⟩ := hC; go_simp <;> with_reducible rfl)
          refine wpC_take 7 (v := ?_) rfl (by kernel_rfl) (fun _ _ _ h => h) (by kernel_rfl) ?_ ?_; rotate_left; · (intro wC hC; obtain ⟨c1, c2⟩ := hC; go_simp <;> with_reducible rfl)
          refine wpC_step 9 rfl (by kernel_rfl) (by kernel_rfl) (cls _ (bthen hbel B3)) (fun K hK => ?_)
          go_simp
          try (refine hK _ _ ?_; clear hK K)
          refine wpC_step 10 rfl (by kernel_rfl) (by kernel_rfl) (cls _ (bthen hbel (bset (bset B3 (Nat.le_refl _) _ _) (Nat.le_refl _) _ _))) (fun K hK => ?_)
          go_simp
          try (refine hK _ _ ?_; clear hK K)
          refine wpC_done (by kernel_rfl) (cls _ (bthen hbel (bset (bset B3 (Nat.le_refl _) _ _) (Nat.le_refl _) _ _))) ?_
          go_wp2_with fail
          go_meet
          case rel =>
            refine ⟨_, rfl, bset (bset B3 (Nat.le_refl _) _ _) (Nat.le_refl _) _ _, Nat.le_refl _, by simp [y5], ?_, ?_⟩ <;> simp [go_sem, hc2, hc3, y4]
      case rest =>
        obtain ⟨n, rfl, HB, n1, n2, c5, c6⟩ := hcut
        have H2 := bthen hbel HB
        obtain ⟨b1, b2, b3, b4⟩ := box _ H2
        have m1 : ¬ (w.heap.size + 1 = n) := by omega
        have m2 : ¬ (n = w.heap.size + 1) := by omega
        go_wp2
        go_region
        all_goals
          go_wp2
          refine bodyPost_ret (v := .tuple #[.int .u64 R, .agg #[.int .u64 h, .int .u64 l]]) (by simp [results, Try.results95, go_sem, b1, b2]) rfl (hQ.out _ _ ⟨rfl, ?_⟩)
          exact bdrew (bset (bset (bthen H0 H2) (by omega) _ _) (by omega) _ _)
end Go.Proofs.Ytheliihkkoohnaa

namespace Go.Proofs.Ytheliihkkoohnaa
open Go.ChangeShapes Go.WideShapes Go.ChangeAt Go.RowKit
set_option linter.unusedVariables false
set_option linter.unusedSimpArgs false
set_option maxRecDepth 100000

/-! ### package root, over the landed code -/
theorem ro_even {s : Int} {M : Nat} (h : Mant M) (he : s % 2 = 0) :
    rtH (mR s M) * rtH (mR s M) ≤ M / 2 ^ 1 ∧ M / 2 ^ 1 < (rtH (mR s M) + 1) * (rtH (mR s M) + 1) ∧
      (decide (M % 2 ^ 1 ≠ 0) || decide (M / 2 ^ 1 - rtH (mR s M) * rtH (mR s M) ≠ 0)) = rtR (mR s M) := by
  obtain ⟨a, b⟩ := mR_size s h
  obtain ⟨c1, c2⟩ := rtH_ok b
  have e : mR s M = M * 2 ^ 13 := by
    rcases mR_two s M with ⟨_, e⟩ | ⟨p, _⟩
    · exact e
    · omega
  unfold rtR
  generalize rtH (mR s M) = r at *
  rw [e] at c1 c2 ⊢
  generalize (r + 1) * (r + 1) = q at *
  generalize r * r = p at *
  refine ⟨by omega, by omega, ?_⟩
  rw [Bool.eq_iff_iff, Bool.or_eq_true, decide_eq_true_eq, decide_eq_true_eq, decide_eq_true_eq]
  omega
theorem ro_odd {s : Int} {M : Nat} (h : Mant M) (he : s % 2 = 1) :
    rtH (mR s M) * rtH (mR s M) ≤ M ∧ M < (rtH (mR s M) + 1) * (rtH (mR s M) + 1) ∧
      decide (M - rtH (mR s M) * rtH (mR s M) ≠ 0) = rtR (mR s M) := by
  obtain ⟨a, b⟩ := mR_size s h
  obtain ⟨c1, c2⟩ := rtH_ok b
  have e : mR s M = M * 2 ^ 14 := by
    rcases mR_two s M with ⟨p, _⟩ | ⟨_, e⟩
    · omega
    · exact e
  unfold rtR
  generalize rtH (mR s M) = r at *
  rw [e] at c1 c2 ⊢
  generalize (r + 1) * (r + 1) = q at *
  generalize r * r = p at *
  refine ⟨by omega, by omega, ?_⟩
  rw [Bool.eq_iff_iff, decide_eq_true_eq, decide_eq_true_eq]
  omega
theorem ro_tm {s : Int} : s.tmod 2 = 0 ↔ s % 2 = 0 :=
  ⟨fun h => Int.emod_eq_zero_of_dvd (Int.dvd_of_tmod_eq_zero h), fun h => Int.tmod_eq_zero_of_dvd (Int.dvd_of_emod_eq_zero h)⟩
theorem two_nought {n h l : Nat} (t : Tw n h l) : decide (n ≠ 0) = !(decide (h = 0) && decide (l = 0)) := by
  obtain ⟨e, _, _⟩ := t
  by_cases a : h = 0 <;> by_cases b : l = 0
  · subst a; subst b; rw [e]; rfl
  · rw [decide_eq_true a, decide_eq_false b, decide_eq_true (show n ≠ 0 by omega)]; rfl
  · rw [decide_eq_false a, decide_eq_true (show n ≠ 0 by omega)]; rfl
  · rw [decide_eq_false a, decide_eq_true (show n ≠ 0 by omega)]; rfl
set_option maxHeartbeats 2000000 in
theorem rodig_odd {a h1 l1 r h l : Nat} {x : Bool} (s : Int) (hs : s.tmod 2 ≠ 0) (ha : Tw a h1 l1) (r1 : r * r ≤ a) (r2 : a < (r + 1) * (r + 1)) (hl : Tw (a - r * r) h l) (hx : x = !(decide (h = 0) && decide (l = 0))) (w : World) :
    Calls Try.prog 57 #[.agg #[.int .u64 h1, .int .u64 l1], .int .i64 s] w fun e w' => e = .returned (.tuple #[.int .u64 r, .bool x]) ∧ Below w.heap.size w w' := by
  have k2 := fun w => proot_any ha r1 r2 hl w
  have d1 : (s.tmod 2 == 0) = false := beq_eq_false_iff_ne.2 hs
  have d2 : decide (s.tmod 2 = 0) = false := decide_eq_false hs
  have hcase : (h = 0 ∧ l = 0 ∧ x = false) ∨ (h = 0 ∧ ¬ (l : Int) = 0 ∧ x = true) ∨ (¬ (h : Int) = 0 ∧ x = true) := by
    by_cases g1 : h = 0
    · by_cases g2 : l = 0
      · exact .inl ⟨g1, g2, by rw [hx]; simp [g1, g2]⟩
      · exact .inr (.inl ⟨g1, by omega, by rw [hx]; simp [g2]⟩)
    · exact .inr (.inr ⟨by omega, by rw [hx]; simp [g1]⟩)
  clear hx hl r1 r2 ha hs
  rcases hcase with ⟨rfl, rfl, rfl⟩ | ⟨rfl, g2, rfl⟩ | ⟨g1, rfl⟩
  all_goals
    refine cps fun Q hQ => ?_
    go_enter Try.func57, Try.ntmps57
    go_wp2_with (go_at_call 95; go_must (refine (k2 _).mono ?_); rintro e w2 ⟨rfl, hb2⟩)
    go_quiet (fail)
    go_wp2
    exact hQ.out _ _ ⟨rfl, bdrewN (cmore (cthen (cmore (Below.refl _ _) _) hb2) _) _⟩
set_option maxHeartbeats 2000000 in
theorem rodig_even {a h1 l1 r h' l' h l : Nat} {o x : Bool} (s : Int) (hs : s.tmod 2 = 0) (ha : Tw a h1 l1) (h2 : Tw (a / 2 ^ 1) h' l') (ho : o = decide (a % 2 ^ 1 ≠ 0)) (r1 : r * r ≤ (a / 2 ^ 1)) (r2 : (a / 2 ^ 1) < (r + 1) * (r + 1)) (hl : Tw ((a / 2 ^ 1) - r * r) h l) (hx : x = (o || !(decide (h = 0) && decide (l = 0)))) (w : World) :
    Calls Try.prog 57 #[.agg #[.int .u64 h1, .int .u64 l1], .int .i64 s] w fun e w' => e = .returned (.tuple #[.int .u64 r, .bool x]) ∧ Below w.heap.size w w' := by
  have k1 := fun w => tshr_any (h := h') (l := l') (c := o) 1 (by decide) ha h2 ho w
  rw [show ((1 : Nat) : Int) = 1 from rfl] at k1
  have k2 := fun w => proot_any h2 r1 r2 hl w
  have d1 : (s.tmod 2 == 0) = true := beq_iff_eq.2 hs
  have d2 : decide (s.tmod 2 = 0) = true := decide_eq_true hs
  have hcase : (o = true ∧ x = true) ∨ (o = false ∧ h = 0 ∧ l = 0 ∧ x = false) ∨ (o = false ∧ h = 0 ∧ ¬ (l : Int) = 0 ∧ x = true) ∨ (o = false ∧ ¬ (h : Int) = 0 ∧ x = true) := by
    cases o
    · by_cases g1 : h = 0
      · by_cases g2 : l = 0
        · exact .inr (.inl ⟨rfl, g1, g2, by rw [hx]; simp [g1, g2]⟩)
        · exact .inr (.inr (.inl ⟨rfl, g1, by omega, by rw [hx]; simp [g2]⟩))
      · exact .inr (.inr (.inr ⟨rfl, by omega, by rw [hx]; simp [g1]⟩))
    · exact .inl ⟨rfl, by rw [hx]; rfl⟩
  clear hx hl r1 r2 ha h2 hs ho
  rcases hcase with ⟨rfl, rfl⟩ | ⟨rfl, rfl, rfl, rfl⟩ | ⟨rfl, rfl, g2, rfl⟩ | ⟨rfl, g1, rfl⟩
  all_goals
    refine cps fun Q hQ => ?_
    go_enter Try.func57, Try.ntmps57
    go_wp2_with (first
      | (go_at_call 95; have chk := HB1; go_must (refine (k2 _).mono ?_); rintro e w2 ⟨rfl, hb2⟩)
      | (go_at_call 67; go_must (refine (k1 _).mono ?_); rintro e w1 ⟨rfl, hb1⟩; have R1_0 := (hb1.block (w.heap.size) (by first | (simp; done) | (simp; omega) | omega)).trans (rownew' _ _ _ _ (by simp)); have z1_0 : w.heap.size < w1.heap.size := Nat.lt_of_lt_of_le (by first | (simp; done) | (simp; omega) | omega) hb1.size; have c1_0_0 := rowcell R1_0 0; have c1_0_1 := rowcell R1_0 1; simp only [List.getElem?_toArray, List.getElem?_cons_zero, List.getElem?_cons_succ] at c1_0_0 c1_0_1; have HR1_0 : Hid _ := R1_0; clear R1_0; have HB1 : Hid (Below _ _ _) := hb1; clear hb1; have f1 := rowfree HR1_0.out))
    go_quiet (fail)
    go_wp2
    exact hQ.out _ _ ⟨rfl, bdrewN (cmore (cthen (bset (bset (cthen (cmore (Below.refl _ _) _) HB1.out) (Nat.le_refl _) _ _) (Nat.le_refl _) _ _) hb2) _) _⟩
theorem rodig_any {s : Int} {hi lo : Nat} (hw : WordsX hi lo) (w : World) :
    Calls Try.prog 57 #[.agg #[.int .u64 hi, .int .u64 lo], .int .i64 s] w fun e w' => e = .returned (.tuple #[.int .u64 (rtH (mR s (manX hi lo)) : Nat), .bool (rtR (mR s (manX hi lo)))]) ∧ Below w.heap.size w w' := by
  have hm := hw.mant
  have ha : Tw (manX hi lo) hi lo := ⟨rfl, by have := hw.hi64; omega, by have := hw.lo64; omega⟩
  have hlt := ha.lt
  rcases Int.emod_two_eq s with c | c
  · obtain ⟨a1, a2, a3⟩ := ro_even hm c
    obtain ⟨h', l', t1⟩ := tw_some (n := manX hi lo / 2 ^ 1) (by omega)
    obtain ⟨h, l, t2⟩ := tw_some (n := manX hi lo / 2 ^ 1 - rtH (mR s (manX hi lo)) * rtH (mR s (manX hi lo))) (by omega)
    rw [two_nought t2] at a3
    exact rodig_even s (ro_tm.2 c) ha t1 rfl a1 a2 t2 a3.symm w
  · obtain ⟨a1, a2, a3⟩ := ro_odd hm c
    obtain ⟨h, l, t2⟩ := tw_some (n := manX hi lo - rtH (mR s (manX hi lo)) * rtH (mR s (manX hi lo))) (by omega)
    rw [two_nought t2] at a3
    exact rodig_odd s (fun h => by have := ro_tm.1 h; omega) ha a1 a2 t2 a3.symm w
theorem rodig_zero (w : World) :
    Calls Try.prog 57 #[.agg #[.int .u64 0, .int .u64 0], .int .i64 0] w fun e w' => e = .returned (.tuple #[.int .u64 0, .bool false]) ∧ Below w.heap.size w w' := by
  have t0 : Tw 0 0 0 := ⟨rfl, by decide, by decide⟩
  exact rodig_even (h' := 0) (l' := 0) (o := false) (r := 0) (h := 0) (l := 0) 0 rfl t0 t0 rfl (by decide) (by decide) t0 rfl w
/-! ### Exact -/
theorem rround_some (k : Int) (neg : Bool) (s : Int) (hi lo : Nat) (rest : Bool) (hh : hi < 2 ^ 64) (hl : lo < 2 ^ 64) (hs : soundX k neg s hi lo rest = true) :
    ∃ P : Nat, ∀ w, Calls Try.prog 21 #[.int .i64 (64 : Nat), exV k neg s hi lo rest] w fun e w' => e = .returned (.tuple #[.int .u64 P, .nilIface]) ∧ Below w.heap.size w w' := by
  have wd : Wd 64 := .inr (.inr (.inr rfl))
  by_cases c : k = 0 ∨ k = 2
  · have h := hs
    unfold soundX at h
    rw [if_pos c] at h
    obtain ⟨e1, e2, e3, e4, e5⟩ := of_decide_eq_true h
    subst e1; subst e2; subst e3; subst e4; subst e5
    rcases c with rfl | rfl
    · exact ⟨0, rround_zero 64 wd⟩
    · exact ⟨_, rround_nar 64 wd⟩
  · have h := hs
    unfold soundX at h
    rw [if_neg c] at h
    obtain ⟨e1, e2, _⟩ := of_decide_eq_true h
    subst e1
    exact ⟨_, rround_real 64 neg s hi lo rest wd hs ⟨e2, hh, hl⟩⟩
set_option maxHeartbeats 2000000 in
theorem rootx_nar1 (k : Int) (neg : Bool) (s : Int) (hi lo : Nat) (rest : Bool) (hh : hi < 2 ^ 64) (hl : lo < 2 ^ 64) (h1 : soundX k neg s hi lo rest = true) (hk : k = 2) (w : World) :
    Calls Try.prog 33 #[exV k neg s hi lo rest] w fun e w' => e = .returned (.tuple #[exV 2 false 0 0 0 false, .nilIface]) ∧ Below w.heap.size w w' := by
  obtain ⟨P, k1⟩ := rround_some k neg s hi lo rest hh hl h1
  rw [show ((64 : Nat) : Int) = 64 from rfl] at k1
  have d1 : (k == 2) = true := by rw [hk]; rfl
  clear hk
  clear hh hl h1
  unfold exV at *
  refine cps fun Q hQ => ?_
  go_enter Try.func33, Try.ntmps33
  go_wp2_with (first
    | (go_at_call 21; go_must (refine (k1 _).mono ?_); rintro e w1 ⟨rfl, hb1⟩; have R1_0 := (hb1.block (w.heap.size) (by first | (simp; done) | (simp; omega) | omega)).trans ((Below.heap_alloc _ _ _ (by first | (simp; done) | (simp; omega) | omega)).trans (rownew' _ _ _ _ (by simp))); have z1_0 : w.heap.size < w1.heap.size := Nat.lt_of_lt_of_le (by first | (simp; done) | (simp; omega) | omega) hb1.size; have c1_0_0 := rowcell R1_0 0; have c1_0_1 := rowcell R1_0 1; have c1_0_2 := rowcell R1_0 2; have c1_0_3 := rowcell R1_0 3; have c1_0_4 := rowcell R1_0 4; have c1_0_5 := rowcell R1_0 5; simp only [List.getElem?_toArray, List.getElem?_cons_zero, List.getElem?_cons_succ] at c1_0_0 c1_0_1 c1_0_2 c1_0_3 c1_0_4 c1_0_5; have HR1_0 : Hid _ := R1_0; clear R1_0; have R1_1 := (hb1.block (w.heap.size + 1) (by first | (simp; done) | (simp; omega) | omega)).trans (rownew' _ _ _ _ (by simp)); have z1_1 : w.heap.size + 1 < w1.heap.size := Nat.lt_of_lt_of_le (by first | (simp; done) | (simp; omega) | omega) hb1.size; have c1_1_0 := rowcell R1_1 0; have c1_1_1 := rowcell R1_1 1; have c1_1_2 := rowcell R1_1 2; have c1_1_3 := rowcell R1_1 3; have c1_1_4 := rowcell R1_1 4; have c1_1_5 := rowcell R1_1 5; simp only [List.getElem?_toArray, List.getElem?_cons_zero, List.getElem?_cons_succ] at c1_1_0 c1_1_1 c1_1_2 c1_1_3 c1_1_4 c1_1_5; have HR1_1 : Hid _ := R1_1; clear R1_1; have HB1 : Hid (Below _ _ _) := hb1; clear hb1; have f1 := rowfree HR1_1.out))
  refine bodyPost_ret (v := .tuple #[.agg #[.int .i64 2, .bool false, .int .i64 0, .int .u64 0, .int .u64 0, .bool false], .nilIface]) (by simp [results, Try.results33, go_sem, c1_1_0, c1_1_1, c1_1_2, c1_1_3, c1_1_4, c1_1_5, f1, z1_1]; done) rfl (hQ.out _ _ ⟨rfl, ?_⟩)
  exact cset6 (cthen (cmore (cmore (Below.refl _ _) _) _) HB1.out) (by omega)
set_option maxHeartbeats 2000000 in
theorem rootx_nar2 (k : Int) (neg : Bool) (s : Int) (hi lo : Nat) (rest : Bool) (hh : hi < 2 ^ 64) (hl : lo < 2 ^ 64) (h1 : soundX k neg s hi lo rest = true) (hk : k ≠ 2) (hn : neg = true) (w : World) :
    Calls Try.prog 33 #[exV k neg s hi lo rest] w fun e w' => e = .returned (.tuple #[exV 2 false 0 0 0 false, .nilIface]) ∧ Below w.heap.size w w' := by
  obtain ⟨P, k1⟩ := rround_some k neg s hi lo rest hh hl h1
  rw [show ((64 : Nat) : Int) = 64 from rfl] at k1
  have d1 : (k == 2) = false := beq_eq_false_iff_ne.2 hk
  subst hn
  clear hk
  clear hh hl h1
  unfold exV at *
  refine cps fun Q hQ => ?_
  go_enter Try.func33, Try.ntmps33
  go_wp2_with (first
    | (go_at_call 21; go_must (refine (k1 _).mono ?_); rintro e w1 ⟨rfl, hb1⟩; have R1_0 := (hb1.block (w.heap.size) (by first | (simp; done) | (simp; omega) | omega)).trans ((Below.heap_alloc _ _ _ (by first | (simp; done) | (simp; omega) | omega)).trans (rownew' _ _ _ _ (by simp))); have z1_0 : w.heap.size < w1.heap.size := Nat.lt_of_lt_of_le (by first | (simp; done) | (simp; omega) | omega) hb1.size; have c1_0_0 := rowcell R1_0 0; have c1_0_1 := rowcell R1_0 1; have c1_0_2 := rowcell R1_0 2; have c1_0_3 := rowcell R1_0 3; have c1_0_4 := rowcell R1_0 4; have c1_0_5 := rowcell R1_0 5; simp only [List.getElem?_toArray, List.getElem?_cons_zero, List.getElem?_cons_succ] at c1_0_0 c1_0_1 c1_0_2 c1_0_3 c1_0_4 c1_0_5; have HR1_0 : Hid _ := R1_0; clear R1_0; have R1_1 := (hb1.block (w.heap.size + 1) (by first | (simp; done) | (simp; omega) | omega)).trans (rownew' _ _ _ _ (by simp)); have z1_1 : w.heap.size + 1 < w1.heap.size := Nat.lt_of_lt_of_le (by first | (simp; done) | (simp; omega) | omega) hb1.size; have c1_1_0 := rowcell R1_1 0; have c1_1_1 := rowcell R1_1 1; have c1_1_2 := rowcell R1_1 2; have c1_1_3 := rowcell R1_1 3; have c1_1_4 := rowcell R1_1 4; have c1_1_5 := rowcell R1_1 5; simp only [List.getElem?_toArray, List.getElem?_cons_zero, List.getElem?_cons_succ] at c1_1_0 c1_1_1 c1_1_2 c1_1_3 c1_1_4 c1_1_5; have HR1_1 : Hid _ := R1_1; clear R1_1; have HB1 : Hid (Below _ _ _) := hb1; clear hb1; have f1 := rowfree HR1_1.out))
  refine bodyPost_ret (v := .tuple #[.agg #[.int .i64 2, .bool false, .int .i64 0, .int .u64 0, .int .u64 0, .bool false], .nilIface]) (by simp [results, Try.results33, go_sem, c1_1_0, c1_1_1, c1_1_2, c1_1_3, c1_1_4, c1_1_5, f1, z1_1]; done) rfl (hQ.out _ _ ⟨rfl, ?_⟩)
  exact cset6 (cthen (cmore (cmore (Below.refl _ _) _) _) HB1.out) (by omega)
set_option maxHeartbeats 2000000 in
theorem rootx_real (k : Int) (neg : Bool) (s : Int) (hi lo : Nat) (rest : Bool) (hh : hi < 2 ^ 64) (hl : lo < 2 ^ 64) (h1 : soundX k neg s hi lo rest = true) (hk : k ≠ 2) (hn : neg = false) {dg : Nat} {lf : Bool} (k2 : ∀ w, Calls Try.prog 57 #[.agg #[.int .u64 hi, .int .u64 lo], .int .i64 s] w fun e w' => e = .returned (.tuple #[.int .u64 dg, .bool lf]) ∧ Below w.heap.size w w') (m1 : dg < 2 ^ 64) (m2 : (lf || rest) = false ∨ 9223372036854775808 ≤ dg) (w : World) :
    Calls Try.prog 33 #[exV k neg s hi lo rest] w fun e w' => e = .returned (.tuple #[exactV false (manX dg 0) (s / 2 - 127) (lf || rest), .nilIface]) ∧ Below w.heap.size w w' := by
  obtain ⟨P, k1⟩ := rround_some k neg s hi lo rest hh hl h1
  rw [show ((64 : Nat) : Int) = 64 from rfl] at k1
  have hb : -1099511627776 ≤ s ∧ s ≤ 1099511627776 := by
    unfold soundX at h1
    by_cases c : k = 0 ∨ k = 2
    · rw [if_pos c] at h1; have := (of_decide_eq_true h1).2.1; omega
    · rw [if_neg c] at h1; exact (of_decide_eq_true h1).2.2
  have d1 : (k == 2) = false := beq_eq_false_iff_ne.2 hk
  obtain ⟨r, hr⟩ : ∃ r, r = dg := ⟨_, rfl⟩
  obtain ⟨x, hx⟩ : ∃ x, x = lf := ⟨_, rfl⟩
  obtain ⟨y, hy⟩ : ∃ y, y = (x || rest) := ⟨_, rfl⟩
  rw [← hr, ← hx] at k2
  have k3 := rmake_ok false r 0 (s / 2 - 127) y (by rw [hr]; exact m1) (by decide) (by omega) (by
    rw [hy, hx, hr]; exact m2)
  rw [← hr, ← hx, ← hy]
  obtain ⟨K, B, S, H, L, R, hform⟩ := exactV_form false (manX r 0) (s / 2 - 127) y
  rw [hform] at k3 ⊢
  have e1 : IntKind.i64.wrap (s / 2) = s / 2 := wrapI (by omega)
  have e2 : IntKind.i64.wrap (s / 2 - 127) = s / 2 - 127 := wrapI (by omega)
  rw [show ((0 : Nat) : Int) = 0 from rfl] at k3
  have ycase : (x = true ∧ y = true) ∨ (x = false ∧ y = rest) := by rw [hy]; cases x; exact .inr ⟨rfl, rfl⟩; exact .inl ⟨rfl, rfl⟩
  subst hn
  clear hform hb hk hr hx hy m1 m2
  clear hh hl h1
  unfold exV at *
  rcases ycase with ⟨rfl, rfl⟩ | ⟨rfl, rfl⟩
  all_goals
    refine cps fun Q hQ => ?_
    go_enter Try.func33, Try.ntmps33
    go_wp2_with (first
      | (go_at_call 21; go_must (refine (k1 _).mono ?_); rintro e w1 ⟨rfl, hb1⟩; have R1_0 := (hb1.block (w.heap.size) (by first | (simp; done) | (simp; omega) | omega)).trans ((Below.heap_alloc _ _ _ (by first | (simp; done) | (simp; omega) | omega)).trans (rownew' _ _ _ _ (by simp))); have z1_0 : w.heap.size < w1.heap.size := Nat.lt_of_lt_of_le (by first | (simp; done) | (simp; omega) | omega) hb1.size; have c1_0_0 := rowcell R1_0 0; have c1_0_1 := rowcell R1_0 1; have c1_0_2 := rowcell R1_0 2; have c1_0_3 := rowcell R1_0 3; have c1_0_4 := rowcell R1_0 4; have c1_0_5 := rowcell R1_0 5; simp only [List.getElem?_toArray, List.getElem?_cons_zero, List.getElem?_cons_succ] at c1_0_0 c1_0_1 c1_0_2 c1_0_3 c1_0_4 c1_0_5; have HR1_0 : Hid _ := R1_0; clear R1_0; have R1_1 := (hb1.block (w.heap.size + 1) (by first | (simp; done) | (simp; omega) | omega)).trans (rownew' _ _ _ _ (by simp)); have z1_1 : w.heap.size + 1 < w1.heap.size := Nat.lt_of_lt_of_le (by first | (simp; done) | (simp; omega) | omega) hb1.size; have c1_1_0 := rowcell R1_1 0; have c1_1_1 := rowcell R1_1 1; have c1_1_2 := rowcell R1_1 2; have c1_1_3 := rowcell R1_1 3; have c1_1_4 := rowcell R1_1 4; have c1_1_5 := rowcell R1_1 5; simp only [List.getElem?_toArray, List.getElem?_cons_zero, List.getElem?_cons_succ] at c1_1_0 c1_1_1 c1_1_2 c1_1_3 c1_1_4 c1_1_5; have HR1_1 : Hid _ := R1_1; clear R1_1; have HB1 : Hid (Below _ _ _) := hb1; clear hb1; have f1 := rowfree HR1_1.out)
      | (go_at_call 57; go_must (refine (k2 _).mono ?_); rintro e w2 ⟨rfl, hb2⟩; have R2_0 := (hb2.block (w.heap.size) (by first | (simp; done) | (simp; omega) | omega)).trans HR1_0.out; have z2_0 : w.heap.size < w2.heap.size := Nat.lt_of_lt_of_le (by first | (simp; done) | (simp; omega) | omega) hb2.size; have c2_0_0 := rowcell R2_0 0; have c2_0_1 := rowcell R2_0 1; have c2_0_2 := rowcell R2_0 2; have c2_0_3 := rowcell R2_0 3; have c2_0_4 := rowcell R2_0 4; have c2_0_5 := rowcell R2_0 5; simp only [List.getElem?_toArray, List.getElem?_cons_zero, List.getElem?_cons_succ] at c2_0_0 c2_0_1 c2_0_2 c2_0_3 c2_0_4 c2_0_5; have HR2_0 : Hid _ := R2_0; clear R2_0; have R2_1 := (hb2.block (w.heap.size + 1) (by first | (simp; done) | (simp; omega) | omega)).trans HR1_1.out; have z2_1 : w.heap.size + 1 < w2.heap.size := Nat.lt_of_lt_of_le (by first | (simp; done) | (simp; omega) | omega) hb2.size; have c2_1_0 := rowcell R2_1 0; have c2_1_1 := rowcell R2_1 1; have c2_1_2 := rowcell R2_1 2; have c2_1_3 := rowcell R2_1 3; have c2_1_4 := rowcell R2_1 4; have c2_1_5 := rowcell R2_1 5; simp only [List.getElem?_toArray, List.getElem?_cons_zero, List.getElem?_cons_succ] at c2_1_0 c2_1_1 c2_1_2 c2_1_3 c2_1_4 c2_1_5; have HR2_1 : Hid _ := R2_1; clear R2_1; have HB2 : Hid (Below _ _ _) := hb2; clear hb2)
      | (go_at_call 43; go_must (refine (k3 _).mono ?_); rintro e w3 ⟨rfl, hb3⟩; have R3_0 := (hb3.block (w.heap.size) (by first | (simp; done) | (simp; omega) | omega)).trans HR2_0.out; have z3_0 : w.heap.size < w3.heap.size := Nat.lt_of_lt_of_le (by first | (simp; done) | (simp; omega) | omega) hb3.size; have HR3_0 : Hid _ := R3_0; clear R3_0; have R3_1 := (hb3.block (w.heap.size + 1) (by first | (simp; done) | (simp; omega) | omega)).trans HR2_1.out; have z3_1 : w.heap.size + 1 < w3.heap.size := Nat.lt_of_lt_of_le (by first | (simp; done) | (simp; omega) | omega) hb3.size; have c3_1_0 := rowcell R3_1 0; have c3_1_1 := rowcell R3_1 1; have c3_1_2 := rowcell R3_1 2; have c3_1_3 := rowcell R3_1 3; have c3_1_4 := rowcell R3_1 4; have c3_1_5 := rowcell R3_1 5; simp only [List.getElem?_toArray, List.getElem?_cons_zero, List.getElem?_cons_succ] at c3_1_0 c3_1_1 c3_1_2 c3_1_3 c3_1_4 c3_1_5; have HR3_1 : Hid _ := R3_1; clear R3_1; have HB3 : Hid (Below _ _ _) := hb3; clear hb3; have f3 := rowfree HR3_1.out))
    refine bodyPost_ret (v := .tuple #[.agg #[.int .i64 K, .bool B, .int .i64 S, .int .u64 H, .int .u64 L, .bool R], .nilIface]) (by simp [results, Try.results33, go_sem, c3_1_0, c3_1_1, c3_1_2, c3_1_3, c3_1_4, c3_1_5, f3, z3_1]; done) rfl (hQ.out _ _ ⟨rfl, ?_⟩)
    exact cset6 (cthen (cthen (cthen (cmore (cmore (Below.refl _ _) _) _) HB1.out) HB2.out) HB3.out) (by omega)
theorem rootx_ok (k : Int) (neg : Bool) (s : Int) (hi lo : Nat) (rest : Bool) (hh : hi < 2 ^ 64) (hl : lo < 2 ^ 64) (h : soundX k neg s hi lo rest = true) (w : World) :
    Calls Try.prog 33 #[exV k neg s hi lo rest] w fun e w' => e = .returned (.tuple #[root12 k neg s hi lo rest, .nilIface]) ∧ Below w.heap.size w w' := by
  unfold root12
  by_cases a2 : k = 2
  · rw [if_pos (.inl a2)]; exact rootx_nar1 k neg s hi lo rest hh hl h a2 w
  · by_cases an : neg = true
    · rw [if_pos (.inr an)]; exact rootx_nar2 k neg s hi lo rest hh hl h a2 an w
    · rw [if_neg (by rintro (c | c); exact a2 c; exact an c)]
      have an' : neg = false := by cases neg; rfl; exact absurd rfl an
      by_cases a0 : k = 0
      · rw [if_pos a0]
        have hs := h
        unfold soundX at hs
        rw [if_pos (.inl a0)] at hs
        obtain ⟨_, e2, e3, e4, e5⟩ := of_decide_eq_true hs
        subst e2; subst e3; subst e4; subst e5
        have := rootx_real k neg 0 0 0 false hh hl h a2 an' rodig_zero (by decide) (.inl rfl) w
        rw [show manX 0 0 = 0 from rfl, exactV_zero] at this
        exact this
      · rw [if_neg a0]
        have hs := h
        unfold soundX at hs
        rw [if_neg (by omega)] at hs
        obtain ⟨e1, e2, e3, e4⟩ := of_decide_eq_true hs
        have hw : WordsX hi lo := ⟨e2, hh, hl⟩
        obtain ⟨m1, m2⟩ := mR_size s hw.mant
        have wd := (rt_words m1 m2).2.2
        have := rootx_real k neg s hi lo rest hh hl h a2 an' (rodig_any hw) wd.hi64 (.inr wd.top) w
        have b1 := wd.top
        have b2 := wd.hi64
        generalize rtH (mR s (manX hi lo)) = r at *
        have b : blen (manX r 0) = 128 := blen_at (m := 127) (by unfold manX; omega) (by unfold manX; omega)
        have nz : manX r 0 ≠ 0 := by unfold manX; omega
        have n1 : normN (manX r 0) = r * 2 ^ 64 := by unfold normN; rw [b]; rw [if_neg (by decide), Nat.sub_self, Nat.pow_zero, Nat.div_one]; unfold manX; rw [Nat.add_zero]
        have n2 : lostN (manX r 0) = false := by unfold lostN; rw [b]; rfl
        unfold exactV at this
        rw [if_neg nz, n1, n2, b, Nat.mul_div_cancel _ (by decide), Nat.mod_eq_of_lt b2, Nat.mul_mod_left, Bool.or_false,
          show s / 2 - 127 + ((128 : Nat) : Int) - 1 = s / 2 by omega] at this
        have hh : heldX (s / 2) = s / 2 := by unfold heldX; rw [if_neg (by omega), if_neg (by omega)]
        rw [hh] at this
        exact this
/-! ### Sqrt -/
end Go.Proofs.Ytheliihkkoohnaa
