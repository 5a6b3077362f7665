import Derived.Test.YtmkdnhdbgoehgaaJoin4
import Derived.Test.YtmkdnhdbgoehgaaJoin3
import Derived.Test.YtmkdnhdbgoehgaaJoin2
namespace Go.Proofs.Ytmkdnhdbgoehgaa
set_option maxRecDepth 100000
set_option linter.unusedVariables false
set_option linter.unusedSimpArgs false

/-! ### what patterns mean, as whole numbers times 2^(-375) (plain mathematics) -/
def eN : Int := -375
def valI (n x : Nat) : Int := if vK n x = 1 then sg (vB n x) (manX (vF n x) 0) * ((2 ^ (vS n x + 248).toNat : Nat) : Int) else 0
theorem v_real (n x : Nat) (hn : Wd n) (hx : x < 2 ^ 64) (hk : vK n x = 1) : vB n x = x.testBit (n - 1) ∧ vS n x = scaleL (strS n x) ∧ vF n x = wordL (strS n x) ∧ true ∈ strS n x ∧ (strS n x).length = n - 1 ∧ kindOf n (x % 2 ^ n) = 1 ∧ WordsX (vF n x) 0 ∧ 8 - 4 * (n : Int) ≤ vS n x ∧ vS n x ≤ 4 * n - 8 := by
  have hk' : kindOf n (x % 2 ^ n) = 1 := hk
  obtain ⟨ht, hp⟩ := patOf_str n x hn hx hk'
  have e1 : vB n x = x.testBit (n - 1) := by unfold vB; rw [if_pos hk']
  have e2 : vS n x = scaleL (strS n x) := by unfold vS; rw [if_pos hk']
  have e3 : vF n x = wordL (strS n x) := by unfold vF; rw [if_pos hk']
  refine ⟨e1, e2, e3, ht, strS_length n x, hk', by rw [e3]; exact words_of _, ?_⟩
  rw [e2]
  have := of_decide_eq_true (inR_of n _ hn (strS_length n x) ht)
  exact ⟨by omega, by omega⟩
theorem v_kinds (n x : Nat) (hn : Wd n) : vK n x = 0 ∧ x % 2 ^ n = 0 ∨ vK n x = 1 ∨ vK n x = 2 ∧ x % 2 ^ n = 2 ^ (n - 1) := by
  by_cases hk : kindOf n (x % 2 ^ n) = 1
  · exact .inr (.inl hk)
  · rcases kind_cases n _ hk with ⟨h, h2⟩ | ⟨h, h2⟩
    · exact .inl ⟨h, h2⟩
    · exact .inr (.inr ⟨h, h2⟩)
/-- a real's value, ahead of its rounding -/
theorem val_real (n x : Nat) (hn : Wd n) (hx : x < 2 ^ 64) (hk : vK n x = 1) : exI (valI n x) eN = exV 1 (vB n x) (vS n x) (vF n x) 0 false := by
  obtain ⟨_, _, _, _, _, _, hwd, h1, h2⟩ := v_real n x hn hx hk
  have hw := wd_le hn
  unfold valI
  rw [if_pos hk]
  have e := exI_real (vB n x) (vS n x) (vF n x) 0 hwd (by omega) (-248) (vS n x + 248).toNat (by omega)
  rw [show (-248 : Int) - 127 = eN from rfl] at e
  exact e
theorem val_zero (n x : Nat) (hk : vK n x ≠ 1) : valI n x = 0 := by unfold valI; rw [if_neg hk]
theorem sg_abs (neg : Bool) (N : Nat) : (sg neg N).natAbs = N := by unfold sg; cases neg <;> simp
theorem blen_add {N N' k : Nat} (h : blen N ≤ k) (h' : blen N' ≤ k) : blen (N + N') ≤ k + 1 := by
  have a := blen_le.1 h
  have b := blen_le.1 h'
  exact blen_le.2 (by rw [Nat.pow_succ]; omega)
theorem val_blen (n x : Nat) (hn : Wd n) (hx : x < 2 ^ 64) : blen (valI n x).natAbs ≤ 624 := by
  by_cases hk : vK n x = 1
  · obtain ⟨_, _, _, _, _, _, hwd, h1, h2⟩ := v_real n x hn hx hk
    have hw := wd_le hn
    unfold valI
    rw [if_pos hk, Int.natAbs_mul, sg_abs, Int.natAbs_natCast]
    have hm : (vS n x + 248).toNat ≤ 496 := by omega
    generalize (vS n x + 248).toNat = m at *
    have : blen (manX (vF n x) 0 * 2 ^ m) ≤ 128 + m := blen_le.2 (by rw [Nat.pow_add]; exact Nat.mul_lt_mul_of_pos_right hwd.mant.2 (Nat.pow_pos (by decide)))
    omega
  · rw [val_zero n x hk]
    show blen 0 ≤ 624
    rw [blen_zero]; omega
theorem near_of {N : Nat} {e : Int} (h : blen N ≤ 10000) (he : -100000 ≤ e ∧ e ≤ 100000) : Near N e := ⟨by omega, by omega⟩
theorem abs_add (T T' : Int) {k : Nat} (h : blen T.natAbs ≤ k) (h' : blen T'.natAbs ≤ k) : blen (T + T').natAbs ≤ k + 1 :=
  Nat.le_trans (blen_mono (show (T + T').natAbs ≤ T.natAbs + T'.natAbs by omega)) (blen_add h h')
theorem val_inj {k k' : Int} {neg neg' : Bool} {s s' : Int} {hi lo hi' lo' : Nat} {r r' : Bool} (h : exV k neg s hi lo r = exV k' neg' s' hi' lo' r') : neg = neg' ∧ s = s' ∧ hi = hi' ∧ lo = lo' ∧ r = r' := by
  unfold exV at h
  simp only [Value.agg.injEq, Array.mk.injEq, List.cons.injEq, Value.int.injEq, Value.bool.injEq, true_and, and_true] at h
  obtain ⟨_, h1, h2, h3, h4, h5⟩ := h
  exact ⟨h1, h2, by omega, by omega, h5⟩
/-- the magnitude that is rounded, from the number ahead of its rounding -/
theorem patI_of {n : Nat} {T e : Int} {neg : Bool} {s : Int} {hi lo : Nat} {r : Bool} (h0 : T ≠ 0) (h : exI T e = exV 1 neg s hi lo r) : patI n T e = patR n neg (rndX n s hi lo r) := by
  unfold exI exactV at h
  rw [if_neg (by omega)] at h
  obtain ⟨h1, h2, h3, h4, h5⟩ := val_inj h
  unfold patI mgI
  rw [if_neg h0, h1, h2, h3, h4, h5]
theorem patR_of (n : Nat) (neg : Bool) (t : List Bool) : patR n neg (numOf t) = patOf n neg t := rfl
/-- what a pattern means is rounded to it -/
theorem patI_own (n x : Nat) (hn : Wd n) (hx : x < 2 ^ 64) (hk : vK n x ≠ 2) : patI n (valI n x) eN = x % 2 ^ n := by
  rcases v_kinds n x hn with ⟨h, hz⟩ | h | ⟨h, _⟩
  · rw [val_zero n x (by rw [h]; decide), hz]; rfl
  · obtain ⟨e1, e2, e3, ht, hl, hk', hwd, _⟩ := v_real n x hn hx h
    have h0 : valI n x ≠ 0 := fun c => by
      have a := val_real n x hn hx h
      rw [c] at a
      have b : exI 0 eN = exV 0 false 0 0 0 false := exactV_zero _ _ _
      rw [b] at a
      obtain ⟨_, _, c3, _⟩ := val_inj a
      have := hwd.top
      omega
    rw [patI_of h0 (val_real n x hn hx h), e2, e3, rnd_home n _ hn hl ht, patR_of, e1]
    exact (patOf_str n x hn hx hk').2
  · exact absurd h hk
/-- the negative pattern means the negative number -/
theorem val_neg (n x y : Nat) (hn : Wd n) (hx : x < 2 ^ 64) (hy : y < 2 ^ 64) (h : y % 2 ^ n = (2 ^ n - x % 2 ^ n) % 2 ^ n) : vK n y = vK n x ∧ valI n y = -valI n x ∧ (vK n x = 1 → vB n y = !vB n x) ∧ vS n y = vS n x ∧ vF n y = vF n x := by
  obtain ⟨H, p1, p2, p3, _⟩ := wd_pows hn
  have hm := Nat.mod_lt x (show 0 < 2 ^ n by omega)
  have hw := wd_le hn
  have hkk : vK n y = vK n x := by
    unfold vK kindOf
    rw [h, p2]
    by_cases c0 : x % 2 ^ n = 0
    · rw [c0, Nat.sub_zero, Nat.mod_self, if_pos rfl]
    · rw [Nat.mod_eq_of_lt (by omega), if_neg c0, if_neg (by omega)]
      by_cases c1 : x % 2 ^ n = H
      · rw [if_pos c1, if_pos (by omega)]
      · rw [if_neg c1, if_neg (by omega)]
  by_cases hk : vK n x = 1
  · have hk2 : vK n y = 1 := by rw [hkk, hk]
    obtain ⟨a1, a2, a3, at_, al, ak, _⟩ := v_real n x hn hx hk
    obtain ⟨b1, b2, b3, bt, bl, bk, _⟩ := v_real n y hn hy hk2
    have hne : x % 2 ^ n ≠ 0 ∧ x % 2 ^ n ≠ H := by
      unfold kindOf at ak
      constructor
      · intro c; rw [if_pos c] at ak; exact absurd ak (by decide)
      · intro c; rw [if_neg (by omega), p2, if_pos c] at ak; exact absurd ak (by decide)
    have hy2 : y % 2 ^ n = 2 ^ n - x % 2 ^ n := by rw [h, Nat.mod_eq_of_lt (by omega)]
    have tx := top_of n (x % 2 ^ n) hn hm
    have ty := top_of n (y % 2 ^ n) hn (Nat.mod_lt _ (by omega))
    rw [← testBit_low x n (by omega), p2] at tx
    rw [← testBit_low y n (by omega), p2, hy2] at ty
    have hs : strS n y = strS n x := by
      refine numOf_inj (by rw [al, bl]) ?_
      rw [strS_num n y hn hy, strS_num n x hn hx, tx, ty, hy2]
      by_cases c : H ≤ x % 2 ^ n
      · rw [decide_eq_true c, decide_eq_false (show ¬ H ≤ 2 ^ n - x % 2 ^ n by omega)]; rfl
      · rw [decide_eq_false c, decide_eq_true (show H ≤ 2 ^ n - x % 2 ^ n by omega)]
        simp only [Bool.false_eq_true, if_false, if_true]
        congr 1
        omega
    have hB : vB n y = !vB n x := by
      rw [a1, b1, tx, ty]
      by_cases c : H ≤ x % 2 ^ n
      · rw [decide_eq_true c, decide_eq_false (by omega)]; rfl
      · rw [decide_eq_false c, decide_eq_true (by omega)]; rfl
    have hS : vS n y = vS n x := by rw [a2, b2, hs]
    have hF : vF n y = vF n x := by rw [a3, b3, hs]
    refine ⟨hkk, ?_, fun _ => hB, hS, hF⟩
    unfold valI
    rw [if_pos hk, if_pos hk2, hB, hS, hF, ← Int.neg_mul]
    congr 1
    unfold sg
    cases vB n x <;> simp
  · have hk2 : vK n y ≠ 1 := by rw [hkk]; exact hk
    have ak : ¬ kindOf n (x % 2 ^ n) = 1 := hk
    have bk : ¬ kindOf n (y % 2 ^ n) = 1 := hk2
    refine ⟨hkk, by rw [val_zero n x hk, val_zero n y hk2]; rfl, fun c => absurd c hk, ?_, ?_⟩
    · unfold vS; rw [if_neg ak, if_neg bk]
    · unfold vF; rw [if_neg ak, if_neg bk]
end Go.Proofs.Ytmkdnhdbgoehgaa

namespace Go.Proofs.Ytmkdnhdbgoehgaa
open Go.ChangeShapes Go.WideShapes Go.ChangeAt Go.RowKit
set_option linter.unusedVariables false
set_option linter.unusedSimpArgs false
set_option maxRecDepth 100000

/-! ### values and ranks (plain mathematics) -/
theorem rank_inj (n x y : Nat) (hn : Wd n) (h : extOf x n = extOf y n) : x % 2 ^ n = y % 2 ^ n := by
  obtain ⟨H, p1, p2, p3, _⟩ := wd_pows hn
  rw [extOf_val n x hn, extOf_val n y hn] at h
  have a := Nat.mod_lt x (show 0 < 2 ^ n by omega)
  have b := Nat.mod_lt y (show 0 < 2 ^ n by omega)
  rw [p2] at h
  split at h <;> split at h <;> omega
theorem val_mod (n x y : Nat) (hn : Wd n) (hx : x < 2 ^ 64) (hy : y < 2 ^ 64) (h : x % 2 ^ n = y % 2 ^ n) : valI n x = valI n y := by
  have e : minusU x % 2 ^ n = (2 ^ n - x % 2 ^ n) % 2 ^ n := minusU_mod n x hn hx
  have a := (val_neg n x (minusU x) hn hx (minusU_lt x) e).2.1
  have b := (val_neg n y (minusU x) hn hy (minusU_lt x) (by rw [e, h])).2.1
  omega
theorem val_rank (n x : Nat) (hn : Wd n) (hx : x < 2 ^ 64) (hk : vK n x ≠ 2) : extOf x n = rkI n (valI n x) eN := by
  rw [← patI_rank _ _ hn, patI_own n x hn hx hk, rank_mod n x hn]
theorem val_near (n x : Nat) (hn : Wd n) (hx : x < 2 ^ 64) : Near (valI n x).natAbs eN := near_of (by have := val_blen n x hn hx; omega) (by decide)
/-- the order of ranks is the order of values -/
theorem val_le (n x y : Nat) (hn : Wd n) (hx : x < 2 ^ 64) (hy : y < 2 ^ 64) (kx : vK n x ≠ 2) (ky : vK n y ≠ 2) (h : extOf x n ≤ extOf y n) : valI n x ≤ valI n y := by
  refine Int.not_lt.1 fun c => ?_
  have a := rkI_mono hn (Int.le_of_lt c) (val_near n y hn hy) (val_near n x hn hx)
  rw [← val_rank n x hn hx kx, ← val_rank n y hn hy ky] at a
  have e := val_mod n x y hn hx hy (rank_inj n x y hn (by omega))
  omega
/-! ### numbers ahead of their rounding -/
theorem exI_cases (T e : Int) : (T = 0 ∧ exI T e = exV 0 false 0 0 0 false) ∨ (T ≠ 0 ∧ ∃ neg s hi lo r, exI T e = exV 1 neg s hi lo r ∧ WordsX hi lo ∧ soundX 1 neg s hi lo r = true) := by
  by_cases h : T = 0
  · subst h; exact .inl ⟨rfl, exactV_zero _ _ _⟩
  · refine .inr ⟨h, ?_⟩
    have h0 : T.natAbs ≠ 0 := by omega
    have hwd := normN_words h0
    have hb := heldX_bounds (e + blen T.natAbs - 1)
    refine ⟨decide (T < 0), heldX (e + blen T.natAbs - 1), normN T.natAbs / 2 ^ 64 % 2 ^ 64, normN T.natAbs % 2 ^ 64, (false || lostN T.natAbs), by unfold exI exactV; rw [if_neg h0], hwd, ?_⟩
    unfold soundX
    rw [if_neg (by decide)]
    exact decide_eq_true ⟨rfl, hwd.top, hb.1, hb.2⟩
theorem rround_exI (n : Nat) (T e : Int) (hn : Wd n) (w : World) :
    Calls Try.prog 23 #[.int .i64 n, exI T e] w fun r w' => r = .returned (.tuple #[.int .u64 (patI n T e : Nat), .nilIface]) ∧ Below w.heap.size w w' := by
  rcases exI_cases T e with ⟨h, h2⟩ | ⟨h, neg, s, hi, lo, r, h2, hwd, hs⟩
  · rw [h2]
    have : patI n T e = 0 := by unfold patI; rw [if_pos h]
    rw [this]
    exact rround_zero n hn w
  · rw [h2, patI_of h h2]
    exact rround_real n neg s hi lo r hn hs hwd w
theorem exI_form (T e : Int) : ∃ k b s h l r, exI T e = exV k b s h l r := exactV_form _ _ _ _
/-! ### the document's Sum of any two -/
def sum9 (k : Int) (neg : Bool) (s : Int) (hi lo : Nat) (k' : Int) (neg' : Bool) (s' : Int) (hi' lo' : Nat) : Value :=
  if k = 2 ∨ k' = 2 then exV 2 false 0 0 0 false
  else if k = 0 then exV k' neg' s' hi' lo' false
  else if k' = 0 then exV k neg s hi lo false
  else sumR neg s (manX hi lo) neg' s' (manX hi' lo')
theorem v_other (n x : Nat) (h : vK n x ≠ 1) : vB n x = false ∧ vS n x = 0 ∧ vF n x = 0 := by
  have h2 : ¬ kindOf n (x % 2 ^ n) = 1 := h
  refine ⟨?_, ?_, ?_⟩
  · unfold vB; rw [if_neg h2]
  · unfold vS; rw [if_neg h2]
  · unfold vF; rw [if_neg h2]
/-- a pattern's value, as it is ahead of its rounding -/
theorem val_exV (n x : Nat) (hn : Wd n) (hx : x < 2 ^ 64) (hk : vK n x ≠ 2) : exV (vK n x) (vB n x) (vS n x) (vF n x) 0 false = exI (valI n x) eN := by
  rcases v_kinds n x hn with ⟨h, _⟩ | h | ⟨h, _⟩
  · obtain ⟨a, b, c⟩ := v_other n x (by rw [h]; decide)
    rw [h, a, b, c, val_zero n x (by rw [h]; decide)]
    exact (exactV_zero _ _ _).symm
  · rw [val_real n x hn hx h, h]
  · exact absurd h hk
theorem sum9_val (n a b : Nat) (hn : Wd n) (ha : a < 2 ^ 64) (hb : b < 2 ^ 64) :
    sum9 (vK n a) (vB n a) (vS n a) (vF n a) 0 (vK n b) (vB n b) (vS n b) (vF n b) 0 = if vK n a = 2 ∨ vK n b = 2 then exV 2 false 0 0 0 false else exI (valI n a + valI n b) eN := by
  unfold sum9
  by_cases h2 : vK n a = 2 ∨ vK n b = 2
  · rw [if_pos h2, if_pos h2]
  · rw [if_neg h2, if_neg h2]
    have na : vK n a ≠ 2 := fun c => h2 (.inl c)
    have nb : vK n b ≠ 2 := fun c => h2 (.inr c)
    by_cases a0 : vK n a = 0
    · rw [if_pos a0, val_exV n b hn hb nb, val_zero n a (by rw [a0]; decide), Int.zero_add]
    · rw [if_neg a0]
      by_cases b0 : vK n b = 0
      · rw [if_pos b0, val_exV n a hn ha na, val_zero n b (by rw [b0]; decide), Int.add_zero]
      · rw [if_neg b0]
        have a1 : vK n a = 1 := by rcases v_kinds n a hn with ⟨h, _⟩ | h | ⟨h, _⟩; exact absurd h a0; exact h; exact absurd h na
        have b1 : vK n b = 1 := by rcases v_kinds n b hn with ⟨h, _⟩ | h | ⟨h, _⟩; exact absurd h b0; exact h; exact absurd h nb
        obtain ⟨_, _, _, _, _, _, wa, sa1, sa2⟩ := v_real n a hn ha a1
        obtain ⟨_, _, _, _, _, _, wb, sb1, sb2⟩ := v_real n b hn hb b1
        have hw := wd_le hn
        have e := sumR_int (vB n a) (vS n a) (manX (vF n a) 0) (vB n b) (vS n b) (manX (vF n b) 0) wa.mant wb.mant (-248) (vS n a + 248).toNat (vS n b + 248).toNat (by omega) (by omega)
        rw [show (-248 : Int) - 127 = eN from rfl] at e
        unfold valI
        rw [if_pos a1, if_pos b1]
        exact e
/-- the pattern of a sum -/
def patS (n a b : Nat) : Nat := if vK n a = 2 ∨ vK n b = 2 then 2 ^ (n - 1) else patI n (valI n a + valI n b) eN
end Go.Proofs.Ytmkdnhdbgoehgaa

namespace Go.Proofs.Ytmkdnhdbgoehgaa
set_option maxRecDepth 100000
set_option linter.unusedVariables false
set_option linter.unusedSimpArgs false

/-! ### sums of patterns: what follows (plain mathematics) -/
theorem negO_eq (n x : Nat) (hn : Wd n) (hx : x < 2 ^ 64) : negO n x = (2 ^ n - x % 2 ^ n) % 2 ^ n := minusU_mod n x hn hx
theorem lt64_of {n y : Nat} (hn : Wd n) (h : y < 2 ^ n) : y < 2 ^ 64 := Nat.lt_of_lt_of_le h (Nat.pow_le_pow_right (by decide) (wd_le hn).2)
theorem negO_lt (n x : Nat) (hn : Wd n) : negO n x < 2 ^ n := Nat.mod_lt _ (Nat.pow_pos (by decide))
theorem negO_lt64 (n x : Nat) (hn : Wd n) : negO n x < 2 ^ 64 := lt64_of hn (negO_lt n x hn)
theorem val_negO (n x : Nat) (hn : Wd n) (hx : x < 2 ^ 64) : vK n (negO n x) = vK n x ∧ valI n (negO n x) = -valI n x := by
  have h := negO_eq n x hn hx
  have a := val_neg n x (negO n x) hn hx (negO_lt64 n x hn) (by rw [Nat.mod_eq_of_lt (negO_lt n x hn), h])
  exact ⟨a.1, a.2.1⟩
theorem val_minus (n x : Nat) (hn : Wd n) (hx : x < 2 ^ 64) : vK n (minusU x) = vK n x ∧ valI n (minusU x) = -valI n x := by
  have a := val_neg n x (minusU x) hn hx (minusU_lt x) (minusU_mod n x hn hx)
  exact ⟨a.1, a.2.1⟩
theorem vK_zero (n : Nat) : vK n 0 = 0 := by unfold vK kindOf; rw [Nat.zero_mod, if_pos rfl]
theorem patS_lt (n a b : Nat) (hn : Wd n) : patS n a b < 2 ^ n := by
  obtain ⟨H, p1, p2, p3, _⟩ := wd_pows hn
  unfold patS
  split
  · omega
  · exact (patI_lt _ _ hn).1
theorem patS_comm (n a b : Nat) : patS n a b = patS n b a := by
  unfold patS
  rw [Int.add_comm]
  by_cases h : vK n a = 2 ∨ vK n b = 2
  · rw [if_pos h, if_pos h.symm]
  · rw [if_neg h, if_neg (fun c => h c.symm)]
theorem patS_nar (n a b : Nat) (h : vK n a = 2 ∨ vK n b = 2) : patS n a b = 2 ^ (n - 1) := by unfold patS; rw [if_pos h]
theorem patS_zero (n a : Nat) (hn : Wd n) (ha : a < 2 ^ 64) (h : vK n a ≠ 2) : patS n a 0 = a % 2 ^ n := by
  unfold patS
  rw [if_neg (by rw [vK_zero]; rintro (c | c); exact h c; exact absurd c (by decide)), val_zero n 0 (by rw [vK_zero]; decide), Int.add_zero]
  exact patI_own n a hn ha h
theorem patS_self (n a : Nat) (hn : Wd n) (ha : a < 2 ^ 64) (h : vK n a ≠ 2) : patS n a (negO n a) = 0 := by
  obtain ⟨k, v⟩ := val_negO n a hn ha
  unfold patS
  rw [if_neg (by rw [k]; rintro (c | c) <;> exact h c), v, show valI n a + -valI n a = 0 by omega]
  rfl
theorem negO_nar (n : Nat) (hn : Wd n) : negO n (2 ^ (n - 1)) = 2 ^ (n - 1) := by
  obtain ⟨H, p1, p2, p3, _⟩ := wd_pows hn
  rw [negO_eq n _ hn (lt64_of hn (by omega)), p1, p2, Nat.mod_eq_of_lt (a := H) (by omega), Nat.mod_eq_of_lt (by omega)]
  omega
theorem patS_minus (n a b : Nat) (hn : Wd n) (ha : a < 2 ^ 64) (hb : b < 2 ^ 64) : patS n (minusU a) (minusU b) = negO n (patS n a b) := by
  obtain ⟨ka, va⟩ := val_minus n a hn ha
  obtain ⟨kb, vb⟩ := val_minus n b hn hb
  unfold patS
  rw [ka, kb]
  by_cases h : vK n a = 2 ∨ vK n b = 2
  · rw [if_pos h, if_pos h, negO_nar n hn]
  · rw [if_neg h, if_neg h, va, vb, show -valI n a + -valI n b = -(valI n a + valI n b) by omega, patI_neg _ _ hn, negO_eq n _ hn (lt64_of hn (patI_lt _ _ hn).1), Nat.mod_eq_of_lt (a := patI n (valI n a + valI n b) eN) (patI_lt _ _ hn).1]
theorem patS_swap (n a b : Nat) (hn : Wd n) (ha : a < 2 ^ 64) (hb : b < 2 ^ 64) : patS n b (negO n a) = negO n (patS n a (negO n b)) := by
  obtain ⟨ka, va⟩ := val_negO n a hn ha
  obtain ⟨kb, vb⟩ := val_negO n b hn hb
  unfold patS
  rw [ka, kb]
  by_cases h : vK n a = 2 ∨ vK n b = 2
  · rw [if_pos h, if_pos h.symm, negO_nar n hn]
  · rw [if_neg h, if_neg (fun c => h c.symm), va, vb, show valI n b + -valI n a = -(valI n a + -valI n b) by omega, patI_neg _ _ hn, negO_eq n _ hn (lt64_of hn (patI_lt _ _ hn).1), Nat.mod_eq_of_lt (a := patI n (valI n a + -valI n b) eN) (patI_lt _ _ hn).1]
/-- the sum with a greater one is no less -/
theorem patS_rise (n a b c : Nat) (hn : Wd n) (ha : a < 2 ^ 64) (hb : b < 2 ^ 64) (hc : c < 2 ^ 64) (ka : vK n a ≠ 2) (kb : vK n b ≠ 2) (kc : vK n c ≠ 2) (h : extOf b n ≤ extOf c n) : extOf (patS n a b) n ≤ extOf (patS n a c) n := by
  have hv := val_le n b c hn hb hc kb kc h
  unfold patS
  rw [if_neg (by rintro (x | x); exact ka x; exact kb x), if_neg (by rintro (x | x); exact ka x; exact kc x), patI_rank _ _ hn, patI_rank _ _ hn]
  have na := val_blen n a hn ha
  have nb := val_blen n b hn hb
  have nc := val_blen n c hn hc
  have e1 := abs_add _ _ na nb
  have e2 := abs_add _ _ na nc
  exact rkI_mono hn (by omega) (near_of (by omega) (by decide)) (near_of (by omega) (by decide))
theorem patS_ways (n a b c : Nat) (hn : Wd n) (ha : a < 2 ^ 64) (hb : b < 2 ^ 64) (hc : c < 2 ^ 64) (ka : vK n a ≠ 2) (kb : vK n b ≠ 2) (kc : vK n c ≠ 2) :
    (0 < cmpR n b c ∨ cmpR n (patS n a b) (patS n a c) ≤ 0) ∧ (cmpR n b c < 0 ∨ 0 ≤ cmpR n (patS n a b) (patS n a c)) := by
  rcases cmpR_cases n b c with ⟨x, y⟩ | ⟨x, y⟩ | ⟨x, y⟩
  · have := patS_rise n a b c hn ha hb hc ka kb kc (by omega)
    rcases cmpR_cases n (patS n a b) (patS n a c) with ⟨u, v⟩ | ⟨u, v⟩ | ⟨u, v⟩ <;> omega
  · have := patS_rise n a c b hn ha hc hb ka kc kb (by omega)
    rcases cmpR_cases n (patS n a b) (patS n a c) with ⟨u, v⟩ | ⟨u, v⟩ | ⟨u, v⟩ <;> omega
  · have h1 := patS_rise n a b c hn ha hb hc ka kb kc (by omega)
    have h2 := patS_rise n a c b hn ha hc hb ka kc kb (by omega)
    rcases cmpR_cases n (patS n a b) (patS n a c) with ⟨u, v⟩ | ⟨u, v⟩ | ⟨u, v⟩ <;> omega
end Go.Proofs.Ytmkdnhdbgoehgaa

namespace Go.Proofs.Ytmkdnhdbgoehgaa
open Go.ChangeShapes Go.WideShapes Go.ChangeAt Go.RowKit
set_option linter.unusedVariables false
set_option linter.unusedSimpArgs false
set_option maxRecDepth 100000

/-! ### the first 256 bits of a sum are enough (plain mathematics) -/
/-- where the lesser term stands -/
def lowK (s s' : Int) : Nat := (191 - (s - s')).toNat
def sumW (same : Bool) (f g k : Nat) : Nat := if same then f * 2 ^ 191 + g * 2 ^ k else f * 2 ^ 191 - g * 2 ^ k
theorem man_frac (f : Nat) : manX f 0 = f * 2 ^ 64 := by
  unfold manX
  rw [show (2 : Nat) ^ 64 = 18446744073709551616 by decide]
  omega
theorem frac_le {f g d : Nat} (hf : 9223372036854775808 ≤ f) (hg : g ≤ 18446744073709551615) (h : d = 0 → g ≤ f) : g ≤ f * 2 ^ d := by
  by_cases h0 : d = 0
  · subst h0; rw [Nat.pow_zero, Nat.mul_one]; exact h rfl
  · obtain ⟨e, rfl⟩ : ∃ e, d = e + 1 := ⟨d - 1, by omega⟩
    have : 1 ≤ 2 ^ e := Nat.one_le_two_pow
    have h2 : f * 1 ≤ f * 2 ^ e := Nat.mul_le_mul (Nat.le_refl _) this
    rw [Nat.pow_succ, ← Nat.mul_assoc]
    omega
theorem sumD_words (ng : Bool) (s : Int) (f : Nat) (nl : Bool) (s' : Int) (g : Nat) (hf : 9223372036854775808 ≤ f) (hf2 : f ≤ 18446744073709551615) (hg : 9223372036854775808 ≤ g) (hg2 : g ≤ 18446744073709551615)
    (hle : s' ≤ s) (heq : s = s' → g ≤ f) : sumD ng s (manX f 0) nl s' (manX g 0) = exactV ng (sumW (ng == nl) f g (lowK s s')) (s - 254) false := by
  obtain ⟨d, hd⟩ : ∃ d : Nat, (d : Int) = s - s' := ⟨(s - s').toNat, by omega⟩
  have hM : Mant (manX f 0) := by rw [man_frac]; unfold Mant; omega
  have hM' : Mant (manX g 0) := by rw [man_frac]; unfold Mant; omega
  rw [sumD_near ng s _ nl s' _ hM hM' hle d hd]
  have hgd : g ≤ f * 2 ^ d := frac_le hf hg2 (fun h0 => heq (by omega))
  have hle2 : manX g 0 ≤ manX f 0 * 2 ^ d := by
    rw [man_frac, man_frac, Nat.mul_right_comm]
    exact Nat.mul_le_mul hgd (Nat.le_refl _)
  rw [if_pos hle2]
  by_cases hs : ng = nl
  · rw [if_pos hs]
    have hb : (ng == nl) = true := by rw [hs]; simp
    unfold sumW
    rw [hb, if_pos rfl]
    by_cases hd2 : d ≤ 191
    · have hk : lowK s s' = 191 - d := by unfold lowK; omega
      have e1 : manX f 0 * 2 ^ d + manX g 0 = (f * 2 ^ d + g) * 2 ^ 64 := by rw [man_frac, man_frac, Nat.add_mul, Nat.mul_right_comm]
      have e2 : f * 2 ^ 191 + g * 2 ^ (191 - d) = (f * 2 ^ d + g) * 2 ^ (191 - d) := by rw [Nat.add_mul, Nat.mul_assoc, ← Nat.pow_add, show d + (191 - d) = 191 by omega]
      rw [hk, e1, e2, show s - 127 - (d : Int) = (s - 63 - d) - (64 : Nat) by omega, exactV_two, show s - 254 = (s - 63 - d) - ((191 - d : Nat) : Int) by omega, exactV_two]
    · have hk : lowK s s' = 0 := by unfold lowK; omega
      have hlt : manX g 0 < 2 ^ d := Nat.lt_of_lt_of_le hM'.2 (Nat.pow_le_pow_right (by decide) (by omega))
      have m0 : 1 ≤ manX g 0 := by rw [man_frac]; omega
      have a := far_add ng s (B := manX g 0) (d := d) hM m0 hlt
      have b := far_add ng s (M := manX f 0) (B := g) (d := 127) hM (by omega) (by omega)
      rw [hk, Nat.pow_zero, Nat.mul_one, a, ← b, man_frac, Nat.mul_assoc, ← Nat.pow_add, show s - 127 - ((127 : Nat) : Int) = s - 254 by omega]
  · rw [if_neg hs]
    have hb : (ng == nl) = false := beq_eq_false_iff_ne.2 hs
    unfold sumW
    rw [hb, if_neg (by decide)]
    by_cases hd2 : d ≤ 191
    · have hk : lowK s s' = 191 - d := by unfold lowK; omega
      have e1 : manX f 0 * 2 ^ d - manX g 0 = (f * 2 ^ d - g) * 2 ^ 64 := by rw [man_frac, man_frac, Nat.sub_mul, Nat.mul_right_comm]
      have e2 : f * 2 ^ 191 - g * 2 ^ (191 - d) = (f * 2 ^ d - g) * 2 ^ (191 - d) := by rw [Nat.sub_mul, Nat.mul_assoc, ← Nat.pow_add, show d + (191 - d) = 191 by omega]
      rw [hk, e1, e2, show s - 127 - (d : Int) = (s - 63 - d) - (64 : Nat) by omega, exactV_two, show s - 254 = (s - 63 - d) - ((191 - d : Nat) : Int) by omega, exactV_two]
    · have hk : lowK s s' = 0 := by unfold lowK; omega
      obtain ⟨e, rfl⟩ : ∃ e, d = e + 1 := ⟨d - 1, by omega⟩
      have hlt : manX g 0 < 2 ^ e := Nat.lt_of_lt_of_le hM'.2 (Nat.pow_le_pow_right (by decide) (by omega))
      have m0 : 1 ≤ manX g 0 := by rw [man_frac]; omega
      have a := far_sub ng s (B := manX g 0) (d := e) hM m0 hlt
      have b := far_sub ng s (M := manX f 0) (B := g) (d := 126) hM (by omega) (by omega)
      rw [hk, Nat.pow_zero, Nat.mul_one, a, ← b, show 126 + 1 = 127 from rfl, man_frac, Nat.mul_assoc, ← Nat.pow_add, show s - 127 - ((127 : Nat) : Int) = s - 254 by omega]
theorem sumW_lt {same : Bool} {f g k : Nat} (hf2 : f ≤ 18446744073709551615) (hg2 : g ≤ 18446744073709551615) (hk : k ≤ 191) : f * 2 ^ 191 < 2 ^ 255 ∧ g * 2 ^ k < 2 ^ 255 ∧ sumW same f g k < 2 ^ 256 := by
  have h1 : f * 2 ^ 191 < 2 ^ 255 := by
    rw [show 255 = 64 + 191 from rfl, Nat.pow_add 2 64 191]
    exact (Nat.mul_lt_mul_right (Nat.pow_pos (by decide))).2 (by omega)
  have h2 : g * 2 ^ k < 2 ^ 255 := by
    have a : 2 ^ k ≤ 2 ^ 191 := Nat.pow_le_pow_right (by decide) hk
    refine Nat.lt_of_le_of_lt (Nat.mul_le_mul (Nat.le_refl g) a) ?_
    rw [show 255 = 64 + 191 from rfl, Nat.pow_add 2 64 191]
    exact (Nat.mul_lt_mul_right (Nat.pow_pos (by decide))).2 (by omega)
  refine ⟨h1, h2, ?_⟩
  unfold sumW
  rw [show (2 : Nat) ^ 256 = 2 ^ 255 * 2 from Nat.pow_succ 2 255]
  generalize 2 ^ 255 = P at *
  generalize f * 2 ^ 191 = X at *
  generalize g * 2 ^ k = Y at *
  split <;> omega
/-- the first digits of a number that stands as high as it may -/
theorem exactV_top (neg : Bool) {n k a b c d : Nat} (s : Int) (hn : n ≠ 0) (hk : k + blen n = 256) (h : Qw (n * 2 ^ k) a b c d) (hs : -1073741824 ≤ s ∧ s ≤ 1073741824) :
    exactV neg n (s - 254) false = exV 1 neg (s + 1 - k) d c (decide (a ≠ 0 ∨ b ≠ 0)) := by
  obtain ⟨n1, n2⟩ := norm_two k hn
  have hb := blen_two k hn
  have hn0 : n * 2 ^ k ≠ 0 := fun c => by
    rcases Nat.mul_eq_zero.1 c with c | c
    · exact hn c
    · exact absurd c (Nat.pos_iff_ne_zero.1 (Nat.pow_pos (by decide)))
  have h256 : blen (n * 2 ^ k) = 256 := by omega
  have lo := blen_lo hn0
  rw [h256] at lo
  have hi : n * 2 ^ k < 2 ^ 256 := blen_le.1 (by omega)
  obtain ⟨_, m1, m2⟩ := @norm_at (n * 2 ^ k) 128 lo hi
  obtain ⟨e, h0, h1, h2, h3⟩ := h
  have w1 : n * 2 ^ k / 2 ^ 128 / 2 ^ 64 % 2 ^ 64 = d := by
    rw [show (2 : Nat) ^ 128 = 340282366920938463463374607431768211456 by decide, show (2 : Nat) ^ 64 = 18446744073709551616 by decide]
    omega
  have w2 : n * 2 ^ k / 2 ^ 128 % 2 ^ 64 = c := by
    rw [show (2 : Nat) ^ 128 = 340282366920938463463374607431768211456 by decide, show (2 : Nat) ^ 64 = 18446744073709551616 by decide]
    omega
  have w3 : decide (n * 2 ^ k % 2 ^ 128 ≠ 0) = decide (a ≠ 0 ∨ b ≠ 0) := by
    refine decide_eq_decide.2 ?_
    rw [show (2 : Nat) ^ 128 = 340282366920938463463374607431768211456 by decide]
    omega
  have hx : heldX (s - 254 + (blen n : Int) - 1) = s + 1 - (k : Int) := by
    have hk2 : 1 ≤ blen n := by rw [blen_pos hn]; omega
    unfold heldX
    rw [if_neg (by omega), if_neg (by omega)]
    omega
  unfold exactV
  rw [if_neg hn, hx, ← n1, ← n2, m1, m2, w1, w2, w3, Bool.false_or]
end Go.Proofs.Ytmkdnhdbgoehgaa

namespace Go.Proofs.Ytmkdnhdbgoehgaa
open Go.ChangeShapes Go.WideShapes Go.ChangeAt Go.RowKit
set_option linter.unusedVariables false
set_option linter.unusedSimpArgs false
set_option maxRecDepth 100000

/-! ### package sum: the sum of two reals -/
theorem qw_ex {n : Nat} (h : n < 2 ^ 256) : ∃ a b c d, Qw n a b c d :=
  ⟨_, _, _, _, qw_of (by rw [show (115792089237316195423570985008687907853269984665640564039457584007913129639936 : Nat) = 2 ^ 256 by decide]; exact h)⟩
theorem qw_zero {n a b c d : Nat} (h : Qw n a b c d) : (decide ((a : Int) = 0) && decide ((b : Int) = 0) && decide ((c : Int) = 0) && decide ((d : Int) = 0)) = decide (n = 0) := by
  obtain ⟨e, h0, h1, h2, h3⟩ := h
  rw [← Bool.decide_and, ← Bool.decide_and, ← Bool.decide_and]
  refine decide_eq_decide.2 ?_
  omega
theorem or_rest (a b : Nat) (ha : a ≤ 18446744073709551615) (hb : b ≤ 18446744073709551615) : bits BinOp.or IntKind.u64 (b : Int) (a : Int) = ((b ||| a : Nat) : Int) ∧ (((b ||| a : Nat) : Int) != 0) = decide (a ≠ 0 ∨ b ≠ 0) := by
  refine ⟨u64_or_nat b a (by omega) (by omega), ?_⟩
  have e : b ||| a = 0 ↔ b = 0 ∧ a = 0 := Nat.or_eq_zero_iff
  by_cases h : b ||| a = 0
  · obtain ⟨rfl, rfl⟩ := e.1 h
    rfl
  · rw [decide_eq_true (by
      by_cases h0 : a = 0
      · exact .inr (fun c => h (e.2 ⟨c, h0⟩))
      · exact .inl h0)]
    rw [bne_iff_ne]
    omega
theorem risen_at {n : Nat} (h : n ≠ 0) (h2 : n < 2 ^ 256) : ∃ k a b c d, k + blen n = 256 ∧ Qw (n * 2 ^ k) a b c d := by
  have hb : blen n ≤ 256 := blen_le.2 h2
  obtain ⟨k, hk⟩ : ∃ k, k + blen n = 256 := ⟨256 - blen n, by omega⟩
  have e := blen_two k h
  obtain ⟨a, b, c, d, hq⟩ := qw_ex (n := n * 2 ^ k) (blen_le.1 (by omega))
  exact ⟨k, a, b, c, d, hk, hq⟩
theorem sreals_up (ng : Bool) (s : Int) (f : Nat) (nl : Bool) (s' : Int) (g : Nat) (hf : 9223372036854775808 ≤ f) (hf2 : f ≤ 18446744073709551615) (hg : 9223372036854775808 ≤ g) (hg2 : g ≤ 18446744073709551615)
    (hs : -1073741824 ≤ s ∧ s ≤ 1073741824) (hs' : -1073741824 ≤ s' ∧ s' ≤ 1073741824) (hle : s' ≤ s) (heq : s = s' → g ≤ f) (w : World) :
    ((s = s' → g ≤ f) → Calls Try.prog 18 #[numV 1 ng s f, numV 1 nl s' g] w fun e w' => e = .returned (exactV ng (sumW (ng == nl) f g (lowK s s')) (s - 254) false) ∧ Below w.heap.size w w') ∧
    ((s = s' → g < f) → Calls Try.prog 18 #[numV 1 nl s' g, numV 1 ng s f] w fun e w' => e = .returned (exactV ng (sumW (ng == nl) f g (lowK s s')) (s - 254) false) ∧ Below w.heap.size w w') := by
  have hk : lowK s s' ≤ 191 := by unfold lowK; omega
  obtain ⟨b1, b2, b3⟩ := sumW_lt (same := (ng == nl)) hf2 hg2 hk
  obtain ⟨_, _, b4⟩ := sumW_lt (same := true) hf2 hg2 hk
  have b4' : f * 2 ^ 191 + g * 2 ^ lowK s s' < 2 ^ 256 := b4
  have bl : ∀ x, x < 2 ^ 255 → x < 2 ^ 256 := fun x h => Nat.lt_trans h (Nat.pow_lt_pow_right (by decide) (by decide))
  have hgf : g * 2 ^ lowK s s' ≤ f * 2 ^ 191 := by
    obtain ⟨d, hd⟩ : ∃ d : Nat, (d : Int) = s - s' := ⟨(s - s').toNat, by omega⟩
    by_cases hd2 : d ≤ 191
    · have e : lowK s s' = 191 - d := by unfold lowK; omega
      have h1 := Nat.mul_le_mul (frac_le hf hg2 (fun h0 => heq (by omega)) : g ≤ f * 2 ^ d) (Nat.le_refl (2 ^ (191 - d)))
      rw [Nat.mul_assoc, ← Nat.pow_add, show d + (191 - d) = 191 by omega] at h1
      rw [e]; exact h1
    · have e : lowK s s' = 0 := by unfold lowK; omega
      rw [e, Nat.pow_zero, Nat.mul_one]
      exact Nat.le_trans (Nat.le_trans hg2 (by omega)) (Nat.le_mul_of_pos_left _ (by omega))
  obtain ⟨a0, a1, a2, a3, ca⟩ := qw_ex (bl _ b1)
  obtain ⟨y0, y1, y2, y3, cy⟩ := qw_ex (bl _ b2)
  obtain ⟨p0, p1, p2, p3, cp⟩ := qw_ex b4'
  have k1 := fun w => splaced_any (k := 191) hf2 (Nat.le_refl _) ca w
  have k2 := fun w => splaced_any hg2 hk cy w
  have k3 := fun w => splus_any ca cy cp w
  have ks := fun w => scompare_any 1 ng s f 1 nl s' g w
  have kw := fun w => scompare_any 1 nl s' g 1 ng s f w
  have zs : (s = s' → g ≤ f) → decide (cmpR2 s f s' g < 0) = false := fun h => decide_eq_false (fun c => by
    rcases (cmpR2_lt s f s' g).1 c with c | ⟨c, d⟩
    · omega
    · have := h c
      omega)
  have zw : (s = s' → g < f) → decide (cmpR2 s' g s f < 0) = true := fun h => decide_eq_true ((cmpR2_lt s' g s f).2 (by
    by_cases c : s = s'
    · exact .inr ⟨c.symm, h c⟩
    · exact .inl (by omega)))
  have q1 : IntKind.i64.wrap (s - s') = s - s' := wrapI (by omega)
  have q2 : IntKind.i64.wrap (191 - (s - s')) = 191 - (s - s') := wrapI (by omega)
  have q3 : (if 191 - (s - s') < 0 then 0 else 191 - (s - s')) = ((lowK s s' : Nat) : Int) := by unfold lowK; split <;> omega
  have q4 : IntKind.i64.wrap (s + 1) = s + 1 := wrapI (by omega)
  have hX : 0 < f * 2 ^ 191 := Nat.mul_pos (by omega) (Nat.pow_pos (by decide))
  by_cases hn : ng = nl
  · have hb : (ng == nl) = true := by rw [hn]; simp
    have hv : sumW (ng == nl) f g (lowK s s') = f * 2 ^ 191 + g * 2 ^ lowK s s' := by unfold sumW; rw [hb, if_pos rfl]
    rw [hv]
    have h0 : f * 2 ^ 191 + g * 2 ^ lowK s s' ≠ 0 := by omega
    obtain ⟨k, r0, r1, r2, r3, hkb, cr⟩ := risen_at h0 b4'
    have hbl : 1 ≤ blen (f * 2 ^ 191 + g * 2 ^ lowK s s') := by rw [blen_pos h0]; omega
    have k5 := fun w => srisen_any cp h0 hkb cr w
    obtain ⟨q6, q7⟩ := or_rest r0 r1 cr.h0 cr.h1
    have q5 : IntKind.i64.wrap (s + 1 - (k : Int)) = s + 1 - k := wrapI (by omega)
    have hz := qw_zero cp
    rw [decide_eq_false h0] at hz
    rw [exactV_top ng s h0 hkb cr hs]
    exact ⟨fun h => sreals_stay_same ng s f nl s' g _ _ _ _ _ _ _ _ _ _ _ _ _ _ _ _ _ _ _ _ _ _ _ k _ ks (zs h) k1 q1 q2 q3 k2 k3 hb hz k5 q4 q5 q6 q7 w,
      fun h => sreals_swap_same ng s f nl s' g _ _ _ _ _ _ _ _ _ _ _ _ _ _ _ _ _ _ _ _ _ _ _ k _ kw (zw h) k1 q1 q2 q3 k2 k3 hb hz k5 q4 q5 q6 q7 w⟩
  · have hb : (ng == nl) = false := beq_eq_false_iff_ne.2 hn
    have hv : sumW (ng == nl) f g (lowK s s') = f * 2 ^ 191 - g * 2 ^ lowK s s' := by unfold sumW; rw [hb, if_neg (by decide)]
    rw [hv] at b3 ⊢
    obtain ⟨m0, m1, m2, m3, cm⟩ := qw_ex b3
    have k4 := fun w => sminus_any ca cy hgf cm w
    have hz := qw_zero cm
    by_cases h0 : f * 2 ^ 191 - g * 2 ^ lowK s s' = 0
    · rw [decide_eq_true h0] at hz
      have he : exactV ng (f * 2 ^ 191 - g * 2 ^ lowK s s') (s - 254) false = exV 0 false 0 0 0 false := by unfold exactV; rw [if_pos h0]
      rw [he]
      exact ⟨fun h => sreals_stay_zero ng s f nl s' g _ _ _ _ _ _ _ _ _ _ _ _ _ _ _ _ _ _ _ _ ks (zs h) k1 q1 q2 q3 k2 k3 hb k4 hz w,
        fun h => sreals_swap_zero ng s f nl s' g _ _ _ _ _ _ _ _ _ _ _ _ _ _ _ _ _ _ _ _ kw (zw h) k1 q1 q2 q3 k2 k3 hb k4 hz w⟩
    · rw [decide_eq_false h0] at hz
      obtain ⟨k, r0, r1, r2, r3, hkb, cr⟩ := risen_at h0 b3
      have hbl : 1 ≤ blen (f * 2 ^ 191 - g * 2 ^ lowK s s') := by rw [blen_pos h0]; omega
      have k5 := fun w => srisen_any cm h0 hkb cr w
      obtain ⟨q6, q7⟩ := or_rest r0 r1 cr.h0 cr.h1
      have q5 : IntKind.i64.wrap (s + 1 - (k : Int)) = s + 1 - k := wrapI (by omega)
      rw [exactV_top ng s h0 hkb cr hs]
      exact ⟨fun h => sreals_stay_diff ng s f nl s' g _ _ _ _ _ _ _ _ _ _ _ _ _ _ _ _ _ _ _ _ _ _ _ _ _ _ _ k _ ks (zs h) k1 q1 q2 q3 k2 k3 hb k4 hz k5 q4 q5 q6 q7 w,
        fun h => sreals_swap_diff ng s f nl s' g _ _ _ _ _ _ _ _ _ _ _ _ _ _ _ _ _ _ _ _ _ _ _ _ _ _ _ k _ kw (zw h) k1 q1 q2 q3 k2 k3 hb k4 hz k5 q4 q5 q6 q7 w⟩
end Go.Proofs.Ytmkdnhdbgoehgaa

namespace Go.Proofs.Ytmkdnhdbgoehgaa
open Go.ChangeShapes Go.WideShapes Go.ChangeAt Go.RowKit
set_option linter.unusedVariables false
set_option maxRecDepth 100000

end Go.Proofs.Ytmkdnhdbgoehgaa

namespace Go.Proofs.Ytmkdnhdbgoehgaa
open Go.ChangeShapes Go.WideShapes Go.ChangeAt Go.RowKit
set_option linter.unusedVariables false
set_option linter.unusedSimpArgs false
set_option maxRecDepth 100000

/-! ### the document's Sum -/
theorem Row.cset {w : World} {v : Value} {l : List Nat} (h : Row w v l) (m k : Nat) (u u' : Value) (hc : w.cell? ⟨m, k, none⟩ = some u) (hu : ∀ x, u ≠ .int .i64 x) : Row (w.setCell ⟨m, k, none⟩ u') v l := h.setU m k u u' hc hu
theorem sumD_branch (neg : Bool) (s : Int) (M : Nat) (neg' : Bool) (s' : Int) (M' : Nat) (d b : Nat) (h : (¬ 400 < s - s' ∧ (d : Int) = s - s' ∧ b = M') ∨ (400 < s - s' ∧ d = 400 ∧ b = 1)) :
    sumD neg s M neg' s' M' = if neg = neg' then exactV neg (M * 2 ^ d + b) (s - 127 - d) false else if b ≤ M * 2 ^ d then exactV neg (M * 2 ^ d - b) (s - 127 - d) false else exactV neg' (b - M * 2 ^ d) (s - 127 - d) false := by
  unfold sumD
  rcases h with ⟨h1, h2, rfl⟩ | ⟨h1, h2, rfl⟩
  · simp only [if_neg h1]
    rw [show (s - s').toNat = d by omega]
  · simp only [if_pos h1]
    rw [farD_eq, ← h2]
theorem cmp_ge {a b : Nat} (h : b ≤ a) : decide ((0 : Int) ≤ cmpN a b) = true := by
  refine decide_eq_true ?_
  rcases Nat.lt_or_ge b a with x | x
  · rw [cmpN_gt x]; decide
  · have e : b = a := Nat.le_antisymm h x
    rw [e, cmpN_eq]; decide
theorem mul_blen {M d b : Nat} (hM : M < 2 ^ 128) (hb : b < 2 ^ 128) (hd : d ≤ 400) : blen (M * 2 ^ d + b) ≤ 1000 := by
  have h1 : M * 2 ^ d < 2 ^ (128 + d) := by rw [Nat.pow_add]; exact Nat.mul_lt_mul_of_pos_right hM (Nat.pow_pos (by decide))
  have h2 : b < 2 ^ (128 + d) := Nat.lt_of_lt_of_le hb (Nat.pow_le_pow_right (by decide) (by omega))
  have h3 : blen (M * 2 ^ d + b) ≤ 128 + d + 1 := blen_le.2 (by rw [Nat.pow_succ]; omega)
  omega
set_option maxHeartbeats 4000000 in
theorem sum9_near_add (neg : Bool) (s : Int) (hi lo : Nat) (neg' : Bool) (s' : Int) (hi' lo' : Nat) (h : WordsX hi lo) (h' : WordsX hi' lo') (hs : -1099511627776 ≤ s ∧ s ≤ 1099511627776) (hs' : -1099511627776 ≤ s' ∧ s' ≤ 1099511627776) (hle : s' ≤ s) (hf : ¬ 400 < s - s') (hn : neg = neg') (d : Nat) (hd : (d : Int) = s - s') (w : World) :
    Calls Try.prog 20 #[exV 1 neg s hi lo false, exV 1 neg' s' hi' lo' false] w fun e w' => e = .returned (exactV neg (manX hi lo * 2 ^ d + manX hi' lo') (s - 127 - d) false) ∧ Below w.heap.size w w' := by
  have hM := h.mant
  have hM' := h'.mant
  have hd4 : d ≤ 400 := by omega
  have hbl := @mul_blen (manX hi lo) d (manX hi' lo') hM.2 hM'.2 hd4
  have hbl1 := @mul_blen (manX hi lo) d 1 hM.2 (by decide) hd4
  have hTM : Tw (manX hi lo) hi lo := ⟨rfl, by have := h.hi64; omega, by have := h.lo64; omega⟩
  have hTM' : Tw (manX hi' lo') hi' lo' := ⟨rfl, by have := h'.hi64; omega, by have := h'.lo64; omega⟩
  have hA1 : blen (manX hi lo * 2 ^ d) ≤ 1000 := Nat.le_trans (blen_mono (Nat.le_add_right _ _)) hbl
  have hS0 := dlen_mant hM.2
  have hSA := dlen_of_blen (Nat.le_trans hA1 (by decide : 1000 ≤ 1099511627776))
  have k1 := fun w => rof_any hTM w
  have k2 := fun w => rof_any hTM' w
  have k3 := fun v w hr => nshl_anyq v (manX hi lo) d (by omega) hS0 w hr
  have hNb : blen (manX hi lo * 2 ^ d + manX hi' lo') ≤ 1000 := hbl
  have k5 := fun va vb w ha hb => nadd_anyq va vb (manX hi lo * 2 ^ d) (manX hi' lo') (dlen_of_blen (Nat.le_trans hNb (by decide : 1000 ≤ 1099511627776))) w ha hb
  have k6 := fun v w hr => exactly7_any neg v (manX hi lo * 2 ^ d + manX hi' lo') (s - 127 - d) false (Nat.le_trans hNb (by decide)) (by omega) w hr
  obtain ⟨K, B, S, H, L, R, hform⟩ := exactV_form neg (manX hi lo * 2 ^ d + manX hi' lo') (s - 127 - d) false
  rw [hform] at k6 ⊢
  have e1 : IntKind.i64.wrap (s - s') = s - s' := wrapI (by omega)
  have g0 : decide (s < s') = false := decide_eq_false (by omega)
  have e2 : IntKind.i64.wrap (s - 127) = s - 127 := wrapI (by omega)
  have e3 : IntKind.i64.wrap (s - 127 - (d : Int)) = s - 127 - (d : Int) := wrapI (by omega)
  have g1 : decide ((400 : Int) < (d : Int)) = false := decide_eq_false (by omega)
  replace e1 : IntKind.i64.wrap (s - s') = (d : Int) := e1.trans hd.symm
  subst hn
  have hle3 : True := trivial
  generalize (manX hi lo * 2 ^ d + manX hi' lo') = NN at *
  generalize manX hi lo * 2 ^ d = A at *
  generalize manX hi lo = M at *
  generalize manX hi' lo' = M2 at *
  clear hform hbl hbl1 hNb hA1 hSA hS0 hTM hTM' hM hM' h h' hs hs' hle hf hd hd4 hle3
  unfold exV at *
  refine cps fun Q hQ => ?_
  go_enter Try.func20, Try.ntmps20
  go_wp2_with (first
    | (go_at_call_of 33 hi; go_must (refine (k1 _).mono ?_); rintro e w1 ⟨v1, rfl, hr1, hb1⟩; have R1_0 := (hb1.block (w.heap.size) (by first | (simp; done) | (simp; omega) | omega)).trans ((Below.heap_alloc _ _ _ (by first | (simp; done) | (simp; omega) | omega)).trans ((Below.heap_alloc _ _ _ (by first | (simp; done) | (simp; omega) | omega)).trans (rownew' _ _ _ _ (by simp)))); have z1_0 : w.heap.size < w1.heap.size := Nat.lt_of_lt_of_le (by first | (simp; done) | (simp; omega) | omega) hb1.size; have HR1_0 : Hid _ := R1_0; clear R1_0; have R1_1 := (hb1.block (w.heap.size + 1) (by first | (simp; done) | (simp; omega) | omega)).trans ((Below.heap_alloc _ _ _ (by first | (simp; done) | (simp; omega) | omega)).trans (rownew' _ _ _ _ (by simp))); have z1_1 : w.heap.size + 1 < w1.heap.size := Nat.lt_of_lt_of_le (by first | (simp; done) | (simp; omega) | omega) hb1.size; have c1_1_3 := rowcell R1_1 3; have c1_1_4 := rowcell R1_1 4; simp only [List.getElem?_toArray, List.getElem?_cons_zero, List.getElem?_cons_succ] at c1_1_3 c1_1_4; have HR1_1 : Hid _ := R1_1; clear R1_1; have R1_2 := (hb1.block (w.heap.size + 1 + 1) (by first | (simp; done) | (simp; omega) | omega)).trans (rownew' _ _ _ _ (by simp)); have z1_2 : w.heap.size + 1 + 1 < w1.heap.size := Nat.lt_of_lt_of_le (by first | (simp; done) | (simp; omega) | omega) hb1.size; have HR1_2 : Hid _ := R1_2; clear R1_2; have HB1 : Hid (Below _ _ _) := hb1; clear hb1; have HV1 : Hid (Row w1 v1 (dig M)) := hr1; clear hr1)
    | (go_at_call_of 33 hi'; go_must (refine (k2 _).mono ?_); rintro e w2 ⟨v2, rfl, hr2, hb2⟩; have R2_0 := (hb2.block (w.heap.size) (by first | (simp; done) | (simp; omega) | omega)).trans HR1_0.out; have z2_0 : w.heap.size < w2.heap.size := Nat.lt_of_lt_of_le (by first | (simp; done) | (simp; omega) | omega) hb2.size; have c2_0_2 := rowcell R2_0 2; simp only [List.getElem?_toArray, List.getElem?_cons_zero, List.getElem?_cons_succ] at c2_0_2; have HR2_0 : Hid _ := R2_0; clear R2_0; have R2_1 := (hb2.block (w.heap.size + 1) (by first | (simp; done) | (simp; omega) | omega)).trans HR1_1.out; have z2_1 : w.heap.size + 1 < w2.heap.size := Nat.lt_of_lt_of_le (by first | (simp; done) | (simp; omega) | omega) hb2.size; have c2_1_2 := rowcell R2_1 2; simp only [List.getElem?_toArray, List.getElem?_cons_zero, List.getElem?_cons_succ] at c2_1_2; have HR2_1 : Hid _ := R2_1; clear R2_1; have R2_2 := (hb2.block (w.heap.size + 1 + 1) (by first | (simp; done) | (simp; omega) | omega)).trans HR1_2.out; have z2_2 : w.heap.size + 1 + 1 < w2.heap.size := Nat.lt_of_lt_of_le (by first | (simp; done) | (simp; omega) | omega) hb2.size; have HR2_2 : Hid _ := R2_2; clear R2_2; have HB2 : Hid (Below _ _ _) := hb2; clear hb2; have HV2 : Hid (Row w2 v2 (dig M2)) := hr2; have HW1 : Hid (Row w2 v1 (dig M)) := HV1.out.below HB2.out; clear hr2)
    | (go_at_call 34; go_must (refine (k3 _ _ HW1.out).mono ?_); rintro e w3 ⟨v3, rfl, hr3, hb3⟩; have R3_0 := (hb3.block (w.heap.size) (by first | (simp; done) | (simp; omega) | omega)).trans HR2_0.out; have z3_0 : w.heap.size < w3.heap.size := Nat.lt_of_lt_of_le (by first | (simp; done) | (simp; omega) | omega) hb3.size; have c3_0_2 := rowcell R3_0 2; have c3_0_1 := rowcell R3_0 1; simp only [List.getElem?_toArray, List.getElem?_cons_zero, List.getElem?_cons_succ] at c3_0_2 c3_0_1; have HR3_0 : Hid _ := R3_0; clear R3_0; have R3_1 := (hb3.block (w.heap.size + 1) (by first | (simp; done) | (simp; omega) | omega)).trans HR2_1.out; have z3_1 : w.heap.size + 1 < w3.heap.size := Nat.lt_of_lt_of_le (by first | (simp; done) | (simp; omega) | omega) hb3.size; have c3_1_1 := rowcell R3_1 1; simp only [List.getElem?_toArray, List.getElem?_cons_zero, List.getElem?_cons_succ] at c3_1_1; have HR3_1 : Hid _ := R3_1; clear R3_1; have R3_2 := (hb3.block (w.heap.size + 1 + 1) (by first | (simp; done) | (simp; omega) | omega)).trans HR2_2.out; have z3_2 : w.heap.size + 1 + 1 < w3.heap.size := Nat.lt_of_lt_of_le (by first | (simp; done) | (simp; omega) | omega) hb3.size; have HR3_2 : Hid _ := R3_2; clear R3_2; have HB3 : Hid (Below _ _ _) := hb3; clear hb3; have HV3 : Hid (Row w3 v3 (dig A)) := hr3; have HW2 : Hid (Row w3 v2 (dig M2)) := HV2.out.below HB3.out; clear hr3))
  have bq : Below w3.heap.size w3 w3 := Below.refl _ _
  have cls : ∀ W, Below w3.heap.size w3 W → W.cell? ⟨w.heap.size, 1, none⟩ = some (.bool neg) := fun W hW => (hW.cell (p := ⟨w.heap.size, 1, none⟩) z3_0).trans c3_0_1
  refine wpC_region (fun W => W.cell? ⟨w.heap.size, 1, none⟩ = some (.bool neg)) (by kernel_rfl) ?_
  refine wpC_take 0 (v := ?_) rfl (by kernel_rfl) (fun _ _ _ h => h) (by kernel_rfl) ?_ ?_; rotate_left; · (intro wC hC; obtain c1 := hC; go_simp <;> with_reducible rfl)
  refine wpC_take 1 (v := ?_) rfl (by kernel_rfl) (fun _ _ _ h => h) (by kernel_rfl) ?_ ?_; rotate_left; · (intro wC hC; obtain c1 := hC; go_simp <;> with_reducible rfl)
  refine wpC_take 2 (v := ?_) rfl (by kernel_rfl) (fun _ _ _ h => h) (by kernel_rfl) ?_ ?_; rotate_left; · (intro wC hC; obtain c1 := hC; go_simp <;> with_reducible rfl)
  refine wpC_take 3 (v := ?_) rfl (by kernel_rfl) (fun _ _ _ h => h) (by kernel_rfl) ?_ ?_; rotate_left; · (intro wC hC; obtain c1 := hC; go_simp <;> with_reducible rfl)
  refine wpC_take 5 (v := ?_) rfl (by kernel_rfl) (fun _ _ _ h => h) (by kernel_rfl) ?_ ?_; rotate_left; · (intro wC hC; obtain c1 := hC; go_simp <;> with_reducible rfl)
  refine wpC_step 4 rfl (by kernel_rfl) (by kernel_rfl) (cls _ (cdrew bq)) (fun K hK => ?_)
  go_simp
  go_wp2_with ((go_at_call 36; go_must (refine (k5 _ _ _ (HV3.out.below (cdrew bq)) (HW2.out.below (cdrew bq))).mono ?_); rintro e w4 ⟨v4, rfl, hr4, hb4⟩))
  try (refine hK _ _ ?_; clear hK K)
  have b4 : Below w3.heap.size w3 w4 := cthen (cdrew bq) hb4
  refine wpC_step 6 rfl (by kernel_rfl) (by kernel_rfl) (cls _ b4) (fun K hK => ?_)
  go_simp
  go_wp2_with ((go_at_call 35; go_must (refine (k6 _ _ hr4).mono ?_); rintro e w5 ⟨rfl, hb5⟩))
  try (refine hK _ _ ?_; clear hK K)
  have b5 : Below w3.heap.size w3 w5 := cthen b4 hb5
  have RR := (b5.block (w.heap.size + 1 + 1) z3_2).trans HR3_2.out
  have r0 := rowcell RR 0
  have r1 := rowcell RR 1
  have r2 := rowcell RR 2
  have r3 := rowcell RR 3
  have r4 := rowcell RR 4
  have r5 := rowcell RR 5
  have rf := rowfree RR
  simp only [List.getElem?_toArray, List.getElem?_cons_zero, List.getElem?_cons_succ] at r0 r1 r2 r3 r4 r5
  refine wpC_step 7 rfl (by kernel_rfl) (by kernel_rfl) (cls _ b5) (fun K hK => ?_)
  go_simp
  try (refine hK _ _ ?_; clear hK K)
  refine wpC_done (by kernel_rfl) (by simp [go_sem, cls _ b5]) ?_
  go_wp2
  refine bodyPost_ret (v := .agg #[.int .i64 K, .bool B, .int .i64 S, .int .u64 H, .int .u64 L, .bool R]) (by simp [results, Try.results20, go_sem, r0, r1, r2, r3, r4, r5]) rfl (hQ.out _ _ ⟨by simp, ?_⟩)
  exact cset6 (cthen (cthen (cthen (cthen (cmore (cmore (cmore (Below.refl _ _) _) _) _) HB1.out) HB2.out) HB3.out) b5) (by omega)
set_option maxHeartbeats 4000000 in
theorem sum9_near_sub (neg : Bool) (s : Int) (hi lo : Nat) (neg' : Bool) (s' : Int) (hi' lo' : Nat) (h : WordsX hi lo) (h' : WordsX hi' lo') (hs : -1099511627776 ≤ s ∧ s ≤ 1099511627776) (hs' : -1099511627776 ≤ s' ∧ s' ≤ 1099511627776) (hle : s' ≤ s) (hf : ¬ 400 < s - s') (hn : neg ≠ neg') (d : Nat) (hd : (d : Int) = s - s') (hc : manX hi' lo' ≤ manX hi lo * 2 ^ d) (w : World) :
    Calls Try.prog 20 #[exV 1 neg s hi lo false, exV 1 neg' s' hi' lo' false] w fun e w' => e = .returned (exactV neg (manX hi lo * 2 ^ d - manX hi' lo') (s - 127 - d) false) ∧ Below w.heap.size w w' := by
  have hM := h.mant
  have hM' := h'.mant
  have hd4 : d ≤ 400 := by omega
  have hbl := @mul_blen (manX hi lo) d (manX hi' lo') hM.2 hM'.2 hd4
  have hbl1 := @mul_blen (manX hi lo) d 1 hM.2 (by decide) hd4
  have hTM : Tw (manX hi lo) hi lo := ⟨rfl, by have := h.hi64; omega, by have := h.lo64; omega⟩
  have hTM' : Tw (manX hi' lo') hi' lo' := ⟨rfl, by have := h'.hi64; omega, by have := h'.lo64; omega⟩
  have hA1 : blen (manX hi lo * 2 ^ d) ≤ 1000 := Nat.le_trans (blen_mono (Nat.le_add_right _ _)) hbl
  have hS0 := dlen_mant hM.2
  have hSA := dlen_of_blen (Nat.le_trans hA1 (by decide : 1000 ≤ 1099511627776))
  have k1 := fun w => rof_any hTM w
  have k2 := fun w => rof_any hTM' w
  have k3 := fun v w hr => nshl_anyq v (manX hi lo) d (by omega) hS0 w hr
  have hNb : blen (manX hi lo * 2 ^ d - manX hi' lo') ≤ 1000 := Nat.le_trans (blen_mono (Nat.sub_le _ _)) hA1
  have k4 := fun va vb w ha hb => ncmp_anyq va vb (manX hi lo * 2 ^ d) (manX hi' lo') w ha hb
  have hcm : decide ((0 : Int) ≤ cmpN (manX hi lo * 2 ^ d) (manX hi' lo')) = true := cmp_ge hc
  have k5 := fun va vb w ha hb => nsub_anyq va vb (manX hi lo * 2 ^ d) (manX hi' lo') hc hSA w ha hb
  have k6 := fun v w hr => exactly7_any neg v (manX hi lo * 2 ^ d - manX hi' lo') (s - 127 - d) false (Nat.le_trans hNb (by decide)) (by omega) w hr
  obtain ⟨K, B, S, H, L, R, hform⟩ := exactV_form neg (manX hi lo * 2 ^ d - manX hi' lo') (s - 127 - d) false
  rw [hform] at k6 ⊢
  have e1 : IntKind.i64.wrap (s - s') = s - s' := wrapI (by omega)
  have g0 : decide (s < s') = false := decide_eq_false (by omega)
  have e2 : IntKind.i64.wrap (s - 127) = s - 127 := wrapI (by omega)
  have e3 : IntKind.i64.wrap (s - 127 - (d : Int)) = s - 127 - (d : Int) := wrapI (by omega)
  have g1 : decide ((400 : Int) < (d : Int)) = false := decide_eq_false (by omega)
  replace e1 : IntKind.i64.wrap (s - s') = (d : Int) := e1.trans hd.symm
  have hnb : (neg == neg') = false := beq_eq_false_iff_ne.2 hn
  have hle3 : True := trivial
  generalize (manX hi lo * 2 ^ d - manX hi' lo') = NN at *
  generalize manX hi lo * 2 ^ d = A at *
  generalize manX hi lo = M at *
  generalize manX hi' lo' = M2 at *
  clear hform hbl hbl1 hNb hA1 hSA hS0 hTM hTM' hM hM' h h' hs hs' hle hf hd hd4 hle3 hn hc
  unfold exV at *
  refine cps fun Q hQ => ?_
  go_enter Try.func20, Try.ntmps20
  go_wp2_with (first
    | (go_at_call_of 33 hi; go_must (refine (k1 _).mono ?_); rintro e w1 ⟨v1, rfl, hr1, hb1⟩; have R1_0 := (hb1.block (w.heap.size) (by first | (simp; done) | (simp; omega) | omega)).trans ((Below.heap_alloc _ _ _ (by first | (simp; done) | (simp; omega) | omega)).trans ((Below.heap_alloc _ _ _ (by first | (simp; done) | (simp; omega) | omega)).trans (rownew' _ _ _ _ (by simp)))); have z1_0 : w.heap.size < w1.heap.size := Nat.lt_of_lt_of_le (by first | (simp; done) | (simp; omega) | omega) hb1.size; have HR1_0 : Hid _ := R1_0; clear R1_0; have R1_1 := (hb1.block (w.heap.size + 1) (by first | (simp; done) | (simp; omega) | omega)).trans ((Below.heap_alloc _ _ _ (by first | (simp; done) | (simp; omega) | omega)).trans (rownew' _ _ _ _ (by simp))); have z1_1 : w.heap.size + 1 < w1.heap.size := Nat.lt_of_lt_of_le (by first | (simp; done) | (simp; omega) | omega) hb1.size; have c1_1_3 := rowcell R1_1 3; have c1_1_4 := rowcell R1_1 4; simp only [List.getElem?_toArray, List.getElem?_cons_zero, List.getElem?_cons_succ] at c1_1_3 c1_1_4; have HR1_1 : Hid _ := R1_1; clear R1_1; have R1_2 := (hb1.block (w.heap.size + 1 + 1) (by first | (simp; done) | (simp; omega) | omega)).trans (rownew' _ _ _ _ (by simp)); have z1_2 : w.heap.size + 1 + 1 < w1.heap.size := Nat.lt_of_lt_of_le (by first | (simp; done) | (simp; omega) | omega) hb1.size; have HR1_2 : Hid _ := R1_2; clear R1_2; have HB1 : Hid (Below _ _ _) := hb1; clear hb1; have HV1 : Hid (Row w1 v1 (dig M)) := hr1; clear hr1)
    | (go_at_call_of 33 hi'; go_must (refine (k2 _).mono ?_); rintro e w2 ⟨v2, rfl, hr2, hb2⟩; have R2_0 := (hb2.block (w.heap.size) (by first | (simp; done) | (simp; omega) | omega)).trans HR1_0.out; have z2_0 : w.heap.size < w2.heap.size := Nat.lt_of_lt_of_le (by first | (simp; done) | (simp; omega) | omega) hb2.size; have c2_0_2 := rowcell R2_0 2; simp only [List.getElem?_toArray, List.getElem?_cons_zero, List.getElem?_cons_succ] at c2_0_2; have HR2_0 : Hid _ := R2_0; clear R2_0; have R2_1 := (hb2.block (w.heap.size + 1) (by first | (simp; done) | (simp; omega) | omega)).trans HR1_1.out; have z2_1 : w.heap.size + 1 < w2.heap.size := Nat.lt_of_lt_of_le (by first | (simp; done) | (simp; omega) | omega) hb2.size; have c2_1_2 := rowcell R2_1 2; simp only [List.getElem?_toArray, List.getElem?_cons_zero, List.getElem?_cons_succ] at c2_1_2; have HR2_1 : Hid _ := R2_1; clear R2_1; have R2_2 := (hb2.block (w.heap.size + 1 + 1) (by first | (simp; done) | (simp; omega) | omega)).trans HR1_2.out; have z2_2 : w.heap.size + 1 + 1 < w2.heap.size := Nat.lt_of_lt_of_le (by first | (simp; done) | (simp; omega) | omega) hb2.size; have HR2_2 : Hid _ := R2_2; clear R2_2; have HB2 : Hid (Below _ _ _) := hb2; clear hb2; have HV2 : Hid (Row w2 v2 (dig M2)) := hr2; have HW1 : Hid (Row w2 v1 (dig M)) := HV1.out.below HB2.out; clear hr2)
    | (go_at_call 34; go_must (refine (k3 _ _ HW1.out).mono ?_); rintro e w3 ⟨v3, rfl, hr3, hb3⟩; have R3_0 := (hb3.block (w.heap.size) (by first | (simp; done) | (simp; omega) | omega)).trans HR2_0.out; have z3_0 : w.heap.size < w3.heap.size := Nat.lt_of_lt_of_le (by first | (simp; done) | (simp; omega) | omega) hb3.size; have c3_0_2 := rowcell R3_0 2; have c3_0_1 := rowcell R3_0 1; simp only [List.getElem?_toArray, List.getElem?_cons_zero, List.getElem?_cons_succ] at c3_0_2 c3_0_1; have HR3_0 : Hid _ := R3_0; clear R3_0; have R3_1 := (hb3.block (w.heap.size + 1) (by first | (simp; done) | (simp; omega) | omega)).trans HR2_1.out; have z3_1 : w.heap.size + 1 < w3.heap.size := Nat.lt_of_lt_of_le (by first | (simp; done) | (simp; omega) | omega) hb3.size; have c3_1_1 := rowcell R3_1 1; simp only [List.getElem?_toArray, List.getElem?_cons_zero, List.getElem?_cons_succ] at c3_1_1; have HR3_1 : Hid _ := R3_1; clear R3_1; have R3_2 := (hb3.block (w.heap.size + 1 + 1) (by first | (simp; done) | (simp; omega) | omega)).trans HR2_2.out; have z3_2 : w.heap.size + 1 + 1 < w3.heap.size := Nat.lt_of_lt_of_le (by first | (simp; done) | (simp; omega) | omega) hb3.size; have HR3_2 : Hid _ := R3_2; clear R3_2; have HB3 : Hid (Below _ _ _) := hb3; clear hb3; have HV3 : Hid (Row w3 v3 (dig A)) := hr3; have HW2 : Hid (Row w3 v2 (dig M2)) := HV2.out.below HB3.out; clear hr3)
    | (go_at_call 37; go_must (refine (k4 _ _ _ HV3.out HW2.out).mono ?_); rintro e wx ⟨rfl, q, rfl⟩))
  have bq : Below w3.heap.size w3 (w3.drewN q) := below_drewN (Below.refl _ _) q
  have cls : ∀ W, Below w3.heap.size w3 W → W.cell? ⟨w.heap.size, 1, none⟩ = some (.bool neg) := fun W hW => (hW.cell (p := ⟨w.heap.size, 1, none⟩) z3_0).trans c3_0_1
  refine wpC_region (fun W => W.cell? ⟨w.heap.size, 1, none⟩ = some (.bool neg)) (by kernel_rfl) ?_
  refine wpC_take 0 (v := ?_) rfl (by kernel_rfl) (fun _ _ _ h => h) (by kernel_rfl) ?_ ?_; rotate_left; · (intro wC hC; obtain c1 := hC; go_simp <;> with_reducible rfl)
  refine wpC_take 1 (v := ?_) rfl (by kernel_rfl) (fun _ _ _ h => h) (by kernel_rfl) ?_ ?_; rotate_left; · (intro wC hC; obtain c1 := hC; go_simp <;> with_reducible rfl)
  refine wpC_take 2 (v := ?_) rfl (by kernel_rfl) (fun _ _ _ h => h) (by kernel_rfl) ?_ ?_; rotate_left; · (intro wC hC; obtain c1 := hC; go_simp <;> with_reducible rfl)
  refine wpC_take 3 (v := ?_) rfl (by kernel_rfl) (fun _ _ _ h => h) (by kernel_rfl) ?_ ?_; rotate_left; · (intro wC hC; obtain c1 := hC; go_simp <;> with_reducible rfl)
  refine wpC_take 5 (v := ?_) rfl (by kernel_rfl) (fun _ _ _ h => h) (by kernel_rfl) ?_ ?_; rotate_left; · (intro wC hC; obtain c1 := hC; go_simp <;> with_reducible rfl)
  refine wpC_step 4 rfl (by kernel_rfl) (by kernel_rfl) (cls _ (cdrew bq)) (fun K hK => ?_)
  go_simp
  go_wp2_with ((go_at_call 38; go_must (refine (k5 _ _ _ (HV3.out.below (cdrew bq)) (HW2.out.below (cdrew bq))).mono ?_); rintro e w4 ⟨v4, rfl, hr4, hb4⟩))
  try (refine hK _ _ ?_; clear hK K)
  have b4 : Below w3.heap.size w3 w4 := cthen (cdrew bq) hb4
  refine wpC_step 6 rfl (by kernel_rfl) (by kernel_rfl) (cls _ b4) (fun K hK => ?_)
  go_simp
  go_wp2_with ((go_at_call 35; go_must (refine (k6 _ _ hr4).mono ?_); rintro e w5 ⟨rfl, hb5⟩))
  try (refine hK _ _ ?_; clear hK K)
  have b5 : Below w3.heap.size w3 w5 := cthen b4 hb5
  have RR := (b5.block (w.heap.size + 1 + 1) z3_2).trans HR3_2.out
  have r0 := rowcell RR 0
  have r1 := rowcell RR 1
  have r2 := rowcell RR 2
  have r3 := rowcell RR 3
  have r4 := rowcell RR 4
  have r5 := rowcell RR 5
  have rf := rowfree RR
  simp only [List.getElem?_toArray, List.getElem?_cons_zero, List.getElem?_cons_succ] at r0 r1 r2 r3 r4 r5
  refine wpC_step 7 rfl (by kernel_rfl) (by kernel_rfl) (cls _ b5) (fun K hK => ?_)
  go_simp
  try (refine hK _ _ ?_; clear hK K)
  refine wpC_done (by kernel_rfl) (by simp [go_sem, cls _ b5]) ?_
  go_wp2
  refine bodyPost_ret (v := .agg #[.int .i64 K, .bool B, .int .i64 S, .int .u64 H, .int .u64 L, .bool R]) (by simp [results, Try.results20, go_sem, r0, r1, r2, r3, r4, r5]) rfl (hQ.out _ _ ⟨by simp, ?_⟩)
  exact cset6 (cthen (cthen (cthen (cthen (cmore (cmore (cmore (Below.refl _ _) _) _) _) HB1.out) HB2.out) HB3.out) b5) (by omega)
set_option maxHeartbeats 4000000 in
theorem sum9_near_bus (neg : Bool) (s : Int) (hi lo : Nat) (neg' : Bool) (s' : Int) (hi' lo' : Nat) (h : WordsX hi lo) (h' : WordsX hi' lo') (hs : -1099511627776 ≤ s ∧ s ≤ 1099511627776) (hs' : -1099511627776 ≤ s' ∧ s' ≤ 1099511627776) (hle : s' ≤ s) (hf : ¬ 400 < s - s') (hn : neg ≠ neg') (d : Nat) (hd : (d : Int) = s - s') (hc : ¬ manX hi' lo' ≤ manX hi lo * 2 ^ d) (w : World) :
    Calls Try.prog 20 #[exV 1 neg s hi lo false, exV 1 neg' s' hi' lo' false] w fun e w' => e = .returned (exactV neg' (manX hi' lo' - manX hi lo * 2 ^ d) (s - 127 - d) false) ∧ Below w.heap.size w w' := by
  have hM := h.mant
  have hM' := h'.mant
  have hd4 : d ≤ 400 := by omega
  have hbl := @mul_blen (manX hi lo) d (manX hi' lo') hM.2 hM'.2 hd4
  have hbl1 := @mul_blen (manX hi lo) d 1 hM.2 (by decide) hd4
  have hTM : Tw (manX hi lo) hi lo := ⟨rfl, by have := h.hi64; omega, by have := h.lo64; omega⟩
  have hTM' : Tw (manX hi' lo') hi' lo' := ⟨rfl, by have := h'.hi64; omega, by have := h'.lo64; omega⟩
  have hA1 : blen (manX hi lo * 2 ^ d) ≤ 1000 := Nat.le_trans (blen_mono (Nat.le_add_right _ _)) hbl
  have hS0 := dlen_mant hM.2
  have hSA := dlen_of_blen (Nat.le_trans hA1 (by decide : 1000 ≤ 1099511627776))
  have k1 := fun w => rof_any hTM w
  have k2 := fun w => rof_any hTM' w
  have k3 := fun v w hr => nshl_anyq v (manX hi lo) d (by omega) hS0 w hr
  have hNb : blen (manX hi' lo' - manX hi lo * 2 ^ d) ≤ 1000 := Nat.le_trans (blen_mono (Nat.le_trans (Nat.sub_le _ _) (Nat.le_add_left _ (manX hi lo * 2 ^ d)))) hbl
  have k4 := fun va vb w ha hb => ncmp_anyq va vb (manX hi lo * 2 ^ d) (manX hi' lo') w ha hb
  have hcm : decide ((0 : Int) ≤ cmpN (manX hi lo * 2 ^ d) (manX hi' lo')) = false := decide_eq_false (by rw [cmpN_lt (by omega)]; decide)
  have k5 := fun va vb w ha hb => nsub_anyq va vb (manX hi' lo') (manX hi lo * 2 ^ d) (by omega) (dlen_of_blen (Nat.le_trans (blen_mono (Nat.le_add_left _ (manX hi lo * 2 ^ d))) (Nat.le_trans hbl (by decide : 1000 ≤ 1099511627776)))) w ha hb
  have k6 := fun v w hr => exactly7_any neg' v (manX hi' lo' - manX hi lo * 2 ^ d) (s - 127 - d) false (Nat.le_trans hNb (by decide)) (by omega) w hr
  obtain ⟨K, B, S, H, L, R, hform⟩ := exactV_form neg' (manX hi' lo' - manX hi lo * 2 ^ d) (s - 127 - d) false
  rw [hform] at k6 ⊢
  have e1 : IntKind.i64.wrap (s - s') = s - s' := wrapI (by omega)
  have g0 : decide (s < s') = false := decide_eq_false (by omega)
  have e2 : IntKind.i64.wrap (s - 127) = s - 127 := wrapI (by omega)
  have e3 : IntKind.i64.wrap (s - 127 - (d : Int)) = s - 127 - (d : Int) := wrapI (by omega)
  have g1 : decide ((400 : Int) < (d : Int)) = false := decide_eq_false (by omega)
  replace e1 : IntKind.i64.wrap (s - s') = (d : Int) := e1.trans hd.symm
  have hnb : (neg == neg') = false := beq_eq_false_iff_ne.2 hn
  have hle3 : True := trivial
  generalize (manX hi' lo' - manX hi lo * 2 ^ d) = NN at *
  generalize manX hi lo * 2 ^ d = A at *
  generalize manX hi lo = M at *
  generalize manX hi' lo' = M2 at *
  clear hform hbl hbl1 hNb hA1 hSA hS0 hTM hTM' hM hM' h h' hs hs' hle hf hd hd4 hle3 hn hc
  unfold exV at *
  refine cps fun Q hQ => ?_
  go_enter Try.func20, Try.ntmps20
  go_wp2_with (first
    | (go_at_call_of 33 hi; go_must (refine (k1 _).mono ?_); rintro e w1 ⟨v1, rfl, hr1, hb1⟩; have R1_0 := (hb1.block (w.heap.size) (by first | (simp; done) | (simp; omega) | omega)).trans ((Below.heap_alloc _ _ _ (by first | (simp; done) | (simp; omega) | omega)).trans ((Below.heap_alloc _ _ _ (by first | (simp; done) | (simp; omega) | omega)).trans (rownew' _ _ _ _ (by simp)))); have z1_0 : w.heap.size < w1.heap.size := Nat.lt_of_lt_of_le (by first | (simp; done) | (simp; omega) | omega) hb1.size; have HR1_0 : Hid _ := R1_0; clear R1_0; have R1_1 := (hb1.block (w.heap.size + 1) (by first | (simp; done) | (simp; omega) | omega)).trans ((Below.heap_alloc _ _ _ (by first | (simp; done) | (simp; omega) | omega)).trans (rownew' _ _ _ _ (by simp))); have z1_1 : w.heap.size + 1 < w1.heap.size := Nat.lt_of_lt_of_le (by first | (simp; done) | (simp; omega) | omega) hb1.size; have c1_1_3 := rowcell R1_1 3; have c1_1_4 := rowcell R1_1 4; simp only [List.getElem?_toArray, List.getElem?_cons_zero, List.getElem?_cons_succ] at c1_1_3 c1_1_4; have HR1_1 : Hid _ := R1_1; clear R1_1; have R1_2 := (hb1.block (w.heap.size + 1 + 1) (by first | (simp; done) | (simp; omega) | omega)).trans (rownew' _ _ _ _ (by simp)); have z1_2 : w.heap.size + 1 + 1 < w1.heap.size := Nat.lt_of_lt_of_le (by first | (simp; done) | (simp; omega) | omega) hb1.size; have HR1_2 : Hid _ := R1_2; clear R1_2; have HB1 : Hid (Below _ _ _) := hb1; clear hb1; have HV1 : Hid (Row w1 v1 (dig M)) := hr1; clear hr1)
    | (go_at_call_of 33 hi'; go_must (refine (k2 _).mono ?_); rintro e w2 ⟨v2, rfl, hr2, hb2⟩; have R2_0 := (hb2.block (w.heap.size) (by first | (simp; done) | (simp; omega) | omega)).trans HR1_0.out; have z2_0 : w.heap.size < w2.heap.size := Nat.lt_of_lt_of_le (by first | (simp; done) | (simp; omega) | omega) hb2.size; have c2_0_2 := rowcell R2_0 2; simp only [List.getElem?_toArray, List.getElem?_cons_zero, List.getElem?_cons_succ] at c2_0_2; have HR2_0 : Hid _ := R2_0; clear R2_0; have R2_1 := (hb2.block (w.heap.size + 1) (by first | (simp; done) | (simp; omega) | omega)).trans HR1_1.out; have z2_1 : w.heap.size + 1 < w2.heap.size := Nat.lt_of_lt_of_le (by first | (simp; done) | (simp; omega) | omega) hb2.size; have c2_1_2 := rowcell R2_1 2; simp only [List.getElem?_toArray, List.getElem?_cons_zero, List.getElem?_cons_succ] at c2_1_2; have HR2_1 : Hid _ := R2_1; clear R2_1; have R2_2 := (hb2.block (w.heap.size + 1 + 1) (by first | (simp; done) | (simp; omega) | omega)).trans HR1_2.out; have z2_2 : w.heap.size + 1 + 1 < w2.heap.size := Nat.lt_of_lt_of_le (by first | (simp; done) | (simp; omega) | omega) hb2.size; have HR2_2 : Hid _ := R2_2; clear R2_2; have HB2 : Hid (Below _ _ _) := hb2; clear hb2; have HV2 : Hid (Row w2 v2 (dig M2)) := hr2; have HW1 : Hid (Row w2 v1 (dig M)) := HV1.out.below HB2.out; clear hr2)
    | (go_at_call 34; go_must (refine (k3 _ _ HW1.out).mono ?_); rintro e w3 ⟨v3, rfl, hr3, hb3⟩; have R3_0 := (hb3.block (w.heap.size) (by first | (simp; done) | (simp; omega) | omega)).trans HR2_0.out; have z3_0 : w.heap.size < w3.heap.size := Nat.lt_of_lt_of_le (by first | (simp; done) | (simp; omega) | omega) hb3.size; have c3_0_2 := rowcell R3_0 2; have c3_0_1 := rowcell R3_0 1; simp only [List.getElem?_toArray, List.getElem?_cons_zero, List.getElem?_cons_succ] at c3_0_2 c3_0_1; have HR3_0 : Hid _ := R3_0; clear R3_0; have R3_1 := (hb3.block (w.heap.size + 1) (by first | (simp; done) | (simp; omega) | omega)).trans HR2_1.out; have z3_1 : w.heap.size + 1 < w3.heap.size := Nat.lt_of_lt_of_le (by first | (simp; done) | (simp; omega) | omega) hb3.size; have c3_1_1 := rowcell R3_1 1; simp only [List.getElem?_toArray, List.getElem?_cons_zero, List.getElem?_cons_succ] at c3_1_1; have HR3_1 : Hid _ := R3_1; clear R3_1; have R3_2 := (hb3.block (w.heap.size + 1 + 1) (by first | (simp; done) | (simp; omega) | omega)).trans HR2_2.out; have z3_2 : w.heap.size + 1 + 1 < w3.heap.size := Nat.lt_of_lt_of_le (by first | (simp; done) | (simp; omega) | omega) hb3.size; have HR3_2 : Hid _ := R3_2; clear R3_2; have HB3 : Hid (Below _ _ _) := hb3; clear hb3; have HV3 : Hid (Row w3 v3 (dig A)) := hr3; have HW2 : Hid (Row w3 v2 (dig M2)) := HV2.out.below HB3.out; clear hr3)
    | (go_at_call 37; go_must (refine (k4 _ _ _ HV3.out HW2.out).mono ?_); rintro e wx ⟨rfl, q, rfl⟩))
  have bq : Below w3.heap.size w3 (w3.drewN q) := below_drewN (Below.refl _ _) q
  have cls : ∀ W, Below w3.heap.size w3 W → W.cell? ⟨w.heap.size + 1, 1, none⟩ = some (.bool neg') := fun W hW => (hW.cell (p := ⟨w.heap.size + 1, 1, none⟩) z3_1).trans c3_1_1
  refine wpC_region (fun W => W.cell? ⟨w.heap.size + 1, 1, none⟩ = some (.bool neg')) (by kernel_rfl) ?_
  refine wpC_take 0 (v := ?_) rfl (by kernel_rfl) (fun _ _ _ h => h) (by kernel_rfl) ?_ ?_; rotate_left; · (intro wC hC; obtain c1 := hC; go_simp <;> with_reducible rfl)
  refine wpC_take 1 (v := ?_) rfl (by kernel_rfl) (fun _ _ _ h => h) (by kernel_rfl) ?_ ?_; rotate_left; · (intro wC hC; obtain c1 := hC; go_simp <;> with_reducible rfl)
  refine wpC_take 2 (v := ?_) rfl (by kernel_rfl) (fun _ _ _ h => h) (by kernel_rfl) ?_ ?_; rotate_left; · (intro wC hC; obtain c1 := hC; go_simp <;> with_reducible rfl)
  refine wpC_take 3 (v := ?_) rfl (by kernel_rfl) (fun _ _ _ h => h) (by kernel_rfl) ?_ ?_; rotate_left; · (intro wC hC; obtain c1 := hC; go_simp <;> with_reducible rfl)
  refine wpC_take 5 (v := ?_) rfl (by kernel_rfl) (fun _ _ _ h => h) (by kernel_rfl) ?_ ?_; rotate_left; · (intro wC hC; obtain c1 := hC; go_simp <;> with_reducible rfl)
  refine wpC_step 4 rfl (by kernel_rfl) (by kernel_rfl) (cls _ (cdrew bq)) (fun K hK => ?_)
  go_simp
  go_wp2_with ((go_at_call 38; go_must (refine (k5 _ _ _ (HW2.out.below (cdrew bq)) (HV3.out.below (cdrew bq))).mono ?_); rintro e w4 ⟨v4, rfl, hr4, hb4⟩))
  try (refine hK _ _ ?_; clear hK K)
  have b4 : Below w3.heap.size w3 w4 := cthen (cdrew bq) hb4
  refine wpC_step 6 rfl (by kernel_rfl) (by kernel_rfl) (cls _ b4) (fun K hK => ?_)
  go_simp
  go_wp2_with ((go_at_call 35; go_must (refine (k6 _ _ hr4).mono ?_); rintro e w5 ⟨rfl, hb5⟩))
  try (refine hK _ _ ?_; clear hK K)
  have b5 : Below w3.heap.size w3 w5 := cthen b4 hb5
  have RR := (b5.block (w.heap.size + 1 + 1) z3_2).trans HR3_2.out
  have r0 := rowcell RR 0
  have r1 := rowcell RR 1
  have r2 := rowcell RR 2
  have r3 := rowcell RR 3
  have r4 := rowcell RR 4
  have r5 := rowcell RR 5
  have rf := rowfree RR
  simp only [List.getElem?_toArray, List.getElem?_cons_zero, List.getElem?_cons_succ] at r0 r1 r2 r3 r4 r5
  refine wpC_step 7 rfl (by kernel_rfl) (by kernel_rfl) (cls _ b5) (fun K hK => ?_)
  go_simp
  try (refine hK _ _ ?_; clear hK K)
  refine wpC_done (by kernel_rfl) (by simp [go_sem, cls _ b5]) ?_
  go_wp2
  refine bodyPost_ret (v := .agg #[.int .i64 K, .bool B, .int .i64 S, .int .u64 H, .int .u64 L, .bool R]) (by simp [results, Try.results20, go_sem, r0, r1, r2, r3, r4, r5]) rfl (hQ.out _ _ ⟨by simp, ?_⟩)
  exact cset6 (cthen (cthen (cthen (cthen (cmore (cmore (cmore (Below.refl _ _) _) _) _) HB1.out) HB2.out) HB3.out) b5) (by omega)
set_option maxHeartbeats 4000000 in
theorem sum9_far_add (neg : Bool) (s : Int) (hi lo : Nat) (neg' : Bool) (s' : Int) (hi' lo' : Nat) (h : WordsX hi lo) (h' : WordsX hi' lo') (hs : -1099511627776 ≤ s ∧ s ≤ 1099511627776) (hs' : -1099511627776 ≤ s' ∧ s' ≤ 1099511627776) (hle : s' ≤ s) (hf : 400 < s - s') (hn : neg = neg') (d : Nat) (hd : d = 400) (w : World) :
    Calls Try.prog 20 #[exV 1 neg s hi lo false, exV 1 neg' s' hi' lo' false] w fun e w' => e = .returned (exactV neg (manX hi lo * 2 ^ d + 1) (s - 127 - d) false) ∧ Below w.heap.size w w' := by
  have hM := h.mant
  have hM' := h'.mant
  have hd4 : d ≤ 400 := by omega
  have hbl := @mul_blen (manX hi lo) d (manX hi' lo') hM.2 hM'.2 hd4
  have hbl1 := @mul_blen (manX hi lo) d 1 hM.2 (by decide) hd4
  have hTM : Tw (manX hi lo) hi lo := ⟨rfl, by have := h.hi64; omega, by have := h.lo64; omega⟩
  have hTM' : Tw (manX hi' lo') hi' lo' := ⟨rfl, by have := h'.hi64; omega, by have := h'.lo64; omega⟩
  have hA1 : blen (manX hi lo * 2 ^ d) ≤ 1000 := Nat.le_trans (blen_mono (Nat.le_add_right _ _)) hbl
  have hS0 := dlen_mant hM.2
  have hSA := dlen_of_blen (Nat.le_trans hA1 (by decide : 1000 ≤ 1099511627776))
  have k1 := fun w => rof_any hTM w
  have k2 := fun w => rof_any hTM' w
  have k3 := fun v w hr => nshl_anyq v (manX hi lo) d (by omega) hS0 w hr
  have hNb : blen (manX hi lo * 2 ^ d + 1) ≤ 1000 := hbl1
  have k5 := fun va vb w ha hb => nadd_anyq va vb (manX hi lo * 2 ^ d) (1) (dlen_of_blen (Nat.le_trans hNb (by decide : 1000 ≤ 1099511627776))) w ha hb
  have k6 := fun v w hr => exactly7_any neg v (manX hi lo * 2 ^ d + 1) (s - 127 - d) false (Nat.le_trans hNb (by decide)) (by omega) w hr
  obtain ⟨K, B, S, H, L, R, hform⟩ := exactV_form neg (manX hi lo * 2 ^ d + 1) (s - 127 - d) false
  rw [hform] at k6 ⊢
  have e1 : IntKind.i64.wrap (s - s') = s - s' := wrapI (by omega)
  have g0 : decide (s < s') = false := decide_eq_false (by omega)
  have e2 : IntKind.i64.wrap (s - 127) = s - 127 := wrapI (by omega)
  have e3 : IntKind.i64.wrap (s - 127 - (d : Int)) = s - 127 - (d : Int) := wrapI (by omega)
  have g1 : decide ((400 : Int) < s - s') = true := decide_eq_true hf
  rw [show (d : Int) = 400 by rw [hd]; rfl] at *
  subst hn
  have hle3 : True := trivial
  generalize (manX hi lo * 2 ^ d + 1) = NN at *
  generalize manX hi lo * 2 ^ d = A at *
  generalize manX hi lo = M at *
  generalize manX hi' lo' = M2 at *
  clear hform hbl hbl1 hNb hA1 hSA hS0 hTM hTM' hM hM' h h' hs hs' hle hf hd hd4 hle3
  unfold exV at *
  refine cps fun Q hQ => ?_
  go_enter Try.func20, Try.ntmps20
  go_wp2_with (first
    | (go_at_call_of 33 hi; go_must (refine (k1 _).mono ?_); rintro e w1 ⟨v1, rfl, hr1, hb1⟩; have R1_0 := (hb1.block (w.heap.size) (by first | (simp; done) | (simp; omega) | omega)).trans ((Below.heap_alloc _ _ _ (by first | (simp; done) | (simp; omega) | omega)).trans ((Below.heap_alloc _ _ _ (by first | (simp; done) | (simp; omega) | omega)).trans (rownew' _ _ _ _ (by simp)))); have z1_0 : w.heap.size < w1.heap.size := Nat.lt_of_lt_of_le (by first | (simp; done) | (simp; omega) | omega) hb1.size; have HR1_0 : Hid _ := R1_0; clear R1_0; have R1_1 := (hb1.block (w.heap.size + 1) (by first | (simp; done) | (simp; omega) | omega)).trans ((Below.heap_alloc _ _ _ (by first | (simp; done) | (simp; omega) | omega)).trans (rownew' _ _ _ _ (by simp))); have z1_1 : w.heap.size + 1 < w1.heap.size := Nat.lt_of_lt_of_le (by first | (simp; done) | (simp; omega) | omega) hb1.size; have c1_1_3 := rowcell R1_1 3; have c1_1_4 := rowcell R1_1 4; simp only [List.getElem?_toArray, List.getElem?_cons_zero, List.getElem?_cons_succ] at c1_1_3 c1_1_4; have HR1_1 : Hid _ := R1_1; clear R1_1; have R1_2 := (hb1.block (w.heap.size + 1 + 1) (by first | (simp; done) | (simp; omega) | omega)).trans (rownew' _ _ _ _ (by simp)); have z1_2 : w.heap.size + 1 + 1 < w1.heap.size := Nat.lt_of_lt_of_le (by first | (simp; done) | (simp; omega) | omega) hb1.size; have HR1_2 : Hid _ := R1_2; clear R1_2; have HB1 : Hid (Below _ _ _) := hb1; clear hb1; have HV1 : Hid (Row w1 v1 (dig M)) := hr1; clear hr1)
    | (go_at_call_of 33 hi'; go_must (refine (k2 _).mono ?_); rintro e w2 ⟨v2, rfl, hr2, hb2⟩; have R2_0 := (hb2.block (w.heap.size) (by first | (simp; done) | (simp; omega) | omega)).trans HR1_0.out; have z2_0 : w.heap.size < w2.heap.size := Nat.lt_of_lt_of_le (by first | (simp; done) | (simp; omega) | omega) hb2.size; have c2_0_2 := rowcell R2_0 2; simp only [List.getElem?_toArray, List.getElem?_cons_zero, List.getElem?_cons_succ] at c2_0_2; have HR2_0 : Hid _ := R2_0; clear R2_0; have R2_1 := (hb2.block (w.heap.size + 1) (by first | (simp; done) | (simp; omega) | omega)).trans HR1_1.out; have z2_1 : w.heap.size + 1 < w2.heap.size := Nat.lt_of_lt_of_le (by first | (simp; done) | (simp; omega) | omega) hb2.size; have c2_1_2 := rowcell R2_1 2; simp only [List.getElem?_toArray, List.getElem?_cons_zero, List.getElem?_cons_succ] at c2_1_2; have HR2_1 : Hid _ := R2_1; clear R2_1; have R2_2 := (hb2.block (w.heap.size + 1 + 1) (by first | (simp; done) | (simp; omega) | omega)).trans HR1_2.out; have z2_2 : w.heap.size + 1 + 1 < w2.heap.size := Nat.lt_of_lt_of_le (by first | (simp; done) | (simp; omega) | omega) hb2.size; have HR2_2 : Hid _ := R2_2; clear R2_2; have HB2 : Hid (Below _ _ _) := hb2; clear hb2; have HV2 : Hid (Row w2 v2 (dig M2)) := hr2; have HW1 : Hid (Row w2 v1 (dig M)) := HV1.out.below HB2.out; clear hr2)
    | (go_at_call 34; go_must (refine (k3 _ _ (HW1.out.below (cmore (Below.refl _ _) _))).mono ?_); rintro e w3 ⟨v3, rfl, hr3, hb3⟩; have R3_0 := (hb3.block (w.heap.size) (by first | (simp; done) | (simp; omega) | omega)).trans ((Below.heap_alloc _ _ _ (by first | (simp; done) | (simp; omega) | omega)).trans HR2_0.out); have z3_0 : w.heap.size < w3.heap.size := Nat.lt_of_lt_of_le (by first | (simp; done) | (simp; omega) | omega) hb3.size; have c3_0_2 := rowcell R3_0 2; have c3_0_1 := rowcell R3_0 1; simp only [List.getElem?_toArray, List.getElem?_cons_zero, List.getElem?_cons_succ] at c3_0_2 c3_0_1; have HR3_0 : Hid _ := R3_0; clear R3_0; have R3_1 := (hb3.block (w.heap.size + 1) (by first | (simp; done) | (simp; omega) | omega)).trans ((Below.heap_alloc _ _ _ (by first | (simp; done) | (simp; omega) | omega)).trans HR2_1.out); have z3_1 : w.heap.size + 1 < w3.heap.size := Nat.lt_of_lt_of_le (by first | (simp; done) | (simp; omega) | omega) hb3.size; have c3_1_1 := rowcell R3_1 1; simp only [List.getElem?_toArray, List.getElem?_cons_zero, List.getElem?_cons_succ] at c3_1_1; have HR3_1 : Hid _ := R3_1; clear R3_1; have R3_2 := (hb3.block (w.heap.size + 1 + 1) (by first | (simp; done) | (simp; omega) | omega)).trans ((Below.heap_alloc _ _ _ (by first | (simp; done) | (simp; omega) | omega)).trans HR2_2.out); have z3_2 : w.heap.size + 1 + 1 < w3.heap.size := Nat.lt_of_lt_of_le (by first | (simp; done) | (simp; omega) | omega) hb3.size; have HR3_2 : Hid _ := R3_2; clear R3_2; have R3_3 := (hb3.block (w2.heap.size) (by first | (simp; done) | (simp; omega) | omega)).trans (rownew' _ _ _ _ (by simp)); have z3_3 : w2.heap.size < w3.heap.size := Nat.lt_of_lt_of_le (by first | (simp; done) | (simp; omega) | omega) hb3.size; have HR3_3 : Hid _ := R3_3; clear R3_3; have HB3 : Hid (Below _ _ _) := hb3; clear hb3; have HV3 : Hid (Row w3 v3 (dig A)) := hr3; have HW2 : Hid (Row w3 _ (dig 1)) := (row_lit w2 3 1 (by decide) (by decide)).below HB3.out; clear hr3))
  have bq : Below w3.heap.size w3 w3 := Below.refl _ _
  have cls : ∀ W, Below w3.heap.size w3 W → W.cell? ⟨w.heap.size, 1, none⟩ = some (.bool neg) := fun W hW => (hW.cell (p := ⟨w.heap.size, 1, none⟩) z3_0).trans c3_0_1
  refine wpC_region (fun W => W.cell? ⟨w.heap.size, 1, none⟩ = some (.bool neg)) (by kernel_rfl) ?_
  refine wpC_take 0 (v := ?_) rfl (by kernel_rfl) (fun _ _ _ h => h) (by kernel_rfl) ?_ ?_; rotate_left; · (intro wC hC; obtain c1 := hC; go_simp <;> with_reducible rfl)
  refine wpC_take 1 (v := ?_) rfl (by kernel_rfl) (fun _ _ _ h => h) (by kernel_rfl) ?_ ?_; rotate_left; · (intro wC hC; obtain c1 := hC; go_simp <;> with_reducible rfl)
  refine wpC_take 2 (v := ?_) rfl (by kernel_rfl) (fun _ _ _ h => h) (by kernel_rfl) ?_ ?_; rotate_left; · (intro wC hC; obtain c1 := hC; go_simp <;> with_reducible rfl)
  refine wpC_take 3 (v := ?_) rfl (by kernel_rfl) (fun _ _ _ h => h) (by kernel_rfl) ?_ ?_; rotate_left; · (intro wC hC; obtain c1 := hC; go_simp <;> with_reducible rfl)
  refine wpC_take 5 (v := ?_) rfl (by kernel_rfl) (fun _ _ _ h => h) (by kernel_rfl) ?_ ?_; rotate_left; · (intro wC hC; obtain c1 := hC; go_simp <;> with_reducible rfl)
  refine wpC_step 4 rfl (by kernel_rfl) (by kernel_rfl) (cls _ (cdrew bq)) (fun K hK => ?_)
  go_simp
  go_wp2_with ((go_at_call 36; go_must (refine (k5 _ _ _ (HV3.out.below (cdrew bq)) (HW2.out.below (cdrew bq))).mono ?_); rintro e w4 ⟨v4, rfl, hr4, hb4⟩))
  try (refine hK _ _ ?_; clear hK K)
  have b4 : Below w3.heap.size w3 w4 := cthen (cdrew bq) hb4
  refine wpC_step 6 rfl (by kernel_rfl) (by kernel_rfl) (cls _ b4) (fun K hK => ?_)
  go_simp
  go_wp2_with ((go_at_call 35; go_must (refine (k6 _ _ hr4).mono ?_); rintro e w5 ⟨rfl, hb5⟩))
  try (refine hK _ _ ?_; clear hK K)
  have b5 : Below w3.heap.size w3 w5 := cthen b4 hb5
  have RR := (b5.block (w.heap.size + 1 + 1) z3_2).trans HR3_2.out
  have r0 := rowcell RR 0
  have r1 := rowcell RR 1
  have r2 := rowcell RR 2
  have r3 := rowcell RR 3
  have r4 := rowcell RR 4
  have r5 := rowcell RR 5
  have rf := rowfree RR
  simp only [List.getElem?_toArray, List.getElem?_cons_zero, List.getElem?_cons_succ] at r0 r1 r2 r3 r4 r5
  refine wpC_step 7 rfl (by kernel_rfl) (by kernel_rfl) (cls _ b5) (fun K hK => ?_)
  go_simp
  try (refine hK _ _ ?_; clear hK K)
  refine wpC_done (by kernel_rfl) (by simp [go_sem, cls _ b5]) ?_
  go_wp2
  refine bodyPost_ret (v := .agg #[.int .i64 K, .bool B, .int .i64 S, .int .u64 H, .int .u64 L, .bool R]) (by simp [results, Try.results20, go_sem, r0, r1, r2, r3, r4, r5]) rfl (hQ.out _ _ ⟨by simp, ?_⟩)
  exact cset6 (cthen (cthen (cmore (cthen (cthen (cmore (cmore (cmore (Below.refl _ _) _) _) _) HB1.out) HB2.out) _) HB3.out) b5) (by omega)
set_option maxHeartbeats 4000000 in
theorem sum9_far_sub (neg : Bool) (s : Int) (hi lo : Nat) (neg' : Bool) (s' : Int) (hi' lo' : Nat) (h : WordsX hi lo) (h' : WordsX hi' lo') (hs : -1099511627776 ≤ s ∧ s ≤ 1099511627776) (hs' : -1099511627776 ≤ s' ∧ s' ≤ 1099511627776) (hle : s' ≤ s) (hf : 400 < s - s') (hn : neg ≠ neg') (d : Nat) (hd : d = 400) (hc : 1 ≤ manX hi lo * 2 ^ d) (w : World) :
    Calls Try.prog 20 #[exV 1 neg s hi lo false, exV 1 neg' s' hi' lo' false] w fun e w' => e = .returned (exactV neg (manX hi lo * 2 ^ d - 1) (s - 127 - d) false) ∧ Below w.heap.size w w' := by
  have hM := h.mant
  have hM' := h'.mant
  have hd4 : d ≤ 400 := by omega
  have hbl := @mul_blen (manX hi lo) d (manX hi' lo') hM.2 hM'.2 hd4
  have hbl1 := @mul_blen (manX hi lo) d 1 hM.2 (by decide) hd4
  have hTM : Tw (manX hi lo) hi lo := ⟨rfl, by have := h.hi64; omega, by have := h.lo64; omega⟩
  have hTM' : Tw (manX hi' lo') hi' lo' := ⟨rfl, by have := h'.hi64; omega, by have := h'.lo64; omega⟩
  have hA1 : blen (manX hi lo * 2 ^ d) ≤ 1000 := Nat.le_trans (blen_mono (Nat.le_add_right _ _)) hbl
  have hS0 := dlen_mant hM.2
  have hSA := dlen_of_blen (Nat.le_trans hA1 (by decide : 1000 ≤ 1099511627776))
  have k1 := fun w => rof_any hTM w
  have k2 := fun w => rof_any hTM' w
  have k3 := fun v w hr => nshl_anyq v (manX hi lo) d (by omega) hS0 w hr
  have hNb : blen (manX hi lo * 2 ^ d - 1) ≤ 1000 := Nat.le_trans (blen_mono (Nat.sub_le _ _)) hA1
  have k4 := fun va vb w ha hb => ncmp_anyq va vb (manX hi lo * 2 ^ d) (1) w ha hb
  have hcm : decide ((0 : Int) ≤ cmpN (manX hi lo * 2 ^ d) (1)) = true := cmp_ge hc
  have k5 := fun va vb w ha hb => nsub_anyq va vb (manX hi lo * 2 ^ d) (1) hc hSA w ha hb
  have k6 := fun v w hr => exactly7_any neg v (manX hi lo * 2 ^ d - 1) (s - 127 - d) false (Nat.le_trans hNb (by decide)) (by omega) w hr
  obtain ⟨K, B, S, H, L, R, hform⟩ := exactV_form neg (manX hi lo * 2 ^ d - 1) (s - 127 - d) false
  rw [hform] at k6 ⊢
  have e1 : IntKind.i64.wrap (s - s') = s - s' := wrapI (by omega)
  have g0 : decide (s < s') = false := decide_eq_false (by omega)
  have e2 : IntKind.i64.wrap (s - 127) = s - 127 := wrapI (by omega)
  have e3 : IntKind.i64.wrap (s - 127 - (d : Int)) = s - 127 - (d : Int) := wrapI (by omega)
  have g1 : decide ((400 : Int) < s - s') = true := decide_eq_true hf
  rw [show (d : Int) = 400 by rw [hd]; rfl] at *
  have hnb : (neg == neg') = false := beq_eq_false_iff_ne.2 hn
  have hle3 : True := trivial
  generalize (manX hi lo * 2 ^ d - 1) = NN at *
  generalize manX hi lo * 2 ^ d = A at *
  generalize manX hi lo = M at *
  generalize manX hi' lo' = M2 at *
  clear hform hbl hbl1 hNb hA1 hSA hS0 hTM hTM' hM hM' h h' hs hs' hle hf hd hd4 hle3 hn hc
  unfold exV at *
  refine cps fun Q hQ => ?_
  go_enter Try.func20, Try.ntmps20
  go_wp2_with (first
    | (go_at_call_of 33 hi; go_must (refine (k1 _).mono ?_); rintro e w1 ⟨v1, rfl, hr1, hb1⟩; have R1_0 := (hb1.block (w.heap.size) (by first | (simp; done) | (simp; omega) | omega)).trans ((Below.heap_alloc _ _ _ (by first | (simp; done) | (simp; omega) | omega)).trans ((Below.heap_alloc _ _ _ (by first | (simp; done) | (simp; omega) | omega)).trans (rownew' _ _ _ _ (by simp)))); have z1_0 : w.heap.size < w1.heap.size := Nat.lt_of_lt_of_le (by first | (simp; done) | (simp; omega) | omega) hb1.size; have HR1_0 : Hid _ := R1_0; clear R1_0; have R1_1 := (hb1.block (w.heap.size + 1) (by first | (simp; done) | (simp; omega) | omega)).trans ((Below.heap_alloc _ _ _ (by first | (simp; done) | (simp; omega) | omega)).trans (rownew' _ _ _ _ (by simp))); have z1_1 : w.heap.size + 1 < w1.heap.size := Nat.lt_of_lt_of_le (by first | (simp; done) | (simp; omega) | omega) hb1.size; have c1_1_3 := rowcell R1_1 3; have c1_1_4 := rowcell R1_1 4; simp only [List.getElem?_toArray, List.getElem?_cons_zero, List.getElem?_cons_succ] at c1_1_3 c1_1_4; have HR1_1 : Hid _ := R1_1; clear R1_1; have R1_2 := (hb1.block (w.heap.size + 1 + 1) (by first | (simp; done) | (simp; omega) | omega)).trans (rownew' _ _ _ _ (by simp)); have z1_2 : w.heap.size + 1 + 1 < w1.heap.size := Nat.lt_of_lt_of_le (by first | (simp; done) | (simp; omega) | omega) hb1.size; have HR1_2 : Hid _ := R1_2; clear R1_2; have HB1 : Hid (Below _ _ _) := hb1; clear hb1; have HV1 : Hid (Row w1 v1 (dig M)) := hr1; clear hr1)
    | (go_at_call_of 33 hi'; go_must (refine (k2 _).mono ?_); rintro e w2 ⟨v2, rfl, hr2, hb2⟩; have R2_0 := (hb2.block (w.heap.size) (by first | (simp; done) | (simp; omega) | omega)).trans HR1_0.out; have z2_0 : w.heap.size < w2.heap.size := Nat.lt_of_lt_of_le (by first | (simp; done) | (simp; omega) | omega) hb2.size; have c2_0_2 := rowcell R2_0 2; simp only [List.getElem?_toArray, List.getElem?_cons_zero, List.getElem?_cons_succ] at c2_0_2; have HR2_0 : Hid _ := R2_0; clear R2_0; have R2_1 := (hb2.block (w.heap.size + 1) (by first | (simp; done) | (simp; omega) | omega)).trans HR1_1.out; have z2_1 : w.heap.size + 1 < w2.heap.size := Nat.lt_of_lt_of_le (by first | (simp; done) | (simp; omega) | omega) hb2.size; have c2_1_2 := rowcell R2_1 2; simp only [List.getElem?_toArray, List.getElem?_cons_zero, List.getElem?_cons_succ] at c2_1_2; have HR2_1 : Hid _ := R2_1; clear R2_1; have R2_2 := (hb2.block (w.heap.size + 1 + 1) (by first | (simp; done) | (simp; omega) | omega)).trans HR1_2.out; have z2_2 : w.heap.size + 1 + 1 < w2.heap.size := Nat.lt_of_lt_of_le (by first | (simp; done) | (simp; omega) | omega) hb2.size; have HR2_2 : Hid _ := R2_2; clear R2_2; have HB2 : Hid (Below _ _ _) := hb2; clear hb2; have HV2 : Hid (Row w2 v2 (dig M2)) := hr2; have HW1 : Hid (Row w2 v1 (dig M)) := HV1.out.below HB2.out; clear hr2)
    | (go_at_call 34; go_must (refine (k3 _ _ (HW1.out.below (cmore (Below.refl _ _) _))).mono ?_); rintro e w3 ⟨v3, rfl, hr3, hb3⟩; have R3_0 := (hb3.block (w.heap.size) (by first | (simp; done) | (simp; omega) | omega)).trans ((Below.heap_alloc _ _ _ (by first | (simp; done) | (simp; omega) | omega)).trans HR2_0.out); have z3_0 : w.heap.size < w3.heap.size := Nat.lt_of_lt_of_le (by first | (simp; done) | (simp; omega) | omega) hb3.size; have c3_0_2 := rowcell R3_0 2; have c3_0_1 := rowcell R3_0 1; simp only [List.getElem?_toArray, List.getElem?_cons_zero, List.getElem?_cons_succ] at c3_0_2 c3_0_1; have HR3_0 : Hid _ := R3_0; clear R3_0; have R3_1 := (hb3.block (w.heap.size + 1) (by first | (simp; done) | (simp; omega) | omega)).trans ((Below.heap_alloc _ _ _ (by first | (simp; done) | (simp; omega) | omega)).trans HR2_1.out); have z3_1 : w.heap.size + 1 < w3.heap.size := Nat.lt_of_lt_of_le (by first | (simp; done) | (simp; omega) | omega) hb3.size; have c3_1_1 := rowcell R3_1 1; simp only [List.getElem?_toArray, List.getElem?_cons_zero, List.getElem?_cons_succ] at c3_1_1; have HR3_1 : Hid _ := R3_1; clear R3_1; have R3_2 := (hb3.block (w.heap.size + 1 + 1) (by first | (simp; done) | (simp; omega) | omega)).trans ((Below.heap_alloc _ _ _ (by first | (simp; done) | (simp; omega) | omega)).trans HR2_2.out); have z3_2 : w.heap.size + 1 + 1 < w3.heap.size := Nat.lt_of_lt_of_le (by first | (simp; done) | (simp; omega) | omega) hb3.size; have HR3_2 : Hid _ := R3_2; clear R3_2; have R3_3 := (hb3.block (w2.heap.size) (by first | (simp; done) | (simp; omega) | omega)).trans (rownew' _ _ _ _ (by simp)); have z3_3 : w2.heap.size < w3.heap.size := Nat.lt_of_lt_of_le (by first | (simp; done) | (simp; omega) | omega) hb3.size; have HR3_3 : Hid _ := R3_3; clear R3_3; have HB3 : Hid (Below _ _ _) := hb3; clear hb3; have HV3 : Hid (Row w3 v3 (dig A)) := hr3; have HW2 : Hid (Row w3 _ (dig 1)) := (row_lit w2 3 1 (by decide) (by decide)).below HB3.out; clear hr3)
    | (go_at_call 37; go_must (refine (k4 _ _ _ HV3.out HW2.out).mono ?_); rintro e wx ⟨rfl, q, rfl⟩))
  have bq : Below w3.heap.size w3 (w3.drewN q) := below_drewN (Below.refl _ _) q
  have cls : ∀ W, Below w3.heap.size w3 W → W.cell? ⟨w.heap.size, 1, none⟩ = some (.bool neg) := fun W hW => (hW.cell (p := ⟨w.heap.size, 1, none⟩) z3_0).trans c3_0_1
  refine wpC_region (fun W => W.cell? ⟨w.heap.size, 1, none⟩ = some (.bool neg)) (by kernel_rfl) ?_
  refine wpC_take 0 (v := ?_) rfl (by kernel_rfl) (fun _ _ _ h => h) (by kernel_rfl) ?_ ?_; rotate_left; · (intro wC hC; obtain c1 := hC; go_simp <;> with_reducible rfl)
  refine wpC_take 1 (v := ?_) rfl (by kernel_rfl) (fun _ _ _ h => h) (by kernel_rfl) ?_ ?_; rotate_left; · (intro wC hC; obtain c1 := hC; go_simp <;> with_reducible rfl)
  refine wpC_take 2 (v := ?_) rfl (by kernel_rfl) (fun _ _ _ h => h) (by kernel_rfl) ?_ ?_; rotate_left; · (intro wC hC; obtain c1 := hC; go_simp <;> with_reducible rfl)
  refine wpC_take 3 (v := ?_) rfl (by kernel_rfl) (fun _ _ _ h => h) (by kernel_rfl) ?_ ?_; rotate_left; · (intro wC hC; obtain c1 := hC; go_simp <;> with_reducible rfl)
  refine wpC_take 5 (v := ?_) rfl (by kernel_rfl) (fun _ _ _ h => h) (by kernel_rfl) ?_ ?_; rotate_left; · (intro wC hC; obtain c1 := hC; go_simp <;> with_reducible rfl)
  refine wpC_step 4 rfl (by kernel_rfl) (by kernel_rfl) (cls _ (cdrew bq)) (fun K hK => ?_)
  go_simp
  go_wp2_with ((go_at_call 38; go_must (refine (k5 _ _ _ (HV3.out.below (cdrew bq)) (HW2.out.below (cdrew bq))).mono ?_); rintro e w4 ⟨v4, rfl, hr4, hb4⟩))
  try (refine hK _ _ ?_; clear hK K)
  have b4 : Below w3.heap.size w3 w4 := cthen (cdrew bq) hb4
  refine wpC_step 6 rfl (by kernel_rfl) (by kernel_rfl) (cls _ b4) (fun K hK => ?_)
  go_simp
  go_wp2_with ((go_at_call 35; go_must (refine (k6 _ _ hr4).mono ?_); rintro e w5 ⟨rfl, hb5⟩))
  try (refine hK _ _ ?_; clear hK K)
  have b5 : Below w3.heap.size w3 w5 := cthen b4 hb5
  have RR := (b5.block (w.heap.size + 1 + 1) z3_2).trans HR3_2.out
  have r0 := rowcell RR 0
  have r1 := rowcell RR 1
  have r2 := rowcell RR 2
  have r3 := rowcell RR 3
  have r4 := rowcell RR 4
  have r5 := rowcell RR 5
  have rf := rowfree RR
  simp only [List.getElem?_toArray, List.getElem?_cons_zero, List.getElem?_cons_succ] at r0 r1 r2 r3 r4 r5
  refine wpC_step 7 rfl (by kernel_rfl) (by kernel_rfl) (cls _ b5) (fun K hK => ?_)
  go_simp
  try (refine hK _ _ ?_; clear hK K)
  refine wpC_done (by kernel_rfl) (by simp [go_sem, cls _ b5]) ?_
  go_wp2
  refine bodyPost_ret (v := .agg #[.int .i64 K, .bool B, .int .i64 S, .int .u64 H, .int .u64 L, .bool R]) (by simp [results, Try.results20, go_sem, r0, r1, r2, r3, r4, r5]) rfl (hQ.out _ _ ⟨by simp, ?_⟩)
  exact cset6 (cthen (cthen (cmore (cthen (cthen (cmore (cmore (cmore (Below.refl _ _) _) _) _) HB1.out) HB2.out) _) HB3.out) b5) (by omega)
theorem sum9_down (neg : Bool) (s : Int) (hi lo : Nat) (neg' : Bool) (s' : Int) (hi' lo' : Nat) (h : WordsX hi lo) (h' : WordsX hi' lo') (hs : -1099511627776 ≤ s ∧ s ≤ 1099511627776) (hs' : -1099511627776 ≤ s' ∧ s' ≤ 1099511627776) (hle : s' ≤ s) (w : World) :
    Calls Try.prog 20 #[exV 1 neg s hi lo false, exV 1 neg' s' hi' lo' false] w fun e w' => e = .returned (sumD neg s (manX hi lo) neg' s' (manX hi' lo')) ∧ Below w.heap.size w w' := by
  by_cases hf : 400 < s - s'
  · rw [sumD_branch neg s (manX hi lo) neg' s' (manX hi' lo') 400 1 (.inr ⟨hf, rfl, rfl⟩)]
    obtain ⟨d, hd⟩ : ∃ d : Nat, d = 400 := ⟨_, rfl⟩
    rw [← hd]
    by_cases hn : neg = neg'
    · rw [if_pos hn]; exact sum9_far_add neg s hi lo neg' s' hi' lo' h h' hs hs' hle hf hn d hd w
    · have hc : 1 ≤ manX hi lo * 2 ^ d := Nat.mul_pos (by have := h.mant.1; have := Nat.pow_pos (n := 127) (show 0 < 2 by decide); omega) (Nat.pow_pos (by decide))
      rw [if_neg hn, if_pos hc]
      exact sum9_far_sub neg s hi lo neg' s' hi' lo' h h' hs hs' hle hf hn d hd hc w
  · obtain ⟨d, hd⟩ : ∃ d : Nat, (d : Int) = s - s' := ⟨(s - s').toNat, by omega⟩
    rw [sumD_branch neg s (manX hi lo) neg' s' (manX hi' lo') d (manX hi' lo') (.inl ⟨hf, hd, rfl⟩)]
    by_cases hn : neg = neg'
    · rw [if_pos hn]; exact sum9_near_add neg s hi lo neg' s' hi' lo' h h' hs hs' hle hf hn d hd w
    · rw [if_neg hn]
      by_cases hc : manX hi' lo' ≤ manX hi lo * 2 ^ d
      · rw [if_pos hc]; exact sum9_near_sub neg s hi lo neg' s' hi' lo' h h' hs hs' hle hf hn d hd hc w
      · rw [if_neg hc]; exact sum9_near_bus neg s hi lo neg' s' hi' lo' h h' hs hs' hle hf hn d hd hc w
theorem sumD_form (neg : Bool) (s : Int) (M : Nat) (neg' : Bool) (s' : Int) (M' : Nat) : ∃ k b s2 h l r, sumD neg s M neg' s' M' = exV k b s2 h l r := by
  unfold sumD
  simp only
  generalize (if 400 < s - s' then farD else (s - s').toNat) = d
  generalize (if 400 < s - s' then 1 else M') = b
  by_cases hn : neg = neg'
  · rw [if_pos hn]; exact exactV_form _ _ _ _
  · rw [if_neg hn]
    by_cases hc : b ≤ M * 2 ^ d
    · rw [if_pos hc]; exact exactV_form _ _ _ _
    · rw [if_neg hc]; exact exactV_form _ _ _ _
theorem sum9_up (neg : Bool) (s : Int) (hi lo : Nat) (neg' : Bool) (s' : Int) (hi' lo' : Nat) (h : WordsX hi lo) (h' : WordsX hi' lo') (hs : -1099511627776 ≤ s ∧ s ≤ 1099511627776) (hs' : -1099511627776 ≤ s' ∧ s' ≤ 1099511627776) (hle : s < s') (w : World) :
    Calls Try.prog 20 #[exV 1 neg s hi lo false, exV 1 neg' s' hi' lo' false] w fun e w' => e = .returned (sumD neg' s' (manX hi' lo') neg s (manX hi lo)) ∧ Below w.heap.size w w' := by
  have k1 := sum9_down neg' s' hi' lo' neg s hi lo h' h hs' hs (by omega)
  obtain ⟨K, B, S, H, L, R, hform⟩ := sumD_form neg' s' (manX hi' lo') neg s (manX hi lo)
  rw [hform] at k1 ⊢
  have g1 : decide (s < s') = true := decide_eq_true hle
  clear hform h h' hs hs' hle
  unfold exV at *
  refine cps fun Q hQ => ?_
  go_enter Try.func20, Try.ntmps20
  go_wp2_with (go_at_call 20; go_must (refine (k1 _).mono ?_); rintro e w1 ⟨rfl, hb1⟩; have RR := (hb1.block (w.heap.size + 1 + 1) (by simp)).trans (rownew' _ _ _ _ (by simp)); have r0 := rowcell RR 0; have r1 := rowcell RR 1; have r2 := rowcell RR 2; have r3 := rowcell RR 3; have r4 := rowcell RR 4; have r5 := rowcell RR 5; have rf := rowfree RR; simp only [List.getElem?_toArray, List.getElem?_cons_zero, List.getElem?_cons_succ] at r0 r1 r2 r3 r4 r5; have HB1 : Hid (Below _ _ _) := hb1; clear hb1 RR)
  refine bodyPost_ret (v := .agg #[.int .i64 K, .bool B, .int .i64 S, .int .u64 H, .int .u64 L, .bool R]) (by simp [results, Try.results20, go_sem, r0, r1, r2, r3, r4, r5]) rfl (hQ.out _ _ ⟨by simp, ?_⟩)
  exact cset6 (cthen (cmore (cmore (cmore (Below.refl _ _) _) _) _) HB1.out) (by omega)
theorem sum9_nar1 (neg : Bool) (s : Int) (hi lo : Nat) (rest : Bool) (k' : Int) (neg' : Bool) (s' : Int) (hi' lo' : Nat) (rest' : Bool) (w : World) :
    Calls Try.prog 20 #[exV 2 neg s hi lo rest, exV k' neg' s' hi' lo' rest'] w fun e w' => e = .returned (exV 2 false 0 0 0 false) ∧ Below w.heap.size w w' := by
  unfold exV at *
  refine cps fun Q hQ => ?_
  go_enter Try.func20, Try.ntmps20
  go_wp2
  refine bodyPost_ret (v := .agg #[.int .i64 2, .bool false, .int .i64 0, .int .u64 0, .int .u64 0, .bool false]) (by simp [results, Try.results20, go_sem]) rfl (hQ.out _ _ ⟨by simp, ?_⟩)
  exact cmore (cmore (cmore (Below.refl _ _) _) _) _
theorem sum9_nar2 (k : Int) (neg : Bool) (s : Int) (hi lo : Nat) (rest : Bool) (neg' : Bool) (s' : Int) (hi' lo' : Nat) (rest' : Bool) (hk : k ≠ 2) (w : World) :
    Calls Try.prog 20 #[exV k neg s hi lo rest, exV 2 neg' s' hi' lo' rest'] w fun e w' => e = .returned (exV 2 false 0 0 0 false) ∧ Below w.heap.size w w' := by
  have g : (k == 2) = false := beq_eq_false_iff_ne.2 hk
  clear hk
  unfold exV at *
  refine cps fun Q hQ => ?_
  go_enter Try.func20, Try.ntmps20
  go_wp2
  refine bodyPost_ret (v := .agg #[.int .i64 2, .bool false, .int .i64 0, .int .u64 0, .int .u64 0, .bool false]) (by simp [results, Try.results20, go_sem]) rfl (hQ.out _ _ ⟨by simp, ?_⟩)
  exact cmore (cmore (cmore (Below.refl _ _) _) _) _
theorem sum9_zero1 (neg : Bool) (s : Int) (hi lo : Nat) (rest : Bool) (k' : Int) (neg' : Bool) (s' : Int) (hi' lo' : Nat) (rest' : Bool) (hk : k' ≠ 2) (w : World) :
    Calls Try.prog 20 #[exV 0 neg s hi lo rest, exV k' neg' s' hi' lo' rest'] w fun e w' => e = .returned (exV k' neg' s' hi' lo' rest') ∧ Below w.heap.size w w' := by
  have g : (k' == 2) = false := beq_eq_false_iff_ne.2 hk
  clear hk
  unfold exV at *
  refine cps fun Q hQ => ?_
  go_enter Try.func20, Try.ntmps20
  go_wp2
  refine bodyPost_ret (v := .agg #[.int .i64 k', .bool neg', .int .i64 s', .int .u64 hi', .int .u64 lo', .bool rest']) (by simp [results, Try.results20, go_sem]) rfl (hQ.out _ _ ⟨by simp, ?_⟩)
  exact cmore (cmore (cmore (Below.refl _ _) _) _) _
theorem sum9_zero2 (k : Int) (neg : Bool) (s : Int) (hi lo : Nat) (rest : Bool) (neg' : Bool) (s' : Int) (hi' lo' : Nat) (rest' : Bool) (hk : k ≠ 2) (h0 : k ≠ 0) (w : World) :
    Calls Try.prog 20 #[exV k neg s hi lo rest, exV 0 neg' s' hi' lo' rest'] w fun e w' => e = .returned (exV k neg s hi lo rest) ∧ Below w.heap.size w w' := by
  have g : (k == 2) = false := beq_eq_false_iff_ne.2 hk
  have g0 : (k == 0) = false := beq_eq_false_iff_ne.2 h0
  clear hk h0
  unfold exV at *
  refine cps fun Q hQ => ?_
  go_enter Try.func20, Try.ntmps20
  go_wp2
  refine bodyPost_ret (v := .agg #[.int .i64 k, .bool neg, .int .i64 s, .int .u64 hi, .int .u64 lo, .bool rest]) (by simp [results, Try.results20, go_sem]) rfl (hQ.out _ _ ⟨by simp, ?_⟩)
  exact cmore (cmore (cmore (Below.refl _ _) _) _) _
theorem sound_words {neg : Bool} {s : Int} {hi lo : Nat} {r : Bool} (hh : hi < 2 ^ 64) (hl : lo < 2 ^ 64) (hs : soundX 1 neg s hi lo r = true) : WordsX hi lo ∧ (-1099511627776 ≤ s ∧ s ≤ 1099511627776) := by
  unfold soundX at hs
  rw [if_neg (by decide)] at hs
  obtain ⟨_, a, b, c⟩ := of_decide_eq_true hs
  exact ⟨⟨a, hh, hl⟩, b, c⟩
/-- of any two that are sound, without Rest -/
theorem sum9_any (k : Int) (neg : Bool) (s : Int) (hi lo : Nat) (k' : Int) (neg' : Bool) (s' : Int) (hi' lo' : Nat) (hh : hi < 2 ^ 64) (hl : lo < 2 ^ 64) (hh' : hi' < 2 ^ 64) (hl' : lo' < 2 ^ 64) (hs : soundX k neg s hi lo false = true) (hs' : soundX k' neg' s' hi' lo' false = true) (w : World) :
    Calls Try.prog 20 #[exV k neg s hi lo false, exV k' neg' s' hi' lo' false] w fun e w' => e = .returned (sum9 k neg s hi lo k' neg' s' hi' lo') ∧ Below w.heap.size w w' := by
  unfold sum9
  by_cases h2 : k = 2
  · subst h2
    rw [if_pos (.inl rfl)]
    exact sum9_nar1 neg s hi lo false k' neg' s' hi' lo' false w
  · by_cases h2' : k' = 2
    · subst h2'
      rw [if_pos (.inr rfl)]
      exact sum9_nar2 k neg s hi lo false neg' s' hi' lo' false h2 w
    · rw [if_neg (by rintro (c | c); exact h2 c; exact h2' c)]
      by_cases h0 : k = 0
      · subst h0
        rw [if_pos rfl]
        exact sum9_zero1 neg s hi lo false k' neg' s' hi' lo' false h2' w
      · rw [if_neg h0]
        by_cases h0' : k' = 0
        · subst h0'
          rw [if_pos rfl]
          exact sum9_zero2 k neg s hi lo false neg' s' hi' lo' false h2 h0 w
        · rw [if_neg h0']
          have hk : k = 1 := by rcases soundX_cases hs with ⟨c, _⟩ | ⟨c, _⟩ | c; exact absurd c h0; exact absurd c h2; exact c
          have hk' : k' = 1 := by rcases soundX_cases hs' with ⟨c, _⟩ | ⟨c, _⟩ | c; exact absurd c h0'; exact absurd c h2'; exact c
          subst hk hk'
          obtain ⟨a, b⟩ := sound_words hh hl hs
          obtain ⟨a', b'⟩ := sound_words hh' hl' hs'
          unfold sumR
          by_cases c : s < s'
          · rw [if_pos c]; exact sum9_up neg s hi lo neg' s' hi' lo' a a' b b' c w
          · rw [if_neg c]; exact sum9_down neg s hi lo neg' s' hi' lo' a a' b b' (by omega) w
end Go.Proofs.Ytmkdnhdbgoehgaa

namespace Go.Proofs.Ytmkdnhdbgoehgaa
open Go.ChangeShapes Go.WideShapes Go.ChangeAt Go.RowKit
set_option linter.unusedVariables false
set_option linter.unusedSimpArgs false
set_option maxRecDepth 100000

theorem sumR_form (neg : Bool) (s : Int) (M : Nat) (neg' : Bool) (s' : Int) (M' : Nat) : ∃ k b s2 h l r, sumR neg s M neg' s' M' = exV k b s2 h l r := by
  unfold sumR
  by_cases c : s < s'
  · rw [if_pos c]; exact sumD_form _ _ _ _ _ _
  · rw [if_neg c]; exact sumD_form _ _ _ _ _ _
theorem sum9_form (k : Int) (neg : Bool) (s : Int) (hi lo : Nat) (k' : Int) (neg' : Bool) (s' : Int) (hi' lo' : Nat) : ∃ k2 b s2 h l r, sum9 k neg s hi lo k' neg' s' hi' lo' = exV k2 b s2 h l r := by
  unfold sum9
  by_cases h : k = 2 ∨ k' = 2
  · rw [if_pos h]; exact ⟨_, _, _, _, _, _, rfl⟩
  · rw [if_neg h]
    by_cases h0 : k = 0
    · rw [if_pos h0]; exact ⟨_, _, _, _, _, _, rfl⟩
    · rw [if_neg h0]
      by_cases h1 : k' = 0
      · rw [if_pos h1]; exact ⟨_, _, _, _, _, _, rfl⟩
      · rw [if_neg h1]; exact sumR_form _ _ _ _ _ _
theorem soundN_X {k : Int} {neg : Bool} {s : Int} {f : Nat} (h : soundN k neg s f = true) : soundX k neg s f 0 false = true := by
  unfold soundN at h
  unfold soundX
  by_cases hk : k = 0 ∨ k = 2
  · rw [if_pos hk] at h ⊢
    have := of_decide_eq_true h
    exact decide_eq_true ⟨this.1, this.2.1, this.2.2, rfl, rfl⟩
  · rw [if_neg hk] at h ⊢
    obtain ⟨a, b, c, d⟩ := of_decide_eq_true h
    exact decide_eq_true ⟨a, b, by omega, by omega⟩
theorem exact9_bb (k : Int) (neg : Bool) (s : Int) (f : Nat) (k' : Int) (neg' : Bool) (s' : Int) (g : Nat) (h1 : soundN k neg s f = false) (h2 : soundN k' neg' s' g = false) (w : World) :
    Calls Try.prog 8 #[numV k neg s f, numV k' neg' s' g] w fun e w' => e = .returned (.tuple #[exV 0 false 0 0 0 false, .int .i64 1]) ∧ Below w.heap.size w w' := by
  have k1 := of7_bad k neg s f h1
  have k2 := of7_bad k' neg' s' g h2
  clear h1 h2
  unfold numV exV at *
  rw [show ((0 : Nat) : Int) = 0 from rfl] at *
  refine cps fun Q hQ => ?_
  go_enter Try.func8, Try.ntmps8
  go_wp2_with (first
    | (go_at_call_of 19 f; go_must (refine (k1 _).mono ?_); rintro e w1 ⟨rfl, hb1⟩; have R1_0 := (hb1.block (w.heap.size) (by first | (simp; done) | (simp; omega) | omega)).trans ((Below.heap_alloc _ _ _ (by first | (simp; done) | (simp; omega) | omega)).trans ((Below.heap_alloc _ _ _ (by first | (simp; done) | (simp; omega) | omega)).trans (rownew' _ _ _ _ (by simp)))); have z1_0 : w.heap.size < w1.heap.size := Nat.lt_of_lt_of_le (by first | (simp; done) | (simp; omega) | omega) hb1.size; have HR1_0 : Hid _ := R1_0; clear R1_0; have R1_1 := (hb1.block (w.heap.size + 1) (by first | (simp; done) | (simp; omega) | omega)).trans ((Below.heap_alloc _ _ _ (by first | (simp; done) | (simp; omega) | omega)).trans (rownew' _ _ _ _ (by simp))); have z1_1 : w.heap.size + 1 < w1.heap.size := Nat.lt_of_lt_of_le (by first | (simp; done) | (simp; omega) | omega) hb1.size; have c1_1_0 := rowcell R1_1 0; have c1_1_1 := rowcell R1_1 1; have c1_1_2 := rowcell R1_1 2; have c1_1_3 := rowcell R1_1 3; simp only [List.getElem?_toArray, List.getElem?_cons_zero, List.getElem?_cons_succ] at c1_1_0 c1_1_1 c1_1_2 c1_1_3; have HR1_1 : Hid _ := R1_1; clear R1_1; have R1_2 := (hb1.block (w.heap.size + 1 + 1) (by first | (simp; done) | (simp; omega) | omega)).trans (rownew' _ _ _ _ (by simp)); have z1_2 : w.heap.size + 1 + 1 < w1.heap.size := Nat.lt_of_lt_of_le (by first | (simp; done) | (simp; omega) | omega) hb1.size; have HR1_2 : Hid _ := R1_2; clear R1_2; have HB1 : Hid (Below _ _ _) := hb1; clear hb1)
    | (go_at_call_of 19 g; go_must (refine (k2 _).mono ?_); rintro e w2 ⟨rfl, hb2⟩; have R2_0 := (hb2.block (w.heap.size) (by first | (simp; done) | (simp; omega) | omega)).trans ((Below.heap_alloc _ _ _ (by first | (simp; done) | (simp; omega) | omega)).trans HR1_0.out); have z2_0 : w.heap.size < w2.heap.size := Nat.lt_of_lt_of_le (by first | (simp; done) | (simp; omega) | omega) hb2.size; have HR2_0 : Hid _ := R2_0; clear R2_0; have R2_1 := (hb2.block (w.heap.size + 1) (by first | (simp; done) | (simp; omega) | omega)).trans ((Below.heap_alloc _ _ _ (by first | (simp; done) | (simp; omega) | omega)).trans HR1_1.out); have z2_1 : w.heap.size + 1 < w2.heap.size := Nat.lt_of_lt_of_le (by first | (simp; done) | (simp; omega) | omega) hb2.size; have HR2_1 : Hid _ := R2_1; clear R2_1; have R2_2 := (hb2.block (w.heap.size + 1 + 1) (by first | (simp; done) | (simp; omega) | omega)).trans ((Below.heap_alloc _ _ _ (by first | (simp; done) | (simp; omega) | omega)).trans HR1_2.out); have z2_2 : w.heap.size + 1 + 1 < w2.heap.size := Nat.lt_of_lt_of_le (by first | (simp; done) | (simp; omega) | omega) hb2.size; have c2_2_0 := rowcell R2_2 0; have c2_2_1 := rowcell R2_2 1; have c2_2_2 := rowcell R2_2 2; have c2_2_3 := rowcell R2_2 3; have c2_2_4 := rowcell R2_2 4; have c2_2_5 := rowcell R2_2 5; simp only [List.getElem?_toArray, List.getElem?_cons_zero, List.getElem?_cons_succ] at c2_2_0 c2_2_1 c2_2_2 c2_2_3 c2_2_4 c2_2_5; have rf := rowfree R2_2; have HR2_2 : Hid _ := R2_2; clear R2_2; have R2_3 := (hb2.block (w1.heap.size) (by first | (simp; done) | (simp; omega) | omega)).trans (rownew' _ _ _ _ (by simp)); have z2_3 : w1.heap.size < w2.heap.size := Nat.lt_of_lt_of_le (by first | (simp; done) | (simp; omega) | omega) hb2.size; have HR2_3 : Hid _ := R2_3; clear R2_3; have HB2 : Hid (Below _ _ _) := hb2; clear hb2))
  refine bodyPost_ret (v := .tuple #[.agg #[.int .i64 0, .bool false, .int .i64 0, .int .u64 0, .int .u64 0, .bool false], .int .i64 1]) (by simp [results, Try.results8, go_sem, rf, z2_2, c2_2_0, c2_2_1, c2_2_2, c2_2_3, c2_2_4, c2_2_5]) rfl (hQ.out _ _ ⟨by simp, ?_⟩)
  first | exact cmore (cset6 (cthen (cmore (cthen (cmore (cmore (cmore (Below.refl _ _) _) _) _) HB1.out) _) HB2.out) (by omega)) _ | exact cset6 (cmore (cthen (cmore (cthen (cmore (cmore (cmore (Below.refl _ _) _) _) _) HB1.out) _) HB2.out) _) (by omega)
theorem exact9_bo (k : Int) (neg : Bool) (s : Int) (f : Nat) (k' : Int) (neg' : Bool) (s' : Int) (g : Nat) (h1 : soundN k neg s f = false) (h2 : soundN k' neg' s' g = true) (w : World) :
    Calls Try.prog 8 #[numV k neg s f, numV k' neg' s' g] w fun e w' => e = .returned (.tuple #[exV 0 false 0 0 0 false, .int .i64 1]) ∧ Below w.heap.size w w' := by
  have k1 := of7_bad k neg s f h1
  have k2 := of7_ok k' neg' s' g h2
  clear h1 h2
  unfold numV exV at *
  rw [show ((0 : Nat) : Int) = 0 from rfl] at *
  refine cps fun Q hQ => ?_
  go_enter Try.func8, Try.ntmps8
  go_wp2_with (first
    | (go_at_call_of 19 f; go_must (refine (k1 _).mono ?_); rintro e w1 ⟨rfl, hb1⟩; have R1_0 := (hb1.block (w.heap.size) (by first | (simp; done) | (simp; omega) | omega)).trans ((Below.heap_alloc _ _ _ (by first | (simp; done) | (simp; omega) | omega)).trans ((Below.heap_alloc _ _ _ (by first | (simp; done) | (simp; omega) | omega)).trans (rownew' _ _ _ _ (by simp)))); have z1_0 : w.heap.size < w1.heap.size := Nat.lt_of_lt_of_le (by first | (simp; done) | (simp; omega) | omega) hb1.size; have HR1_0 : Hid _ := R1_0; clear R1_0; have R1_1 := (hb1.block (w.heap.size + 1) (by first | (simp; done) | (simp; omega) | omega)).trans ((Below.heap_alloc _ _ _ (by first | (simp; done) | (simp; omega) | omega)).trans (rownew' _ _ _ _ (by simp))); have z1_1 : w.heap.size + 1 < w1.heap.size := Nat.lt_of_lt_of_le (by first | (simp; done) | (simp; omega) | omega) hb1.size; have c1_1_0 := rowcell R1_1 0; have c1_1_1 := rowcell R1_1 1; have c1_1_2 := rowcell R1_1 2; have c1_1_3 := rowcell R1_1 3; simp only [List.getElem?_toArray, List.getElem?_cons_zero, List.getElem?_cons_succ] at c1_1_0 c1_1_1 c1_1_2 c1_1_3; have HR1_1 : Hid _ := R1_1; clear R1_1; have R1_2 := (hb1.block (w.heap.size + 1 + 1) (by first | (simp; done) | (simp; omega) | omega)).trans (rownew' _ _ _ _ (by simp)); have z1_2 : w.heap.size + 1 + 1 < w1.heap.size := Nat.lt_of_lt_of_le (by first | (simp; done) | (simp; omega) | omega) hb1.size; have HR1_2 : Hid _ := R1_2; clear R1_2; have HB1 : Hid (Below _ _ _) := hb1; clear hb1)
    | (go_at_call_of 19 g; go_must (refine (k2 _).mono ?_); rintro e w2 ⟨rfl, hb2⟩; have R2_0 := (hb2.block (w.heap.size) (by first | (simp; done) | (simp; omega) | omega)).trans ((Below.heap_alloc _ _ _ (by first | (simp; done) | (simp; omega) | omega)).trans HR1_0.out); have z2_0 : w.heap.size < w2.heap.size := Nat.lt_of_lt_of_le (by first | (simp; done) | (simp; omega) | omega) hb2.size; have HR2_0 : Hid _ := R2_0; clear R2_0; have R2_1 := (hb2.block (w.heap.size + 1) (by first | (simp; done) | (simp; omega) | omega)).trans ((Below.heap_alloc _ _ _ (by first | (simp; done) | (simp; omega) | omega)).trans HR1_1.out); have z2_1 : w.heap.size + 1 < w2.heap.size := Nat.lt_of_lt_of_le (by first | (simp; done) | (simp; omega) | omega) hb2.size; have HR2_1 : Hid _ := R2_1; clear R2_1; have R2_2 := (hb2.block (w.heap.size + 1 + 1) (by first | (simp; done) | (simp; omega) | omega)).trans ((Below.heap_alloc _ _ _ (by first | (simp; done) | (simp; omega) | omega)).trans HR1_2.out); have z2_2 : w.heap.size + 1 + 1 < w2.heap.size := Nat.lt_of_lt_of_le (by first | (simp; done) | (simp; omega) | omega) hb2.size; have c2_2_0 := rowcell R2_2 0; have c2_2_1 := rowcell R2_2 1; have c2_2_2 := rowcell R2_2 2; have c2_2_3 := rowcell R2_2 3; have c2_2_4 := rowcell R2_2 4; have c2_2_5 := rowcell R2_2 5; simp only [List.getElem?_toArray, List.getElem?_cons_zero, List.getElem?_cons_succ] at c2_2_0 c2_2_1 c2_2_2 c2_2_3 c2_2_4 c2_2_5; have rf := rowfree R2_2; have HR2_2 : Hid _ := R2_2; clear R2_2; have R2_3 := (hb2.block (w1.heap.size) (by first | (simp; done) | (simp; omega) | omega)).trans (rownew' _ _ _ _ (by simp)); have z2_3 : w1.heap.size < w2.heap.size := Nat.lt_of_lt_of_le (by first | (simp; done) | (simp; omega) | omega) hb2.size; have HR2_3 : Hid _ := R2_3; clear R2_3; have HB2 : Hid (Below _ _ _) := hb2; clear hb2))
  refine bodyPost_ret (v := .tuple #[.agg #[.int .i64 0, .bool false, .int .i64 0, .int .u64 0, .int .u64 0, .bool false], .int .i64 1]) (by simp [results, Try.results8, go_sem, rf, z2_2, c2_2_0, c2_2_1, c2_2_2, c2_2_3, c2_2_4, c2_2_5]) rfl (hQ.out _ _ ⟨by simp, ?_⟩)
  first | exact cmore (cset6 (cthen (cmore (cthen (cmore (cmore (cmore (Below.refl _ _) _) _) _) HB1.out) _) HB2.out) (by omega)) _ | exact cset6 (cmore (cthen (cmore (cthen (cmore (cmore (cmore (Below.refl _ _) _) _) _) HB1.out) _) HB2.out) _) (by omega)
theorem exact9_ob (k : Int) (neg : Bool) (s : Int) (f : Nat) (k' : Int) (neg' : Bool) (s' : Int) (g : Nat) (h1 : soundN k neg s f = true) (h2 : soundN k' neg' s' g = false) (w : World) :
    Calls Try.prog 8 #[numV k neg s f, numV k' neg' s' g] w fun e w' => e = .returned (.tuple #[exV 0 false 0 0 0 false, .int .i64 1]) ∧ Below w.heap.size w w' := by
  have k1 := of7_ok k neg s f h1
  have k2 := of7_bad k' neg' s' g h2
  clear h1 h2
  unfold numV exV at *
  rw [show ((0 : Nat) : Int) = 0 from rfl] at *
  refine cps fun Q hQ => ?_
  go_enter Try.func8, Try.ntmps8
  go_wp2_with (first
    | (go_at_call_of 19 f; go_must (refine (k1 _).mono ?_); rintro e w1 ⟨rfl, hb1⟩; have R1_0 := (hb1.block (w.heap.size) (by first | (simp; done) | (simp; omega) | omega)).trans ((Below.heap_alloc _ _ _ (by first | (simp; done) | (simp; omega) | omega)).trans ((Below.heap_alloc _ _ _ (by first | (simp; done) | (simp; omega) | omega)).trans (rownew' _ _ _ _ (by simp)))); have z1_0 : w.heap.size < w1.heap.size := Nat.lt_of_lt_of_le (by first | (simp; done) | (simp; omega) | omega) hb1.size; have HR1_0 : Hid _ := R1_0; clear R1_0; have R1_1 := (hb1.block (w.heap.size + 1) (by first | (simp; done) | (simp; omega) | omega)).trans ((Below.heap_alloc _ _ _ (by first | (simp; done) | (simp; omega) | omega)).trans (rownew' _ _ _ _ (by simp))); have z1_1 : w.heap.size + 1 < w1.heap.size := Nat.lt_of_lt_of_le (by first | (simp; done) | (simp; omega) | omega) hb1.size; have c1_1_0 := rowcell R1_1 0; have c1_1_1 := rowcell R1_1 1; have c1_1_2 := rowcell R1_1 2; have c1_1_3 := rowcell R1_1 3; simp only [List.getElem?_toArray, List.getElem?_cons_zero, List.getElem?_cons_succ] at c1_1_0 c1_1_1 c1_1_2 c1_1_3; have HR1_1 : Hid _ := R1_1; clear R1_1; have R1_2 := (hb1.block (w.heap.size + 1 + 1) (by first | (simp; done) | (simp; omega) | omega)).trans (rownew' _ _ _ _ (by simp)); have z1_2 : w.heap.size + 1 + 1 < w1.heap.size := Nat.lt_of_lt_of_le (by first | (simp; done) | (simp; omega) | omega) hb1.size; have HR1_2 : Hid _ := R1_2; clear R1_2; have HB1 : Hid (Below _ _ _) := hb1; clear hb1)
    | (go_at_call_of 19 g; go_must (refine (k2 _).mono ?_); rintro e w2 ⟨rfl, hb2⟩; have R2_0 := (hb2.block (w.heap.size) (by first | (simp; done) | (simp; omega) | omega)).trans ((Below.heap_alloc _ _ _ (by first | (simp; done) | (simp; omega) | omega)).trans HR1_0.out); have z2_0 : w.heap.size < w2.heap.size := Nat.lt_of_lt_of_le (by first | (simp; done) | (simp; omega) | omega) hb2.size; have HR2_0 : Hid _ := R2_0; clear R2_0; have R2_1 := (hb2.block (w.heap.size + 1) (by first | (simp; done) | (simp; omega) | omega)).trans ((Below.heap_alloc _ _ _ (by first | (simp; done) | (simp; omega) | omega)).trans HR1_1.out); have z2_1 : w.heap.size + 1 < w2.heap.size := Nat.lt_of_lt_of_le (by first | (simp; done) | (simp; omega) | omega) hb2.size; have HR2_1 : Hid _ := R2_1; clear R2_1; have R2_2 := (hb2.block (w.heap.size + 1 + 1) (by first | (simp; done) | (simp; omega) | omega)).trans ((Below.heap_alloc _ _ _ (by first | (simp; done) | (simp; omega) | omega)).trans HR1_2.out); have z2_2 : w.heap.size + 1 + 1 < w2.heap.size := Nat.lt_of_lt_of_le (by first | (simp; done) | (simp; omega) | omega) hb2.size; have c2_2_0 := rowcell R2_2 0; have c2_2_1 := rowcell R2_2 1; have c2_2_2 := rowcell R2_2 2; have c2_2_3 := rowcell R2_2 3; have c2_2_4 := rowcell R2_2 4; have c2_2_5 := rowcell R2_2 5; simp only [List.getElem?_toArray, List.getElem?_cons_zero, List.getElem?_cons_succ] at c2_2_0 c2_2_1 c2_2_2 c2_2_3 c2_2_4 c2_2_5; have rf := rowfree R2_2; have HR2_2 : Hid _ := R2_2; clear R2_2; have R2_3 := (hb2.block (w1.heap.size) (by first | (simp; done) | (simp; omega) | omega)).trans (rownew' _ _ _ _ (by simp)); have z2_3 : w1.heap.size < w2.heap.size := Nat.lt_of_lt_of_le (by first | (simp; done) | (simp; omega) | omega) hb2.size; have HR2_3 : Hid _ := R2_3; clear R2_3; have HB2 : Hid (Below _ _ _) := hb2; clear hb2))
  refine bodyPost_ret (v := .tuple #[.agg #[.int .i64 0, .bool false, .int .i64 0, .int .u64 0, .int .u64 0, .bool false], .int .i64 1]) (by simp [results, Try.results8, go_sem, rf, z2_2, c2_2_0, c2_2_1, c2_2_2, c2_2_3, c2_2_4, c2_2_5]) rfl (hQ.out _ _ ⟨by simp, ?_⟩)
  first | exact cmore (cset6 (cthen (cmore (cthen (cmore (cmore (cmore (Below.refl _ _) _) _) _) HB1.out) _) HB2.out) (by omega)) _ | exact cset6 (cmore (cthen (cmore (cthen (cmore (cmore (cmore (Below.refl _ _) _) _) _) HB1.out) _) HB2.out) _) (by omega)
theorem exact9_bad (k : Int) (neg : Bool) (s : Int) (f : Nat) (k' : Int) (neg' : Bool) (s' : Int) (g : Nat) (h : (soundN k neg s f && soundN k' neg' s' g) = false) (w : World) :
    Calls Try.prog 8 #[numV k neg s f, numV k' neg' s' g] w fun e w' => e = .returned (.tuple #[exV 0 false 0 0 0 false, .int .i64 1]) ∧ Below w.heap.size w w' := by
  cases h1 : soundN k neg s f
  · cases h2 : soundN k' neg' s' g
    · exact exact9_bb k neg s f k' neg' s' g h1 h2 w
    · exact exact9_bo k neg s f k' neg' s' g h1 h2 w
  · cases h2 : soundN k' neg' s' g
    · exact exact9_ob k neg s f k' neg' s' g h1 h2 w
    · rw [h1, h2] at h; cases h
theorem exact9_ok (k : Int) (neg : Bool) (s : Int) (f : Nat) (k' : Int) (neg' : Bool) (s' : Int) (g : Nat) (hf : f < 2 ^ 64) (hg : g < 2 ^ 64) (h1 : soundN k neg s f = true) (h2 : soundN k' neg' s' g = true) (w : World) :
    Calls Try.prog 8 #[numV k neg s f, numV k' neg' s' g] w fun e w' => e = .returned (.tuple #[sum9 k neg s f 0 k' neg' s' g 0, .int .i64 0]) ∧ Below w.heap.size w w' := by
  have k1 := of7_ok k neg s f h1
  have k2 := of7_ok k' neg' s' g h2
  have k3 := sum9_any k neg s f 0 k' neg' s' g 0 hf (by decide) hg (by decide) (soundN_X h1) (soundN_X h2)
  obtain ⟨K, B, S, H, L, R, hform⟩ := sum9_form k neg s f 0 k' neg' s' g 0
  rw [hform] at k3 ⊢
  clear h1 h2 hform hf hg
  unfold numV exV at *
  rw [show ((0 : Nat) : Int) = 0 from rfl] at *
  refine cps fun Q hQ => ?_
  go_enter Try.func8, Try.ntmps8
  go_wp2_with (first
    | (go_at_call_of 19 f; go_must (refine (k1 _).mono ?_); rintro e w1 ⟨rfl, hb1⟩; have R1_0 := (hb1.block (w.heap.size) (by first | (simp; done) | (simp; omega) | omega)).trans ((Below.heap_alloc _ _ _ (by first | (simp; done) | (simp; omega) | omega)).trans ((Below.heap_alloc _ _ _ (by first | (simp; done) | (simp; omega) | omega)).trans (rownew' _ _ _ _ (by simp)))); have z1_0 : w.heap.size < w1.heap.size := Nat.lt_of_lt_of_le (by first | (simp; done) | (simp; omega) | omega) hb1.size; have HR1_0 : Hid _ := R1_0; clear R1_0; have R1_1 := (hb1.block (w.heap.size + 1) (by first | (simp; done) | (simp; omega) | omega)).trans ((Below.heap_alloc _ _ _ (by first | (simp; done) | (simp; omega) | omega)).trans (rownew' _ _ _ _ (by simp))); have z1_1 : w.heap.size + 1 < w1.heap.size := Nat.lt_of_lt_of_le (by first | (simp; done) | (simp; omega) | omega) hb1.size; have c1_1_0 := rowcell R1_1 0; have c1_1_1 := rowcell R1_1 1; have c1_1_2 := rowcell R1_1 2; have c1_1_3 := rowcell R1_1 3; simp only [List.getElem?_toArray, List.getElem?_cons_zero, List.getElem?_cons_succ] at c1_1_0 c1_1_1 c1_1_2 c1_1_3; have HR1_1 : Hid _ := R1_1; clear R1_1; have R1_2 := (hb1.block (w.heap.size + 1 + 1) (by first | (simp; done) | (simp; omega) | omega)).trans (rownew' _ _ _ _ (by simp)); have z1_2 : w.heap.size + 1 + 1 < w1.heap.size := Nat.lt_of_lt_of_le (by first | (simp; done) | (simp; omega) | omega) hb1.size; have HR1_2 : Hid _ := R1_2; clear R1_2; have HB1 : Hid (Below _ _ _) := hb1; clear hb1)
    | (go_at_call_of 19 g; go_must (refine (k2 _).mono ?_); rintro e w2 ⟨rfl, hb2⟩; have R2_0 := (hb2.block (w.heap.size) (by first | (simp; done) | (simp; omega) | omega)).trans ((Below.heap_alloc _ _ _ (by first | (simp; done) | (simp; omega) | omega)).trans HR1_0.out); have z2_0 : w.heap.size < w2.heap.size := Nat.lt_of_lt_of_le (by first | (simp; done) | (simp; omega) | omega) hb2.size; have HR2_0 : Hid _ := R2_0; clear R2_0; have R2_1 := (hb2.block (w.heap.size + 1) (by first | (simp; done) | (simp; omega) | omega)).trans ((Below.heap_alloc _ _ _ (by first | (simp; done) | (simp; omega) | omega)).trans HR1_1.out); have z2_1 : w.heap.size + 1 < w2.heap.size := Nat.lt_of_lt_of_le (by first | (simp; done) | (simp; omega) | omega) hb2.size; have HR2_1 : Hid _ := R2_1; clear R2_1; have R2_2 := (hb2.block (w.heap.size + 1 + 1) (by first | (simp; done) | (simp; omega) | omega)).trans ((Below.heap_alloc _ _ _ (by first | (simp; done) | (simp; omega) | omega)).trans HR1_2.out); have z2_2 : w.heap.size + 1 + 1 < w2.heap.size := Nat.lt_of_lt_of_le (by first | (simp; done) | (simp; omega) | omega) hb2.size; have HR2_2 : Hid _ := R2_2; clear R2_2; have R2_3 := (hb2.block (w1.heap.size) (by first | (simp; done) | (simp; omega) | omega)).trans (rownew' _ _ _ _ (by simp)); have z2_3 : w1.heap.size < w2.heap.size := Nat.lt_of_lt_of_le (by first | (simp; done) | (simp; omega) | omega) hb2.size; have c2_3_0 := rowcell R2_3 0; have c2_3_1 := rowcell R2_3 1; have c2_3_2 := rowcell R2_3 2; have c2_3_3 := rowcell R2_3 3; have c2_3_4 := rowcell R2_3 4; have c2_3_5 := rowcell R2_3 5; simp only [List.getElem?_toArray, List.getElem?_cons_zero, List.getElem?_cons_succ] at c2_3_0 c2_3_1 c2_3_2 c2_3_3 c2_3_4 c2_3_5; have HR2_3 : Hid _ := R2_3; clear R2_3; have HB2 : Hid (Below _ _ _) := hb2; clear hb2)
    | (go_at_call 20; go_must (refine (k3 _).mono ?_); rintro e w3 ⟨rfl, hb3⟩; have R3_0 := (hb3.block (w.heap.size) (by first | (simp; done) | (simp; omega) | omega)).trans ((Below.heap_alloc _ _ _ (by first | (simp; done) | (simp; omega) | omega)).trans HR2_0.out); have z3_0 : w.heap.size < w3.heap.size := Nat.lt_of_lt_of_le (by first | (simp; done) | (simp; omega) | omega) hb3.size; have HR3_0 : Hid _ := R3_0; clear R3_0; have R3_1 := (hb3.block (w.heap.size + 1) (by first | (simp; done) | (simp; omega) | omega)).trans ((Below.heap_alloc _ _ _ (by first | (simp; done) | (simp; omega) | omega)).trans HR2_1.out); have z3_1 : w.heap.size + 1 < w3.heap.size := Nat.lt_of_lt_of_le (by first | (simp; done) | (simp; omega) | omega) hb3.size; have HR3_1 : Hid _ := R3_1; clear R3_1; have R3_2 := (hb3.block (w.heap.size + 1 + 1) (by first | (simp; done) | (simp; omega) | omega)).trans ((Below.heap_alloc _ _ _ (by first | (simp; done) | (simp; omega) | omega)).trans HR2_2.out); have z3_2 : w.heap.size + 1 + 1 < w3.heap.size := Nat.lt_of_lt_of_le (by first | (simp; done) | (simp; omega) | omega) hb3.size; have c3_2_0 := rowcell R3_2 0; have c3_2_1 := rowcell R3_2 1; have c3_2_2 := rowcell R3_2 2; have c3_2_3 := rowcell R3_2 3; have c3_2_4 := rowcell R3_2 4; have c3_2_5 := rowcell R3_2 5; simp only [List.getElem?_toArray, List.getElem?_cons_zero, List.getElem?_cons_succ] at c3_2_0 c3_2_1 c3_2_2 c3_2_3 c3_2_4 c3_2_5; have rf := rowfree R3_2; have HR3_2 : Hid _ := R3_2; clear R3_2; have R3_3 := (hb3.block (w1.heap.size) (by first | (simp; done) | (simp; omega) | omega)).trans ((Below.heap_alloc _ _ _ (by first | (simp; done) | (simp; omega) | omega)).trans HR2_3.out); have z3_3 : w1.heap.size < w3.heap.size := Nat.lt_of_lt_of_le (by first | (simp; done) | (simp; omega) | omega) hb3.size; have HR3_3 : Hid _ := R3_3; clear R3_3; have R3_4 := (hb3.block (w2.heap.size) (by first | (simp; done) | (simp; omega) | omega)).trans (rownew' _ _ _ _ (by simp)); have z3_4 : w2.heap.size < w3.heap.size := Nat.lt_of_lt_of_le (by first | (simp; done) | (simp; omega) | omega) hb3.size; have HR3_4 : Hid _ := R3_4; clear R3_4; have HB3 : Hid (Below _ _ _) := hb3; clear hb3))
  refine bodyPost_ret (v := .tuple #[.agg #[.int .i64 K, .bool B, .int .i64 S, .int .u64 H, .int .u64 L, .bool R], .int .i64 0]) (by simp [results, Try.results8, go_sem, rf, z3_2, c3_2_0, c3_2_1, c3_2_2, c3_2_3, c3_2_4, c3_2_5]) rfl (hQ.out _ _ ⟨by simp, ?_⟩)
  exact cset6 (cthen (cmore (cthen (cmore (cthen (cmore (cmore (cmore (Below.refl _ _) _) _) _) HB1.out) _) HB2.out) _) HB3.out) (by omega)
theorem vF_lt (n x : Nat) : vF n x < 2 ^ 64 := by
  unfold vF
  split
  · exact (wordL_bounds _).2
  · decide
end Go.Proofs.Ytmkdnhdbgoehgaa
