import Derived.Test.YtheliihkkoohnabGreatJoin1
import Derived.WalkKit
import Derived.Test.YtheliihkkoohnabGreatProg
import Derived.OwnWalk
import Derived.Lib.SmallJoins
import Derived.Shelf.Spec.BitsCarry
import Derived.Lib.Mul64
import Derived.Lib.BitFns
namespace Go.Proofs.YtheliihkkoohnabGreat
open Go.ChangeShapes Go.WideShapes Go.ChangeAt Go.RowKit
set_option linter.unusedVariables false
set_option linter.unusedSimpArgs false
set_option maxRecDepth 100000

/-! ### what a width is -/
theorem bmoreS {a w : World} (h : Below a.heap.size a w) (o : Obj) : Below a.heap.size a (w.alloc o) := h.alloc h.size o
theorem bthenS {a W w : World} (h : Below a.heap.size a W) (hb : Below W.heap.size W w) : Below a.heap.size a w := h.trans (hb.mono h.size)
theorem bsetS {a W : World} {b : Nat} (h : Below a.heap.size a W) (hb : a.heap.size ≤ b) (o : Nat) (v : Value) : Below a.heap.size a (W.setCell ⟨b, o, none⟩ v) := h.setCell hb _
def shp (n m : Nat) : Value := .agg #[.int .i64 n, .int .u64 (m - 1 : Nat), .int .u64 1, .int .u64 m, .int .i64 (4 * n - 8 : Nat)]
theorem two_pow_lt {n : Nat} (h : Wd n) : 1 ≤ 2 ^ (n - 1) ∧ 2 ^ (n - 1) ≤ 9223372036854775808 := by rcases h with rfl | rfl | rfl | rfl <;> decide
theorem of_ok (n : Nat) (hn : Wd n) (w : World) :
    Calls Tryz.prog 75 #[.int .i64 n] w fun e w' => e = .returned (.tuple #[shp n (2 ^ (n - 1)), .nilIface]) ∧ Below w.heap.size w w' := by
  have k1 := known_any n
  rw [isW_of hn] at k1
  have hw := wd_le hn
  have k2 := nar_any n (by omega) hw.2
  have hm := two_pow_lt hn
  clear hn
  refine cps fun Q hQ => ?_
  generalize 2 ^ (n - 1) = m at *
  have e1 : (m : Int) - 1 = ((m - 1 : Nat) : Int) := by omega
  have e2 : 4 * (n : Int) - 8 = ((4 * n - 8 : Nat) : Int) := by omega
  go_enter Tryz.func75, Tryz.ntmps75
  go_wp2_with (first
    | (go_at_call 77; refine (k1 _).mono ?_; rintro e w1 ⟨rfl, hb1⟩; have hc := fun b o h => hb1.cell (p := ⟨b, o, none⟩) h; have hf := fun b o h => hb1.frozen (p := ⟨b, o, none⟩) h; have hz := hb1.size; simp at hz)
    | (go_at_call 64; refine (k2 _).mono ?_; rintro e w1 ⟨rfl, rfl⟩))
  have hz' : w.heap.size < w1.heap.size := hz
  refine bodyPost_ret (v := .tuple #[shp n m, .nilIface]) (by simp [results, Tryz.results75, go_sem, hc, hz', shp]) rfl (hQ.out _ _ ⟨rfl, ?_⟩)
  exact bsetS (bsetS (bsetS (bsetS (bsetS (bthenS (bmoreS (Below.refl _ _) _) hb1) (Nat.le_refl _) _ _) (Nat.le_refl _) _ _) (Nat.le_refl _) _ _) (Nat.le_refl _) _ _) (Nat.le_refl _) _ _
end Go.Proofs.YtheliihkkoohnabGreat

namespace Go.Proofs.YtheliihkkoohnabGreat
open Go.ChangeShapes Go.WideShapes Go.ChangeAt Go.RowKit
set_option linter.unusedVariables false
set_option linter.unusedSimpArgs false
set_option maxRecDepth 100000

/-! ### Join -/
end Go.Proofs.YtheliihkkoohnabGreat

namespace Go.Proofs.YtheliihkkoohnabGreat
open Go.ChangeShapes Go.WideShapes Go.ChangeAt Go.RowKit
set_option linter.unusedVariables false
set_option linter.unusedSimpArgs false
set_option maxRecDepth 100000

/-! ### sound -/
end Go.Proofs.YtheliihkkoohnabGreat

namespace Go.Proofs.YtheliihkkoohnabGreat
open Go.ChangeShapes Go.WideShapes Go.ChangeAt Go.RowKit
set_option linter.unusedVariables false
set_option linter.unusedSimpArgs false
set_option maxRecDepth 100000

/-! ### Encode -/
end Go.Proofs.YtheliihkkoohnabGreat

namespace Go.Proofs.YtheliihkkoohnabGreat
set_option maxRecDepth 100000
/-! ### the contracts of package codec stand in CkE (Split), CkF (Decode), CkH (Join), CkI (Encode) -/
end Go.Proofs.YtheliihkkoohnabGreat

namespace Go.Proofs.YtheliihkkoohnabGreat
open Go.ChangeShapes Go.WideShapes Go.ChangeAt Go.RowKit
set_option linter.unusedVariables false
set_option linter.unusedSimpArgs false
set_option maxRecDepth 100000

end Go.Proofs.YtheliihkkoohnabGreat

namespace Go.Proofs.YtheliihkkoohnabGreat
set_option maxRecDepth 100000
set_option linter.unusedVariables false
set_option linter.unusedSimpArgs false

/-! ### patterns come back (plain mathematics) -/
theorem inR_of (m : Nat) (t : List Bool) (hm : Wd m) (hl : t.length = m - 1) (ht : true ∈ t) : inR m (scaleL t) = true := by
  have hw := wd_le hm
  have hne : t ≠ [] := by rintro rfl; cases ht
  have hex : expL t < 4 := by
    have := numOf_lt ((restL t ++ noughts 2).take 2)
    rw [show ((restL t ++ noughts 2).take 2).length = 2 by simp] at this
    exact this
  refine decide_eq_true ?_
  obtain ⟨b, r, tl, rfl, htl⟩ := split_run t hne
  rw [List.length_append, List.length_replicate] at hl
  unfold scaleL regL
  rw [runL_rep b r tl htl, onesL_rep]
  rcases htl with rfl | ⟨u, rfl⟩
  · rw [List.append_nil] at *
    have hb : b = true := (List.mem_replicate.1 ht).2.symm
    subst hb
    have h0 : expL (List.replicate (r + 1) true) = 0 := by
      unfold expL; rw [restL_end]; decide
    rw [h0]
    simp at hl ⊢; omega
  · rw [List.length_cons] at hl
    generalize expL (List.replicate (r + 1) b ++ (!b) :: u) = ex at *
    cases b <;> simp <;> omega
theorem sound_home (m : Nat) (neg : Bool) (t : List Bool) (hm : Wd m) (hl : t.length = m - 1) (ht : true ∈ t) : soundN 1 neg (scaleL t) (wordL t) = true := by
  have hw := wd_le hm
  have h1 := of_decide_eq_true (inR_of m t hm hl ht)
  have h2 := wordL_bounds t
  unfold soundN
  rw [if_neg (by decide)]
  exact decide_eq_true ⟨rfl, h2.1, by omega, by omega⟩
theorem kind_cases (m y : Nat) (hk : kindOf m y ≠ 1) : (kindOf m y = 0 ∧ y = 0) ∨ (kindOf m y = 2 ∧ y = 2 ^ (m - 1)) := by
  unfold kindOf at *
  by_cases h : y = 0
  · rw [if_pos h] at *; exact .inl ⟨rfl, h⟩
  · rw [if_neg h] at *
    by_cases h2 : y = 2 ^ (m - 1)
    · rw [if_pos h2] at *; exact .inr ⟨rfl, h2⟩
    · rw [if_neg h2] at *; exact absurd rfl hk
end Go.Proofs.YtheliihkkoohnabGreat

namespace Go.Proofs.YtheliihkkoohnabGreat
set_option maxRecDepth 100000
set_option linter.unusedVariables false
set_option linter.unusedSimpArgs false

/-! ### noughts behind a pattern (plain mathematics) -/
end Go.Proofs.YtheliihkkoohnabGreat

namespace Go.Proofs.YtheliihkkoohnabGreat
set_option maxRecDepth 100000
set_option linter.unusedVariables false
set_option linter.unusedSimpArgs false

/-! ### the string of an exact number as one natural number of 209 bits: it rises with the number (plain mathematics) -/
def hdA (k : Int) : Nat := if 0 ≤ k then 2 ^ 80 - 2 ^ (79 - k.toNat) else 2 ^ (79 - (-k).toNat)
def hdS (k : Int) : Nat := if 0 ≤ k then 2 ^ (78 - k.toNat) else 2 ^ (79 - (-k).toNat)
theorem hd_step (k : Int) (h1 : -79 ≤ k) (h2 : k ≤ 77) : hdA k + hdS k = hdA (k + 1) := by
  unfold hdA hdS
  by_cases h0 : 0 ≤ k
  · obtain ⟨j, rfl⟩ := Int.eq_ofNat_of_zero_le h0
    rw [if_pos h0, if_pos h0, if_pos (by omega), show (((j : Nat) : Int) + 1).toNat = j + 1 by omega, Int.toNat_natCast]
    have e : 2 ^ (79 - j) = 2 * 2 ^ (78 - j) := by rw [← Nat.pow_succ']; congr 1; omega
    have e2 : 79 - (j + 1) = 78 - j := by omega
    have e3 : 2 ^ (79 - j) ≤ 2 ^ 80 := Nat.pow_le_pow_right (by decide) (by omega)
    rw [e2]
    rw [e] at e3 ⊢
    generalize 2 ^ (78 - j) = x at *
    omega
  · rw [if_neg h0, if_neg h0]
    by_cases h3 : k = -1
    · subst h3; decide
    · rw [if_neg (by omega)]
      have e : 2 ^ (79 - (-(k + 1)).toNat) = 2 * 2 ^ (79 - (-k).toNat) := by rw [← Nat.pow_succ']; congr 1; omega
      rw [e]; omega
theorem hd_pos (k : Int) : 0 < hdS k := by unfold hdS; split <;> exact Nat.pow_pos (by decide)
theorem hd_rise (k : Int) (d : Nat) (h1 : -79 ≤ k) (h2 : k + d ≤ 77) : hdA k + hdS k ≤ hdA (k + 1 + d) := by
  induction d with
  | zero => rw [hd_step k h1 (by omega)]; simp
  | succ d ih =>
    have := ih (by omega)
    have h3 := hd_step (k + 1 + d) (by omega) (by omega)
    rw [show k + 1 + ((d + 1 : Nat) : Int) = k + 1 + d + 1 by omega, ← h3]
    omega
theorem hd_mono {k k' : Int} (h1 : -79 ≤ k) (h : k < k') (h2 : k' ≤ 78) : hdA k + hdS k ≤ hdA k' := by
  have := hd_rise k (k' - k - 1).toNat h1 (by omega)
  rw [show k + 1 + (((k' - k - 1).toNat : Nat) : Int) = k' by omega] at this
  exact this
/-- e and the digits behind the first -/
def tailN (s : Int) (M : Nat) : Nat := (s % 4).toNat * 2 ^ 127 + (M - 2 ^ 127)
def zed (s : Int) (M : Nat) : Nat := hdA (s / 4) * 2 ^ 129 + hdS (s / 4) * tailN s M
def Mant (M : Nat) : Prop := 2 ^ 127 ≤ M ∧ M < 2 ^ 128
theorem tail_lt (s : Int) (M : Nat) (h : Mant M) : tailN s M < 2 ^ 129 := by
  obtain ⟨h1, h2⟩ := h
  unfold tailN
  have : (s % 4).toNat < 4 := by omega
  generalize (s % 4).toNat = e at *
  omega
theorem zed_hi (s : Int) (M : Nat) (h : Mant M) : zed s M < (hdA (s / 4) + hdS (s / 4)) * 2 ^ 129 := by
  unfold zed
  rw [Nat.add_mul]
  exact Nat.add_lt_add_left (Nat.mul_lt_mul_of_pos_left (tail_lt s M h) (hd_pos _)) _
theorem zed_lo (s : Int) (M : Nat) : hdA (s / 4) * 2 ^ 129 ≤ zed s M := Nat.le_add_right _ _
/-- it rises with the scale, and with the digits -/
theorem zed_lt {s s' : Int} {M M' : Nat} (h : Mant M) (h' : Mant M') (h1 : -316 ≤ s) (h2 : s' < 312) (hlt : s < s' ∨ (s = s' ∧ M < M')) : zed s M < zed s' M' := by
  have key : s / 4 = s' / 4 → tailN s M < tailN s' M' → zed s M < zed s' M' := fun e ht => by
    unfold zed
    rw [e]
    exact Nat.add_lt_add_left (Nat.mul_lt_mul_of_pos_left ht (hd_pos _)) _
  rcases hlt with hlt | ⟨rfl, hM⟩
  · by_cases e : s / 4 = s' / 4
    · refine key e ?_
      unfold tailN
      obtain ⟨a1, a2⟩ := h
      obtain ⟨b1, b2⟩ := h'
      have : (s % 4).toNat + 1 ≤ (s' % 4).toNat := by omega
      generalize (s % 4).toNat = x at *
      generalize (s' % 4).toNat = y at *
      omega
    · have hk : s / 4 < s' / 4 := by omega
      have h3 := hd_mono (k := s / 4) (k' := s' / 4) (by omega) hk (by omega)
      exact Nat.lt_of_lt_of_le (zed_hi s M h) (Nat.le_trans (Nat.mul_le_mul_right _ h3) (zed_lo s' M'))
  · refine key rfl ?_
    unfold tailN
    have := h.1
    omega
theorem numOf_ones (k : Nat) : numOf (List.replicate k true) = 2 ^ k - 1 := by
  induction k with
  | zero => rfl
  | succ k ih =>
    rw [List.replicate_succ, numOf_cons, ih, List.length_replicate, Nat.pow_succ]
    have : 0 < 2 ^ k := Nat.pow_pos (by decide)
    simp; omega
/-- the string, written out, is that number -/
theorem zed_str (s : Int) (M : Nat) (D : List Bool) (hD : D.length = 127) (hM : numOf D = M - 2 ^ 127) (h1 : -76 * 4 ≤ s) (h2 : s < 76 * 4) :
    (headK (s / 4) ++ bitsOf (s % 4).toNat 2 ++ D).length ≤ 209 ∧ numOf (headK (s / 4) ++ bitsOf (s % 4).toNat 2 ++ D) * 2 ^ (209 - (headK (s / 4) ++ bitsOf (s % 4).toNat 2 ++ D).length) = zed s M := by
  have hl : (headK (s / 4) ++ bitsOf (s % 4).toNat 2 ++ D).length = (headK (s / 4)).length + 129 := by simp [bitsOf_length, hD]
  have hn : numOf (headK (s / 4) ++ bitsOf (s % 4).toNat 2 ++ D) = numOf (headK (s / 4)) * 2 ^ 129 + tailN s M := by
    rw [numOf_append, numOf_append, numOf_bits, hD, bitsOf_length, hM, Nat.mod_eq_of_lt (a := (s % 4).toNat) (by omega), Nat.add_mul, Nat.mul_assoc, ← Nat.pow_add]
    unfold tailN; omega
  rw [hl, hn]
  have hh : numOf (headK (s / 4)) * 2 ^ (80 - (headK (s / 4)).length) = hdA (s / 4) ∧ 2 ^ (80 - (headK (s / 4)).length) = hdS (s / 4) ∧ (headK (s / 4)).length ≤ 80 := by
    unfold headK hdA hdS
    by_cases h0 : 0 ≤ s / 4
    · rw [if_pos h0, if_pos h0, if_pos h0]
      obtain ⟨j, hj⟩ := Int.eq_ofNat_of_zero_le h0
      rw [hj, Int.toNat_natCast]
      have hj2 : j < 76 := by omega
      rw [numOf_append, numOf_ones, List.length_append, List.length_replicate]
      simp only [List.length_singleton]
      refine ⟨?_, by congr 1; omega, by omega⟩
      have e1 : numOf [false] = 0 := rfl
      rw [e1, Nat.add_zero, Nat.pow_one, show 80 - (j + 1 + 1) = 78 - j by omega, Nat.mul_assoc, ← Nat.pow_succ', show (78 - j).succ = 79 - j by omega, Nat.sub_mul, ← Nat.pow_add, show j + 1 + (79 - j) = 80 by omega, Nat.one_mul]
    · rw [if_neg h0, if_neg h0, if_neg h0]
      have hj2 : (-(s / 4)).toNat ≤ 76 := by omega
      rw [numOf_append, List.length_append, List.length_replicate]
      simp only [List.length_singleton]
      have e0 := numOf_noughts (-(s / 4)).toNat
      refine ⟨?_, by congr 1; omega, by omega⟩
      rw [show List.replicate (-(s / 4)).toNat false = noughts (-(s / 4)).toNat from rfl, e0, show 80 - ((-(s / 4)).toNat + 1) = 79 - (-(s / 4)).toNat by omega, show numOf [true] = 1 from rfl]
      simp
  obtain ⟨a, b, c⟩ := hh
  refine ⟨by omega, ?_⟩
  rw [show 209 - ((headK (s / 4)).length + 129) = 80 - (headK (s / 4)).length by omega, Nat.add_mul, Nat.mul_right_comm, a, b, Nat.mul_comm (tailN s M)]
  rfl
end Go.Proofs.YtheliihkkoohnabGreat

namespace Go.Proofs.YtheliihkkoohnabGreat
set_option maxRecDepth 100000
set_option linter.unusedVariables false
set_option linter.unusedSimpArgs false

/-! ### what is left behind a cut, and rounding: to the nearer, of a tie to the even one (plain mathematics) -/
def leftL (l : List Bool) (rest : Bool) : Nat :=
  if l.getD 0 false then (if (l.drop 1).any id || rest then 3 else 2) else (if (l.drop 1).any id || rest then 1 else 0)
def roundP (P left : Nat) : Nat := if left = 3 ∨ (left = 2 ∧ P % 2 = 1) then P + 1 else P
/-- P times 2 H and R: to the nearer -/
def rhe (H Z : Nat) : Nat := roundP (Z / (2 * H)) (if Z % (2 * H) = 0 then 0 else if Z % (2 * H) < H then 1 else if Z % (2 * H) = H then 2 else 3)
theorem roundP_le (P l : Nat) : P ≤ roundP P l ∧ roundP P l ≤ P + 1 := by unfold roundP; split <;> omega
/-- on which side of the ties a number lies -/
theorem rhe_side (H Z p : Nat) (hH : 0 < H) (h : rhe H Z = p) : (Z < p * (2 * H) + H ∨ (Z = p * (2 * H) + H ∧ p % 2 = 0)) ∧ (1 ≤ p → (p - 1) * (2 * H) + H < Z ∨ ((p - 1) * (2 * H) + H = Z ∧ p % 2 = 0)) := by
  have e1 := Nat.div_add_mod Z (2 * H)
  have m1 := Nat.mod_lt Z (show 0 < 2 * H by omega)
  unfold rhe roundP at h
  rw [Nat.mul_comm] at e1
  generalize Z % (2 * H) = R at *
  generalize hP : Z / (2 * H) = P at *
  have hsub : 1 ≤ p → (p - 1) * (2 * H) + 2 * H = p * (2 * H) := fun hp => by
    rw [← Nat.succ_mul]; congr 1; omega
  by_cases hup : ((if R = 0 then 0 else if R < H then 1 else if R = H then 2 else 3) = 3 ∨ ((if R = 0 then 0 else if R < H then 1 else if R = H then 2 else 3) = 2 ∧ P % 2 = 1))
  · rw [if_pos hup] at h
    subst h
    have hRH : H ≤ R ∧ (R = H → P % 2 = 1) := by
      rcases hup with hup | ⟨hup, h2⟩
      · repeat' split at hup
        all_goals first | omega | exact ⟨by omega, by omega⟩
      · repeat' split at hup
        all_goals first | omega | exact ⟨by omega, fun _ => h2⟩
    have hs := hsub (by omega)
    rw [Nat.add_sub_cancel] at hs ⊢
    generalize (P + 1) * (2 * H) = C at *
    generalize P * (2 * H) = B at *
    refine ⟨by omega, fun _ => ?_⟩
    by_cases e : R = H
    · have := hRH.2 e; exact .inr ⟨by omega, by omega⟩
    · exact .inl (by omega)
  · rw [if_neg hup] at h
    subst h
    have hRH : R ≤ H ∧ (R = H → P % 2 = 0) := by
      refine ⟨Nat.le_of_not_lt fun hlt => hup (.inl ?_), fun e => ?_⟩
      · rw [if_neg (by omega), if_neg (by omega), if_neg (by omega)]
      · rcases Nat.mod_two_eq_zero_or_one P with h0 | h1
        · exact h0
        · exact absurd (.inr ⟨by rw [if_neg (by omega), if_neg (by omega), if_pos e], h1⟩) hup
    generalize P * (2 * H) = B at *
    refine ⟨?_, fun hp => ?_⟩
    · by_cases e : R = H
      · exact .inr ⟨by omega, hRH.2 e⟩
      · exact .inl (by omega)
    · have := hsub hp
      exact .inl (by omega)
/-! ### a string, cut -/
theorem any_num (l : List Bool) : l.any id = decide (numOf l ≠ 0) := by
  cases h : l.any id
  · refine (decide_eq_false fun hn => ?_).symm
    have := mem_of_pos l hn
    rw [List.any_eq_false] at h
    exact h true this rfl
  · refine (decide_eq_true ?_).symm
    obtain ⟨b, hb, hb2⟩ := List.any_eq_true.1 h
    have : b = true := hb2
    subst this
    have := numOf_pos l hb
    omega
theorem cut_num (l : List Bool) (m : Nat) (hm : m ≤ l.length) : numOf l = numOf (l.take m) * 2 ^ (l.length - m) + numOf (l.drop m) := by
  conv => lhs; rw [← List.take_append_drop m l]
  rw [numOf_append, List.length_drop]
/-- the first m bits, and what is left, of a string that is followed by noughts, and perhaps by something more -/
theorem cut_left (l : List Bool) (m : Nat) (rest : Bool) (hm : m < l.length) (hl : l.length ≤ 209) :
    roundP (numOf (l.take m)) (leftL (l.drop m) rest) = rhe (2 ^ (209 - m)) (2 * (numOf l * 2 ^ (209 - l.length)) + rest.toNat) := by
  have hc := cut_num l m (by omega)
  have hd : (l.drop m).length = l.length - m := List.length_drop ..
  have hlt := numOf_lt (l.drop m)
  rw [hd] at hlt
  cases hs : l.drop m with
  | nil => rw [hs] at hd; simp at hd; omega
  | cons b t =>
    rw [hs] at hd hlt hc
    have ht : t.length = l.length - m - 1 := by simp at hd; omega
    have htl := numOf_lt t
    rw [numOf_cons, ht] at hc hlt
    rw [ht] at htl
    -- powers
    have p1 : 2 ^ (l.length - m) = 2 * 2 ^ (l.length - m - 1) := by rw [← Nat.pow_succ']; congr 1; omega
    have p2 : 2 ^ (209 - m) = 2 ^ (l.length - m) * 2 ^ (209 - l.length) := by rw [← Nat.pow_add]; congr 1; omega
    have p3 : 0 < 2 ^ (l.length - m - 1) := Nat.pow_pos (by decide)
    have p4 : 0 < 2 ^ (209 - l.length) := Nat.pow_pos (by decide)
    rw [hc, p2, p1]
    rw [p1] at hlt
    have hany := any_num t
    unfold leftL
    rw [show (b :: t).getD 0 false = b from rfl, show (b :: t).drop 1 = t from rfl, hany]
    generalize numOf (l.take m) = P at *
    generalize 2 ^ (l.length - m - 1) = A at *
    generalize 2 ^ (209 - l.length) = C at *
    generalize numOf t = V at *
    -- the number is P times 2 H and R
    have hVC : V * C + C ≤ A * C := by rw [← Nat.succ_mul]; exact Nat.mul_le_mul_right _ htl
    have hV0 : V = 0 ∨ C ≤ V * C := by
      rcases Nat.eq_zero_or_pos V with h | h
      · exact .inl h
      · exact .inr (Nat.le_mul_of_pos_left _ h)
    have hAC : 0 < A * C := Nat.mul_pos p3 p4
    have hZ : 2 * ((P * (2 * A) + (b.toNat * A + V)) * C) + rest.toNat = P * (2 * (2 * A * C)) + (2 * (b.toNat * (A * C) + V * C) + rest.toNat) := by
      rw [Nat.add_mul, Nat.add_mul, Nat.mul_assoc b.toNat, Nat.mul_add, ← Nat.mul_assoc 2 (P * (2 * A)) C]
      have : 2 * (P * (2 * A)) * C = P * (2 * (2 * A * C)) := by
        simp only [Nat.mul_assoc, Nat.mul_left_comm]
      rw [this]; omega
    have hR : 2 * (b.toNat * (A * C) + V * C) + rest.toNat < 2 * (2 * A * C) := by
      rw [Nat.mul_assoc 2 A C]
      generalize A * C = D at *
      generalize V * C = E at *
      cases b <;> cases rest <;> simp <;> omega
    rw [hZ]
    unfold rhe
    have hpos : 0 < 2 * (2 * A * C) := by omega
    rw [Nat.mul_comm P, Nat.mul_add_div hpos, Nat.div_eq_of_lt hR, Nat.add_zero, Nat.mul_add_mod, Nat.mod_eq_of_lt hR]
    rw [Nat.mul_assoc 2 A C]
    congr 1
    generalize A * C = D at *
    rcases hV0 with rfl | hV0
    · cases b <;> cases rest <;> simp <;> (try omega)
      all_goals (repeat' split) <;> omega
    · have hne : V ≠ 0 := by rintro rfl; omega
      generalize hE : V * C = E at *
      cases b <;> cases rest <;> simp [hne] <;> (try omega)
      all_goals (repeat' split) <;> omega
end Go.Proofs.YtheliihkkoohnabGreat

namespace Go.Proofs.YtheliihkkoohnabGreat
set_option maxRecDepth 100000
set_option linter.unusedVariables false
set_option linter.unusedSimpArgs false

/-! ### an exact number's string, cut and rounded (plain mathematics) -/
def digX (hi lo : Nat) : List Bool := (bitsOf hi 64).drop 1 ++ bitsOf lo 64
def strX (s : Int) (hi lo : Nat) : List Bool := headK (s / 4) ++ bitsOf (s % 4).toNat 2 ++ digX hi lo
def manX (hi lo : Nat) : Nat := hi * 18446744073709551616 + lo
structure WordsX (hi lo : Nat) : Prop where
  top : 9223372036854775808 ≤ hi
  hi64 : hi < 18446744073709551616
  lo64 : lo < 18446744073709551616
theorem WordsX.mant {hi lo : Nat} (h : WordsX hi lo) : Mant (manX hi lo) := by
  obtain ⟨a, b, c⟩ := h
  unfold Mant manX
  have e1 : (2 : Nat) ^ 127 = 9223372036854775808 * 18446744073709551616 := by decide
  have e2 : (2 : Nat) ^ 128 = 18446744073709551616 * 18446744073709551616 := by decide
  omega
theorem digX_length (hi lo : Nat) : (digX hi lo).length = 127 := by simp [digX, bitsOf_length]
theorem digX_num {hi lo : Nat} (h : WordsX hi lo) : numOf (digX hi lo) = manX hi lo - 2 ^ 127 := by
  obtain ⟨a, b, c⟩ := h
  have h1 := top_word hi a b
  have h2 : numOf (bitsOf hi 64) = hi := by rw [numOf_bits]; exact Nat.mod_eq_of_lt b
  rw [h1, numOf_cons] at h2
  have h3 : ((bitsOf hi 64).drop 1).length = 63 := by rw [List.length_drop, bitsOf_length]
  rw [h3] at h2
  have h4 : numOf (bitsOf lo 64) = lo := by rw [numOf_bits]; exact Nat.mod_eq_of_lt c
  unfold digX manX
  rw [numOf_append, bitsOf_length, h4]
  have e1 : (2 : Nat) ^ 127 = 9223372036854775808 * 18446744073709551616 := by decide
  have e2 : (2 : Nat) ^ 64 = 18446744073709551616 := by decide
  have e3 : (2 : Nat) ^ 63 = 9223372036854775808 := by decide
  rw [e3] at h2
  simp only [Bool.toNat_true, Nat.one_mul] at h2
  generalize numOf ((bitsOf hi 64).drop 1) = x at *
  rw [e1, e2]
  omega
/-- is nothing left behind the first digit? -/
def justX (hi lo : Nat) (rest : Bool) : Bool := !rest && !(digX hi lo).any id
/-- the scales that are neither at the greatest value nor at the least -/
def midX (n : Nat) (s : Int) (just : Bool) : Prop := s < 4 * n - 8 ∧ 8 - 4 * (n : Int) ≤ s ∧ ¬ (s = 8 - 4 * n ∧ just = true)
def cutX (n : Nat) (s : Int) (hi lo : Nat) (rest : Bool) : Nat × Nat :=
  if 4 * (n : Int) - 8 ≤ s then (2 ^ (n - 1) - 1, 0)
  else if s < 8 - 4 * (n : Int) ∨ (s = 8 - 4 * n ∧ justX hi lo rest = true) then (1, 0)
  else (numOf ((strX s hi lo).take (n - 1)), leftL ((strX s hi lo).drop (n - 1)) rest)
def rndX (n : Nat) (s : Int) (hi lo : Nat) (rest : Bool) : Nat := roundP (cutX n s hi lo rest).1 (cutX n s hi lo rest).2
def zX (s : Int) (hi lo : Nat) (rest : Bool) : Nat := 2 * zed s (manX hi lo) + rest.toNat
theorem numOf_false (t : List Bool) (h : false ∈ t) : numOf t + 2 ≤ 2 ^ t.length := by
  induction t with
  | nil => cases h
  | cons b t ih =>
    rw [numOf_cons, List.length_cons, Nat.pow_succ]
    have hlt := numOf_lt t
    have hp : 0 < 2 ^ t.length := Nat.pow_pos (by decide)
    cases b
    · simp; omega
    · have := ih (by simpa using h)
      simp; omega
theorem strX_mid (n : Nat) (s : Int) (hi lo : Nat) (hn : Wd n) (h1 : s < 4 * n - 8) (h2 : 8 - 4 * (n : Int) ≤ s) :
    true ∈ (strX s hi lo).take (n - 1) ∧ false ∈ (strX s hi lo).take (n - 1) ∧ ((strX s hi lo).take (n - 1)).length = n - 1 ∧ n - 1 < (strX s hi lo).length := by
  have hw := wd_le hn
  have hlen : 128 < (strX s hi lo).length := by
    unfold strX
    obtain ⟨b, r, hh, _⟩ := headK_form (s / 4)
    rw [hh]; simp [bitsOf_length, digX_length]
  have key : ∀ (b : Bool) (j : Nat) (R : List Bool), strX s hi lo = List.replicate (j + 1) b ++ (!b) :: R → j + 1 ≤ n - 2 → true ∈ (strX s hi lo).take (n - 1) ∧ false ∈ (strX s hi lo).take (n - 1) := by
    intro b j R e hj
    rw [e, List.take_append, List.length_replicate, show n - 1 - (j + 1) = (n - 1 - (j + 1) - 1) + 1 by omega, List.take_succ_cons, List.take_of_length_le (by rw [List.length_replicate]; omega)]
    cases b
    · exact ⟨List.mem_append_right _ (List.mem_cons_self ..), List.mem_append_left _ (by simp)⟩
    · exact ⟨List.mem_append_left _ (by simp), List.mem_append_right _ (List.mem_cons_self ..)⟩
  have hk : true ∈ (strX s hi lo).take (n - 1) ∧ false ∈ (strX s hi lo).take (n - 1) := by
    obtain ⟨b, r, hh, hk⟩ := headK_form (s / 4)
    refine key b r (bitsOf (s % 4).toNat 2 ++ digX hi lo) (by unfold strX; rw [hh]; simp) ?_
    cases b <;> simp at hk <;> omega
  exact ⟨hk.1, hk.2, by rw [List.length_take]; omega, by omega⟩
/-- in the middle the rounded pattern is the number's string, rounded -/
theorem rnd_mid (n : Nat) (s : Int) (hi lo : Nat) (rest : Bool) (hn : Wd n) (h : WordsX hi lo) (hm : midX n s (justX hi lo rest)) :
    rndX n s hi lo rest = rhe (2 ^ (210 - n)) (zX s hi lo rest) ∧ 1 ≤ rndX n s hi lo rest ∧ rndX n s hi lo rest ≤ 2 ^ (n - 1) - 1 := by
  have hw := wd_le hn
  obtain ⟨h1, h2, h3⟩ := hm
  obtain ⟨t1, t2, t3, t4⟩ := strX_mid n s hi lo hn h1 h2
  have hc : cutX n s hi lo rest = (numOf ((strX s hi lo).take (n - 1)), leftL ((strX s hi lo).drop (n - 1)) rest) := by
    unfold cutX
    rw [if_neg (by omega), if_neg (by rintro (h | h); omega; exact h3 h)]
  have p1 := numOf_pos _ t1
  have p2 := numOf_false _ t2
  rw [t3] at p2
  obtain ⟨z1, z2⟩ := zed_str s (manX hi lo) (digX hi lo) (digX_length hi lo) (digX_num h) (by omega) (by omega)
  have hcl := cut_left (strX s hi lo) (n - 1) rest t4 z1
  unfold rndX
  rw [hc]
  have hr := roundP_le (numOf ((strX s hi lo).take (n - 1))) (leftL ((strX s hi lo).drop (n - 1)) rest)
  refine ⟨?_, Nat.le_trans p1 hr.1, Nat.le_trans hr.2 (by omega)⟩
  show roundP _ _ = _
  rw [hcl, show 209 - (n - 1) = 210 - n by omega]
  unfold zX strX
  rw [z2]
theorem rnd_range (n : Nat) (s : Int) (hi lo : Nat) (rest : Bool) (hn : Wd n) (h : WordsX hi lo) : 1 ≤ rndX n s hi lo rest ∧ rndX n s hi lo rest ≤ 2 ^ (n - 1) - 1 := by
  obtain ⟨H, e1, e2, e3, _⟩ := wd_pows hn
  by_cases hm : midX n s (justX hi lo rest)
  · exact (rnd_mid n s hi lo rest hn h hm).2
  · unfold rndX cutX
    rw [e2]
    by_cases c1 : 4 * (n : Int) - 8 ≤ s
    · rw [if_pos c1]; simp only [roundP]; simp; omega
    · rw [if_neg c1]
      have c2 : s < 8 - 4 * (n : Int) ∨ (s = 8 - 4 * n ∧ justX hi lo rest = true) := by
        unfold midX at hm
        by_cases c3 : s < 8 - 4 * (n : Int)
        · exact .inl c3
        · refine .inr ?_
          by_cases c4 : s = 8 - 4 * n ∧ justX hi lo rest = true
          · exact c4
          · exact absurd ⟨by omega, by omega, c4⟩ hm
      rw [if_pos c2]; simp only [roundP]; simp; omega
theorem rnd_top (n : Nat) (s : Int) (hi lo : Nat) (rest : Bool) (c : 4 * (n : Int) - 8 ≤ s) : rndX n s hi lo rest = 2 ^ (n - 1) - 1 := by
  unfold rndX cutX; rw [if_pos c]; rfl
theorem rnd_low (n : Nat) (s : Int) (hi lo : Nat) (rest : Bool) (c0 : ¬ 4 * (n : Int) - 8 ≤ s) (c : s < 8 - 4 * (n : Int) ∨ (s = 8 - 4 * n ∧ justX hi lo rest = true)) : rndX n s hi lo rest = 1 := by
  unfold rndX cutX; rw [if_neg c0, if_pos c]; rfl
theorem mid_or (n : Nat) (s : Int) (j : Bool) : midX n s j ∨ 4 * (n : Int) - 8 ≤ s ∨ (¬ 4 * (n : Int) - 8 ≤ s ∧ (s < 8 - 4 * (n : Int) ∨ (s = 8 - 4 * n ∧ j = true))) := by
  unfold midX
  by_cases c1 : 4 * (n : Int) - 8 ≤ s
  · exact .inr (.inl c1)
  · by_cases c3 : s < 8 - 4 * (n : Int)
    · exact .inr (.inr ⟨c1, .inl c3⟩)
    · by_cases c4 : s = 8 - 4 * n ∧ j = true
      · exact .inr (.inr ⟨c1, .inr c4⟩)
      · exact .inl ⟨by omega, by omega, c4⟩
end Go.Proofs.YtheliihkkoohnabGreat

namespace Go.Proofs.YtheliihkkoohnabGreat
set_option maxRecDepth 100000
set_option linter.unusedVariables false
set_option linter.unusedSimpArgs false

/-! ### what the program cuts off a number's string, and what it finds behind (plain mathematics) -/
def cmpX (left : Nat) (rest : Bool) : Nat := if left = 2 ^ 127 then (if rest then 3 else 2) else if 2 ^ 127 < left then 3 else if left = 0 ∧ rest = false then 0 else 1
theorem left_num (l : List Bool) (j : Nat) (rest : Bool) (hj : 1 ≤ j) (hj2 : j ≤ 128) (hl : l.length = j + 1) :
    leftL l rest = cmpX (numOf l / 2 * 2 ^ (128 - j)) (decide (numOf l % 2 = 1) || rest) := by
  cases l with
  | nil => simp at hl
  | cons b t =>
    have ht : t.length = j := by simpa using hl
    have hV := numOf_lt t
    rw [ht] at hV
    rw [numOf_cons, ht]
    have hany := any_num t
    unfold leftL cmpX
    rw [show (b :: t).getD 0 false = b from rfl, show (b :: t).drop 1 = t from rfl, hany]
    have p1 : 2 ^ j = 2 * 2 ^ (j - 1) := by rw [← Nat.pow_succ']; congr 1; omega
    have p2 : 2 ^ (j - 1) * 2 ^ (128 - j) = 2 ^ 127 := by rw [← Nat.pow_add]; congr 1; omega
    have p3 : 0 < 2 ^ (128 - j) := Nat.pow_pos (by decide)
    rw [p1] at hV ⊢
    generalize numOf t = V at *
    generalize 2 ^ (j - 1) = A at *
    generalize 2 ^ (128 - j) = C at *
    have hh : (b.toNat * (2 * A) + V) / 2 = b.toNat * A + V / 2 := by cases b <;> simp <;> omega
    have hm : (b.toNat * (2 * A) + V) % 2 = V % 2 := by cases b <;> simp <;> omega
    rw [hh, hm, Nat.add_mul, Nat.mul_assoc b.toNat A C, ← p2]
    have hlt : V / 2 * C < A * C := Nat.mul_lt_mul_of_pos_right (by omega) p3
    have h0 : V / 2 * C = 0 ↔ V / 2 = 0 := by
      constructor
      · intro h; rcases Nat.mul_eq_zero.1 h with h | h <;> omega
      · intro h; rw [h]; simp
    generalize V / 2 * C = X at *
    generalize A * C = D at *
    cases b
    · simp only [Bool.toNat_false, Nat.zero_mul, Nat.zero_add]
      have n1 : ¬ X = D := by omega
      have n2 : ¬ D < X := by omega
      rw [if_neg n1, if_neg n2]
      by_cases hx : X = 0
      · have := h0.1 hx
        rcases Nat.mod_two_eq_zero_or_one V with hv | hv
        · have : V = 0 := by omega
          subst this
          cases rest <;> simp [hx]
        · have : V ≠ 0 := by omega
          cases rest <;> simp [hx, hv, this]
      · have : ¬ V / 2 = 0 := fun h => hx (h0.2 h)
        have : V ≠ 0 := by omega
        cases rest <;> simp [hx, this]
    · simp only [Bool.toNat_true, Nat.one_mul]
      by_cases hx : X = 0
      · have := h0.1 hx
        have n1 : D + X = D := by omega
        rw [if_pos n1]
        rcases Nat.mod_two_eq_zero_or_one V with hv | hv
        · have : V = 0 := by omega
          subst this
          cases rest <;> simp
        · have : V ≠ 0 := by omega
          cases rest <;> simp [hv, this]
      · have : ¬ V / 2 = 0 := fun h => hx (h0.2 h)
        have : V ≠ 0 := by omega
        have n1 : ¬ D + X = D := by omega
        have n2 : D < D + X := by omega
        rw [if_neg n1, if_pos n2]
        cases rest <;> simp [this]
theorem headK_num (k : Int) : numOf (headK k) = (if 0 ≤ k then 2 ^ (k.toNat + 2) - 2 else 1) ∧ (headK k).length = (if 0 ≤ k then k.toNat + 2 else (1 - k).toNat) := by
  unfold headK
  by_cases h : 0 ≤ k
  · rw [if_pos h, if_pos h, if_pos h, numOf_append, numOf_ones]
    have : 1 ≤ 2 ^ (k.toNat + 1) := Nat.one_le_two_pow
    rw [Nat.pow_succ 2 (k.toNat + 1)]
    refine ⟨?_, by simp⟩
    show (2 ^ (k.toNat + 1) - 1) * 2 ^ 1 + 0 = _
    omega
  · rw [if_neg h, if_neg h, if_neg h, numOf_append, show List.replicate (-k).toNat false = noughts (-k).toNat from rfl, numOf_noughts]
    refine ⟨by simp; rfl, ?_⟩
    simp [noughts]; omega
def tailL (s : Int) (hi lo : Nat) : List Bool := bitsOf (s % 4).toNat 2 ++ digX hi lo
theorem tailL_num (s : Int) {hi lo : Nat} (h : WordsX hi lo) : (tailL s hi lo).length = 129 ∧ numOf (tailL s hi lo) = tailN s (manX hi lo) := by
  unfold tailL
  refine ⟨by simp [bitsOf_length, digX_length], ?_⟩
  rw [numOf_append, digX_num h, digX_length, numOf_bits, Nat.mod_eq_of_lt (by omega)]
  rfl
theorem room_pows (room : Nat) (h : room ≤ 64) : 2 ^ (129 - room) = 2 * 2 ^ (128 - room) ∧ 2 ^ 128 = 2 ^ (128 - room) * 2 ^ room := by
  refine ⟨?_, ?_⟩
  · rw [← Nat.pow_succ']; congr 1; omega
  · rw [← Nat.pow_add]; congr 1; omega
/-- the first n - 1 bits of the string, and what is left, from the run and from what stands behind it but for the last bit -/
theorem cut_parts (n : Nat) (s : Int) (hi lo : Nat) (rest : Bool) (h : WordsX hi lo) (hr : (headK (s / 4)).length ≤ n - 1) (hn : n ≤ 64) (B room : Nat)
    (hB : B = tailN s (manX hi lo) / 2) (hroom : room = n - 1 - (headK (s / 4)).length) :
    numOf ((strX s hi lo).take (n - 1)) = numOf (headK (s / 4)) * 2 ^ room + B / 2 ^ (128 - room) ∧ B / 2 ^ (128 - room) < 2 ^ room ∧ leftL ((strX s hi lo).drop (n - 1)) rest = cmpX (B * 2 ^ room % 2 ^ 128) (decide (lo % 2 = 1) || rest) := by
  obtain ⟨t1, t2⟩ := tailL_num s h
  have e : strX s hi lo = headK (s / 4) ++ tailL s hi lo := by unfold strX tailL; simp
  have hr2 : room ≤ 64 := by omega
  have e1 : (strX s hi lo).take (n - 1) = headK (s / 4) ++ (tailL s hi lo).take room := by
    rw [e, List.take_append, List.take_of_length_le hr, ← hroom]
  have e2 : (strX s hi lo).drop (n - 1) = (tailL s hi lo).drop room := by
    rw [e, List.drop_append, List.drop_of_length_le hr, ← hroom, List.nil_append]
  have hc := cut_num (tailL s hi lo) room (by omega)
  have hlt := numOf_lt ((tailL s hi lo).drop room)
  rw [List.length_drop, t1] at hlt
  rw [t1, t2] at hc
  have hpar : tailN s (manX hi lo) % 2 = lo % 2 := by
    unfold tailN manX
    have := h.top
    rw [show (2 : Nat) ^ 127 = 2 * 85070591730234615865843651857942052864 by decide]
    omega
  obtain ⟨p1, p3⟩ := room_pows room hr2
  have hdl : ((tailL s hi lo).drop room).length = (128 - room) + 1 := by rw [List.length_drop, t1]; omega
  have htl : ((tailL s hi lo).take room).length = room := by rw [List.length_take, t1]; omega
  have hlf := left_num ((tailL s hi lo).drop room) (128 - room) rest (by omega) (by omega) hdl
  have htk := numOf_lt ((tailL s hi lo).take room)
  rw [htl] at htk
  rw [e1, e2, hlf, numOf_append, htl, p3, Nat.mul_mod_mul_right, show 128 - (128 - room) = room by omega]
  rw [p1] at hc hlt
  generalize numOf ((tailL s hi lo).drop room) = R at *
  generalize numOf ((tailL s hi lo).take room) = P at *
  generalize tailN s (manX hi lo) = T at *
  have hpos : 0 < 2 ^ (128 - room) := Nat.pow_pos (by decide)
  generalize 2 ^ (128 - room) = G at *
  have hB2 : B = P * G + R / 2 := by
    have : P * (2 * G) = 2 * (P * G) := by rw [Nat.mul_left_comm]
    omega
  have hRG : R / 2 < G := by omega
  have d1 : B / G = P := by rw [hB2, Nat.mul_comm, Nat.mul_add_div hpos, Nat.div_eq_of_lt hRG]; rfl
  have d2 : B % G = R / 2 := by rw [hB2, Nat.mul_comm, Nat.mul_add_mod, Nat.mod_eq_of_lt hRG]
  have hR2 : R % 2 = lo % 2 := by
    have : P * (2 * G) = 2 * (P * G) := by rw [Nat.mul_left_comm]
    omega
  rw [d1, d2, hR2]
  exact ⟨rfl, htk, rfl⟩
/-- within the ends the run has room -/
theorem head_room (n : Nat) (s : Int) (hn : Wd n) (h1 : s < 4 * n - 8) (h2 : 8 - 4 * (n : Int) ≤ s) : (headK (s / 4)).length ≤ n - 1 ∧ 2 ≤ (headK (s / 4)).length := by
  have hw := wd_le hn
  rw [(headK_num (s / 4)).2]
  split <;> omega
end Go.Proofs.YtheliihkkoohnabGreat

namespace Go.Proofs.YtheliihkkoohnabGreat
open Go.ChangeShapes Go.WideShapes Go.ChangeAt Go.RowKit
set_option linter.unusedVariables false
set_option linter.unusedSimpArgs false
set_option maxRecDepth 100000

/-! ### the document's round: which Exacts are sound; what is left -/
def exV (k : Int) (neg : Bool) (s : Int) (hi lo : Nat) (rest : Bool) : Value := .agg #[.int .i64 k, .bool neg, .int .i64 s, .int .u64 hi, .int .u64 lo, .bool rest]
def soundX (k : Int) (neg : Bool) (s : Int) (hi lo : Nat) (rest : Bool) : Bool :=
  if k = 0 ∨ k = 2 then decide (neg = false ∧ s = 0 ∧ hi = 0 ∧ lo = 0 ∧ rest = false) else decide (k = 1 ∧ 9223372036854775808 ≤ hi ∧ -1099511627776 ≤ s ∧ s ≤ 1099511627776)
end Go.Proofs.YtheliihkkoohnabGreat

namespace Go.Proofs.YtheliihkkoohnabGreat
open Go.ChangeShapes Go.WideShapes Go.ChangeAt Go.RowKit
set_option linter.unusedVariables false
set_option linter.unusedSimpArgs false
set_option maxRecDepth 100000

/-! ### the document's Cut -/
end Go.Proofs.YtheliihkkoohnabGreat

namespace Go.Proofs.YtheliihkkoohnabGreat
open Go.ChangeShapes Go.WideShapes Go.ChangeAt Go.RowKit
set_option linter.unusedVariables false
set_option linter.unusedSimpArgs false
set_option maxRecDepth 100000

/-! ### the document's Round -/
def patR (n : Nat) (neg : Bool) (R : Nat) : Nat := if neg then 2 ^ n - R else R
end Go.Proofs.YtheliihkkoohnabGreat

namespace Go.Proofs.YtheliihkkoohnabGreat
open Go.ChangeShapes Go.WideShapes Go.ChangeAt Go.RowKit
set_option linter.unusedVariables false
set_option linter.unusedSimpArgs false
set_option maxRecDepth 100000

/-! ### the document's Of -/
end Go.Proofs.YtheliihkkoohnabGreat

namespace Go.Proofs.YtheliihkkoohnabGreat
open Go.ChangeShapes Go.WideShapes Go.ChangeAt Go.RowKit
set_option linter.unusedVariables false
set_option linter.unusedSimpArgs false
set_option maxRecDepth 100000

/-! ### the document's order of exact numbers -/
end Go.Proofs.YtheliihkkoohnabGreat

namespace Go.Proofs.YtheliihkkoohnabGreat
open Go.ChangeShapes Go.WideShapes Go.ChangeAt Go.RowKit
set_option linter.unusedVariables false
set_option linter.unusedSimpArgs false
set_option maxRecDepth 100000

/-! ### two numbers of one sign, compared -/
end Go.Proofs.YtheliihkkoohnabGreat

namespace Go.Proofs.YtheliihkkoohnabGreat
open Go.ChangeShapes Go.WideShapes Go.ChangeAt Go.RowKit
set_option linter.unusedVariables false
set_option linter.unusedSimpArgs false
set_option maxRecDepth 100000

/-! ### a scale within the bound -/
def heldX (s : Int) : Int := if s < -1099511627776 then -1099511627776 else if s > 1099511627776 then 1099511627776 else s
end Go.Proofs.YtheliihkkoohnabGreat

namespace Go.Proofs.YtheliihkkoohnabGreat
set_option maxRecDepth 100000

/-! ### numbers as rows of digits of 24 bits, the lowest first -/
/-- what stands from digit k on -/
def top (n : Nat) : Nat → Nat
  | 0 => n
  | k + 1 => top n k / 16777216
theorem top_zero (n : Nat) : top n 0 = n := rfl
theorem top_succ (n k : Nat) : top n (k + 1) = top n k / 16777216 := rfl
theorem top_succ' (n k : Nat) : top n (k + 1) = top (n / 16777216) k := by
  induction k with
  | zero => rfl
  | succ k ih => rw [top_succ, ih, top_succ]
theorem top_eq (n k : Nat) : top n k = n / 16777216 ^ k := by
  induction k with
  | zero => simp [top]
  | succ k ih => rw [top_succ, ih, Nat.div_div_eq_div_mul, Nat.pow_succ]
theorem top_add (n j k : Nat) : top n (j + k) = top (top n j) k := by
  induction k with
  | zero => rfl
  | succ k ih => rw [← Nat.add_assoc, top_succ, ih, top_succ]
theorem top_zero_left (k : Nat) : top 0 k = 0 := by
  induction k with
  | zero => rfl
  | succ k ih => rw [top_succ, ih]
/-- the lowest k digits -/
def low (n k : Nat) : List Nat := (List.range k).map fun i => top n i % 16777216
theorem low_length (n k : Nat) : (low n k).length = k := by simp [low]
theorem low_zero (n : Nat) : low n 0 = [] := rfl
theorem low_snoc (n k : Nat) : low n (k + 1) = low n k ++ [top n k % 16777216] := by simp [low, List.range_succ]
theorem low_cons (n k : Nat) : low n (k + 1) = n % 16777216 :: low (n / 16777216) k := by
  simp only [low, List.range_succ_eq_map, List.map_cons, List.map_map, top_zero]
  congr 1
  apply List.map_congr_left
  intro i _
  simp [top_succ']
theorem low_get (n k i : Nat) (h : i < k) : (low n k).getD i 0 = top n i % 16777216 := by
  simp [low, h]

def dig (n : Nat) : List Nat := if h : n = 0 then [] else n % 16777216 :: dig (n / 16777216)
theorem dig_zero : dig 0 = [] := by unfold dig; simp
theorem dig_pos {n : Nat} (h : n ≠ 0) : dig n = n % 16777216 :: dig (n / 16777216) := by
  conv => lhs; unfold dig
  simp [h]
/-- how many digits -/
def dlen (n : Nat) : Nat := (dig n).length
theorem dlen_zero : dlen 0 = 0 := by simp [dlen, dig_zero]
theorem dlen_pos {n : Nat} (h : n ≠ 0) : dlen n = dlen (n / 16777216) + 1 := by simp [dlen, dig_pos h]
theorem dlen_eq_zero {n : Nat} : dlen n = 0 ↔ n = 0 := by
  constructor
  · intro h; by_cases h0 : n = 0
    · exact h0
    · rw [dlen_pos h0] at h; omega
  · rintro rfl; exact dlen_zero
theorem top_pos_iff (n k : Nat) : 0 < top n k ↔ k < dlen n := by
  induction k generalizing n with
  | zero =>
    rw [top_zero]
    by_cases h : n = 0
    · subst h; simp [dlen_zero]
    · rw [dlen_pos h]; omega
  | succ k ih =>
    rw [top_succ', ih]
    by_cases h : n = 0
    · subst h; simp [dlen_zero]
    · rw [dlen_pos h]; omega
theorem top_eq_zero {n k : Nat} (h : dlen n ≤ k) : top n k = 0 := by
  by_cases hc : 0 < top n k
  · have := (top_pos_iff n k).1 hc; omega
  · omega
theorem low_dlen (n : Nat) : low n (dlen n) = dig n := by
  induction n using Nat.strongRecOn with
  | _ n ih =>
    by_cases h : n = 0
    · subst h; simp [dlen_zero, low_zero, dig_zero]
    · rw [dlen_pos h, low_cons, ih _ (by omega), ← dig_pos h]
theorem low_more (n k : Nat) : low n (dlen n + k) = dig n ++ List.replicate k 0 := by
  induction k with
  | zero => simp [low_dlen]
  | succ k ih => rw [← Nat.add_assoc, low_snoc, ih, top_eq_zero (by omega), List.append_assoc, List.replicate_succ']
theorem low_ge {n m : Nat} (h : dlen n ≤ m) : low n m = dig n ++ List.replicate (m - dlen n) 0 := by
  obtain ⟨k, rfl⟩ := Nat.exists_eq_add_of_le h
  rw [low_more]; congr 2; omega
theorem dig_get (n k : Nat) : (dig n).getD k 0 = top n k % 16777216 := by
  by_cases h : k < dlen n
  · rw [← low_dlen, low_get _ _ _ h]
  · rw [top_eq_zero (by omega), List.getD_eq_getElem?_getD, List.getElem?_eq_none (by unfold dlen at h; omega)]; rfl
theorem dig_length (n : Nat) : (dig n).length = dlen n := rfl
theorem dlen_mono {a b : Nat} (h : a ≤ b) : dlen a ≤ dlen b := by
  by_cases hc : dlen a ≤ dlen b
  · exact hc
  · have h1 : 0 < top a (dlen b) := (top_pos_iff a _).2 (by omega)
    have h2 : top b (dlen b) = 0 := top_eq_zero (Nat.le_refl _)
    rw [top_eq] at h1 h2
    have := Nat.div_le_div_right (c := 16777216 ^ dlen b) h
    omega
theorem dlen_le_of_lt {n k : Nat} (h : n < 16777216 ^ k) : dlen n ≤ k := by
  by_cases hc : dlen n ≤ k
  · exact hc
  · have h1 : 0 < top n k := (top_pos_iff n _).2 (by omega)
    rw [top_eq, Nat.div_eq_of_lt h] at h1; omega
theorem lt_of_dlen_le {n k : Nat} (h : dlen n ≤ k) : n < 16777216 ^ k := by
  have h1 := top_eq_zero h
  rw [top_eq] at h1
  exact (Nat.div_eq_zero_iff.1 h1).resolve_left (Nat.ne_of_gt (Nat.pow_pos (by decide)))
/-- the last digit is not nought -/
theorem dig_last {n : Nat} (h : n ≠ 0) : top n (dlen n - 1) % 16777216 ≠ 0 ∧ top n (dlen n - 1) = top n (dlen n - 1) % 16777216 := by
  have h1 : 0 < dlen n := by rw [dlen_pos h]; omega
  have h2 : 0 < top n (dlen n - 1) := (top_pos_iff _ _).2 (by omega)
  have h3 : top n (dlen n - 1 + 1) = 0 := top_eq_zero (by omega)
  rw [top_succ] at h3
  omega

/-- the number that a row of digits is -/
def val : List Nat → Nat
  | [] => 0
  | d :: l => d + 16777216 * val l
theorem val_cons (d : Nat) (l : List Nat) : val (d :: l) = d + 16777216 * val l := rfl
theorem val_append (l m : List Nat) : val (l ++ m) = val l + 16777216 ^ l.length * val m := by
  induction l with
  | nil => simp [val]
  | cons d l ih => simp only [List.cons_append, val_cons, ih, List.length_cons, Nat.pow_succ, Nat.mul_add]; rw [Nat.mul_comm (16777216 ^ l.length) 16777216, Nat.mul_assoc]; omega
theorem val_low (l : List Nat) (h : ∀ d ∈ l, d < 16777216) : low (val l) l.length = l := by
  induction l with
  | nil => rfl
  | cons d l ih =>
    have hd := h d (by simp)
    rw [List.length_cons, low_cons]
    have e1 : val (d :: l) % 16777216 = d := by rw [val_cons]; omega
    have e2 : val (d :: l) / 16777216 = val l := by rw [val_cons]; omega
    rw [e1, e2, ih (fun x hx => h x (by simp [hx]))]
theorem val_dig (n : Nat) : val (dig n) = n := by
  induction n using Nat.strongRecOn with
  | _ n ih =>
    by_cases h : n = 0
    · subst h; simp [dig_zero, val]
    · rw [dig_pos h, val_cons, ih _ (by omega)]; omega
theorem val_lt (l : List Nat) (h : ∀ d ∈ l, d < 16777216) : val l < 16777216 ^ l.length := by
  induction l with
  | nil => simp [val]
  | cons d l ih =>
    have hd := h d (by simp)
    have := ih (fun x hx => h x (by simp [hx]))
    rw [val_cons, List.length_cons, Nat.pow_succ]
    omega
theorem dig_drop (n q : Nat) : (dig n).drop q = dig (top n q) := by
  induction q generalizing n with
  | zero => rfl
  | succ q ih =>
    by_cases h : n = 0
    · subst h; simp [dig_zero, top_zero_left]
    · rw [dig_pos h, List.drop_succ_cons, ih, top_succ']
theorem dig_shift {n : Nat} (h : n ≠ 0) (q : Nat) : dig (n * 16777216 ^ q) = List.replicate q 0 ++ dig n := by
  induction q with
  | zero => simp
  | succ q ih =>
    have hp : 0 < 16777216 ^ q := Nat.pow_pos (by decide)
    have h1 : n * 16777216 ^ (q + 1) ≠ 0 := Nat.mul_ne_zero h (Nat.ne_of_gt (Nat.pow_pos (by decide)))
    have e : n * 16777216 ^ (q + 1) = (n * 16777216 ^ q) * 16777216 := by rw [Nat.pow_succ, Nat.mul_assoc]
    rw [dig_pos h1, e, Nat.mul_mod_left, Nat.mul_div_cancel _ (by decide), ih, List.replicate_succ, List.cons_append]
theorem dlen_top (n q : Nat) : dlen (top n q) = dlen n - q := by
  have := congrArg List.length (dig_drop n q)
  rw [List.length_drop] at this; unfold dlen; omega
/-- comparing: the first digit from above that differs -/
theorem cmp_len {a b : Nat} (h : dlen a < dlen b) : a < b := by
  by_cases hc : a < b
  · exact hc
  · have := dlen_mono (a := b) (b := a) (by omega); omega
theorem cmp_top {a b k : Nat} (h : top a k < top b k) : a < b := by
  by_cases hc : a < b
  · exact hc
  · rw [top_eq, top_eq] at h
    have := Nat.div_le_div_right (a := b) (b := a) (c := 16777216 ^ k) (by omega)
    omega
end Go.Proofs.YtheliihkkoohnabGreat

namespace Go.Proofs.YtheliihkkoohnabGreat
open Go.ChangeShapes Go.WideShapes Go.ChangeAt Go.RowKit
set_option linter.unusedVariables false
set_option maxRecDepth 100000

/-! ### rows of ints that are read -/
def enc (d : Nat) : Value := .int .i64 (d : Int)
/-- b is a block of ints -/
def IntB (w : World) (b : Nat) : Prop := ∃ cs, w.heap[b]? = some (.cells cs 3 (0, 0))
theorem IntB.lt {w : World} {b : Nat} (h : IntB w b) : b < w.heap.size := by
  obtain ⟨cs, h⟩ := h; exact (Array.getElem?_eq_some_iff.1 h).1
theorem IntB.same {w w' : World} {b : Nat} (h : IntB w b) (e : w'.heap[b]? = w.heap[b]?) : IntB w' b := by
  obtain ⟨cs, h⟩ := h; exact ⟨cs, e.trans h⟩
theorem IntB.set {w : World} {b g j : Nat} {u : Value} (h : IntB w b) : IntB (w.setCell ⟨g, j, none⟩ u) b := by
  obtain ⟨cs, h⟩ := h
  by_cases e : b = g
  · subst e; exact ⟨_, heap_setCell_same w b j cs _ u h⟩
  · exact ⟨cs, (heap_setCell_other w ⟨g, j, none⟩ b u e).trans h⟩
/-- v is a slice of ints that reads as l in w -/
def Row (w : World) (v : Value) (l : List Nat) : Prop :=
  ∃ ao c, v = .slice ao l.length c ∧ c ≤ 9223372036854775807 ∧ l.length ≤ c ∧
    ((ao = none ∧ l = [] ∧ c = 0) ∨ ∃ b off, ao = some ⟨b, off, none⟩ ∧ IntB w b ∧ ∀ j, j < l.length → w.cell? ⟨b, off + j, none⟩ = some (.int .i64 (l.getD j 0 : Nat)))
theorem Row.below {w w' : World} {v : Value} {l : List Nat} (h : Row w v l) (hb : Below w.heap.size w w') : Row w' v l := by
  obtain ⟨ao, c, rfl, hc, hl, h⟩ := h
  refine ⟨ao, c, rfl, hc, hl, ?_⟩
  rcases h with h | ⟨b, off, rfl, hlt, h⟩
  · exact .inl h
  · exact .inr ⟨b, off, rfl, hlt.same (hb.block b hlt.lt), fun j hj => (hb.cell (p := ⟨b, off + j, none⟩) hlt.lt).trans (h j hj)⟩
theorem row_nil (w : World) : Row w (.slice none 0 0) [] := ⟨none, 0, rfl, by decide, by decide, .inl ⟨rfl, rfl, rfl⟩⟩
theorem row_own {w : World} {base n : Nat} {v : Value} {l : List Nat} (h : w.ownsRow base 3 1 v n (l.map enc)) : Row w v l := by
  obtain ⟨h1, h2⟩ := h
  rcases h2 with ⟨rfl, rfl⟩ | ⟨g, cap, cur, rfl, _, hg, hn, hcap, hsz, ht⟩
  · have : l = [] := by simpa using h1
    subst this; exact row_nil w
  · have hl : l.length = n := by simpa using h1
    subst hl
    unfold maxLen at hcap
    refine ⟨_, cap, rfl, by omega, hn, .inr ⟨g, 0, rfl, ?_, ?_⟩⟩
    · exact ⟨_, hg⟩
    · intro j hj
      have hc : cur[j]? = some (.int .i64 (l.getD j 0 : Nat)) := by
        have e1 : (cur.toList.take (l.length * 1))[j]? = (l.map enc)[j]? := by rw [ht]
        rw [List.getElem?_take_of_lt (by omega)] at e1
        simpa [hj, enc] using e1
      simp [World.cell?, hg, hc]
/-- how a row goes into a walk -/
theorem Row.out {w : World} {v : Value} {l : List Nat} (h : Row w v l) : ∃ ao c, v = .slice ao l.length c ∧ c ≤ 9223372036854775807 ∧ l.length ≤ c ∧
    (l.length = 0 ∨ ∃ b off, ao = some ⟨b, off, none⟩ ∧ ∀ j, j < l.length → w.cell? ⟨b, off + j, none⟩ = some (.int .i64 (l.getD j 0 : Nat))) := by
  obtain ⟨ao, c, rfl, hc, hl, h⟩ := h
  refine ⟨ao, c, rfl, hc, hl, ?_⟩
  rcases h with ⟨_, rfl, _⟩ | ⟨b, off, rfl, _, h⟩
  · exact .inl rfl
  · exact .inr ⟨b, off, rfl, h⟩

theorem infoInt : (Tryz.prog.info? 3).map (fun i => (i.zero, i.size, i.bytes)) = some (some (.int .i64 0), 1, 8) := by kernel_rfl

theorem digit_any (v : Value) (l : List Nat) (i : Nat) (hi : i < 4611686018427387904) (w : World) (hr : Row w v l) :
    Calls Tryz.prog 49 #[v, .int .i64 i] w fun e w' => e = .returned (.int .i64 (l.getD i 0 : Nat)) ∧ w' = w := by
  obtain ⟨ao, c, rfl, hc, hl, h⟩ := hr.out
  clear hr
  refine cps fun Q hQ => ?_
  by_cases hlt : i < l.length
  · rcases h with h | ⟨b, off, rfl, h⟩
    · omega
    have hcell := h i hlt
    generalize l.getD i 0 = d at *
    generalize l.length = n at *
    go_enter Tryz.func49, Tryz.ntmps49
    go_wp2
    exact hQ.out _ _ ⟨rfl, rfl⟩
  · have hz : l.getD i 0 = 0 := by rw [List.getD_eq_getElem?_getD, List.getElem?_eq_none (by omega)]; rfl
    rw [hz] at hQ
    generalize l.length = n at *
    go_enter Tryz.func49, Tryz.ntmps49
    go_wp2
    exact hQ.out _ _ ⟨rfl, rfl⟩

theorem digit_dig (v : Value) (n i d : Nat) (hi : i < 4611686018427387904) (w : World) (hr : Row w v (dig n)) (hd : d = top n i % 16777216) :
    Calls Tryz.prog 49 #[v, .int .i64 i] w fun e w' => e = .returned (.int .i64 d) ∧ w' = w := by
  rw [hd, ← dig_get]; exact digit_any v _ i hi w hr
/-- a number's slice, as the walk wants it -/
theorem Row.num {w : World} {v : Value} {n : Nat} (h : Row w v (dig n)) : ∃ ao c, v = .slice ao (dlen n) c ∧ c ≤ 9223372036854775807 ∧ dlen n ≤ c := by
  obtain ⟨ao, c, rfl, hc, hl, _⟩ := h
  exact ⟨ao, c, rfl, hc, hl⟩

set_option maxHeartbeats 1000000 in
theorem of_any (x : Nat) (hx : x < 2 ^ 64) (w : World) :
    Calls Tryz.prog 24 #[.int .u64 x] w fun e w' => ∃ v, e = .returned v ∧ Row w' v (dig x) ∧ Below w.heap.size w w' := by
  refine cps fun Q hQ => ?_
  have hx : x ≤ 18446744073709551615 := by omega
  obtain ⟨i0, hi, hz0, hz1, hz2⟩ := info_parts infoInt
  have hd3 : dlen x ≤ 3 := dlen_le_of_lt (by omega)
  go_enter Tryz.func24, Tryz.ntmps24
  go_wp2
  go_loopw [0, 3] (fun a v wr => ∃ k V : Nat, k ≤ dlen x ∧ V = top x k ∧ V ≤ 18446744073709551615 ∧ a = .int .u64 V ∧ wr.ownsRow w.heap.size 3 1 v k ((low x k).map enc) ∧ Below w.heap.size w wr) (fun a _ _ => (intOf a).toNat)
  case atStart => exact ⟨0, x, Nat.zero_le _, rfl, hx, rfl, World.ownsRow_nil _ _ _ _, Below.refl _ _⟩
  case round =>
    obtain ⟨k, V, hk, hV, hb, rfl, hown, hbel⟩ := hrel
    have hp := top_pos_iff x k
    have HV : Hid (V = top x k) := hV
    rw [← hV] at hp
    clear hV
    by_cases h0 : 0 < V
    · have hk1 := hp.1 h0
      have HK : Hid (dlen x ≤ 3) := hd3
      have hsz := hbel.size
      clear hp hd3
      go_wp2_with (at_builtin; go_must (refine append1 rfl _ _ _ rfl w.heap.size 3 i0 (.int .i64 0) 8 Tryz.underlying34 hi hz0 hz1 hz2 rfl _ _ _ hown rfl rfl rfl (by have := HK.out; omega) (by decide) hsz ?_); intro v' w1 hown' hbel' _ _)
      go_roundw
      case rel => 
        refine ⟨k + 1, V / 16777216, by omega, ?_, by omega, by go_num, ?_, hbel.trans hbel'⟩
        · rw [HV.out]; rfl
        · rw [low_snoc, ← HV.out, List.map_append]; exact hown'
      case measure => simp [intOf]; omega
    · have hk1 : k = dlen x := by have := hp.2; omega
      subst hk1
      rw [low_dlen] at hown
      go_wp2
      exact hQ.out _ _ ⟨_, rfl, row_own hown, hbel⟩

/-- 'l[:n]' of a row -/
theorem Row.take {w : World} {ao : Option Addr} {c k : Nat} {l : List Nat} (h : Row w (.slice ao k c) l) (n : Nat) (hn : n ≤ l.length) : Row w (.slice ao n c) (l.take n) := by
  obtain ⟨ao', c', he, hc, hl, h⟩ := h
  injection he with e1 e2 e3
  subst e1 e2 e3
  have e : (l.take n).length = n := by rw [List.length_take]; omega
  refine ⟨ao, c, by rw [e], hc, by omega, ?_⟩
  rcases h with ⟨h1, h2, h3⟩ | ⟨b, off, h1, h2, h3⟩
  · exact .inl ⟨h1, by rw [h2]; simp, h3⟩
  · refine .inr ⟨b, off, h1, h2, fun j hj => ?_⟩
    rw [e] at hj
    rw [h3 j (by omega), List.getD_eq_getElem?_getD, List.getD_eq_getElem?_getD, List.getElem?_take_of_lt hj]

set_option maxHeartbeats 1000000 in
theorem cut_own (v : Value) (l : List Nat) (D z : Nat) (hD : l = dig D ++ List.replicate z 0) (w : World) (hr : Row w v l) :
    Calls Tryz.prog 63 #[v] w fun e w' => ∃ v', e = .returned v' ∧ Row w v' (dig D) ∧ w' = w ∧ v'.ownBlock = v.ownBlock := by
  have HT : Hid (l.take (dlen D) = dig D) := by rw [hD]; exact List.take_left' rfl
  have hlen : l.length = dlen D + z := by rw [hD]; simp [dlen]
  have hget : ∀ j, j < l.length → l.getD j 0 = (dig D).getD j 0 := by
    intro j hj
    rw [hD, List.getD_eq_getElem?_getD, List.getElem?_append]
    split
    · rw [List.getD_eq_getElem?_getD]
    · rename_i h
      rw [List.getElem?_replicate, List.getD_eq_getElem?_getD, List.getElem?_eq_none (by omega)]
      split <;> rfl
  have HR : Hid (Row w v l) := hr
  obtain ⟨ao, c, rfl, hc, hl, h⟩ := hr.out
  clear hr
  refine cps fun Q hQ => ?_
  have HG : Hid (∀ j, j < l.length → l.getD j 0 = (dig D).getD j 0) := hget
  clear hget hD
  have hle : dlen D ≤ l.length := by omega
  have HL : Hid (l.length = dlen D + z) := hlen
  clear hlen
  generalize hdD : dlen D = m at *
  have HM : Hid (dlen D = m) := hdD
  clear hdD
  go_enter Tryz.func63, Tryz.ntmps63
  go_wp2
  go_loop [3] (fun a => ∃ n : Nat, m ≤ n ∧ n ≤ l.length ∧ a = .int .i64 n) (fun a => (intOf a).toNat)
  case atStart => exact ⟨l.length, by omega, by omega, rfl⟩
  case round =>
    obtain ⟨n, hn1, hn2, rfl⟩ := hrel
    by_cases h0 : 0 < n
    · rcases h with h | ⟨b, off, rfl, h⟩
      · omega
      have hcell := h (n - 1) (by omega)
      have hg := HG.out (n - 1) (by omega)
      rw [hg] at hcell
      clear hg
      by_cases hlt : m < n
      · have hz : (dig D).getD (n - 1) 0 = 0 := by
          rw [dig_get, top_eq_zero (by have := HM.out; omega)]
        rw [hz] at hcell
        clear hz h
        go_wp2
        go_round
        case rel => exact ⟨n - 1, by omega, by omega, by go_num⟩
        case measure => simp [intOf]; omega
      · have hnm : n = m := by omega
        subst hnm
        have hne : (dig D).getD (n - 1) 0 ≠ 0 := by
          rw [dig_get]
          have := HM.out
          have hD0 : D ≠ 0 := by intro h; rw [h, dlen_zero] at this; omega
          have := (dig_last hD0).1
          rw [HM.out] at this
          exact this
        generalize (dig D).getD (n - 1) 0 = d at *
        clear h
        have hne' : 0 < d := by omega
        go_wp2
        have HT' := HR.out.take n (by omega)
        rw [HT.out] at HT'
        exact hQ.out _ _ ⟨_, rfl, HT', rfl, rfl⟩
    · have hn0 : n = 0 := by omega
      subst hn0
      go_wp2
      have HT' := HR.out.take 0 (by omega)
      have e0 : 0 = m := by omega
      rw [e0, HT.out] at HT'
      rw [e0]
      exact hQ.out _ _ ⟨_, rfl, HT', rfl, by cases ao <;> rfl⟩

theorem cut_any (v : Value) (l : List Nat) (D z : Nat) (hD : l = dig D ++ List.replicate z 0) (w : World) (hr : Row w v l) :
    Calls Tryz.prog 63 #[v] w fun e w' => ∃ v', e = .returned v' ∧ Row w v' (dig D) ∧ w' = w :=
  (cut_own v l D z hD w hr).mono fun _ _ ⟨v', h1, h2, h3, _⟩ => ⟨v', h1, h2, h3⟩

set_option maxHeartbeats 2000000 in
theorem nadd_any (va vb : Value) (a b : Nat) (hS : dlen (a + b) ≤ 1099511627776) (w : World) (ha : Row w va (dig a)) (hb : Row w vb (dig b)) :
    Calls Tryz.prog 30 #[va, vb] w fun e w' => ∃ v, e = .returned v ∧ Row w' v (dig (a + b)) ∧ Below w.heap.size w w' := by
  refine cps fun Q hQ => ?_
  have hla : dlen a ≤ dlen (a + b) := dlen_mono (by omega)
  have hlb : dlen b ≤ dlen (a + b) := dlen_mono (by omega)
  have HA : Hid (Row w va (dig a)) := ha
  have HB : Hid (Row w vb (dig b)) := hb
  obtain ⟨aa, ca, rfl, h1, h2⟩ := ha.num
  obtain ⟨ab, cb, rfl, h3, h4⟩ := hb.num
  clear ha hb
  obtain ⟨i0, hi, hz0, hz1, hz2⟩ := info_parts infoInt
  have HP : Hid (∀ n k, 0 < top n k ↔ k < dlen n) := top_pos_iff
  generalize hs : a + b = s at *
  have HS : Hid (a + b = s) := hs
  clear hs
  go_enter Tryz.func30, Tryz.ntmps30
  go_wp2
  go_loopw [5, 6, 7] (fun o cv iv wr => ∃ k A B C : Nat, k ≤ dlen s ∧ C ≤ 1 ∧ Hid (A = top a k) ∧ Hid (B = top b k) ∧ Hid (A + B + C = top s k) ∧ iv = .int .i64 k ∧ cv = .int .i64 C ∧ wr.ownsRow w.heap.size 3 1 o k ((low s k).map enc) ∧ Below w.heap.size w wr) (fun _ _ i _ => dlen s - (intOf i).toNat)
  case atStart => exact ⟨0, a, b, 0, Nat.zero_le _, by decide, rfl, rfl, HS.out, rfl, rfl, World.ownsRow_nil _ _ _ _, Below.refl _ _⟩
  case round =>
    obtain ⟨k, A, B, C, hk, hC, hA, hB, hT, rfl, rfl, hown, hbel⟩ := hrel
    have pa := HP.out a k
    have pb := HP.out b k
    have ps := HP.out s k
    rw [← hA.out] at pa
    rw [← hB.out] at pb
    rw [← hT.out] at ps
    have hsz := hbel.size
    by_cases hc : k < dlen a ∨ k < dlen b ∨ 0 < C
    · have hks : k < dlen s := ps.1 (by omega)
      have hra := HA.out.below hbel
      have hrb := HB.out.below hbel
      obtain ⟨da, hda⟩ : ∃ d, d = A % 16777216 := ⟨_, rfl⟩
      obtain ⟨db, hdb⟩ : ∃ d, d = B % 16777216 := ⟨_, rfl⟩
      have bda : da ≤ 16777215 := by omega
      have bdb : db ≤ 16777215 := by omega
      have Hda : Hid (da = A % 16777216) := hda
      have Hdb : Hid (db = B % 16777216) := hdb
      have h3 : k < dlen a ∨ (¬ k < dlen a ∧ k < dlen b) ∨ (¬ k < dlen a ∧ ¬ k < dlen b ∧ 0 < C) := by omega
      have HRA : Hid (Row wr _ _) := hra
      have HRB : Hid (Row wr _ _) := hrb
      clear hc pa pb ps hda hdb hra hrb
      rcases h3 with h3 | ⟨h3, h4⟩ | ⟨h3, h4, h5⟩
      all_goals
        go_wp2_with (first
          | (go_at_call_of 49 aa; refine (digit_dig _ a k da (by omega) _ HRA.out (by rw [Hda.out, hA.out])).mono ?_; rintro e w' ⟨rfl, rfl⟩)
          | (go_at_call_of 49 ab; refine (digit_dig _ b k db (by omega) _ HRB.out (by rw [Hdb.out, hB.out])).mono ?_; rintro e w' ⟨rfl, rfl⟩)
          | (at_builtin; refine append1 rfl _ _ _ rfl w.heap.size 3 i0 (.int .i64 0) 8 Tryz.underlying34 hi hz0 hz1 hz2 rfl _ _ _ hown rfl rfl rfl (by omega) (by decide) hsz ?_; intro v' w1 hown' hbel' _ _))
        go_roundw
        case rel =>
          refine ⟨k + 1, A / 16777216, B / 16777216, (da + db + C) / 16777216, by omega, by omega, ?_, ?_, ?_, by go_num, by go_num, ?_, hbel.trans hbel'⟩
          · show _ = _; rw [hA.out]; rfl
          · show _ = _; rw [hB.out]; rfl
          · show _ = _; rw [top_succ, ← hT.out]; have := Hda.out; have := Hdb.out; omega
          · rw [low_snoc, ← hT.out, List.map_append]
            have e : (((da : Int) + db + C) % 16777216) = (((A + B + C) % 16777216 : Nat) : Int) := by have := Hda.out; have := Hdb.out; omega
            rw [e] at hown'
            exact hown'
        case measure => simp [intOf]; omega
    · have hks : ¬ k < dlen s := fun h => by have := ps.2 h; omega
      have hk1 : k = dlen s := by omega
      have e : low s k = dig s := by rw [hk1, low_dlen]
      rw [e] at hown
      have h3 : ¬ k < dlen a := by omega
      have h4 : ¬ k < dlen b := by omega
      have h5 : ¬ 0 < C := by omega
      clear hk1 e pa pb ps hc
      go_wp2
      exact hQ.out _ _ ⟨_, rfl, row_own hown, hbel⟩
end Go.Proofs.YtheliihkkoohnabGreat

namespace Go.Proofs.YtheliihkkoohnabGreat
open Go.ChangeShapes Go.WideShapes Go.ChangeAt Go.RowKit
set_option linter.unusedVariables false
set_option maxRecDepth 100000

/-- how a number's slice goes into a walk that reads its elements -/
theorem Row.reads {w : World} {v : Value} {n : Nat} (h : Row w v (dig n)) : ∃ ao c, v = .slice ao (dlen n) c ∧ c ≤ 9223372036854775807 ∧ dlen n ≤ c ∧
    (dlen n = 0 ∨ ∃ b off, ao = some ⟨b, off, none⟩ ∧ b < w.heap.size ∧ ∀ j, j < dlen n → w.cell? ⟨b, off + j, none⟩ = some (.int .i64 (top n j % 16777216 : Nat))) := by
  obtain ⟨ao, c, rfl, hc, hl, h⟩ := h
  refine ⟨ao, c, rfl, hc, hl, ?_⟩
  rcases h with ⟨_, h, _⟩ | ⟨b, off, rfl, hb, h⟩
  · exact .inl (by unfold dlen; rw [h]; rfl)
  · exact .inr ⟨b, off, rfl, hb.lt, fun j hj => by rw [h j hj, dig_get]⟩
theorem owns_drewN {w : World} {base n sz : Nat} {e : TypeId} {v : Value} {xs : List Value} (h : w.ownsRow base e sz v n xs) (q : Nat) : (w.drewN q).ownsRow base e sz v n xs := h

set_option maxHeartbeats 2000000 in
theorem nsub_any (va vb : Value) (a b : Nat) (hba : b ≤ a) (hS : dlen a ≤ 1099511627776) (w : World) (ha : Row w va (dig a)) (hb : Row w vb (dig b)) :
    Calls Tryz.prog 44 #[va, vb] w fun e w' => ∃ v, e = .returned v ∧ Row w' v (dig (a - b)) ∧ Below w.heap.size w w' := by
  refine cps fun Q hQ => ?_
  have hla : dlen (a - b) ≤ dlen a := dlen_mono (by omega)
  have HA : Hid (Row w va (dig a)) := ha
  have HB : Hid (Row w vb (dig b)) := hb
  obtain ⟨aa, ca, rfl, h1, h2, hr⟩ := ha.reads
  obtain ⟨ab, cb, rfl, h3, h4⟩ := hb.num
  clear ha hb
  obtain ⟨i0, hi, hz0, hz1, hz2⟩ := info_parts infoInt
  have HP : Hid (∀ n k, 0 < top n k ↔ k < dlen n) := top_pos_iff
  have HC : Hid (Row w (.slice aa (dlen a) ca) (dig a)) := HA
  generalize hs : a - b = s at *
  have HS : Hid (a = b + 0 + s) := show _ = _ by omega
  clear hs
  go_enter Tryz.func44, Tryz.ntmps44
  go_wp2
  go_loopw [5, 6, 7] (fun o cv iv wr => ∃ k A B C : Nat, k ≤ dlen a ∧ C ≤ 1 ∧ Hid (A = top a k) ∧ Hid (B = top b k) ∧ Hid (A = B + C + top s k) ∧ iv = .int .i64 k ∧ cv = .int .i64 C ∧ wr.ownsRow w.heap.size 3 1 o k ((low s k).map enc) ∧ Below w.heap.size w wr) (fun _ _ i _ => dlen a - (intOf i).toNat)
  case atStart => exact ⟨0, a, b, 0, Nat.zero_le _, by decide, rfl, rfl, HS.out, rfl, rfl, World.ownsRow_nil _ _ _ _, Below.refl _ _⟩
  case round =>
    obtain ⟨k, A, B, C, hk, hC, hA, hB, hT, rfl, rfl, hown, hbel⟩ := hrel
    have hsz := hbel.size
    by_cases hc : k < dlen a
    · have hrb := HB.out.below hbel
      obtain ⟨da, hda⟩ : ∃ d, d = A % 16777216 := ⟨_, rfl⟩
      obtain ⟨db, hdb⟩ : ∃ d, d = B % 16777216 := ⟨_, rfl⟩
      rcases hr with hr | ⟨b', off, rfl, hb', hr⟩
      · omega
      have hcell := (hbel.cell (p := ⟨b', off + k, none⟩) hb').trans (hr k hc)
      rw [← hA.out, ← hda] at hcell
      have bda : da ≤ 16777215 := by omega
      have bdb : db ≤ 16777215 := by omega
      have Hda : Hid (da = A % 16777216) := hda
      have Hdb : Hid (db = B % 16777216) := hdb
      have HRB : Hid (Row wr _ _) := hrb
      have Hown : Hid (wr.ownsRow _ _ _ _ _ _) := hown
      clear hda hdb hrb hr hown
      by_cases hneg : (da : Int) - db - C < 0
      all_goals
        go_wp2
        go_quiet ((go_at_call 49; exact Calls.quiet_of_same (digit_dig _ b k db (by omega) _ HRB.out (by rw [Hdb.out, hB.out]))))
        go_wp2_with (at_builtin; refine append1 rfl _ _ _ rfl w.heap.size 3 i0 (.int .i64 0) 8 Tryz.underlying34 hi hz0 hz1 hz2 rfl _ _ _ (owns_drewN Hown.out _) rfl rfl rfl (by omega) (by decide) hsz ?_; intro v' w1 hown' hbel' _ _)
        go_roundw
        case measure => simp [intOf]; omega
        case rel =>
          have e1 := Hda.out
          have e2 := Hdb.out
          have e3 := hT.out
          have e4 : top s (k + 1) = top s k / 16777216 := rfl
          have E : Hid ((low s (k + 1)).map enc = (low s k).map enc ++ [enc (top s k % 16777216)]) := by rw [low_snoc, List.map_append]; rfl
          first
            | (have e : (da : Int) - db - C + 16777216 = ((top s k % 16777216 : Nat) : Int) := by omega
               rw [e] at hown'
               refine ⟨k + 1, A / 16777216, B / 16777216, 1, by omega, by omega, ?_, ?_, ?_, by go_num, rfl, by rw [E.out]; exact hown', (below_drewN hbel _).trans hbel'⟩)
            | (have e : (da : Int) - db - C = ((top s k % 16777216 : Nat) : Int) := by omega
               rw [e] at hown'
               refine ⟨k + 1, A / 16777216, B / 16777216, 0, by omega, by omega, ?_, ?_, ?_, by go_num, rfl, by rw [E.out]; exact hown', (below_drewN hbel _).trans hbel'⟩)
          · show _ = _; rw [hA.out]; rfl
          · show _ = _; rw [hB.out]; rfl
          · show _ = _; omega
    · have hk1 : k = dlen a := by omega
      subst hk1
      rw [low_ge hla] at hown
      have hrw := row_own hown
      have HRW : Hid (Row wr _ _) := hrw
      clear hrw hown
      go_wp2_with (go_at_call 63; refine (cut_any _ _ s _ rfl _ HRW.out).mono ?_; rintro e w' ⟨v', rfl, hv, rfl⟩)
      exact hQ.out _ _ ⟨_, rfl, hv, hbel⟩

set_option maxHeartbeats 1000000 in
theorem two_any (k : Nat) (hk : k ≤ 24) (w : World) :
    Calls Tryz.prog 48 #[.int .i64 k] w fun e w' => e = .returned (.int .i64 (2 ^ k : Nat)) ∧ w' = w := by
  refine cps fun Q hQ => ?_
  go_enter Tryz.func48, Tryz.ntmps48
  go_wp2
  go_loop [3, 4] (fun n i => ∃ j V : Nat, j ≤ k ∧ Hid (V = 2 ^ j) ∧ V ≤ 16777216 ∧ i = .int .i64 j ∧ n = .int .i64 V) (fun _ i => k - (intOf i).toNat)
  case atStart => exact ⟨0, 1, Nat.zero_le _, rfl, by decide, rfl, rfl⟩
  case round =>
    obtain ⟨j, V, hj, hV, hb, rfl, rfl⟩ := hrel
    by_cases hlt : j < k
    · go_wp2
      go_round
      case rel =>
        have h1 : 2 ^ (j + 1) = 2 * V := by rw [hV.out, Nat.pow_succ, Nat.mul_comm]
        have h2 : 2 ^ (j + 1) ≤ 2 ^ 24 := Nat.pow_le_pow_right (by decide) (by omega)
        exact ⟨j + 1, 2 * V, by omega, h1.symm, by omega, by go_num, by go_num⟩
      case measure => simp [intOf]; omega
    · have e : j = k := by omega
      subst e
      go_wp2
      refine hQ.out _ _ ⟨?_, rfl⟩
      rw [hV.out]

theorem mul_part (A q : Nat) : A * q = 16777216 * (A / 16777216 * q) + A % 16777216 * q := by
  conv => lhs; rw [← Nat.div_add_mod A 16777216]
  rw [Nat.add_mul, Nat.mul_assoc]

set_option maxHeartbeats 2000000 in
theorem times_any (va : Value) (a q : Nat) (hq : q ≤ 16777216) (hS : dlen a ≤ 1099511627776) (w : World) (ha : Row w va (dig a)) :
    Calls Tryz.prog 47 #[va, .int .i64 q] w fun e w' => ∃ v, e = .returned v ∧ Row w' v (dig (a * q)) ∧ Below w.heap.size w w' := by
  refine cps fun Q hQ => ?_
  have hls : dlen (a * q) ≤ dlen a + 2 := by
    refine dlen_le_of_lt ?_
    have h1 := lt_of_dlen_le (n := a) (Nat.le_refl _)
    rw [Nat.pow_add]
    refine Nat.lt_of_le_of_lt (Nat.mul_le_mul (Nat.le_of_lt h1) hq) ?_
    exact Nat.mul_lt_mul_of_pos_left (by decide) (Nat.pow_pos (by decide))
  have HA : Hid (Row w va (dig a)) := ha
  obtain ⟨aa, ca, rfl, h1, h2⟩ := ha.num
  clear ha
  obtain ⟨i0, hi, hz0, hz1, hz2⟩ := info_parts infoInt
  have HP : Hid (∀ n k, 0 < top n k ↔ k < dlen n) := top_pos_iff
  generalize hs : a * q = s at *
  have HS : Hid (a * q + 0 = s) := hs
  clear hs
  go_enter Tryz.func47, Tryz.ntmps47
  go_wp2
  go_loopw [5, 6, 7] (fun o cv iv wr => ∃ k A C : Nat, k ≤ dlen s ∧ C ≤ q ∧ Hid (A = top a k) ∧ Hid (A * q + C = top s k) ∧ iv = .int .i64 k ∧ cv = .int .i64 C ∧ wr.ownsRow w.heap.size 3 1 o k ((low s k).map enc) ∧ Below w.heap.size w wr) (fun _ _ i _ => dlen s - (intOf i).toNat)
  case atStart => exact ⟨0, a, 0, Nat.zero_le _, Nat.zero_le _, rfl, HS.out, rfl, rfl, World.ownsRow_nil _ _ _ _, Below.refl _ _⟩
  case round =>
    obtain ⟨k, A, C, hk, hC, hA, hT, rfl, rfl, hown, hbel⟩ := hrel
    have pa := HP.out a k
    have ps := HP.out s k
    rw [← hA.out] at pa
    have hpos : 0 < A * q ↔ 0 < A ∧ 0 < q := ⟨fun h => ⟨Nat.pos_of_mul_pos_right h, Nat.pos_of_mul_pos_left h⟩, fun h => Nat.mul_pos h.1 h.2⟩
    rw [← hT.out] at ps
    have hsz := hbel.size
    by_cases hc : (k < dlen a ∧ 0 < q) ∨ 0 < C
    · have hks : k < dlen s := ps.1 (by have := hpos.2; omega)
      have hra := HA.out.below hbel
      obtain ⟨da, hda⟩ : ∃ d, d = A % 16777216 := ⟨_, rfl⟩
      have bda : da ≤ 16777215 := by omega
      have Hda : Hid (da = A % 16777216) := hda
      have HRA : Hid (Row wr _ _) := hra
      obtain ⟨m, hm⟩ : ∃ m : Nat, m = da * q := ⟨_, rfl⟩
      have bm : m ≤ 16777215 * q := by rw [hm]; exact Nat.mul_le_mul bda (Nat.le_refl _)
      have HM : Hid (m = da * q) := hm
      have hmi : (da : Int) * (q : Int) = (m : Int) := by rw [hm]; simp
      have h3 : (k < dlen a ∧ 0 < q) ∨ (¬ k < dlen a ∧ 0 < C) := by omega
      clear hc pa ps hda hra hpos hm
      rcases h3 with ⟨h3, h4⟩ | ⟨h3, h4⟩
      all_goals
        go_wp2_with (first
          | (go_at_call_of 49 aa; refine (digit_dig _ a k da (by omega) _ HRA.out (by rw [Hda.out, hA.out])).mono ?_; rintro e w' ⟨rfl, rfl⟩)
          | (at_builtin; refine append1 rfl _ _ _ rfl w.heap.size 3 i0 (.int .i64 0) 8 Tryz.underlying34 hi hz0 hz1 hz2 rfl _ _ _ hown rfl rfl rfl (by omega) (by decide) hsz ?_; intro v' w1 hown' hbel' _ _))
        go_roundw
        case rel =>
          have hp := mul_part A q
          rw [← Hda.out, ← HM.out] at hp
          refine ⟨k + 1, A / 16777216, (m + C) / 16777216, by omega, by omega, ?_, ?_, by go_num, by go_num, ?_, hbel.trans hbel'⟩
          · show _ = _; rw [hA.out]; rfl
          · show _ = _; rw [top_succ, ← hT.out]; omega
          · rw [low_snoc, ← hT.out, List.map_append]
            have e : (((m : Int) + C) % 16777216) = (((A * q + C) % 16777216 : Nat) : Int) := by omega
            rw [e] at hown'
            exact hown'
        case measure => simp [intOf]; omega
    · have hks : ¬ k < dlen s := fun h => by have := ps.2 h; have := hpos.1; omega
      have hk1 : k = dlen s := by omega
      have e : low s k = dig s := by rw [hk1, low_dlen]
      rw [e] at hown
      have h5 : ¬ 0 < C := by omega
      have h3 : ¬ (k < dlen a ∧ 0 < q) := by omega
      by_cases h4 : k < dlen a
      · have h6 : ¬ 0 < q := by omega
        clear hk1 e pa ps hc hpos h3
        go_wp2
        exact hQ.out _ _ ⟨_, rfl, row_own hown, hbel⟩
      · clear hk1 e pa ps hc hpos h3
        go_wp2
        exact hQ.out _ _ ⟨_, rfl, row_own hown, hbel⟩
end Go.Proofs.YtheliihkkoohnabGreat

namespace Go.Proofs.YtheliihkkoohnabGreat
open Go.ChangeShapes Go.WideShapes Go.ChangeAt Go.RowKit
set_option linter.unusedVariables false
set_option maxRecDepth 100000

theorem owns_below {w w' : World} {base n sz : Nat} {e : TypeId} {v : Value} {xs : List Value} (h : w.ownsRow base e sz v n xs) (hb : Below w.heap.size w w') : w'.ownsRow base e sz v n xs := by
  refine ⟨h.1, ?_⟩
  rcases h.2 with hn | ⟨g, cap, cur, rfl, hg, hgg, rest⟩
  · exact .inl hn
  · refine .inr ⟨g, cap, cur, rfl, hg, ?_, rest⟩
    rw [hb.block g (Array.getElem?_eq_some_iff.1 hgg).1]; exact hgg
theorem made_ints (n : Nat) : (madeCells (Value.int .i64 0).cells (n * 1)).toList = (List.replicate n 0).map enc := by
  have e : ∀ x : Nat, [Value.int .i64 0][x % 1]?.getD default = .int .i64 0 := fun x => by rw [Nat.mod_one]; rfl
  simp [madeCells, enc, Value.cells, e, List.map_const']
/-- 'l[q:]' of a row -/
theorem Row.drop {w : World} {b off c : Nat} {n k : Nat} (h : Row w (.slice (some ⟨b, off, none⟩) k c) (dig n)) (q : Nat) (hq : q ≤ dlen n) : Row w (.slice (some ⟨b, off + q, none⟩) (dlen n - q) (c - q)) (dig (top n q)) := by
  obtain ⟨ao', c', he, hc, hl, h⟩ := h
  injection he with e1 e2 e3
  subst e1 e2 e3
  have hl' : dlen n ≤ c := hl
  refine ⟨_, c - q, by rw [dig_length, dlen_top], by omega, by rw [dig_length, dlen_top]; omega, ?_⟩
  rcases h with ⟨h1, h2⟩ | ⟨b', off', h1, h2, h3⟩
  · simp at h1
  · simp at h1
    obtain ⟨rfl, rfl⟩ := h1
    refine .inr ⟨_, _, rfl, h2, fun j hj => ?_⟩
    rw [dig_length, dlen_top] at hj
    rw [Nat.add_assoc, h3 (q + j) (by rw [dig_length]; omega), dig_get, dig_get, top_add]

set_option maxHeartbeats 1000000 in
theorem nshl_any (va : Value) (a k : Nat) (hk : k ≤ 1099511627776) (hS : dlen a ≤ 1099511627776) (w : World) (ha : Row w va (dig a)) :
    Calls Tryz.prog 29 #[va, .int .i64 k] w fun e w' => ∃ v, e = .returned v ∧ Row w' v (dig (a * 2 ^ k)) ∧ Below w.heap.size w w' := by
  refine cps fun Q hQ => ?_
  have HA : Hid (Row w va (dig a)) := ha
  obtain ⟨aa, ca, rfl, h1, h2⟩ := ha.num
  clear ha
  obtain ⟨i0, hi, hz0, hz1, hz2⟩ := info_parts infoInt
  have hz := @dlen_eq_zero a
  have e0 : 2 ^ k = 2 ^ (k % 24) * 16777216 ^ (k / 24) := by
    have : (16777216 : Nat) = 2 ^ 24 := by decide
    rw [this, ← Nat.pow_mul, ← Nat.pow_add]; congr 1; omega
  by_cases h0 : dlen a = 0
  · have hn := hz.1 h0
    subst hn
    have HQ : Hid _ := hQ.out _ w ⟨.slice none 0 0, rfl, by rw [Nat.zero_mul, dig_zero]; exact row_nil w, Below.refl _ _⟩
    clear hz HA e0
    go_enter Tryz.func29, Tryz.ntmps29
    go_wp2
    exact HQ.out
  · have hn : a ≠ 0 := fun h => h0 (hz.2 h)
    have hq : 0 < 2 ^ (k % 24) := Nat.pow_pos (by decide)
    have hq2 : 2 ^ (k % 24) ≤ 2 ^ 24 := Nat.pow_le_pow_right (by decide) (by omega)
    have hne : a * 2 ^ (k % 24) ≠ 0 := Nat.mul_ne_zero hn (by omega)
    have hD : Hid (dig (a * 2 ^ k) = List.replicate (k / 24) 0 ++ dig (a * 2 ^ (k % 24))) := by
      show _ = _
      rw [e0, ← Nat.mul_assoc, dig_shift hne]
    have hT := two_any (k % 24) (by omega)
    have hlen : dlen (a * 2 ^ (k % 24)) ≤ 2199023255552 := by
      have h3 := lt_of_dlen_le (n := a) (Nat.le_refl _)
      refine Nat.le_trans (dlen_le_of_lt (k := dlen a + 2) ?_) (by omega)
      rw [Nat.pow_add]
      refine Nat.lt_of_le_of_lt (Nat.mul_le_mul (Nat.le_of_lt h3) hq2) ?_
      exact Nat.mul_lt_mul_of_pos_left (by decide) (Nat.pow_pos (by decide))
    have hdl : dlen (a * 2 ^ (k % 24)) ≠ 0 := fun h => hne (dlen_eq_zero.1 h)
    generalize hp : 2 ^ (k % 24) = p at *
    have HP : Hid (p ≤ 16777216) := by show _ ≤ _; omega
    clear hp e0 hq hq2 hz hn hne
    have hq : k / 24 ≤ 1099511627776 := by omega
    have hr24 : k % 24 ≤ 23 := by omega
    have hki : ((k : Int) / 24) = ((k / 24 : Nat) : Int) := by omega
    have hki2 : ((k : Int) % 24) = ((k % 24 : Nat) : Int) := by omega
    generalize k / 24 = q at *
    generalize k % 24 = r at *
    go_enter Tryz.func29, Tryz.ntmps29
    go_wp2_with (at_make; go_must (refine wpList_make_full _ rfl _ _ 34 rfl w.heap.size 3 i0 (.int .i64 0) 1 Tryz.underlying34 hi hz0 hz1 .i64 .i64 _ _ q rfl rfl (by omega) (by omega) (by rw [hz2]; omega) (by unfold maxLen; omega) (Nat.le_refl _) ?_); intro w1 hown hg)
    have hb0 := (Below.refl w.heap.size w).grown hg (Nat.le_refl _) (fun k hk => by cases hk)
    rw [made_ints] at hown
    have hs1 := hb0.size
    clear hg
    go_wp2_with (first
      | (go_at_call 48; refine (hT _).mono ?_; rintro e w' ⟨rfl, rfl⟩)
      | (go_at_call 47; refine (times_any _ a p HP.out hS _ (HA.out.below hb0)).mono ?_; rintro e w2 ⟨v2, rfl, hr2, hb2⟩
         obtain ⟨ao2, c2, rfl, hc2, hl2, hr2⟩ := hr2.reads
         obtain ⟨b2, o2, rfl, hlt2, hr2⟩ := hr2.resolve_left hdl
         have hown2 := owns_below hown hb2
         have hb3 := hb0.trans (hb2.mono hs1)
         have hs3 := hb3.size)
      | (at_builtin; go_must (refine wpList_append_own _ rfl _ _ 34 rfl w.heap.size 3 i0 (.int .i64 0) 1 8 Tryz.underlying34 hi hz0 hz1 hz2 rfl (by decide) _ _ _ rfl hown2 ⟨b2, o2, none⟩ (dlen (a * p)) c2 ((dig (a * p)).map enc) rfl (by simp [dlen]) ?_ (by simp [enc]; intros; rfl) (by unfold maxLen; omega) (by omega) hs3 ?_)))
    · intro j u hj
      rw [List.getElem?_map, Option.map_eq_some_iff] at hj
      obtain ⟨d, hd, rfl⟩ := hj
      have hlt : j < dlen (a * p) := (List.getElem?_eq_some_iff.1 hd).1
      have := hr2 j hlt
      rw [← dig_get, List.getD_eq_getElem?_getD, hd] at this
      have this : w2.cell? ⟨b2, o2 + j, none⟩ = some (.int .i64 (d : Nat)) := by simpa using this
      unfold Addr.add
      split
      · rename_i h; have hj0 : j = 0 := by simpa using h
        subst hj0; exact this
      · exact this
    · intro v' w3 hown3 hg3 _
      have hb4 := hb3.grown hg3 hs3 (fun k hk => by cases hk; exact Nat.le_refl _)
      have hr3 : Row w3 v' (List.replicate q 0 ++ dig (a * p)) := row_own (by rw [List.map_append, List.map_replicate]; exact hown3)
      rw [← hD.out] at hr3
      go_wp2
      exact hQ.out _ _ ⟨_, rfl, hr3, hb4⟩
end Go.Proofs.YtheliihkkoohnabGreat

namespace Go.Proofs.YtheliihkkoohnabGreat
open Go.ChangeShapes Go.WideShapes Go.ChangeAt Go.RowKit
set_option linter.unusedVariables false
set_option maxRecDepth 100000

theorem Row.drew {w : World} {v : Value} {l : List Nat} (h : Row w v l) : Row w.drew v l := h.below (Below.refl _ _).drew
theorem Row.cells {w : World} {b off k c n : Nat} (h : Row w (.slice (some ⟨b, off, none⟩) k c) (dig n)) : ∀ j, j < dlen n → w.cell? ⟨b, off + j, none⟩ = some (.int .i64 (top n j % 16777216 : Nat)) := by
  obtain ⟨ao, c', he, _, _, hr⟩ := h.reads
  injection he with e1 _ _
  subst e1
  intro j hj
  rcases hr with hr | ⟨b', off', e, _, hr⟩
  · omega
  · simp at e
    obtain ⟨rfl, rfl⟩ := e
    exact hr j hj

end Go.Proofs.YtheliihkkoohnabGreat

namespace Go.Proofs.YtheliihkkoohnabGreat
open Go.ChangeShapes Go.WideShapes Go.ChangeAt Go.RowKit
set_option linter.unusedVariables false
set_option maxRecDepth 100000

/-! ### how many bits -/
def blen (n : Nat) : Nat := if h : n = 0 then 0 else blen (n / 2) + 1
theorem blen_zero : blen 0 = 0 := by unfold blen; simp
theorem blen_pos {n : Nat} (h : n ≠ 0) : blen n = blen (n / 2) + 1 := by
  conv => lhs; unfold blen
  simp [h]
theorem blen_le {n m : Nat} : blen n ≤ m ↔ n < 2 ^ m := by
  induction m generalizing n with
  | zero =>
    by_cases h : n = 0
    · subst h; simp [blen_zero]
    · rw [blen_pos h]; simp; exact h
  | succ m ih =>
    by_cases h : n = 0
    · subst h; simp [blen_zero]; exact Nat.pow_pos (by decide)
    · rw [blen_pos h, Nat.add_le_add_iff_right, ih, Nat.pow_succ]; omega
theorem blen_shift {a k : Nat} (h : a / 2 ^ k ≠ 0) : blen a = blen (a / 2 ^ k) + k := by
  induction k with
  | zero => simp
  | succ k ih =>
    have e : a / 2 ^ (k + 1) = a / 2 ^ k / 2 := by rw [Nat.pow_succ, Nat.div_div_eq_div_mul]
    have h1 : a / 2 ^ k ≠ 0 := by intro h2; rw [e, h2] at h; simp at h
    rw [ih h1, blen_pos h1, e]; omega
/-! ### comparing -/
def cmpN (a b : Nat) : Int := if a < b then -1 else if a = b then 0 else 1
theorem cmpN_lt {a b : Nat} (h : a < b) : cmpN a b = -1 := by simp [cmpN, h]
theorem cmpN_gt {a b : Nat} (h : b < a) : cmpN a b = 1 := by unfold cmpN; rw [if_neg (by omega), if_neg (by omega)]
theorem cmpN_eq (a : Nat) : cmpN a a = 0 := by simp [cmpN]
set_option maxHeartbeats 2000000 in
theorem ncmp_any (va vb : Value) (a b : Nat) (w : World) (ha : Row w va (dig a)) (hb : Row w vb (dig b)) :
    Calls Tryz.prog 43 #[va, vb] w fun e w' => e = .returned (.int .i64 (cmpN a b)) ∧ ∃ q, w' = w.drewN q := by
  refine cps fun Q hQ => ?_
  obtain ⟨aa, ca, rfl, h1, h2, hra⟩ := ha.reads
  obtain ⟨ab, cb, rfl, h3, h4, hrb⟩ := hb.reads
  clear ha hb
  rcases Nat.lt_trichotomy (dlen a) (dlen b) with hl | hl | hl
  · have HQ : Hid _ := hQ.out _ w ⟨by rw [cmpN_lt (cmp_len hl)], 0, rfl⟩
    clear hra hrb
    go_enter Tryz.func43, Tryz.ntmps43
    go_wp2
    exact HQ.out
  · have H0 : Hid (∀ j, top a j < top b j → a < b) := fun j h => cmp_top h
    have H1 : Hid (∀ j, top b j < top a j → b < a) := fun j h => cmp_top h
    have HL : Hid (top a (dlen a) = top b (dlen a)) := by show _ = _; rw [top_eq_zero (Nat.le_refl _), top_eq_zero (by omega)]
    rw [← hl] at hrb h4
    have HS : Hid (dlen a = dlen b) := hl
    have hb' : dlen b = dlen a := hl.symm
    clear hl
    go_enter Tryz.func43, Tryz.ntmps43
    go_wp2
    go_loopw [5] (fun i wr => ∃ j : Nat, j ≤ dlen a ∧ Hid (top a j = top b j) ∧ i = .int .i64 ((j : Int) - 1) ∧ ∃ q, wr = w.drewN q) (fun i _ => (intOf i + 1).toNat)
    case atStart => exact ⟨dlen a, Nat.le_refl _, HL.out, by go_num, 0, rfl⟩
    case round =>
      obtain ⟨j, hj, hT, rfl, q, rfl⟩ := hrel
      by_cases h0 : 0 < j
      · obtain ⟨k, rfl⟩ : ∃ k, j = k + 1 := ⟨j - 1, by omega⟩
        rw [show ((k + 1 : Nat) : Int) - 1 = (k : Int) by omega]
        rcases hra with hra | ⟨ba, oa, rfl, hba, hra⟩
        · omega
        rcases hrb with hrb | ⟨bb, ob, rfl, hbb, hrb⟩
        · omega
        have c1 := hra k (by omega)
        have c2 := hrb k (by omega)
        have hdec : (top a k % 16777216 < top b k % 16777216 → top a k < top b k) ∧ (top b k % 16777216 < top a k % 16777216 → top b k < top a k) ∧ (top a k % 16777216 = top b k % 16777216 → top a k = top b k) := by
          have := hT.out
          rw [top_succ, top_succ] at this
          refine ⟨fun h => by omega, fun h => by omega, fun h => by omega⟩
        have HD : Hid _ := hdec
        have f1 : top a k % 16777216 ≤ 16777215 := by omega
        have f2 : top b k % 16777216 ≤ 16777215 := by omega
        clear hdec hra hrb
        generalize top a k % 16777216 = x at *
        generalize top b k % 16777216 = y at *
        rcases Nat.lt_trichotomy x y with hxy | hxy | hxy
        · go_wp2
          go_quiet (fail)
          go_wp2
          refine hQ.out _ _ ⟨?_, _, by rw [World.drewN_drewN]⟩
          rw [cmpN_lt (H0.out k (HD.out.1 hxy))]; rfl
        · subst hxy
          have HD' := HD.out.2.2 rfl
          have HT' : Hid (top a k = top b k) := HD'
          clear HD' HD
          go_wp2
          go_quiet (fail)
          go_wp2
          go_quiet (fail)
          go_wp2
          go_roundw
          case rel => exact ⟨k, by omega, HT'.out, by go_num, _, rfl⟩
          case measure => simp [intOf]
        · have hnlt : ¬ x < y := by omega
          go_wp2
          go_quiet (fail)
          go_wp2
          go_quiet (fail)
          go_wp2
          refine hQ.out _ _ ⟨?_, _, by rw [World.drewN_drewN, World.drewN_drewN]⟩
          rw [cmpN_gt (H1.out k (HD.out.2.1 hxy))]; rfl
      · have e : j = 0 := by omega
        subst e
        have hab : a = b := hT.out
        have HE : Hid (cmpN a b = 0) := by show _ = _; rw [hab]; exact cmpN_eq b
        clear hab hra hrb
        go_wp2
        refine hQ.out _ _ ⟨?_, _, rfl⟩
        rw [HE.out]; rfl
  · have HQ : Hid _ := hQ.out _ w ⟨by rw [cmpN_gt (cmp_len hl)], 0, rfl⟩
    clear hra hrb
    go_enter Tryz.func43, Tryz.ntmps43
    go_wp2
    exact HQ.out

/-! ### is one of the lowest bits 1? -/
end Go.Proofs.YtheliihkkoohnabGreat

namespace Go.Proofs.YtheliihkkoohnabGreat
open Go.ChangeShapes Go.WideShapes Go.ChangeAt Go.RowKit
set_option linter.unusedVariables false
set_option linter.unusedSimpArgs false
set_option maxRecDepth 100000

/-! ### a natural number's first 128 bits, and whether something is lost -/
def normN (M : Nat) : Nat := if blen M < 128 then M * 2 ^ (128 - blen M) else M / 2 ^ (blen M - 128)
def lostN (M : Nat) : Bool := decide (128 < blen M) && decide (M % 2 ^ (blen M - 128) ≠ 0)
def exactV (neg : Bool) (M : Nat) (exp : Int) (rest : Bool) : Value :=
  if M = 0 then exV 0 false 0 0 0 false else exV 1 neg (heldX (exp + blen M - 1)) (normN M / 2 ^ 64 % 2 ^ 64) (normN M % 2 ^ 64) (rest || lostN M)
theorem blen_lo {M : Nat} (h : M ≠ 0) : 2 ^ (blen M - 1) ≤ M := by
  have := @blen_le M (blen M - 1)
  have hp : blen M ≠ 0 := by rw [blen_pos h]; omega
  refine Nat.le_of_not_lt fun hlt => ?_
  have := this.2 hlt
  omega
theorem blen_hi (M : Nat) : M < 2 ^ blen M := blen_le.1 (Nat.le_refl _)
/-- the first of the 128 bits is a 1 -/
theorem normN_mant {M : Nat} (h : M ≠ 0) : 2 ^ 127 ≤ normN M ∧ normN M < 2 ^ 128 := by
  have h1 := blen_lo h
  have h2 := blen_hi M
  have hp : 1 ≤ blen M := by rw [blen_pos h]; omega
  unfold normN
  split
  · rename_i hc
    constructor
    · have := Nat.mul_le_mul_right (2 ^ (128 - blen M)) h1
      rwa [← Nat.pow_add, show blen M - 1 + (128 - blen M) = 127 by omega] at this
    · have := Nat.mul_lt_mul_of_pos_right h2 (show 0 < 2 ^ (128 - blen M) from Nat.pow_pos (by decide))
      rwa [← Nat.pow_add, show blen M + (128 - blen M) = 128 by omega] at this
  · rename_i hc
    constructor
    · rw [Nat.le_div_iff_mul_le (Nat.pow_pos (by decide)), ← Nat.pow_add, show 127 + (blen M - 128) = blen M - 1 by omega]
      exact h1
    · rw [Nat.div_lt_iff_lt_mul (Nat.pow_pos (by decide)), ← Nat.pow_add, show 128 + (blen M - 128) = blen M by omega]
      exact h2
theorem normN_words {M : Nat} (h : M ≠ 0) : WordsX (normN M / 2 ^ 64 % 2 ^ 64) (normN M % 2 ^ 64) := by
  obtain ⟨h1, h2⟩ := normN_mant h
  have e1 : normN M / 2 ^ 64 < 2 ^ 64 := by rw [Nat.div_lt_iff_lt_mul (Nat.pow_pos (by decide)), ← Nat.pow_add]; exact h2
  have e2 : 2 ^ 63 ≤ normN M / 2 ^ 64 := by rw [Nat.le_div_iff_mul_le (Nat.pow_pos (by decide)), ← Nat.pow_add]; exact h1
  rw [Nat.mod_eq_of_lt e1]
  exact ⟨e2, e1, Nat.mod_lt _ (by decide)⟩
end Go.Proofs.YtheliihkkoohnabGreat

namespace Go.Proofs.YtheliihkkoohnabGreat
open Go.ChangeShapes Go.WideShapes Go.ChangeAt Go.RowKit
set_option linter.unusedVariables false
set_option linter.unusedSimpArgs false
set_option maxRecDepth 100000

theorem Row.setU {w : World} {v : Value} {l : List Nat} (h : Row w v l) (m k : Nat) (u u' : Value) (hc : w.cell? ⟨m, k, none⟩ = some u) (hu : ∀ x, u ≠ .int .i64 x) : Row (w.setCell ⟨m, k, none⟩ u') v l := by
  obtain ⟨ao, c, rfl, hc1, hl, h⟩ := h
  refine ⟨ao, c, rfl, hc1, hl, ?_⟩
  rcases h with h | ⟨b, off, rfl, hlt, h⟩
  · exact .inl h
  · refine .inr ⟨b, off, rfl, hlt.set, fun j hj => ?_⟩
    have hj2 := h j hj
    have hne : (⟨m, k, none⟩ : Addr) ≠ ⟨b, off + j, none⟩ := fun e => by
      rw [← e, hc] at hj2
      exact hu _ (Option.some.inj hj2)
    rw [World.cell?_setCell_other _ _ _ _ hne]
    exact hj2
theorem heldX_bounds (s : Int) : -1099511627776 ≤ heldX s ∧ heldX s ≤ 1099511627776 := by unfold heldX; split <;> (try split) <;> omega
theorem cset6 {a W : World} {m : Nat} {v0 v1 v2 v3 v4 v5 : Value} (h : Below a.heap.size a W) (hb : a.heap.size ≤ m) :
    Below a.heap.size a ((((((W.setCell ⟨m, 0, none⟩ v0).setCell ⟨m, 1, none⟩ v1).setCell ⟨m, 2, none⟩ v2).setCell ⟨m, 3, none⟩ v3).setCell ⟨m, 4, none⟩ v4).setCell ⟨m, 5, none⟩ v5) :=
  cset (cset (cset (cset (cset (cset h hb 0 v0) hb 1 v1) hb 2 v2) hb 3 v3) hb 4 v4) hb 5 v5
end Go.Proofs.YtheliihkkoohnabGreat

namespace Go.Proofs.YtheliihkkoohnabGreat
open Go.ChangeShapes Go.WideShapes Go.ChangeAt Go.RowKit
set_option linter.unusedVariables false
set_option linter.unusedSimpArgs false
set_option maxRecDepth 100000

theorem exactV_form (neg : Bool) (M : Nat) (exp : Int) (rest : Bool) : ∃ k b s h l r, exactV neg M exp rest = exV k b s h l r := by
  unfold exactV
  split
  · exact ⟨_, _, _, _, _, _, rfl⟩
  · exact ⟨_, _, _, _, _, _, rfl⟩
/-! ### Makes -/
theorem manX_lt {hi lo : Nat} (hh : hi < 2 ^ 64) (hl : lo < 2 ^ 64) : manX hi lo < 2 ^ 128 := by unfold manX; omega
end Go.Proofs.YtheliihkkoohnabGreat

namespace Go.Proofs.YtheliihkkoohnabGreat
set_option maxRecDepth 100000
open Go.ChangeShapes Go.WideShapes Go.ChangeAt Go.RowKit
set_option linter.unusedVariables false

/-! ### numbers of 128 bits -/
structure Tw (n h l : Nat) : Prop where
  eq : n = h * 18446744073709551616 + l
  hi : h ≤ 18446744073709551615
  lo : l ≤ 18446744073709551615
theorem bmore {a w : World} (h : Below a.heap.size a w) (o : Obj) : Below a.heap.size a (w.alloc o) := h.alloc h.size o

theorem run_add64_at (x y c : Nat) (hc : c ≤ 1) (w : World) :
    (callFunc 97 #[.int .u64 x, .int .u64 y, .int .u64 c]).run Tryz.prog w =
      .ok (.value (.tuple #[.int .u64 (((x + y + c) % 18446744073709551616 : Nat) : Int), .int .u64 (((x + y + c) / 18446744073709551616 : Nat) : Int)])) w := by
  rw [run_callFunc_extern Tryz.func97 (by kernel_rfl) (by kernel_rfl) (by kernel_rfl) (e := add64Entry) (by kernel_rfl), run_add64 x y c (by omega) (by omega) (by omega) (by omega)]
  simp only [Result.andThen]
  congr 5 <;> omega
theorem run_sub64_at (x y b : Nat) (hb : b ≤ 1) (w : World) :
    (callFunc 98 #[.int .u64 x, .int .u64 y, .int .u64 b]).run Tryz.prog w =
      .ok (.value (.tuple #[.int .u64 (((x + 18446744073709551616 - y - b) % 18446744073709551616 : Nat) : Int), .int .u64 ((if x < y + b then 1 else 0 : Nat) : Int)])) w := by
  rw [run_callFunc_extern Tryz.func98 (by kernel_rfl) (by kernel_rfl) (by kernel_rfl) (e := sub64Entry) (by kernel_rfl), run_sub64 x y b hb]
  rfl

theorem tsub_any {a b h1 l1 h2 l2 h l : Nat} {c : Bool} (ha : Tw a h1 l1) (hb : Tw b h2 l2) (hs : Tw ((a + 340282366920938463463374607431768211456 - b) % 340282366920938463463374607431768211456) h l) (hc : c = decide (a < b)) (w : World) :
    Calls Tryz.prog 109 #[.agg #[.int .u64 h1, .int .u64 l1], .agg #[.int .u64 h2, .int .u64 l2]] w fun e w' => e = .returned (.tuple #[.agg #[.int .u64 h, .int .u64 l], .bool c]) ∧ Below w.heap.size w w' := by
  refine cps fun Q hQ => ?_
  obtain ⟨ea, ha1, ha2⟩ := ha
  obtain ⟨eb, hb1, hb2⟩ := hb
  obtain ⟨es, hs1, hs2⟩ := hs
  obtain ⟨s1, e1⟩ : ∃ s, s = (l1 + 18446744073709551616 - l2 - 0) % 18446744073709551616 := ⟨_, rfl⟩
  obtain ⟨c1, e2⟩ : ∃ s, s = (if l1 < l2 + 0 then 1 else 0) := ⟨_, rfl⟩
  obtain ⟨s2, e3⟩ : ∃ s, s = (h1 + 18446744073709551616 - h2 - c1) % 18446744073709551616 := ⟨_, rfl⟩
  obtain ⟨c2, e4⟩ : ∃ s, s = (if h1 < h2 + c1 then 1 else 0) := ⟨_, rfl⟩
  have r1 := run_sub64_at l1 l2 0 (by omega)
  have r2 := run_sub64_at h1 h2 c1 (by rw [e2]; split <;> omega)
  rw [← e1, ← e2] at r1
  have r1 : ∀ w, (callFunc 98 #[.int .u64 l1, .int .u64 l2, .int .u64 0]).run Tryz.prog w = .ok (.value (.tuple #[.int .u64 s1, .int .u64 c1])) w := r1
  rw [← e3, ← e4] at r2
  have hc1 : (c1 = 1 ∧ l1 < l2) ∨ (c1 = 0 ∧ l2 ≤ l1) := by rw [e2]; split <;> omega
  have hc3 : (c2 = 1 ∧ h1 < h2 + c1) ∨ (c2 = 0 ∧ h2 + c1 ≤ h1) := by rw [e4]; split <;> omega
  have q1 : s1 = l := by omega
  have q2 : s2 = h := by omega
  have hc2 : c2 ≤ 1 := by omega
  have q3 : c = decide (c2 = 1) := by rw [hc]; refine decide_eq_decide.2 ?_; omega
  clear e1 e2 e3 e4 hc ea eb es hc1 hc3
  subst q1 q2
  have HC : Hid (c = decide (c2 = 1)) := q3
  clear q3
  go_enter Tryz.func109, Tryz.ntmps109
  go_wp2_with (simp only [r1, r2])
  refine bodyPost_ret (v := .tuple #[.agg #[.int .u64 s2, .int .u64 s1], .bool c]) (by simp [results, Tryz.results109, go_sem]; rw [HC.out]; rcases (show c2 = 0 ∨ c2 = 1 by omega) with h | h <;> rw [h] <;> rfl) rfl (hQ.out _ _ ⟨rfl, ?_⟩)
  exact bmore (bmore (bmore (Below.refl _ _) _) _) _

theorem maskN (a : Nat) (ha : a < 18446744073709551616) : bits .and .u64 (a : Int) 4294967295 = ((a % 4294967296 : Nat) : Int) := by
  have e := u64_and_nat a 4294967295 ha (by decide)
  rw [show ((4294967295 : Nat) : Int) = 4294967295 from rfl] at e
  rw [e, show (4294967295 : Nat) = 2 ^ 32 - 1 from rfl, Nat.and_two_pow_sub_one_eq_mod]
theorem divN (a : Nat) : (a : Int) / 4294967296 = ((a / 4294967296 : Nat) : Int) := by omega
theorem mulN (a b : Nat) : (a : Int) * (b : Int) = ((a * b : Nat) : Int) := (Int.natCast_mul a b).symm
theorem addN (a b : Nat) : (a : Int) + (b : Int) = ((a + b : Nat) : Int) := (Int.natCast_add a b).symm
theorem wrapU (a : Nat) (ha : a < 18446744073709551616) : IntKind.u64.wrap (a : Int) = (a : Int) := by rw [IntKind.wrap_u64]; omega
theorem wrapM (a : Nat) : IntKind.u64.wrap (a : Int) = ((a % 18446744073709551616 : Nat) : Int) := by rw [IntKind.wrap_u64]; omega
set_option maxHeartbeats 1000000 in
theorem mul64_any (x y : Nat) (hx : x < 18446744073709551616) (hy : y < 18446744073709551616) (w : World) :
    Calls Tryz.prog 78 #[.int .u64 x, .int .u64 y] w fun e w' => e = .returned (.tuple #[.int .u64 ((x * y / 18446744073709551616 : Nat) : Int), .int .u64 ((x * y % 18446744073709551616 : Nat) : Int)]) ∧ w' = w := by
  obtain ⟨bd, bt, bw, hhi⟩ := Lib.mul64_hi x y hx hy
  have ba := Lib.half_mul_le (a := x / 4294967296) (b := y / 4294967296) (by omega) (by omega)
  have bb := Lib.half_mul_le (a := x / 4294967296) (b := y % 4294967296) (by omega) (by omega)
  have bc := Lib.half_mul_le (a := x % 4294967296) (b := y / 4294967296) (by omega) (by omega)
  have ba' : x / 4294967296 * (y / 4294967296) < 18446744073709551616 := by omega
  have bb' : x / 4294967296 * (y % 4294967296) < 18446744073709551616 := by omega
  have bc' : x % 4294967296 * (y / 4294967296) < 18446744073709551616 := by omega
  have bh1 : x / 4294967296 * (y / 4294967296) + (x / 4294967296 * (y % 4294967296) + x % 4294967296 * (y % 4294967296) / 4294967296) / 4294967296 < 18446744073709551616 := by omega
  have bh : x / 4294967296 * (y / 4294967296) + (x / 4294967296 * (y % 4294967296) + x % 4294967296 * (y % 4294967296) / 4294967296) / 4294967296 + ((x / 4294967296 * (y % 4294967296) + x % 4294967296 * (y % 4294967296) / 4294967296) % 4294967296 + x % 4294967296 * (y / 4294967296)) / 4294967296 < 18446744073709551616 := by omega
  go_enter Tryz.func78, Tryz.ntmps78
  go_wp2
  simp only [maskN x hx, maskN y hy, divN, mulN, addN, wrapU _ bd, wrapU _ bb', wrapU _ bt, maskN _ bt, wrapU _ bc', wrapU _ bw, wrapU _ ba', wrapU _ bh1, wrapU _ bh, wrapM (x * y)]
  rw [hhi]
  go_ret2
  exact ⟨rfl, rfl⟩

theorem tmul_any {x y h l : Nat} (hx : x ≤ 18446744073709551615) (hy : y ≤ 18446744073709551615) (hs : Tw (x * y) h l) (w : World) :
    Calls Tryz.prog 55 #[.int .u64 x, .int .u64 y] w fun e w' => e = .returned (.agg #[.int .u64 h, .int .u64 l]) ∧ Below w.heap.size w w' := by
  refine cps fun Q hQ => ?_
  obtain ⟨es, hs1, hs2⟩ := hs
  have r1 := mul64_any x y (by omega) (by omega)
  have e1 : x * y / 18446744073709551616 = h := by rw [es]; omega
  have e2 : x * y % 18446744073709551616 = l := by rw [es]; omega
  rw [e1, e2] at r1
  clear e1 e2 es
  go_enter Tryz.func55, Tryz.ntmps55
  go_wp2_with (go_at_call 78; refine (r1 _).mono ?_; rintro e w' ⟨rfl, hw⟩; rw [hw]; clear hw w')
  refine bodyPost_ret (v := .agg #[.int .u64 h, .int .u64 l]) (by simp [results, Tryz.results55, go_sem]) rfl (hQ.out _ _ ⟨rfl, ?_⟩)
  exact bmore (Below.refl _ _) _
end Go.Proofs.YtheliihkkoohnabGreat

namespace Go.Proofs.YtheliihkkoohnabGreat
set_option maxRecDepth 100000
open Go.ChangeShapes Go.WideShapes Go.ChangeAt Go.RowKit
set_option linter.unusedVariables false

theorem bthen {a W w : World} (h : Below a.heap.size a W) (hb : Below W.heap.size W w) : Below a.heap.size a w := h.trans (hb.mono h.size)
theorem bdrew {a W : World} (h : Below a.heap.size a W) : Below a.heap.size a W.drew := h.drew
theorem bdrewN {a W : World} (h : Below a.heap.size a W) (q : Nat) : Below a.heap.size a (W.drewN q) := below_drewN h q

theorem drew_at (w : World) (c : Array Value) (t : TypeId) (n i : Nat) (hn : n = w.heap.size) : (w.alloc (.cells c t)).drew.cell? ⟨n, i, none⟩ = c[i]? := World.cell?_alloc_at c t n i hn
theorem bcell {W w1 : World} (hb : Below W.heap.size W w1) : (∀ b o, b < W.heap.size → w1.cell? ⟨b, o, none⟩ = W.cell? ⟨b, o, none⟩) ∧ (∀ b o, b < W.heap.size → w1.frozen? ⟨b, o, none⟩ = W.frozen? ⟨b, o, none⟩) :=
  ⟨fun b o h => hb.cell (p := ⟨b, o, none⟩) h, fun b o h => hb.frozen (p := ⟨b, o, none⟩) h⟩
theorem bset {a W : World} {b : Nat} (h : Below a.heap.size a W) (hb : a.heap.size ≤ b) (o : Nat) (v : Value) : Below a.heap.size a (W.setCell ⟨b, o, none⟩ v) := h.setCell hb _
theorem Tw.lt {n h l : Nat} (t : Tw n h l) : n < 340282366920938463463374607431768211456 := by
  obtain ⟨e, a, b⟩ := t; omega
/-! ### cmp -/
theorem isnan_any (x : Nat) (w : World) : Calls Tryz.prog 112 #[.int .u64 x] w fun e w' => e = .returned (.bool false) ∧ w' = w := by
  refine cps fun Q hQ => ?_
  go_enter Tryz.func112, Tryz.ntmps112
  go_wp2
  exact hQ.out _ _ ⟨by simp, rfl⟩
theorem compare_any (x y : Nat) (w : World) : Calls Tryz.prog 95 #[.int .u64 x, .int .u64 y] w fun e w' => e = .returned (.int .i64 (cmpN x y)) ∧ w' = w := by
  refine cps fun Q hQ => ?_
  have hE : (x < y ∧ cmpN x y = -1) ∨ (y < x ∧ cmpN x y = 1) ∨ (x = y ∧ cmpN x y = 0) := by
    unfold cmpN; split
    · exact .inl ⟨by assumption, rfl⟩
    · split
      · exact .inr (.inr ⟨by assumption, rfl⟩)
      · exact .inr (.inl ⟨by omega, rfl⟩)
  rcases hE with ⟨h, hE⟩ | ⟨h, hE⟩ | ⟨h, hE⟩
  all_goals
    rw [hE] at hQ
    have hlt : ((x : Int) < (y : Int)) = (x < y) := by simp
    clear hE
    go_enter Tryz.func95, Tryz.ntmps95
    go_wp2_with (go_at_call 112; refine (isnan_any _ _).mono ?_; rintro e w' ⟨rfl, hw⟩; rw [hw]; clear hw w')
    exact hQ.out _ _ ⟨rfl, rfl⟩
theorem or_any (x y : Int) (g : Nat) (w : World) (c1 : w.cell? ⟨g, 0, none⟩ = some (.int .i64 x)) (c2 : w.cell? ⟨g, 1, none⟩ = some (.int .i64 y)) :
    Calls Tryz.prog 93 #[.slice (some ⟨g, 0, none⟩) 2 2] w fun e w' => e = .returned (.int .i64 (if x = 0 then y else x)) ∧ w' = w := by
  refine cps fun Q hQ => ?_
  go_enter Tryz.func93, Tryz.ntmps93
  go_wp2
  go_loop [8] (fun i => i = .int .i64 0 ∨ (i = .int .i64 1 ∧ x = 0) ∨ (i = .int .i64 2 ∧ x = 0 ∧ y = 0)) (fun i => (2 - intOf i).toNat)
  case atStart => exact .inl rfl
  case round =>
    rcases hrel with rfl | ⟨rfl, hx⟩ | ⟨rfl, hx, hy⟩
    · by_cases hx : x = 0
      · subst hx
        go_wp2
        go_round
        case rel => exact .inr (.inl ⟨rfl, by trivial⟩)
        case measure => simp [intOf]
      · rw [if_neg hx] at hQ
        go_wp2
        exact hQ.out _ _ ⟨rfl, rfl⟩
    · subst hx
      rw [if_pos rfl] at hQ
      by_cases hy : y = 0
      · subst hy
        go_wp2
        go_round
        case rel => exact .inr (.inr ⟨rfl, by trivial, by trivial⟩)
        case measure => simp [intOf]
      · go_wp2
        exact hQ.out _ _ ⟨rfl, rfl⟩
    · subst hx hy
      rw [if_pos rfl] at hQ
      go_wp2
      exact hQ.out _ _ ⟨rfl, rfl⟩
theorem or_any' (x y z : Int) (hz : z = if x = 0 then y else x) (g : Nat) (w : World) (c1 : w.cell? ⟨g, 0, none⟩ = some (.int .i64 x)) (c2 : w.cell? ⟨g, 1, none⟩ = some (.int .i64 y)) :
    Calls Tryz.prog 93 #[.slice (some ⟨g, 0, none⟩) 2 2] w fun e w' => e = .returned (.int .i64 z) ∧ w' = w := by rw [hz]; exact or_any x y g w c1 c2
theorem cmp_words {a b h1 l1 h2 l2 : Nat} (ha : Tw a h1 l1) (hb : Tw b h2 l2) : (if cmpN h1 h2 = 0 then cmpN l1 l2 else cmpN h1 h2) = cmpN a b := by
  obtain ⟨ea, ha1, ha2⟩ := ha
  obtain ⟨eb, hb1, hb2⟩ := hb
  rcases Nat.lt_trichotomy h1 h2 with h | h | h
  · rw [cmpN_lt h, cmpN_lt (show a < b by omega)]; rfl
  · subst h
    rw [cmpN_eq, if_pos rfl]
    rcases Nat.lt_trichotomy l1 l2 with h | h | h
    · rw [cmpN_lt h, cmpN_lt (show a < b by omega)]
    · subst h; rw [cmpN_eq, show a = b by omega, cmpN_eq]
    · rw [cmpN_gt h, cmpN_gt (show b < a by omega)]
  · rw [cmpN_gt h, cmpN_gt (show b < a by omega)]; rfl
/-! ### Len -/
theorem bitLen_eq (x : Nat) (hx : x ≤ 18446744073709551615) : Lib.bitLen x = blen x := by
  have h1 : ∀ f x : Nat, x < 2 ^ f → Lib.bitLenAux f x = blen x := by
    intro f
    induction f with
    | zero => intro x h; have : x = 0 := by omega
              subst this; rw [blen_zero]; rfl
    | succ f ih =>
      intro x h
      unfold Lib.bitLenAux
      by_cases h0 : x = 0
      · subst h0; rw [blen_zero]; rfl
      · rw [if_neg h0, blen_pos h0, ih _ (by rw [Nat.pow_succ] at h; omega), Nat.add_comm]
  exact h1 64 x (by omega)
theorem tlen_any {a h1 l1 : Nat} (ha : Tw a h1 l1) (w : World) :
    Calls Tryz.prog 104 #[.agg #[.int .u64 h1, .int .u64 l1]] w fun e w' => e = .returned (.int .i64 (blen a)) ∧ Below w.heap.size w w' := by
  refine cps fun Q hQ => ?_
  obtain ⟨ea, ha1, ha2⟩ := ha
  have r : ∀ (x : Nat) (hx : x ≤ 18446744073709551615) (w : World), Calls Tryz.prog 110 #[.int .u64 x] w fun e w' => e = .returned (.int .i64 (blen x)) ∧ w' = w := fun x hx w => by
    rw [← bitLen_eq x hx]; exact len64_any x (by omega) w
  by_cases h0 : h1 = 0
  · have e : a = l1 := by omega
    rw [e] at hQ
    have r2 := r l1 ha2
    clear r e ea
    subst h0
    go_enter Tryz.func104, Tryz.ntmps104
    go_wp2_with (go_at_call 110; refine (r2 _).mono ?_; rintro e w' ⟨rfl, hw⟩; rw [hw]; clear hw w')
    exact hQ.out _ _ ⟨rfl, bmore (Below.refl _ _) _⟩
  · have hd : a / 2 ^ 64 = h1 := by omega
    have e := blen_shift (a := a) (k := 64) (by omega)
    rw [hd] at e
    rw [e] at hQ
    have r2 := r h1 ha1
    have hb : blen h1 ≤ 64 := blen_le.2 (by omega)
    generalize blen h1 = L at *
    clear r e ea hd
    go_enter Tryz.func104, Tryz.ntmps104
    go_wp2_with (go_at_call 110; refine (r2 _).mono ?_; rintro e w' ⟨rfl, hw⟩; rw [hw]; clear hw w')
    exact hQ.out _ _ ⟨ret_i (by omega), bmore (Below.refl _ _) _⟩
end Go.Proofs.YtheliihkkoohnabGreat

namespace Go.Proofs.YtheliihkkoohnabGreat
set_option maxRecDepth 100000
open Go.ChangeShapes Go.WideShapes Go.ChangeAt Go.RowKit
set_option linter.unusedVariables false

theorem up_near (h1 l1 k : Nat) (hh : h1 ≤ 18446744073709551615) (hl : l1 ≤ 18446744073709551615) (hk : k < 64) :
    Tw ((h1 * 18446744073709551616 + l1) * 2 ^ k % 340282366920938463463374607431768211456) (((h1 <<< k) % 2 ^ 64) ||| (l1 >>> (64 - k))) ((l1 <<< k) % 2 ^ 64) := by
  have e : 2 ^ 64 = 2 ^ k * 2 ^ (64 - k) := by rw [← Nat.pow_add]; congr 1; omega
  have hp : 0 < 2 ^ k := Nat.pow_pos (by decide)
  have hq : 0 < 2 ^ (64 - k) := Nat.pow_pos (by decide)
  have h3 : l1 >>> (64 - k) < 2 ^ k := by
    rw [Nat.shiftRight_eq_div_pow]; exact Nat.div_lt_of_lt_mul (by rw [Nat.mul_comm, ← e]; omega)
  have h4 : (h1 <<< k) % 2 ^ 64 = (h1 % 2 ^ (64 - k)) <<< k := by
    rw [Nat.shiftLeft_eq, Nat.shiftLeft_eq, e, Nat.mul_comm h1, Nat.mul_mod_mul_left, Nat.mul_comm]
  have h5 : ((h1 <<< k) % 2 ^ 64) ||| (l1 >>> (64 - k)) = (h1 <<< k) % 2 ^ 64 + l1 >>> (64 - k) := by
    rw [h4, Nat.shiftLeft_add_eq_or_of_lt h3]
  rw [h5]
  have h6 : l1 * 2 ^ k = (l1 >>> (64 - k)) * 2 ^ 64 + (l1 <<< k) % 2 ^ 64 := by
    rw [Nat.shiftRight_eq_div_pow, Nat.shiftLeft_eq]
    have h7 : l1 / 2 ^ (64 - k) = l1 * 2 ^ k / 2 ^ 64 := by rw [e, Nat.mul_comm (2 ^ k) (2 ^ (64 - k)), Nat.mul_div_mul_right _ _ hp]
    rw [h7]; omega
  have h8 : (h1 * 18446744073709551616 + l1) * 2 ^ k = h1 * 2 ^ k * 18446744073709551616 + l1 * 2 ^ k := by rw [Nat.add_mul, Nat.mul_right_comm]
  have h9 : (h1 <<< k) = h1 * 2 ^ k := Nat.shiftLeft_eq _ _
  have h10 : h1 * 2 ^ k % 2 ^ 64 + l1 >>> (64 - k) < 2 ^ 64 := by
    rw [← h9, h4, Nat.shiftLeft_eq]
    have := Nat.mod_lt h1 hq
    have h11 : (h1 % 2 ^ (64 - k) + 1) * 2 ^ k ≤ 2 ^ (64 - k) * 2 ^ k := Nat.mul_le_mul this (Nat.le_refl _)
    rw [Nat.add_mul, Nat.one_mul, Nat.mul_comm (2 ^ (64 - k)), ← e] at h11
    omega
  rw [h8, h6, h9]
  generalize h1 * 2 ^ k = X at *
  generalize l1 >>> (64 - k) = Y at *
  have hz : l1 <<< k % 2 ^ 64 < 2 ^ 64 := Nat.mod_lt _ (by decide)
  generalize l1 <<< k % 2 ^ 64 = Z at *
  clear h3 h4 h5 h6 h8 h9 e hp hq
  refine ⟨by omega, by omega, by omega⟩
theorem up_far (h1 l1 k : Nat) (hk : 64 ≤ k) : Tw ((h1 * 18446744073709551616 + l1) * 2 ^ k % 340282366920938463463374607431768211456) ((l1 <<< (k - 64)) % 2 ^ 64) 0 := by
  have e : 2 ^ k = 2 ^ (k - 64) * 2 ^ 64 := by rw [← Nat.pow_add]; congr 1; omega
  have h8 : (h1 * 18446744073709551616 + l1) * 2 ^ k = h1 * 2 ^ (k - 64) * 340282366920938463463374607431768211456 + l1 * 2 ^ (k - 64) * 18446744073709551616 := by
    rw [e, Nat.add_mul, show (340282366920938463463374607431768211456 : Nat) = 2 ^ 64 * 2 ^ 64 by decide, show (18446744073709551616 : Nat) = 2 ^ 64 by decide]
    rw [← Nat.mul_assoc l1, ← Nat.mul_assoc (h1 * 2 ^ (k - 64)), Nat.mul_assoc h1 (2 ^ 64), Nat.mul_comm (2 ^ 64) (2 ^ (k - 64) * 2 ^ 64), ← Nat.mul_assoc h1, ← Nat.mul_assoc h1]
  rw [h8, Nat.shiftLeft_eq]
  generalize h1 * 2 ^ (k - 64) = X
  generalize l1 * 2 ^ (k - 64) = Y
  refine ⟨by omega, by omega, by omega⟩
theorem down_near (h1 l1 k : Nat) (hh : h1 ≤ 18446744073709551615) (hl : l1 ≤ 18446744073709551615) (hk : k < 64) :
    Tw ((h1 * 18446744073709551616 + l1) / 2 ^ k) (h1 >>> k) ((l1 >>> k) ||| ((h1 <<< (64 - k)) % 2 ^ 64)) := by
  have e : 2 ^ 64 = 2 ^ k * 2 ^ (64 - k) := by rw [← Nat.pow_add]; congr 1; omega
  have hp : 0 < 2 ^ k := Nat.pow_pos (by decide)
  have hq : 0 < 2 ^ (64 - k) := Nat.pow_pos (by decide)
  have h3 : l1 >>> k < 2 ^ (64 - k) := by
    rw [Nat.shiftRight_eq_div_pow]; exact Nat.div_lt_of_lt_mul (by rw [← e]; omega)
  have h4 : (h1 <<< (64 - k)) % 2 ^ 64 = (h1 % 2 ^ k) <<< (64 - k) := by
    rw [Nat.shiftLeft_eq, Nat.shiftLeft_eq, e, Nat.mul_mod_mul_right]
  have h5 : (l1 >>> k) ||| ((h1 <<< (64 - k)) % 2 ^ 64) = (h1 % 2 ^ k) * 2 ^ (64 - k) + l1 >>> k := by
    rw [h4, Nat.or_comm, ← Nat.shiftLeft_add_eq_or_of_lt h3, Nat.shiftLeft_eq]
  rw [h5]
  have h7 : h1 * 18446744073709551616 + l1 = (h1 / 2 ^ k * 18446744073709551616 + h1 % 2 ^ k * 2 ^ (64 - k)) * 2 ^ k + l1 := by
    have a1 : h1 * 18446744073709551616 = (2 ^ k * (h1 / 2 ^ k) + h1 % 2 ^ k) * 18446744073709551616 := by rw [Nat.div_add_mod]
    have a2 : h1 % 2 ^ k * 18446744073709551616 = h1 % 2 ^ k * 2 ^ (64 - k) * 2 ^ k := by
      rw [Nat.mul_assoc, Nat.mul_comm (2 ^ (64 - k)), ← e]
    rw [a1, Nat.add_mul, a2, Nat.add_mul, Nat.mul_comm (2 ^ k), Nat.mul_right_comm]
  rw [h7, Nat.add_comm, Nat.add_mul_div_right _ _ hp, Nat.shiftRight_eq_div_pow, Nat.shiftRight_eq_div_pow]
  rw [Nat.shiftRight_eq_div_pow] at h3
  have h8 : (h1 % 2 ^ k) * 2 ^ (64 - k) + l1 / 2 ^ k < 2 ^ 64 := by
    have := Nat.mod_lt h1 hp
    have h11 : (h1 % 2 ^ k + 1) * 2 ^ (64 - k) ≤ 2 ^ k * 2 ^ (64 - k) := Nat.mul_le_mul this (Nat.le_refl _)
    rw [Nat.add_mul, Nat.one_mul, ← e] at h11
    omega
  have h9 : h1 / 2 ^ k ≤ h1 := Nat.div_le_self _ _
  generalize (h1 % 2 ^ k) * 2 ^ (64 - k) = X at *
  generalize l1 / 2 ^ k = Y at *
  generalize h1 / 2 ^ k = Z at *
  clear h3 h4 h5 h7 e hp hq
  refine ⟨by omega, by omega, by omega⟩
theorem down_far (h1 l1 k : Nat) (hh : h1 ≤ 18446744073709551615) (hl : l1 ≤ 18446744073709551615) (hk : 64 ≤ k) :
    Tw ((h1 * 18446744073709551616 + l1) / 2 ^ k) 0 (h1 >>> (k - 64)) := by
  have e : 2 ^ k = 2 ^ 64 * 2 ^ (k - 64) := by rw [← Nat.pow_add]; congr 1; omega
  rw [e, ← Nat.div_div_eq_div_mul, Nat.shiftRight_eq_div_pow, show (h1 * 18446744073709551616 + l1) / 2 ^ 64 = h1 by omega]
  have := Nat.div_le_self h1 (2 ^ (k - 64))
  refine ⟨by omega, by omega, by omega⟩

theorem shl_min (x i : Nat) : (x <<< i) % 2 ^ 64 = (x <<< (min i 64)) % 2 ^ 64 := by
  by_cases h : i ≤ 64
  · rw [Nat.min_eq_left h]
  · rw [Nat.min_eq_right (by omega), Nat.shiftLeft_eq, Nat.shiftLeft_eq, Nat.mul_mod_left, show 2 ^ i = 2 ^ (i - 64) * 2 ^ 64 by rw [← Nat.pow_add]; congr 1; omega, ← Nat.mul_assoc, Nat.mul_mod_left]
theorem shr_min (x i : Nat) (hx : x ≤ 18446744073709551615) : x >>> i = x >>> (min i 64) := by
  by_cases h : i ≤ 64
  · rw [Nat.min_eq_left h]
  · have h1 : 2 ^ 64 ≤ 2 ^ i := Nat.pow_le_pow_right (by decide) (by omega)
    rw [Nat.min_eq_right (by omega), Nat.shiftRight_eq_div_pow, Nat.shiftRight_eq_div_pow, Nat.div_eq_of_lt (by omega), Nat.div_eq_of_lt (by omega)]
theorem Tw.one {n h l h' l' : Nat} (a : Tw n h l) (b : Tw n h' l') : h = h' ∧ l = l' := by
  obtain ⟨e, a1, a2⟩ := a
  obtain ⟨e', b1, b2⟩ := b
  omega
set_option maxHeartbeats 1000000 in
theorem up_any {a h1 l1 h l : Nat} (k : Nat) (hk : k ≤ 9223372036854775807) (ha : Tw a h1 l1) (hs : Tw ((a * 2 ^ k) % 340282366920938463463374607431768211456) h l) (w : World) :
    Calls Tryz.prog 105 #[.agg #[.int .u64 h1, .int .u64 l1], .int .i64 k] w fun e w' => e = .returned (.agg #[.int .u64 h, .int .u64 l]) ∧ Below w.heap.size w w' := by
  refine cps fun Q hQ => ?_
  obtain ⟨ea, hh, hl⟩ := ha
  rw [ea] at hs
  by_cases h64 : 64 ≤ k
  · obtain ⟨e1, e2⟩ := hs.one (up_far h1 l1 k h64)
    obtain ⟨i, rfl⟩ : ∃ i, k = 64 + i := ⟨k - 64, by omega⟩
    rw [show 64 + i - 64 = i by omega] at e1
    have hv := wrapShl l1 (min i 64)
    rw [← shl_min, ← e1] at hv
    subst e2
    have hki : ((64 + i : Nat) : Int) - 64 = i := by omega
    clear hs e1 ea
    have hk64 : (64 : Int) ≤ ((64 + i : Nat) : Int) := by omega
    generalize ((64 + i : Nat) : Int) = K at *
    go_enter Tryz.func105, Tryz.ntmps105
    go_wp2
    refine bodyPost_ret (v := .agg #[.int .u64 h, .int .u64 0]) (by simp [results, Tryz.results105, go_sem]) rfl (hQ.out _ _ ⟨rfl, ?_⟩)
    exact bmore (bmore (Below.refl _ _) _) _
  · obtain ⟨e1, e2⟩ := hs.one (up_near h1 l1 k hh hl (by omega))
    have v1 := wrapShl h1 k
    have v2 := wrapShl l1 k
    have v3 := shrN l1 (64 - k)
    have v4 := u64_or_nat ((h1 <<< k) % 2 ^ 64) (l1 >>> (64 - k)) (Nat.mod_lt _ (by decide)) (Nat.lt_of_le_of_lt (Nat.shiftRight_le _ _) (by omega))
    rw [← e1] at v4
    rw [← e2] at v2
    have hk1 : k < 64 := by omega
    have hq : (64 : Int) - k = ((64 - k : Nat) : Int) := by omega
    clear hs e1 e2 ea h64
    generalize 64 - k = j at *
    generalize l1 >>> j = x at *
    generalize h1 <<< k % 2 ^ 64 = y at *
    go_enter Tryz.func105, Tryz.ntmps105
    go_wp2
    go_region
    all_goals
      go_wp2
      refine bodyPost_ret (v := .agg #[.int .u64 h, .int .u64 l]) (by simp [results, Tryz.results105, go_sem]) rfl (hQ.out _ _ ⟨rfl, ?_⟩)
      exact (bmore (bmore (Below.refl _ _) _) _).drew
set_option maxHeartbeats 1000000 in
theorem down_any {a h1 l1 h l : Nat} (k : Nat) (hk : k ≤ 9223372036854775807) (ha : Tw a h1 l1) (hs : Tw (a / 2 ^ k) h l) (w : World) :
    Calls Tryz.prog 106 #[.agg #[.int .u64 h1, .int .u64 l1], .int .i64 k] w fun e w' => e = .returned (.agg #[.int .u64 h, .int .u64 l]) ∧ Below w.heap.size w w' := by
  refine cps fun Q hQ => ?_
  obtain ⟨ea, hh, hl⟩ := ha
  rw [ea] at hs
  by_cases h64 : 64 ≤ k
  · obtain ⟨e1, e2⟩ := hs.one (down_far h1 l1 k hh hl h64)
    obtain ⟨i, rfl⟩ : ∃ i, k = 64 + i := ⟨k - 64, by omega⟩
    rw [show 64 + i - 64 = i by omega] at e2
    have hv := shrN h1 (min i 64)
    rw [← shr_min _ _ hh, ← e2] at hv
    subst e1
    have hki : ((64 + i : Nat) : Int) - 64 = i := by omega
    clear hs e2 ea
    have hk64 : (64 : Int) ≤ ((64 + i : Nat) : Int) := by omega
    generalize ((64 + i : Nat) : Int) = K at *
    go_enter Tryz.func106, Tryz.ntmps106
    go_wp2
    refine bodyPost_ret (v := .agg #[.int .u64 0, .int .u64 l]) (by simp [results, Tryz.results106, go_sem]) rfl (hQ.out _ _ ⟨rfl, ?_⟩)
    exact bmore (bmore (Below.refl _ _) _) _
  · obtain ⟨e1, e2⟩ := hs.one (down_near h1 l1 k hh hl (by omega))
    have v1 := shrN h1 k
    have v2 := shrN l1 k
    have v3 := wrapShl h1 (64 - k)
    have v4 := u64_or_nat (l1 >>> k) ((h1 <<< (64 - k)) % 2 ^ 64) (Nat.lt_of_le_of_lt (Nat.shiftRight_le _ _) (by omega)) (Nat.mod_lt _ (by decide))
    rw [← e2] at v4
    rw [← e1] at v1
    have hk1 : k < 64 := by omega
    have hq : (64 : Int) - k = ((64 - k : Nat) : Int) := by omega
    clear hs e1 e2 ea h64
    generalize 64 - k = j at *
    generalize l1 >>> k = x at *
    generalize h1 <<< j % 2 ^ 64 = y at *
    go_enter Tryz.func106, Tryz.ntmps106
    go_wp2
    go_region
    all_goals
      go_wp2
      refine bodyPost_ret (v := .agg #[.int .u64 h, .int .u64 l]) (by simp [results, Tryz.results106, go_sem]) rfl (hQ.out _ _ ⟨rfl, ?_⟩)
      exact (bmore (bmore (Below.refl _ _) _) _).drew
end Go.Proofs.YtheliihkkoohnabGreat

namespace Go.Proofs.YtheliihkkoohnabGreat
set_option maxRecDepth 100000
open Go.ChangeShapes Go.WideShapes Go.ChangeAt Go.RowKit
set_option linter.unusedVariables false

set_option maxHeartbeats 1000000 in
theorem tshl_any {a h1 l1 h l : Nat} {c : Bool} (k : Nat) (hk : k ≤ 9223372036854775807) (ha : Tw a h1 l1) (hs : Tw ((a * 2 ^ k) % 340282366920938463463374607431768211456) h l) (hc : c = decide (340282366920938463463374607431768211456 ≤ a * 2 ^ k)) (w : World) :
    Calls Tryz.prog 96 #[.agg #[.int .u64 h1, .int .u64 l1], .int .i64 k] w fun e w' => e = .returned (.tuple #[.agg #[.int .u64 h, .int .u64 l], .bool c, .nilIface]) ∧ Below w.heap.size w w' := by
  refine cps fun Q hQ => ?_
  have k1 := fun w => up_any k hk ha hs w
  obtain ⟨T, hT⟩ : ∃ T, T = (a * 2 ^ k) % 340282366920938463463374607431768211456 / 2 ^ k := ⟨_, rfl⟩
  have hTlt : T < 340282366920938463463374607431768211456 := by rw [hT]; exact Nat.lt_of_le_of_lt (Nat.div_le_self _ _) (Nat.mod_lt _ (by decide))
  have hq : (!decide (T = a)) = decide (340282366920938463463374607431768211456 ≤ a * 2 ^ k) := by
    have hp : 0 < 2 ^ k := Nat.pow_pos (by decide)
    by_cases h0 : 340282366920938463463374607431768211456 ≤ a * 2 ^ k
    · have : T ≠ a := by
        intro h1
        rw [hT] at h1
        have h2 := Nat.div_mul_le_self ((a * 2 ^ k) % 340282366920938463463374607431768211456) (2 ^ k)
        rw [h1] at h2
        have h3 := Nat.mod_lt (a * 2 ^ k) (show 0 < 340282366920938463463374607431768211456 by decide)
        omega
      simp [this, h0]
    · have : T = a := by rw [hT, Nat.mod_eq_of_lt (by omega), Nat.mul_div_cancel _ hp]
      simp [this, h0]
  obtain ⟨h3, l3, ht⟩ : ∃ h3 l3, Tw T h3 l3 := ⟨T / 18446744073709551616, T % 18446744073709551616, by omega, by omega, by omega⟩
  have hTT : Tw ((a * 2 ^ k) % 340282366920938463463374607431768211456 / 2 ^ k) h3 l3 := hT ▸ ht
  have k2 := fun w => down_any k hk hs hTT w
  have hc2 : c = !(decide (h3 = h1) && decide (l3 = l1)) := by
    rw [hc, ← hq]
    by_cases hh : h3 = h1 ∧ l3 = l1
    · rw [hh.1, hh.2] at ht ⊢
      simp
      have := ht.eq.trans ha.eq.symm
      exact this
    · have : ¬ T = a := fun h => hh (by rw [h] at ht; exact ht.one ha)
      rw [decide_eq_false this]
      by_cases h5 : h3 = h1
      · have : l3 ≠ l1 := fun h6 => hh ⟨h5, h6⟩
        simp [this]
      · simp [h5]
  have hcase : (h1 = h3 ∧ l1 = l3 ∧ c = false) ∨ (h1 = h3 ∧ ¬ (l3 : Int) = l1 ∧ c = true) ∨ (¬ (h3 : Int) = h1 ∧ c = true) := by
    by_cases g1 : h3 = h1
    · by_cases g2 : l3 = l1
      · exact .inl ⟨g1.symm, g2.symm, by rw [hc2]; simp [g1, g2]⟩
      · exact .inr (.inl ⟨g1.symm, by omega, by rw [hc2]; simp [g2]⟩)
    · exact .inr (.inr ⟨by omega, by rw [hc2]; simp [g1]⟩)
  clear hc hc2 ht hs ha hq hTT hT hTlt
  rcases hcase with ⟨rfl, rfl, rfl⟩ | ⟨rfl, g2, rfl⟩ | ⟨g1, rfl⟩
  all_goals
    go_enter Tryz.func96, Tryz.ntmps96
    go_wp2_with (go_at_call 105; refine (k1 _).mono ?_; rintro e w1 ⟨rfl, hb1⟩; obtain ⟨hc1, hf1⟩ := bcell hb1; have hz : w.heap.size + 1 < w1.heap.size := by have := hb1.size; simp at this; omega)
    have hz0 : w.heap.size < w1.heap.size := by omega
    refine wpC_region (fun W => W.cell? ⟨w.heap.size, 0, none⟩ = some (.int .u64 h1) ∧ W.cell? ⟨w.heap.size, 1, none⟩ = some (.int .u64 l1) ∧ W.cell? ⟨w1.heap.size, 0, none⟩ = some (.int .u64 h) ∧ W.cell? ⟨w1.heap.size, 1, none⟩ = some (.int .u64 l)) (by kernel_rfl) ?_
    refine wpC_take 0 (v := ?_) rfl (by kernel_rfl) (fun _ _ _ h => h) (by kernel_rfl) ?_ ?_; rotate_left; · (intro wC hC; obtain ⟨c1, c2, c3, c4⟩ := hC; go_simp <;> with_reducible rfl)
    refine wpC_take 1 (v := ?_) rfl (by kernel_rfl) (fun _ _ _ h => h) (by kernel_rfl) ?_ ?_; rotate_left; · (intro wC hC; obtain ⟨c1, c2, c3, c4⟩ := hC; go_simp <;> with_reducible rfl)
    refine wpC_take 2 (v := ?_) rfl (by kernel_rfl) (fun _ _ _ h => h) (by kernel_rfl) ?_ ?_; rotate_left; · (intro wC hC; obtain ⟨c1, c2, c3, c4⟩ := hC; go_simp <;> with_reducible rfl)
    refine wpC_take 4 (v := ?_) rfl (by kernel_rfl) (fun _ _ _ h => h) (by kernel_rfl) ?_ ?_; rotate_left; · (intro wC hC; obtain ⟨c1, c2, c3, c4⟩ := hC; go_simp <;> with_reducible rfl)
    refine wpC_step 3 rfl (by kernel_rfl) (by kernel_rfl) (by simp [go_sem, hc1, hz0]) (fun K hK => ?_)
    go_simp
    go_wp2_with ((go_at_call 106; refine (k2 _).mono ?_; rintro e w2 ⟨rfl, hb2⟩; obtain ⟨hc2, hf2⟩ := bcell hb2; have hz2 : w1.heap.size < w2.heap.size := by have := hb2.size; simp at this; omega))
    try (refine hK _ _ ?_; clear hK K)
    refine wpC_take 5 (v := ?_) rfl (by kernel_rfl) (fun _ _ _ h => h) (by kernel_rfl) ?_ ?_; rotate_left; · (intro wC hC; obtain ⟨c1, c2, c3, c4⟩ := hC; go_simp <;> with_reducible rfl)
    refine wpC_step 6 rfl (by kernel_rfl) (by kernel_rfl) (by simp [go_sem, hc1, hc2, hz0]) (fun K hK => ?_)
    go_simp
    try (refine hK _ _ ?_; clear hK K)
    refine wpC_step 7 rfl (by kernel_rfl) (by kernel_rfl) (by simp [go_sem, hc1, hc2, hz0]) (fun K hK => ?_)
    go_simp
    try (refine hK _ _ ?_; clear hK K)
    refine wpC_step 8 rfl (by kernel_rfl) (by kernel_rfl) (by simp [go_sem, hc1, hc2, hz0]) (fun K hK => ?_)
    go_simp
    try (refine hK _ _ ?_; clear hK K)
    refine wpC_done (by kernel_rfl) (by simp [go_sem, hc1, hc2, hz0]) ?_
    go_wp2
    refine bodyPost_ret (v := .tuple #[.agg #[.int .u64 h, .int .u64 l], .bool _, .nilIface]) (by simp [results, Tryz.results96, go_sem, hc1, hc2, hz, hz0]) rfl (hQ.out _ _ ⟨rfl, ?_⟩)
    exact bset (bset (bthen (bdrew (bmore (bthen (bmore (bmore (Below.refl _ _) _) _) hb1) _)) hb2) (by omega) _ _) (by omega) _ _

set_option maxHeartbeats 1000000 in
theorem tshr_any {a h1 l1 h l : Nat} {c : Bool} (k : Nat) (hk : k ≤ 9223372036854775807) (ha : Tw a h1 l1) (hs : Tw (a / 2 ^ k) h l) (hc : c = decide (a % 2 ^ k ≠ 0)) (w : World) :
    Calls Tryz.prog 80 #[.agg #[.int .u64 h1, .int .u64 l1], .int .i64 k] w fun e w' => e = .returned (.tuple #[.agg #[.int .u64 h, .int .u64 l], .bool c, .nilIface]) ∧ Below w.heap.size w w' := by
  refine cps fun Q hQ => ?_
  have k1 := fun w => down_any k hk ha hs w
  obtain ⟨T, hT⟩ : ∃ T, T = (a / 2 ^ k * 2 ^ k) % 340282366920938463463374607431768211456 := ⟨_, rfl⟩
  have hTlt : T < 340282366920938463463374607431768211456 := by rw [hT]; exact Nat.mod_lt _ (by decide)
  have hq : (!decide (T = a)) = decide (a % 2 ^ k ≠ 0) := by
    have h1 := Nat.div_add_mod a (2 ^ k)
    have h2 := ha.lt
    rw [Nat.mul_comm] at h1
    have h3 : T = a / 2 ^ k * 2 ^ k := by rw [hT, Nat.mod_eq_of_lt (by omega)]
    rw [← h3] at h1
    by_cases h0 : a % 2 ^ k = 0
    · have : T = a := by omega
      simp [this, h0]
    · have : T ≠ a := by omega
      simp [this, h0]
  obtain ⟨h3, l3, ht⟩ : ∃ h3 l3, Tw T h3 l3 := ⟨T / 18446744073709551616, T % 18446744073709551616, by omega, by omega, by omega⟩
  have hTT : Tw ((a / 2 ^ k * 2 ^ k) % 340282366920938463463374607431768211456) h3 l3 := hT ▸ ht
  have k2 := fun w => up_any k hk hs hTT w
  have hc2 : c = !(decide (h3 = h1) && decide (l3 = l1)) := by
    rw [hc, ← hq]
    by_cases hh : h3 = h1 ∧ l3 = l1
    · rw [hh.1, hh.2] at ht ⊢
      simp
      have := ht.eq.trans ha.eq.symm
      exact this
    · have : ¬ T = a := fun h => hh (by rw [h] at ht; exact ht.one ha)
      rw [decide_eq_false this]
      by_cases h5 : h3 = h1
      · have : l3 ≠ l1 := fun h6 => hh ⟨h5, h6⟩
        simp [this]
      · simp [h5]
  have hcase : (h1 = h3 ∧ l1 = l3 ∧ c = false) ∨ (h1 = h3 ∧ ¬ (l3 : Int) = l1 ∧ c = true) ∨ (¬ (h3 : Int) = h1 ∧ c = true) := by
    by_cases g1 : h3 = h1
    · by_cases g2 : l3 = l1
      · exact .inl ⟨g1.symm, g2.symm, by rw [hc2]; simp [g1, g2]⟩
      · exact .inr (.inl ⟨g1.symm, by omega, by rw [hc2]; simp [g2]⟩)
    · exact .inr (.inr ⟨by omega, by rw [hc2]; simp [g1]⟩)
  clear hc hc2 ht hs ha hq hTT hT hTlt
  rcases hcase with ⟨rfl, rfl, rfl⟩ | ⟨rfl, g2, rfl⟩ | ⟨g1, rfl⟩
  all_goals
    go_enter Tryz.func80, Tryz.ntmps80
    go_wp2_with (go_at_call 106; refine (k1 _).mono ?_; rintro e w1 ⟨rfl, hb1⟩; obtain ⟨hc1, hf1⟩ := bcell hb1; have hz : w.heap.size + 1 < w1.heap.size := by have := hb1.size; simp at this; omega)
    have hz0 : w.heap.size < w1.heap.size := by omega
    refine wpC_region (fun W => W.cell? ⟨w.heap.size, 0, none⟩ = some (.int .u64 h1) ∧ W.cell? ⟨w.heap.size, 1, none⟩ = some (.int .u64 l1) ∧ W.cell? ⟨w1.heap.size, 0, none⟩ = some (.int .u64 h) ∧ W.cell? ⟨w1.heap.size, 1, none⟩ = some (.int .u64 l)) (by kernel_rfl) ?_
    refine wpC_take 0 (v := ?_) rfl (by kernel_rfl) (fun _ _ _ h => h) (by kernel_rfl) ?_ ?_; rotate_left; · (intro wC hC; obtain ⟨c1, c2, c3, c4⟩ := hC; go_simp <;> with_reducible rfl)
    refine wpC_take 1 (v := ?_) rfl (by kernel_rfl) (fun _ _ _ h => h) (by kernel_rfl) ?_ ?_; rotate_left; · (intro wC hC; obtain ⟨c1, c2, c3, c4⟩ := hC; go_simp <;> with_reducible rfl)
    refine wpC_take 2 (v := ?_) rfl (by kernel_rfl) (fun _ _ _ h => h) (by kernel_rfl) ?_ ?_; rotate_left; · (intro wC hC; obtain ⟨c1, c2, c3, c4⟩ := hC; go_simp <;> with_reducible rfl)
    refine wpC_take 4 (v := ?_) rfl (by kernel_rfl) (fun _ _ _ h => h) (by kernel_rfl) ?_ ?_; rotate_left; · (intro wC hC; obtain ⟨c1, c2, c3, c4⟩ := hC; go_simp <;> with_reducible rfl)
    refine wpC_step 3 rfl (by kernel_rfl) (by kernel_rfl) (by simp [go_sem, hc1, hz0]) (fun K hK => ?_)
    go_simp
    go_wp2_with ((go_at_call 105; refine (k2 _).mono ?_; rintro e w2 ⟨rfl, hb2⟩; obtain ⟨hc2, hf2⟩ := bcell hb2; have hz2 : w1.heap.size < w2.heap.size := by have := hb2.size; simp at this; omega))
    try (refine hK _ _ ?_; clear hK K)
    refine wpC_take 5 (v := ?_) rfl (by kernel_rfl) (fun _ _ _ h => h) (by kernel_rfl) ?_ ?_; rotate_left; · (intro wC hC; obtain ⟨c1, c2, c3, c4⟩ := hC; go_simp <;> with_reducible rfl)
    refine wpC_step 6 rfl (by kernel_rfl) (by kernel_rfl) (by simp [go_sem, hc1, hc2, hz0]) (fun K hK => ?_)
    go_simp
    try (refine hK _ _ ?_; clear hK K)
    refine wpC_step 7 rfl (by kernel_rfl) (by kernel_rfl) (by simp [go_sem, hc1, hc2, hz0]) (fun K hK => ?_)
    go_simp
    try (refine hK _ _ ?_; clear hK K)
    refine wpC_step 8 rfl (by kernel_rfl) (by kernel_rfl) (by simp [go_sem, hc1, hc2, hz0]) (fun K hK => ?_)
    go_simp
    try (refine hK _ _ ?_; clear hK K)
    refine wpC_done (by kernel_rfl) (by simp [go_sem, hc1, hc2, hz0]) ?_
    go_wp2
    refine bodyPost_ret (v := .tuple #[.agg #[.int .u64 h, .int .u64 l], .bool _, .nilIface]) (by simp [results, Tryz.results80, go_sem, hc1, hc2, hz, hz0]) rfl (hQ.out _ _ ⟨rfl, ?_⟩)
    exact bset (bset (bthen (bdrew (bmore (bthen (bmore (bmore (Below.refl _ _) _) _) hb1) _)) hb2) (by omega) _ _) (by omega) _ _
end Go.Proofs.YtheliihkkoohnabGreat

namespace Go.Proofs.YtheliihkkoohnabGreat
open Go.ChangeShapes Go.WideShapes Go.ChangeAt Go.RowKit
set_option linter.unusedVariables false
set_option maxRecDepth 100000

/-- what the lowest k digits are -/
def lo (a k : Nat) : Nat := val (low a k)
theorem lo_zero (a : Nat) : lo a 0 = 0 := rfl
theorem lo_succ (a k : Nat) : lo a (k + 1) = lo a k + 16777216 ^ k * (top a k % 16777216) := by
  unfold lo; rw [low_snoc, val_append, low_length]; simp [val]
theorem lo_all (a : Nat) : lo a (dlen a) = a := by unfold lo; rw [low_dlen, val_dig]
theorem val_set (l : List Nat) (j d : Nat) (h : j < l.length) : val (l.set j d) + 16777216 ^ j * l.getD j 0 = val l + 16777216 ^ j * d := by
  induction l generalizing j with
  | nil => simp at h
  | cons x l ih =>
    cases j with
    | zero => simp [val_cons]; omega
    | succ j =>
      have := ih j (by simpa using h)
      simp only [List.set_cons_succ, val_cons, List.getD_cons_succ, Nat.pow_succ]
      have e1 : 16777216 ^ j * 16777216 * l.getD j 0 = 16777216 * (16777216 ^ j * l.getD j 0) := by rw [Nat.mul_comm (16777216 ^ j) 16777216, Nat.mul_assoc]
      have e2 : 16777216 ^ j * 16777216 * d = 16777216 * (16777216 ^ j * d) := by rw [Nat.mul_comm (16777216 ^ j) 16777216, Nat.mul_assoc]
      rw [e1, e2]; omega
theorem val_zeros (n : Nat) : val (List.replicate n 0) = 0 := by
  induction n with
  | zero => rfl
  | succ n ih => rw [List.replicate_succ, val_cons, ih]
theorem getD_set (l : List Nat) (j d i : Nat) (h : j < l.length) : (l.set j d).getD i 0 = if j = i then d else l.getD i 0 := by
  rw [List.getD_eq_getElem?_getD, List.getElem?_set]
  by_cases e : j = i
  · subst e; simp [h]
  · simp [e]
theorem mul_step {V V' O c t P p R : Nat} (h1 : V + P * c = R) (h2 : V' + P * O = V + P * (t % 16777216)) (ht : t = O + p + c) : V' + P * 16777216 * (t / 16777216) = R + P * p := by
  have e1 : P * t = P * 16777216 * (t / 16777216) + P * (t % 16777216) := by
    conv => lhs; rw [← Nat.div_add_mod t 16777216]
    rw [Nat.mul_add, Nat.mul_assoc]
  have e2 : P * t = P * O + P * p + P * c := by rw [ht, Nat.mul_add, Nat.mul_add]
  omega
/-- the row of a product under way -/
structure MulAt (a b i k c : Nat) (O : List Nat) : Prop where
  len : O.length = dlen a + dlen b
  digs : ∀ d ∈ O, d < 16777216
  sum : val O + 16777216 ^ (i + k) * c = lo a i * b + 16777216 ^ i * ((top a i % 16777216) * lo b k)
  up : ∀ j, i + dlen b ≤ j → O.getD j 0 = 0
theorem MulAt.start (a b : Nat) : MulAt a b 0 0 0 (List.replicate (dlen a + dlen b) 0) :=
  ⟨by simp, by simp, by rw [val_zeros, lo_zero, lo_zero]; simp, fun j _ => by rw [List.getD_eq_getElem?_getD, List.getElem?_replicate]; split <;> rfl⟩
theorem MulAt.step {a b i k c x t : Nat} {O : List Nat} (h : MulAt a b i k c O) (hi : i < dlen a) (hk : k < dlen b) (hx : x = O.getD (i + k) 0) (ht : t = x + (top a i % 16777216) * (top b k % 16777216) + c) :
    MulAt a b i (k + 1) (t / 16777216) (O.set (i + k) (t % 16777216)) := by
  have hl := h.len
  refine ⟨by simp [hl], ?_, ?_, ?_⟩
  · intro d hd
    rcases List.mem_or_eq_of_mem_set hd with h1 | h1
    · exact h.digs d h1
    · omega
  · have h2 := val_set O (i + k) (t % 16777216) (by omega)
    rw [← hx] at h2
    have h3 := mul_step h.sum h2 ht
    rw [show i + (k + 1) = (i + k) + 1 by omega, Nat.pow_succ, h3, lo_succ, Nat.mul_add, Nat.mul_add, Nat.add_assoc, Nat.pow_add, Nat.mul_assoc, Nat.mul_left_comm (top a i % 16777216)]
  · intro j hj
    rw [getD_set _ _ _ _ (by omega), if_neg (by omega)]
    exact h.up j hj
theorem MulAt.next {a b i c : Nat} {O : List Nat} (h : MulAt a b i (dlen b) c O) (hi : i < dlen a) (hc : c < 16777216) : MulAt a b (i + 1) 0 0 (O.set (i + dlen b) c) := by
  have hl := h.len
  refine ⟨by simp [hl], ?_, ?_, ?_⟩
  · intro d hd
    rcases List.mem_or_eq_of_mem_set hd with h1 | h1
    · exact h.digs d h1
    · omega
  · have h2 := val_set O (i + dlen b) c (by omega)
    rw [h.up _ (Nat.le_refl _), Nat.mul_zero, Nat.add_zero, h.sum, lo_all] at h2
    rw [h2, lo_zero, lo_succ, Nat.mul_zero, Nat.mul_zero, Nat.mul_zero, Nat.add_zero, Nat.add_zero, Nat.add_mul, Nat.mul_assoc]
  · intro j hj
    rw [getD_set _ _ _ _ (by omega), if_neg (by omega)]
    exact h.up j (by omega)
theorem MulAt.done {a b : Nat} {O : List Nat} (h : MulAt a b (dlen a) 0 0 O) : ∃ z, O = dig (a * b) ++ List.replicate z 0 := by
  have hs := h.sum
  rw [lo_zero, lo_all, Nat.mul_zero, Nat.mul_zero, Nat.mul_zero, Nat.add_zero, Nat.add_zero] at hs
  have hv := val_low O h.digs
  have hlt := val_lt O h.digs
  rw [hs] at hv hlt
  exact ⟨_, by rw [← low_ge (dlen_le_of_lt hlt), hv]⟩

set_option maxHeartbeats 4000000 in
theorem nmul_any (va vb : Value) (a b : Nat) (hA : dlen a ≤ 1099511627776) (hB : dlen b ≤ 1099511627776) (w : World) (ha : Row w va (dig a)) (hb : Row w vb (dig b)) :
    Calls Tryz.prog 45 #[va, vb] w fun e w' => ∃ v, e = .returned v ∧ Row w' v (dig (a * b)) ∧ Below w.heap.size w w' := by
  refine cps fun Q hQ => ?_
  obtain ⟨aa, ca, rfl, h1, h2, hra⟩ := ha.reads
  obtain ⟨ab, cb, rfl, h3, h4, hrb⟩ := hb.reads
  obtain ⟨i0, hi, hz0, hz1, hz2⟩ := info_parts infoInt
  clear ha hb
  have za := @dlen_eq_zero a
  have zb := @dlen_eq_zero b
  by_cases h0 : dlen a = 0 ∨ dlen b = 0
  · have hn : a * b = 0 := by
      rcases h0 with h | h
      · rw [za.1 h, Nat.zero_mul]
      · rw [zb.1 h, Nat.mul_zero]
    have HQ : Hid _ := hQ.out _ w ⟨.slice none 0 0, rfl, by rw [hn, dig_zero]; exact row_nil w, Below.refl _ _⟩
    have h0' : dlen a = 0 ∨ (dlen a ≠ 0 ∧ dlen b = 0) := by omega
    clear za zb hra hrb hn h0
    rcases h0' with h | ⟨h, h'⟩
    · go_enter Tryz.func45, Tryz.ntmps45
      go_wp2
      exact HQ.out
    · go_enter Tryz.func45, Tryz.ntmps45
      go_wp2
      exact HQ.out
  · have hna : 0 < dlen a := by omega
    have hnb : 0 < dlen b := by omega
    obtain ⟨ba, oa, rfl, hba, hra⟩ := hra.resolve_left (by omega)
    obtain ⟨bb, ob, rfl, hbb, hrb⟩ := hrb.resolve_left (by omega)
    clear za zb h0
    have ea : ((dlen a : Int) == 0) = false := by simp; omega
    have eb : ((dlen b : Int) == 0) = false := by simp; omega
    go_enter Tryz.func45, Tryz.ntmps45
    go_wp2_with (at_make; go_must (refine wpList_make_full _ rfl _ _ 34 rfl w.heap.size 3 i0 (.int .i64 0) 1 Tryz.underlying34 hi hz0 hz1 .i64 .i64 _ _ (dlen a + dlen b) rfl rfl (by omega) (by omega) (by rw [hz2]; omega) (by unfold maxLen; omega) (Nat.le_refl _) ?_); intro w1 hown hg)
    rw [made_ints] at hown
    have hb0 := (Below.refl w.heap.size w).grown hg (Nat.le_refl _) (fun k hk => by cases hk)
    have hs0 : w.heap.size < w1.heap.size := by have := hown.lt w.heap.size rfl; omega
    clear hg hi hz0 hz1 hz2 ea eb
    go_loopw [6] (fun iv wr => ∃ (i : Nat) (O : List Nat), i ≤ dlen a ∧ iv = .int .i64 i ∧ MulAt a b i 0 0 O ∧ wr.ownsRow w.heap.size 3 1 (.slice (some ⟨w.heap.size, 0, none⟩) (dlen a + dlen b) (dlen a + dlen b)) (dlen a + dlen b) (O.map enc) ∧ Below w.heap.size w wr) (fun iv _ => dlen a - (intOf iv).toNat)
    case atStart => exact ⟨0, _, Nat.zero_le _, rfl, MulAt.start a b, hown, hb0⟩
    case round =>
      obtain ⟨i, O, hi, rfl, hP, hown, hbel⟩ := hrel
      by_cases hlt : i < dlen a
      · clear hb0
        go_wp2
        go_loopw [7, 8] (fun cv kv wr => ∃ (k c : Nat) (O : List Nat), k ≤ dlen b ∧ c ≤ 16777215 ∧ kv = .int .i64 k ∧ cv = .int .i64 c ∧ MulAt a b i k c O ∧ wr.ownsRow w.heap.size 3 1 (.slice (some ⟨w.heap.size, 0, none⟩) (dlen a + dlen b) (dlen a + dlen b)) (dlen a + dlen b) (O.map enc) ∧ Below w.heap.size w wr) (fun _ kv _ => dlen b - (intOf kv).toNat)
        case atStart => exact ⟨0, 0, O, Nat.zero_le _, by decide, rfl, rfl, hP, hown, hbel⟩
        case round =>
          rename_i wr0
          clear hown hbel hP
          obtain ⟨k, c, O, hk, hc, rfl, rfl, hP, hown, hbel⟩ := hrel
          by_cases hlk : k < dlen b
          · have c1 := (hbel.cell (p := ⟨ba, oa + i, none⟩) hba).trans (hra i hlt)
            have c2 := (hbel.cell (p := ⟨bb, ob + k, none⟩) hbb).trans (hrb k hlk)
            have hl := hP.len
            have c3 := hown.cellAt (i + k) (by omega)
            have c3' : wr.cell? ⟨w.heap.size, i + k, none⟩ = some (.int .i64 (O.getD (i + k) 0 : Nat)) := by
              rw [c3, List.getElem?_map, List.getD_eq_getElem?_getD, List.getElem?_eq_getElem (by omega)]; rfl
            have hf := hown.frozenAt (i + k)
            obtain ⟨x, hx⟩ : ∃ x, x = O.getD (i + k) 0 := ⟨_, rfl⟩
            have hx1 : x < 16777216 := by
              rw [hx, List.getD_eq_getElem?_getD, List.getElem?_eq_getElem (by omega)]
              exact hP.digs _ (List.getElem_mem _)
            obtain ⟨p, hp⟩ : ∃ p, p = (top a i % 16777216) * (top b k % 16777216) := ⟨_, rfl⟩
            have hp1 : p ≤ 16777215 * 16777215 := by rw [hp]; exact Nat.mul_le_mul (by omega) (by omega)
            obtain ⟨A, hA'⟩ : ∃ A, A = top a i % 16777216 := ⟨_, rfl⟩
            obtain ⟨C, hC'⟩ : ∃ C, C = top b k % 16777216 := ⟨_, rfl⟩
            rw [← hA'] at c1
            rw [← hC'] at c2
            rw [← hx] at c3'
            have hpi : (A : Int) * (C : Int) = (p : Int) := by rw [hp, hA', hC']; simp
            have hst : ∀ q, ((wr.drewN q).setCell ⟨w.heap.size, i + k, none⟩ (enc ((x + p + c) % 16777216))).ownsRow w.heap.size 3 1 (.slice (some ⟨w.heap.size, 0, none⟩) (dlen a + dlen b) (dlen a + dlen b)) (dlen a + dlen b) ((O.set (i + k) ((x + p + c) % 16777216)).map enc) := fun q => by
              rw [List.map_set]; exact ((owns_drewN hown q).stored (i + k) (enc ((x + p + c) % 16777216))).1
            have hP2 := hP.step (t := x + p + c) hlt hlk hx (by rw [hp])
            have Hst : Hid _ := hst
            have HP2 : Hid _ := hP2
            have hA2 : A ≤ 16777215 := by omega
            have hC2 : C ≤ 16777215 := by omega
            clear hst hP2 c3 hl hx hp hA' hC' hown hP hra hrb
            go_wp2
            go_quiet (fail)
            go_wp2
            go_roundw
            case rel =>
              refine ⟨k + 1, (x + p + c) / 16777216, _, by omega, by omega, by go_num, by go_num, HP2.out, ?_⟩
              have ev : ((x : Int) + p + c) % 16777216 = (((x + p + c) % 16777216 : Nat) : Int) := by omega
              rw [ev]
              exact ⟨Hst.out _, (below_drewN hbel _).setCell (Nat.le_refl _) _⟩
            case measure => simp [intOf]; omega
          · have e : k = dlen b := by omega
            subst e
            have hl := hP.len
            have c3 := hown.cellAt (i + dlen b) (by omega)
            have c3' : wr.cell? ⟨w.heap.size, i + dlen b, none⟩ = some (.int .i64 (O.getD (i + dlen b) 0 : Nat)) := by
              rw [c3, List.getElem?_map, List.getD_eq_getElem?_getD, List.getElem?_eq_getElem (by omega)]; rfl
            have hf := hown.frozenAt (i + dlen b)
            have hst := hown.stored (i + dlen b) (enc c)
            rw [← List.map_set] at hst
            have hP2 := hP.next hlt (by omega)
            have Hst : Hid _ := hst
            have HP2 : Hid _ := hP2
            generalize O.getD (i + dlen b) 0 = x at *
            clear hst hP2 c3 hl hown hP hra hrb
            go_wp2
            go_roundw
            case rel => exact ⟨i + 1, _, by omega, by go_num, HP2.out, Hst.out.1, hbel.setCell (Nat.le_refl _) _⟩
            case measure => simp [intOf]; omega
      · have e : i = dlen a := by omega
        subst e
        obtain ⟨z, hz⟩ := hP.done
        have hrw := row_own hown
        have HRW : Hid (Row wr _ _) := hrw
        clear hrw hown hb0 hra hrb
        go_wp2_with (go_at_call 63; refine (cut_any _ _ (a * b) z hz _ HRW.out).mono ?_; rintro e w' ⟨v', rfl, hv, hw⟩; rw [hw]; clear hw w')
        exact hQ.out _ _ ⟨_, rfl, hv, hbel⟩
end Go.Proofs.YtheliihkkoohnabGreat

namespace Go.Proofs.YtheliihkkoohnabGreat
set_option maxRecDepth 100000
open Go.ChangeShapes Go.WideShapes Go.ChangeAt Go.RowKit
set_option linter.unusedVariables false

theorem Row.alloc {w : World} {v : Value} {l : List Nat} (h : Row w v l) (o : Obj) : Row (w.alloc o) v l := h.below (bmore (Below.refl _ _) _)
theorem dlen_small {n : Nat} (h : n < 22300745198530623141535718272648361505980416) : dlen n ≤ 6 := dlen_le_of_lt (by rw [show (16777216 : Nat) ^ 6 = 22300745198530623141535718272648361505980416 by decide]; exact h)

end Go.Proofs.YtheliihkkoohnabGreat

namespace Go.Proofs.YtheliihkkoohnabGreat
set_option maxRecDepth 100000
open Go.ChangeShapes Go.WideShapes Go.ChangeAt Go.RowKit
set_option linter.unusedVariables false

/-! ### shifts -/
end Go.Proofs.YtheliihkkoohnabGreat

namespace Go.Proofs.YtheliihkkoohnabGreat
set_option maxRecDepth 100000
open Go.ChangeShapes Go.WideShapes Go.ChangeAt Go.RowKit
set_option linter.unusedVariables false

theorem tnorm_zero (w : World) :
    Calls Tryz.prog 79 #[.agg #[.int .u64 0, .int .u64 0]] w fun e w' => e = .returned (.tuple #[.agg #[.int .u64 0, .int .u64 0], .int .i64 0]) ∧ Below w.heap.size w w' := by
  refine cps fun Q hQ => ?_
  go_enter Tryz.func79, Tryz.ntmps79
  go_wp2
  refine bodyPost_ret (v := .tuple #[.agg #[.int .u64 0, .int .u64 0], .int .i64 0]) (by simp [results, Tryz.results79, go_sem]) rfl (hQ.out _ _ ⟨rfl, ?_⟩)
  exact bmore (bmore (Below.refl _ _) _) _
set_option maxHeartbeats 1000000 in
theorem tnorm_any {a h1 l1 h l k : Nat} (ha : Tw a h1 l1) (h0 : a ≠ 0) (hk : k + blen a = 128) (hs : Tw ((a * 2 ^ k) % 340282366920938463463374607431768211456) h l) (w : World) :
    Calls Tryz.prog 79 #[.agg #[.int .u64 h1, .int .u64 l1]] w fun e w' => e = .returned (.tuple #[.agg #[.int .u64 h, .int .u64 l], .int .i64 k]) ∧ Below w.heap.size w w' := by
  refine cps fun Q hQ => ?_
  have k1 := fun w => tlen_any ha w
  have k2 := fun w => up_any k (by omega) ha hs w
  have hne : (¬ (h1 : Int) = 0) ∨ (h1 = 0 ∧ ¬ (l1 : Int) = 0) := by have := ha.eq; omega
  clear ha hs h0
  generalize blen a = L at *
  have hkk : (128 : Int) - L = k := by omega
  have hL : L ≤ 128 := by omega
  clear hk
  rcases hne with hne | ⟨rfl, hne⟩
  all_goals
    go_enter Tryz.func79, Tryz.ntmps79
    go_wp2_with (first
      | (go_at_call 104; refine (k1 _).mono ?_; rintro e w1 ⟨rfl, hb1⟩; obtain ⟨hc1, hf1⟩ := bcell hb1)
      | (go_at_call 105; refine (k2 _).mono ?_; rintro e w2 ⟨rfl, hb2⟩; have hb12 := bthen hb1 hb2; obtain ⟨hc2, hf2⟩ := bcell hb12))
    refine bodyPost_ret (v := .tuple #[.agg #[.int .u64 h, .int .u64 l], .int .i64 k]) (by simp [results, Tryz.results79, go_sem, hc2]) rfl (hQ.out _ _ ⟨rfl, ?_⟩)
    exact bset (bset (bthen (bmore (bmore (Below.refl _ _) _) _) hb12) (by omega) _ _) (by omega) _ _
end Go.Proofs.YtheliihkkoohnabGreat

namespace Go.Proofs.YtheliihkkoohnabGreat
set_option maxRecDepth 100000
open Go.ChangeShapes Go.WideShapes Go.ChangeAt Go.RowKit
set_option linter.unusedVariables false

set_option maxHeartbeats 2000000 in
theorem tcmp_any {a b h1 l1 h2 l2 : Nat} (ha : Tw a h1 l1) (hb : Tw b h2 l2) (w : World) :
    Calls Tryz.prog 108 #[.agg #[.int .u64 h1, .int .u64 l1], .agg #[.int .u64 h2, .int .u64 l2]] w fun e w' => e = .returned (.int .i64 (cmpN a b)) ∧ Below w.heap.size w w' := by
  refine cps fun Q hQ => ?_
  rw [← cmp_words ha hb] at hQ
  clear ha hb
  obtain ⟨x, hx⟩ : ∃ x, x = cmpN h1 h2 := ⟨_, rfl⟩
  obtain ⟨y, hy⟩ : ∃ x, x = cmpN l1 l2 := ⟨_, rfl⟩
  have r1 := compare_any h1 h2
  have r2 := compare_any l1 l2
  rw [← hx] at r1 hQ
  rw [← hy] at r2 hQ
  obtain ⟨z, hz⟩ : ∃ z, z = if x = 0 then y else x := ⟨_, rfl⟩
  rw [← hz] at hQ
  have HZ : Hid (z = if x = 0 then y else x) := hz
  clear hx hy hz
  go_enter Tryz.func108, Tryz.ntmps108
  go_wp2
  refine wpC_region (fun W => W.cell? ⟨w.heap.size, 0, none⟩ = some (.int .u64 h1) ∧ W.cell? ⟨w.heap.size, 1, none⟩ = some (.int .u64 l1) ∧ W.cell? ⟨w.heap.size + 1, 0, none⟩ = some (.int .u64 h2) ∧ W.cell? ⟨w.heap.size + 1, 1, none⟩ = some (.int .u64 l2)) (by kernel_rfl) ?_
  refine wpC_take 0 (v := ?_) rfl (by kernel_rfl) (fun _ _ _ h => h) (by kernel_rfl) ?_ ?_; rotate_left; · (intro wC hC; obtain ⟨c1, c2, c3, c4⟩ := hC; go_simp <;> with_reducible rfl)
  refine wpC_take 1 (v := ?_) rfl (by kernel_rfl) (fun _ _ _ h => h) (by kernel_rfl) ?_ ?_; rotate_left; · (intro wC hC; obtain ⟨c1, c2, c3, c4⟩ := hC; go_simp <;> with_reducible rfl)
  refine wpC_take 2 (v := ?_) rfl (by kernel_rfl) (fun _ _ _ h => h) (by kernel_rfl) ?_ ?_; rotate_left; · (intro wC hC; obtain ⟨c1, c2, c3, c4⟩ := hC; go_simp <;> with_reducible rfl)
  refine wpC_take 3 (v := ?_) rfl (by kernel_rfl) (fun _ _ _ h => h) (by kernel_rfl) ?_ ?_; rotate_left; · (intro wC hC; obtain ⟨c1, c2, c3, c4⟩ := hC; go_simp <;> with_reducible rfl)
  refine wpC_take 5 (v := ?_) rfl (by kernel_rfl) (fun _ _ _ h => h) (by kernel_rfl) ?_ ?_; rotate_left; · (intro wC hC; obtain ⟨c1, c2, c3, c4⟩ := hC; go_simp <;> with_reducible rfl)
  refine wpC_take 6 (v := ?_) rfl (by kernel_rfl) (fun _ _ _ h => h) (by kernel_rfl) ?_ ?_; rotate_left; · (intro wC hC; obtain ⟨c1, c2, c3, c4⟩ := hC; go_simp <;> with_reducible rfl)
  refine wpC_take 7 (v := ?_) rfl (by kernel_rfl) (fun _ _ _ h => h) (by kernel_rfl) ?_ ?_; rotate_left; · (intro wC hC; obtain ⟨c1, c2, c3, c4⟩ := hC; go_simp <;> with_reducible rfl)
  refine wpC_take 8 (v := ?_) rfl (by kernel_rfl) (fun _ _ _ h => h) (by kernel_rfl) ?_ ?_; rotate_left; · (intro wC hC; obtain ⟨c1, c2, c3, c4⟩ := hC; go_simp <;> with_reducible rfl)
  refine wpC_step 4 rfl (by kernel_rfl) (by kernel_rfl) (by simp [go_sem]) (fun K hK => ?_)
  go_simp
  go_wp2_with ((go_at_call_of 95 h1; refine (r1 _).mono ?_; rintro e w' ⟨rfl, hw⟩; rw [hw]; clear hw w'))
  try (refine hK _ _ ?_; clear hK K)
  refine wpC_step 9 rfl (by kernel_rfl) (by kernel_rfl) (by simp [go_sem]) (fun K hK => ?_)
  go_simp
  go_wp2_with ((go_at_call_of 95 l1; refine (r2 _).mono ?_; rintro e w' ⟨rfl, hw⟩; rw [hw]; clear hw w'))
  try (refine hK _ _ ?_; clear hK K)
  refine wpC_step 10 rfl (by kernel_rfl) (by kernel_rfl) (by simp [go_sem]) (fun K hK => ?_)
  go_simp
  try (refine hK _ _ ?_; clear hK K)
  refine wpC_step 11 rfl (by kernel_rfl) (by kernel_rfl) (by simp [go_sem]) (fun K hK => ?_)
  go_simp
  go_wp2_with ((go_at_call 93; refine (or_any' x y z HZ.out _ _ (drew_at _ _ _ _ 0 (by simp)) (drew_at _ _ _ _ 1 (by simp))).mono ?_; rintro e w' ⟨rfl, hw⟩; rw [hw]; clear hw w'))
  try (refine hK _ _ ?_; clear hK K)
  refine wpC_step 12 rfl (by kernel_rfl) (by kernel_rfl) (by simp [go_sem]) (fun K hK => ?_)
  go_simp
  try (refine hK _ _ ?_; clear hK K)
  refine wpC_done (by kernel_rfl) (by simp [go_sem]) ?_
  go_wp2
  refine hQ.out _ _ ⟨rfl, ?_⟩
  exact (bmore (bmore (bmore (Below.refl _ _) _) _) _).drew
end Go.Proofs.YtheliihkkoohnabGreat

namespace Go.Proofs.YtheliihkkoohnabGreat
open Go.ChangeShapes Go.WideShapes Go.ChangeAt Go.RowKit
set_option linter.unusedVariables false
set_option linter.unusedSimpArgs false
set_option maxRecDepth 100000

/-! ### sound, row, compare, tail -/
def soundF (k : Int) (neg : Bool) (s : Int) (hi lo : Nat) (rest : Bool) (far : Int) : Bool :=
  if k = 0 ∨ k = 2 then decide (neg = false ∧ s = 0 ∧ hi = 0 ∧ lo = 0 ∧ rest = false) else decide (k = 1 ∧ 9223372036854775808 ≤ hi ∧ -far ≤ s ∧ s ≤ far)
theorem soundF_X (k : Int) (neg : Bool) (s : Int) (hi lo : Nat) (rest : Bool) : soundF k neg s hi lo rest 1099511627776 = soundX k neg s hi lo rest := rfl
theorem soundF_N (k : Int) (neg : Bool) (s : Int) (f : Nat) : soundF k neg s f 0 false 1073741824 = soundN k neg s f := by unfold soundF soundN; simp
set_option maxHeartbeats 1000000 in
theorem rsound_any (k : Int) (neg : Bool) (s : Int) (hi lo : Nat) (rest : Bool) (far : Int) (hh : hi < 2 ^ 64) (hf : 0 ≤ far ∧ far ≤ 1099511627776) (w : World) :
    Calls Tryz.prog 58 #[exV k neg s hi lo rest, .int .i64 far] w fun e w' => e = .returned (.bool (soundF k neg s hi lo rest far)) ∧ Below w.heap.size w w' := by
  have hsh : ((hi : Int) / 9223372036854775808 == 1) = decide (9223372036854775808 ≤ hi) := by
    by_cases h : 9223372036854775808 ≤ hi
    · rw [decide_eq_true h]; exact beq_iff_eq.2 (by omega)
    · rw [decide_eq_false h]; exact beq_eq_false_iff_ne.2 (by omega)
  have hwr : IntKind.i64.wrap (-far) = -far := wrapI (by omega)
  clear hf
  unfold exV soundF
  refine cps fun Q hQ => ?_
  by_cases h0 : k = 0
  · subst h0
    go_enter Tryz.func58, Tryz.ntmps58
    go_wp2
    all_goals exact hQ.out _ _ ⟨ret_b (by simp_all), cmore (Below.refl _ _) _⟩
  · by_cases h2 : k = 2
    · subst h2
      go_enter Tryz.func58, Tryz.ntmps58
      go_wp2
      all_goals exact hQ.out _ _ ⟨ret_b (by simp_all), cmore (Below.refl _ _) _⟩
    · by_cases h1 : k = 1
      · subst h1
        go_enter Tryz.func58, Tryz.ntmps58
        go_wp2
        all_goals exact hQ.out _ _ ⟨ret_b (by simp_all <;> omega), cmore (Below.refl _ _) _⟩
      · have d0 : (k == 0) = false := beq_eq_false_iff_ne.2 h0
        have d1 : (k == 1) = false := beq_eq_false_iff_ne.2 h1
        have d2 : (k == 2) = false := beq_eq_false_iff_ne.2 h2
        have HN : Hid (¬ k = 0 ∧ ¬ k = 1 ∧ ¬ k = 2) := ⟨h0, h1, h2⟩
        clear h0 h1 h2
        go_enter Tryz.func58, Tryz.ntmps58
        go_wp2
        all_goals exact hQ.out _ _ ⟨ret_b (by have := HN.out; simp_all), cmore (Below.refl _ _) _⟩
set_option maxHeartbeats 1000000 in
theorem rrow_any (k : Int) (h1 : -200 ≤ k) (h2 : k ≤ 61) (w : World) :
    Calls Tryz.prog 99 #[.int .i64 k] w fun e w' => e = .returned (.tuple #[.int .u64 (numOf (headK k) : Nat), .int .i64 ((headK k).length : Nat)]) ∧ w' = w := by
  obtain ⟨a, b⟩ := headK_num k
  rw [a, b]
  clear a b
  refine cps fun Q hQ => ?_
  by_cases h : 0 ≤ k
  · rw [if_pos h, if_pos h] at hQ
    obtain ⟨d, rfl⟩ := Int.eq_ofNat_of_zero_le h
    rw [Int.toNat_natCast] at hQ
    obtain ⟨D, hD⟩ : ∃ D, D = d + 2 := ⟨_, rfl⟩
    rw [← hD] at hQ
    have e1 : IntKind.i64.wrap ((d : Int) + 2) = (D : Int) := by rw [wrapI (by omega)]; omega
    have e2 : IntKind.u64.wrap (IntKind.u64.wrap (2 ^ D) - 2) = ((2 ^ D - 2 : Nat) : Int) := by
      have c : ((2 : Int) ^ D) = ((2 ^ D : Nat) : Int) := by simp
      have p1 : 2 ^ D ≤ 2 ^ 63 := Nat.pow_le_pow_right (by decide) (by omega)
      have p2 : 2 ^ 2 ≤ 2 ^ D := Nat.pow_le_pow_right (by decide) (by omega)
      rw [c, wrapN, Nat.mod_eq_of_lt (by omega), IntKind.wrap_u64]
      generalize 2 ^ D = X at *
      omega
    have e3 : IntKind.u64.wrap (IntKind.u64.wrap (1 * 2 ^ D) - 2) = ((2 ^ D - 2 : Nat) : Int) := by rw [Int.one_mul]; exact e2
    generalize 2 ^ D - 2 = X at *
    have g2 : (0 : Int) ≤ (D : Int) := by omega
    have g3 : decide ((0 : Int) ≤ (d : Int)) = true := decide_eq_true (by omega)
    have gm : min D 64 = D := by omega
    clear hD h1 h2 h
    go_enter Tryz.func99, Tryz.ntmps99
    go_wp2
    exact hQ.out _ _ ⟨rfl, rfl⟩
  · rw [if_neg h, if_neg h] at hQ
    have e1 : IntKind.i64.wrap (1 - k) = (((1 - k).toNat : Nat) : Int) := by rw [wrapI (by omega)]; omega
    generalize (1 - k).toNat = X at *
    have g : decide (0 ≤ k) = false := decide_eq_false h
    go_enter Tryz.func99, Tryz.ntmps99
    go_wp2
    exact hQ.out _ _ ⟨rfl, rfl⟩
theorem rcompare_any {a h l : Nat} (rest : Bool) (ha : Tw a h l) (w : World) :
    Calls Tryz.prog 101 #[.agg #[.int .u64 h, .int .u64 l], .bool rest] w fun e w' => e = .returned (.int .i64 (cmpX a rest : Nat)) ∧ Below w.heap.size w w' := by
  have k1 := tcmp_any ha (b := 2 ^ 127) (h2 := 9223372036854775808) (l2 := 0) ⟨by decide, by decide, by decide⟩
  refine cps fun Q hQ => ?_
  unfold cmpX at hQ
  rcases Nat.lt_trichotomy a (2 ^ 127) with hc | hc | hc
  · rw [cmpN_lt hc] at k1
    rw [if_neg (by omega), if_neg (by omega)] at hQ
    by_cases h0 : a = 0
    · have hz : h = 0 ∧ l = 0 := by have := ha.eq; omega
      obtain ⟨rfl, rfl⟩ := hz
      subst h0
      clear ha hc
      cases rest
      all_goals
        go_enter Tryz.func101, Tryz.ntmps101
        go_wp2_with (go_at_call 108; refine (k1 _).mono ?_; rintro e w1 ⟨rfl, hb1⟩; obtain ⟨hc1, hf1⟩ := bcell hb1; have z1 : w.heap.size < w1.heap.size := (by have := hb1.size; simp at this; omega))
        exact hQ.out _ _ ⟨rfl, cthen (cmore (Below.refl _ _) _) hb1⟩
    · rw [if_neg (fun c => h0 c.1)] at hQ
      have hz : (¬ h = 0) ∨ (h = 0 ∧ ¬ l = 0) := by have := ha.eq; omega
      clear ha hc h0
      rcases hz with hz | ⟨rfl, hz⟩
      · have d1 : ((h : Int) == 0) = false := beq_eq_false_iff_ne.2 (by omega)
        clear hz
        go_enter Tryz.func101, Tryz.ntmps101
        go_wp2_with (go_at_call 108; refine (k1 _).mono ?_; rintro e w1 ⟨rfl, hb1⟩; obtain ⟨hc1, hf1⟩ := bcell hb1; have z1 : w.heap.size < w1.heap.size := (by have := hb1.size; simp at this; omega))
        exact hQ.out _ _ ⟨rfl, cthen (cmore (Below.refl _ _) _) hb1⟩
      · have d1 : ((l : Int) == 0) = false := beq_eq_false_iff_ne.2 (by omega)
        clear hz
        go_enter Tryz.func101, Tryz.ntmps101
        go_wp2_with (go_at_call 108; refine (k1 _).mono ?_; rintro e w1 ⟨rfl, hb1⟩; obtain ⟨hc1, hf1⟩ := bcell hb1; have z1 : w.heap.size < w1.heap.size := (by have := hb1.size; simp at this; omega))
        exact hQ.out _ _ ⟨rfl, cthen (cmore (Below.refl _ _) _) hb1⟩
  · subst hc
    rw [cmpN_eq] at k1
    rw [if_pos rfl] at hQ
    clear ha
    cases rest
    all_goals
      go_enter Tryz.func101, Tryz.ntmps101
      go_wp2_with (go_at_call 108; refine (k1 _).mono ?_; rintro e w1 ⟨rfl, hb1⟩)
      exact hQ.out _ _ ⟨rfl, cthen (cmore (Below.refl _ _) _) hb1⟩
  · rw [cmpN_gt hc] at k1
    rw [if_neg (by omega), if_pos hc] at hQ
    clear ha hc
    go_enter Tryz.func101, Tryz.ntmps101
    go_wp2_with (go_at_call 108; refine (k1 _).mono ?_; rintro e w1 ⟨rfl, hb1⟩)
    exact hQ.out _ _ ⟨rfl, cthen (cmore (Below.refl _ _) _) hb1⟩
end Go.Proofs.YtheliihkkoohnabGreat

namespace Go.Proofs.YtheliihkkoohnabGreat
open Go.ChangeShapes Go.WideShapes Go.ChangeAt Go.RowKit
set_option linter.unusedVariables false
set_option linter.unusedSimpArgs false
set_option maxRecDepth 100000

/-! ### what stands behind the run -/
theorem top_off (hi : Nat) (h1 : 9223372036854775808 ≤ hi) (h2 : hi < 18446744073709551616) : bits BinOp.andNot IntKind.u64 (hi : Int) 9223372036854775808 = ((hi - 9223372036854775808 : Nat) : Int) := by
  have := u64_andNot_nat hi 9223372036854775808 h2 (by decide)
  rw [show ((9223372036854775808 : Nat) : Int) = 9223372036854775808 from rfl] at this
  rw [this, show 18446744073709551615 - 9223372036854775808 = 2 ^ 63 - 1 by decide, Nat.and_two_pow_sub_one_eq_mod]
  have e : hi % 2 ^ 63 = hi - 9223372036854775808 := by omega
  rw [e]
theorem exp_or (h1 e : Nat) (h : h1 < 4611686018427387904) (he : e < 4) : bits BinOp.or IntKind.u64 (h1 : Int) (IntKind.u64.wrap ((e : Int) * 4611686018427387904)) = ((e * 4611686018427387904 + h1 : Nat) : Int) := by
  have e1 : IntKind.u64.wrap ((e : Int) * 4611686018427387904) = ((e * 4611686018427387904 : Nat) : Int) := by rw [IntKind.wrap_u64]; omega
  rw [e1, u64_or_nat h1 (e * 4611686018427387904) (by omega) (by omega)]
  congr 1
  have := Nat.two_pow_add_eq_or_of_lt (i := 62) (b := h1) h e
  rw [show 2 ^ 62 * e = e * 4611686018427387904 by rw [Nat.mul_comm]] at this
  rw [this, Nat.or_comm]
/-- an operation that its guard leaves out, carried to the front -/
theorem wpC_skip {P : Program} {ops : Array Oper} {Q : Exit → Act → World → Prop} {md : Region.Mode} {C : World → Prop} (i : Nat) {oi : Oper} {fuel : Nat} {listed : Array Bool} {a : Act} {w : World} (hi : ops[i]? = some oi)
    (hf : (Region.noSelect ops && Region.free md ops listed i && (Region.ready md ops listed).contains i) = true)
    (hQ : ∀ c a w, Q (.panic c) (a.put oi.dst undef) w → Q (.panic c) a w) (hwant : Region.wanted oi (yielded ops a.tmps) = false)
    (h : wpAnyC C P md ops Q fuel (listed.setIfInBounds i true) (a.put oi.dst undef) w) : wpAnyC C P md ops Q (fuel + 1) listed a w := by
  simp only [Bool.and_eq_true] at hf
  exact wpC_first hi (Region.noSelect_spec hf.1.1) hQ fuel listed a w (Region.free_spec hi hf.1.2) (by simpa using hf.2) (.inr ⟨hwant, rfl⟩) h
set_option maxHeartbeats 1000000 in
theorem rtail_any (e : Nat) (he : e < 4) (k : Int) (neg : Bool) (s : Int) (hi lo : Nat) (rest : Bool) (h : WordsX hi lo) {th tl : Nat} (ht : Tw (e * 2 ^ 126 + (manX hi lo - 2 ^ 127) / 2) th tl) (w : World) :
    Calls Tryz.prog 100 #[.int .i64 e, exV k neg s hi lo rest] w fun r w' => r = .returned (.tuple #[.agg #[.int .u64 th, .int .u64 tl], .bool (decide (lo % 2 = 1) || rest)]) ∧ Below w.heap.size w w' := by
  obtain ⟨a1, a2, a3⟩ := h
  have hA : Tw (manX hi lo - 2 ^ 127) (hi - 9223372036854775808) lo := by
    unfold manX
    rw [show (2 : Nat) ^ 127 = 9223372036854775808 * 18446744073709551616 by decide]
    exact ⟨by omega, by omega, by omega⟩
  obtain ⟨h1, l1, hs⟩ : ∃ h1 l1, Tw ((manX hi lo - 2 ^ 127) / 2 ^ 1) h1 l1 := by
    have := hA.lt
    exact ⟨(manX hi lo - 2 ^ 127) / 2 ^ 1 / 18446744073709551616, (manX hi lo - 2 ^ 127) / 2 ^ 1 % 18446744073709551616, by omega, by omega, by omega⟩
  have hh1 : h1 < 4611686018427387904 := by
    have e1 := hs.eq
    have e2 := hA.eq
    have e3 := hs.lo
    rw [e2] at e1
    clear ht hs hA
    omega
  have hlost : decide (lo % 2 = 1) = decide ((manX hi lo - 2 ^ 127) % 2 ^ 1 ≠ 0) := by
    rw [hA.eq]
    have : ((hi - 9223372036854775808) * 18446744073709551616 + lo) % 2 ^ 1 = lo % 2 := by omega
    rw [this]
    rcases Nat.mod_two_eq_zero_or_one lo with c | c <;> simp [c]
  obtain ⟨hth, rfl⟩ := ht.one (show Tw (e * 2 ^ 126 + (manX hi lo - 2 ^ 127) / 2) (e * 4611686018427387904 + h1) l1 from ⟨by
    have e1 := hs.eq
    rw [Nat.pow_one] at e1
    rw [e1, show (2 : Nat) ^ 126 = 4611686018427387904 * 18446744073709551616 by decide]
    omega, by omega, hs.lo⟩)
  have k1 := fun w => tshr_any 1 (by decide) hA hs hlost w
  have f1 := top_off hi a1 a2
  have f2 := exp_or h1 e hh1 he
  have f3 : IntKind.u64.wrap (e : Int) = (e : Int) := by rw [IntKind.wrap_u64]; omega
  have f4 : bits BinOp.or IntKind.u64 (h1 : Int) (IntKind.u64.wrap (IntKind.u64.wrap (e : Int) * 4611686018427387904)) = ((e * 4611686018427387904 + h1 : Nat) : Int) := by rw [f3]; exact f2
  have f5 : bits BinOp.or IntKind.u64 (h1 : Int) ((e : Int) * 4611686018427387904) = ((e * 4611686018427387904 + h1 : Nat) : Int) := by
    rw [← f2]; congr 1; rw [IntKind.wrap_u64]; omega
  rw [← hth] at f2 f4 f5
  obtain ⟨hi', hhi⟩ : ∃ x, x = hi - 9223372036854775808 := ⟨_, rfl⟩
  rw [← hhi] at f1 k1
  clear hA hs hlost ht a1 a2 a3 hh1 hth hhi
  generalize decide (lo % 2 = 1) = lost at *
  unfold exV
  refine cps fun Q hQ => ?_
  cases lost
  · go_enter Tryz.func100, Tryz.ntmps100
    go_wp2_with (go_at_call 80; refine (k1 _).mono ?_; rintro e w1 ⟨rfl, hb1⟩; obtain ⟨hc1, hf1⟩ := bcell hb1; have z1 : w.heap.size + 1 < w1.heap.size := (by have := hb1.size; simp at this; omega); have z0 : w.heap.size < w1.heap.size := (by omega))
    refine wpC_region (fun W => W.cell? ⟨w.heap.size, 5, none⟩ = some (.bool rest) ∧ W.cell? ⟨w1.heap.size, 0, none⟩ = some (.int .u64 th) ∧ W.cell? ⟨w1.heap.size, 1, none⟩ = some (.int .u64 tl)) (by kernel_rfl) ?_
    refine wpC_take 0 (v := ?_) rfl (by kernel_rfl) (fun _ _ _ h => h) (by kernel_rfl) ?_ ?_; rotate_left; · (intro wC hC; obtain ⟨c1, c2, c3⟩ := hC; go_simp <;> with_reducible rfl)
    refine wpC_take 1 (v := ?_) rfl (by kernel_rfl) (fun _ _ _ h => h) (by kernel_rfl) ?_ ?_; rotate_left; · (intro wC hC; obtain ⟨c1, c2, c3⟩ := hC; go_simp <;> with_reducible rfl)
    refine wpC_take 2 (v := ?_) rfl (by kernel_rfl) (fun _ _ _ h => h) (by kernel_rfl) ?_ ?_; rotate_left; · (intro wC hC; obtain ⟨c1, c2, c3⟩ := hC; go_simp <;> with_reducible rfl)
    refine wpC_take 3 (v := ?_) rfl (by kernel_rfl) (fun _ _ _ h => h) (by kernel_rfl) ?_ ?_; rotate_left; · (intro wC hC; obtain ⟨c1, c2, c3⟩ := hC; go_simp <;> with_reducible rfl)
    refine wpC_take 4 (v := ?_) rfl (by kernel_rfl) (fun _ _ _ h => h) (by kernel_rfl) ?_ ?_; rotate_left; · (intro wC hC; obtain ⟨c1, c2, c3⟩ := hC; go_simp <;> with_reducible rfl)
    refine wpC_take 5 (v := ?_) rfl (by kernel_rfl) (fun _ _ _ h => h) (by kernel_rfl) ?_ ?_; rotate_left; · (intro wC hC; obtain ⟨c1, c2, c3⟩ := hC; go_simp <;> with_reducible rfl)
    refine wpC_step 6 rfl (by kernel_rfl) (by kernel_rfl) (by simp [go_sem, hc1, z0, f5]) (fun K hK => ?_)
    go_simp
    try (refine hK _ _ ?_; clear hK K)
    refine wpC_take 7 (v := ?_) rfl (by kernel_rfl) (fun _ _ _ h => h) (by kernel_rfl) ?_ ?_; rotate_left; · (intro wC hC; obtain ⟨c1, c2, c3⟩ := hC; go_simp <;> with_reducible rfl)
    refine wpC_done (by kernel_rfl) (by simp [go_sem, hc1, z0, f5]) ?_
    go_wp2
    refine bodyPost_ret (v := .tuple #[.agg #[.int .u64 th, .int .u64 tl], .bool _]) (by simp [results, Tryz.results100, go_sem, hc1, z0, z1]) rfl (hQ.out _ _ ⟨rfl, ?_⟩)
    exact bdrew (bmore (bset (bset (bthen (bmore (bmore (Below.refl _ _) _) _) hb1) (by omega) _ _) (by omega) _ _) _)
  · go_enter Tryz.func100, Tryz.ntmps100
    go_wp2_with (go_at_call 80; refine (k1 _).mono ?_; rintro e w1 ⟨rfl, hb1⟩; obtain ⟨hc1, hf1⟩ := bcell hb1; have z1 : w.heap.size + 1 < w1.heap.size := (by have := hb1.size; simp at this; omega); have z0 : w.heap.size < w1.heap.size := (by omega))
    refine wpC_region (fun W => W.cell? ⟨w.heap.size, 5, none⟩ = some (.bool rest) ∧ W.cell? ⟨w1.heap.size, 0, none⟩ = some (.int .u64 th) ∧ W.cell? ⟨w1.heap.size, 1, none⟩ = some (.int .u64 tl)) (by kernel_rfl) ?_
    refine wpC_take 0 (v := ?_) rfl (by kernel_rfl) (fun _ _ _ h => h) (by kernel_rfl) ?_ ?_; rotate_left; · (intro wC hC; obtain ⟨c1, c2, c3⟩ := hC; go_simp <;> with_reducible rfl)
    refine wpC_take 1 (v := ?_) rfl (by kernel_rfl) (fun _ _ _ h => h) (by kernel_rfl) ?_ ?_; rotate_left; · (intro wC hC; obtain ⟨c1, c2, c3⟩ := hC; go_simp <;> with_reducible rfl)
    refine wpC_take 2 (v := ?_) rfl (by kernel_rfl) (fun _ _ _ h => h) (by kernel_rfl) ?_ ?_; rotate_left; · (intro wC hC; obtain ⟨c1, c2, c3⟩ := hC; go_simp <;> with_reducible rfl)
    refine wpC_skip 3 rfl (by kernel_rfl) (fun _ _ _ h => h) (by kernel_rfl) ?_
    refine wpC_skip 4 rfl (by kernel_rfl) (fun _ _ _ h => h) (by kernel_rfl) ?_
    refine wpC_take 5 (v := ?_) rfl (by kernel_rfl) (fun _ _ _ h => h) (by kernel_rfl) ?_ ?_; rotate_left; · (intro wC hC; obtain ⟨c1, c2, c3⟩ := hC; go_simp <;> with_reducible rfl)
    refine wpC_step 6 rfl (by kernel_rfl) (by kernel_rfl) (by simp [go_sem, hc1, z0, f5]) (fun K hK => ?_)
    go_simp
    try (refine hK _ _ ?_; clear hK K)
    refine wpC_take 7 (v := ?_) rfl (by kernel_rfl) (fun _ _ _ h => h) (by kernel_rfl) ?_ ?_; rotate_left; · (intro wC hC; obtain ⟨c1, c2, c3⟩ := hC; go_simp <;> with_reducible rfl)
    refine wpC_done (by kernel_rfl) (by simp [go_sem, hc1, z0, f5]) ?_
    go_wp2
    refine bodyPost_ret (v := .tuple #[.agg #[.int .u64 th, .int .u64 tl], .bool _]) (by simp [results, Tryz.results100, go_sem, hc1, z0, z1]) rfl (hQ.out _ _ ⟨rfl, ?_⟩)
    exact bdrew (bmore (bset (bset (bthen (bmore (bmore (Below.refl _ _) _) _) hb1) (by omega) _ _) (by omega) _ _) _)
end Go.Proofs.YtheliihkkoohnabGreat
