import Derived.Test.YtfmhhcmjcmechabJoin1
import Derived.WalkKit
import Derived.Test.YtfmhhcmjcmechabProg
import Derived.OwnWalk
import Derived.Lib.SmallJoins
import Derived.Shelf.Spec.BitsCarry
import Derived.Lib.Mul64
import Derived.Lib.BitFns
namespace Go.Proofs.Ytfmhhcmjcmechab
set_option linter.unusedVariables false
set_option linter.unusedSimpArgs false

/-! ### bits put, bits read, of a word that is a string (plain mathematics) -/
theorem numOf_noughts_append (z : Nat) (l : List Bool) : numOf (noughts z ++ l) = numOf l := by
  rw [numOf_append, numOf_noughts]; simp
theorem bits64_numOf (l : List Bool) (h : l.length ≤ 64) : bitsOf (numOf l) 64 = noughts (64 - l.length) ++ l := by
  refine numOf_inj (by rw [bitsOf_length, List.length_append, List.length_replicate]; omega) ?_
  rw [numOf_bits, numOf_noughts_append]
  exact Nat.mod_eq_of_lt (Nat.lt_of_lt_of_le (numOf_lt l) (Nat.pow_le_pow_right (by decide) h))
/-- bits put into a string -/
theorem put_list (a b c : List Bool) (v at_ m : Nat) (hb : b.length = m) (hc : c.length = at_) (hl : (a ++ b ++ c).length ≤ 64) :
    putOf (numOf (a ++ b ++ c)) at_ m v = numOf (a ++ bitsOf v m ++ c) := by
  have hlen : a.length + m + at_ ≤ 64 := by simp only [List.length_append] at hl; omega
  have hlt : numOf (a ++ b ++ c) < 2 ^ 64 := Nat.lt_of_lt_of_le (numOf_lt _) (Nat.pow_le_pow_right (by decide) hl)
  rw [put_eq _ at_ m v hlt (by omega), rputL, bits64_numOf _ hl]
  have hl2 : (a ++ b ++ c).length = a.length + m + at_ := by simp only [List.length_append]; omega
  rw [hl2]
  obtain ⟨z, hz⟩ : ∃ z, z = 64 - (a.length + m + at_) := ⟨_, rfl⟩
  rw [← hz]
  have e1 : (noughts z ++ (a ++ b ++ c)).take (64 - at_ - m) = noughts z ++ a := by
    rw [show noughts z ++ (a ++ b ++ c) = (noughts z ++ a) ++ (b ++ c) by simp, List.take_append_of_le_length (by simp; omega), List.take_of_length_le (by simp; omega)]
  have e2 : (noughts z ++ (a ++ b ++ c)).drop (64 - at_) = c := by
    rw [show noughts z ++ (a ++ b ++ c) = (noughts z ++ a ++ b) ++ c by simp, List.drop_append_of_le_length (by simp; omega), List.drop_of_length_le (by simp; omega), List.nil_append]
  rw [e1, e2, List.take_of_length_le (by omega), List.append_assoc, numOf_noughts_append, List.append_assoc]
theorem bits_ones (m : Nat) (hm : m ≤ 64) : bitsOf 18446744073709551615 m = List.replicate m true := by
  apply List.ext_getElem?
  intro j
  by_cases hj : j < m
  · rw [bitsOf_get _ _ _ hj, show (18446744073709551615 : Nat) = 2 ^ 64 - 1 by decide, Nat.testBit_two_pow_sub_one, List.getElem?_replicate, if_pos hj, decide_eq_true (by omega)]
  · rw [List.getElem?_eq_none (by rw [bitsOf_length]; omega), List.getElem?_eq_none (by simp; omega)]
theorem bits_none (m : Nat) : bitsOf 0 m = noughts m := by
  apply List.ext_getElem?
  intro j
  by_cases hj : j < m
  · rw [bitsOf_get _ _ _ hj, noughts, List.getElem?_replicate, if_pos hj, Nat.zero_testBit]
  · rw [List.getElem?_eq_none (by rw [bitsOf_length]; omega), List.getElem?_eq_none (by simp; omega)]
/-- the word of a run: all ones, or nought -/
def wordB (b : Bool) : Nat := if b then 18446744073709551615 else 0
theorem bits_wordB (b : Bool) (m : Nat) (hm : m ≤ 64) : bitsOf (wordB b) m = List.replicate m b := by
  cases b
  · exact bits_none m
  · exact bits_ones m hm
/-- the string that is assembled, of n - 1 bits -/
def asmL (n : Nat) (ones : Bool) (run v1 v2 : Nat) : List Bool :=
  List.replicate run ones ++ (if n - 1 - run = 0 then [] else (!ones) :: (bitsOf v1 (min (n - 2 - run) 2) ++ bitsOf v2 (n - 2 - run - 2)))
theorem asmL_length (n : Nat) (ones : Bool) (run v1 v2 : Nat) (h : run ≤ n - 1) : (asmL n ones run v1 v2).length = n - 1 := by
  unfold asmL
  split
  · simp; omega
  · simp [bitsOf_length]; omega
theorem asm_end (n : Nat) (ones : Bool) (run v1 v2 : Nat) (hn : n ≤ 64) (h1 : run = n - 1) :
    putOf (putOf (putOf 0 0 run (wordB ones)) 0 0 v1) 0 0 v2 = numOf (asmL n ones run v1 v2) := by
  have hz : ∀ (l : List Bool) v, l.length ≤ 64 → putOf (numOf l) 0 0 v = numOf l := fun l v hl => by
    have := put_list l [] [] v 0 0 rfl rfl (by simpa using hl)
    simpa [bitsOf] using this
  have h0 := put_list [] (noughts run) [] (wordB ones) 0 run (by simp) rfl (by simp; omega)
  rw [List.nil_append, List.append_nil, numOf_noughts, bits_wordB _ _ (by omega), List.nil_append, List.append_nil] at h0
  rw [h0, hz _ _ (by simp; omega), hz _ _ (by simp; omega)]
  unfold asmL
  rw [if_pos (by omega), List.append_nil]
theorem asm_all (n : Nat) (ones : Bool) (run v1 v2 behind E F : Nat) (hn : n ≤ 64) (hb : behind = n - 1 - run) (h1 : 0 < behind) (hE : E = min (n - 2 - run) 2) (hF : F = n - 2 - run - E) :
    putOf (putOf (putOf (putOf 0 behind run (wordB ones)) (behind - 1) 1 (wordB (!ones))) F E v1) 0 F v2 = numOf (asmL n ones run v1 v2) := by
  have h0 := put_list [] (noughts run) (noughts behind) (wordB ones) behind run (by simp) (by simp) (by simp; omega)
  rw [List.nil_append, noughts_add, numOf_noughts, bits_wordB _ _ (by omega), List.nil_append] at h0
  have e1 : noughts behind = [false] ++ noughts (behind - 1) := by
    rw [show [false] = noughts 1 from rfl, noughts_add]; congr 1; omega
  have h2 := put_list (List.replicate run ones) [false] (noughts (behind - 1)) (wordB (!ones)) (behind - 1) 1 rfl (by simp) (by simp; omega)
  rw [List.append_assoc, ← e1, bits_wordB _ _ (by omega)] at h2
  have e2 : noughts (behind - 1) = noughts E ++ noughts F := by rw [noughts_add]; congr 1; omega
  have h3 := put_list (List.replicate run ones ++ [!ones]) (noughts E) (noughts F) v1 F E (by simp) (by simp) (by simp; omega)
  rw [List.append_assoc, ← e2] at h3
  have h4 := put_list (List.replicate run ones ++ [!ones] ++ bitsOf v1 E) (noughts F) [] v2 0 F (by simp) rfl (by simp [bitsOf_length]; omega)
  rw [List.append_nil, List.append_nil] at h4
  rw [h0, h2, show List.replicate 1 (!ones) = [!ones] from rfl, h3, h4]
  unfold asmL
  rw [if_neg (by omega), show n - 2 - run - 2 = F by omega, ← hE]
  simp
/-- bits read out of a word that ends with a string -/
theorem fieldOf_mod (y at_ m k : Nat) (h : at_ + m ≤ k) : fieldOf y at_ m = fieldOf (y % 2 ^ k) at_ m := by
  apply Nat.eq_of_testBit_eq
  intro i
  rw [fieldOf, fieldOf, Nat.testBit_mod_two_pow, Nat.testBit_mod_two_pow, Nat.testBit_shiftRight, Nat.testBit_shiftRight, Nat.testBit_mod_two_pow]
  by_cases hi : i < m
  · rw [decide_eq_true (show at_ + i < k by omega)]; simp
  · simp [hi]
theorem fieldOf_list (a b c : List Bool) : fieldOf (numOf (a ++ b ++ c)) c.length b.length = numOf b := by
  have hc := numOf_lt c
  have hb := numOf_lt b
  have h0 : 0 < 2 ^ c.length := Nat.pos_of_ne_zero (by simp)
  rw [fieldOf, numOf_append, numOf_append, Nat.shiftRight_eq_div_pow, Nat.mul_comm, Nat.mul_add_div h0, Nat.div_eq_of_lt hc, Nat.add_zero, Nat.mul_comm, Nat.mul_add_mod, Nat.mod_eq_of_lt hb]
/-- the parts of a string, read off a word that ends with it -/
theorem exp_field (t : List Bool) (y m E F : Nat) (hl : t.length = m) (hy : y % 2 ^ m = numOf t) (hE : E = min (restL t).length 2) (hF : F = (restL t).length - E) :
    fieldOf y F E * 2 ^ (2 - E) = expL t ∧ fieldOf y 0 F = fracL t := by
  have hr := restL_length t
  have ht : t = t.take (runL t + 1) ++ (restL t).take E ++ (restL t).drop E := by
    rw [List.append_assoc, List.take_append_drop, restL, List.take_append_drop]
  have l1 : ((restL t).take E).length = E := by rw [List.length_take]; omega
  have l2 : ((restL t).drop E).length = F := by rw [List.length_drop]; omega
  have hEu : (E = (restL t).length ∧ (restL t).length ≤ 2) ∨ (E = 2 ∧ 2 < (restL t).length) := by omega
  have f1 := fieldOf_list (t.take (runL t + 1)) ((restL t).take E) ((restL t).drop E)
  have f2 := fieldOf_list (t.take (runL t + 1) ++ (restL t).take E) ((restL t).drop E) []
  rw [List.append_nil, List.length_nil] at f2
  rw [← ht, l1, l2] at f1
  rw [← ht, l2] at f2
  constructor
  · rw [fieldOf_mod y F E m (by omega), hy, f1]
    unfold expL
    have : (restL t ++ noughts 2).take 2 = (restL t).take E ++ noughts (2 - E) := by
      rcases hEu with ⟨h1, h2⟩ | ⟨h1, h2⟩
      · rw [List.take_append, List.take_of_length_le h2, h1, List.take_of_length_le (Nat.le_refl _), take_noughts _ _ (by omega)]
      · rw [h1, List.take_append_of_le_length (by omega)]; simp [noughts]
    rw [this, numOf_append, numOf_noughts]; simp
  · rw [fieldOf_mod y 0 F m (by omega), hy, f2, frac_drop _ _ hEu]; rfl
/-- the run of a string, read off a word that ends with it -/
theorem run_field (t : List Bool) (y m : Nat) (h0 : 0 < m) (hl : t.length = m) (hy : y % 2 ^ m = numOf t) : IsRun y m (onesL t) (runL t) := by
  have hne : t ≠ [] := by rintro rfl; simp at hl; omega
  obtain ⟨b, r, tl, rfl, htl⟩ := split_run t hne
  have hbit : ∀ j, j < m → y.testBit (m - 1 - j) = (List.replicate (r + 1) b ++ tl).getD j false := fun j hj => by
    have : (y % 2 ^ m).testBit (m - 1 - j) = y.testBit (m - 1 - j) := by
      rw [Nat.testBit_mod_two_pow, decide_eq_true (by omega)]; rfl
    rw [← this, hy, numOf_testBit, hl, decide_eq_true (by omega), show m - 1 - (m - 1 - j) = j by omega]; rfl
  rw [runL_rep b r tl htl, onesL_rep]
  have hl' : r + 1 + tl.length = m := by simpa using hl
  refine ⟨?_, by omega, by omega, ?_, ?_⟩
  · have := hbit 0 h0
    rw [Nat.sub_zero] at this
    rw [this, List.replicate_succ]; rfl
  · intro j hj
    rw [hbit j (by omega), List.getD_eq_getElem?_getD, List.getElem?_append_left (by simpa using hj), List.getElem?_replicate, if_pos hj]; rfl
  · intro hk
    rw [hbit (r + 1) hk, List.getD_eq_getElem?_getD, List.getElem?_append_right (by simp)]
    rcases htl with rfl | ⟨u, rfl⟩
    · simp at hl'; omega
    · simp
/-- a string is what is assembled of its parts -/
theorem asm_parts (n : Nat) (t : List Bool) (h2 : 2 ≤ n) (hl : t.length = n - 1) (v : Nat) (hv : v = expL t / 2 ^ (2 - min (n - 2 - runL t) 2)) : asmL n (onesL t) (runL t) v (fracL t) = t := by
  have hne : t ≠ [] := by rintro rfl; simp at hl; omega
  obtain ⟨b, r, tl, rfl, htl⟩ := split_run t hne
  unfold asmL
  have h1 := runL_rep b r tl htl
  have hl' : r + 1 + tl.length = n - 1 := by simpa using hl
  rw [h1] at hv ⊢
  rw [onesL_rep]
  rcases htl with rfl | ⟨u, rfl⟩
  · rw [if_pos (by simp at hl'; omega)]
  · have hu : u.length = n - 2 - (r + 1) := by simp at hl'; omega
    rw [if_neg (by simp at hl'; omega)]
    congr 2
    rw [← hu]
    have hr : restL (List.replicate (r + 1) b ++ (!b) :: u) = u := restL_rep b r u
    have hf : fracL (List.replicate (r + 1) b ++ (!b) :: u) = numOf (u.drop 2) := by unfold fracL; rw [hr]
    have he : expL (List.replicate (r + 1) b ++ (!b) :: u) = numOf ((u ++ noughts 2).take 2) := by unfold expL; rw [hr]
    have e1 : bitsOf (numOf (u.drop 2)) (u.length - 2) = u.drop 2 := by
      have := bitsOf_numOf (u.drop 2)
      rwa [List.length_drop] at this
    obtain ⟨E, hE⟩ : ∃ E, E = min u.length 2 := ⟨_, rfl⟩
    have hEu : (E = u.length ∧ u.length ≤ 2) ∨ (E = 2 ∧ 2 < u.length) := by omega
    have e2 : (u ++ noughts 2).take 2 = u.take E ++ noughts (2 - E) := by
      rcases hEu with ⟨h1, h2⟩ | ⟨h1, h2⟩
      · rw [List.take_append, List.take_of_length_le h2, h1, List.take_of_length_le (Nat.le_refl _), take_noughts _ _ (by omega)]
      · rw [h1, List.take_append_of_le_length (by omega)]; simp [noughts]
    have e3 : v = numOf (u.take E) := by
      rw [hv, he, e2, numOf_append, numOf_noughts, ← hu, ← hE, Nat.add_zero, List.length_replicate]
      exact Nat.mul_div_cancel _ (Nat.pos_of_ne_zero (by simp))
    have e4 : bitsOf (numOf (u.take E)) E = u.take E := by
      have := bitsOf_numOf (u.take E)
      rwa [List.length_take, Nat.min_eq_left (by omega)] at this
    rw [hf, e1, ← hE, e3, e4]
    rcases hEu with ⟨h1, h2⟩ | ⟨h1, h2⟩
    · rw [List.drop_of_length_le h2, List.append_nil, h1, List.take_of_length_le (Nat.le_refl _)]
    · rw [h1, List.take_append_drop]
theorem bits_drop1 (x m : Nat) (h : 1 ≤ m) : (bitsOf x m).drop 1 = bitsOf x (m - 1) := by
  apply List.ext_getElem?
  intro j
  by_cases hj : j < m - 1
  · rw [List.getElem?_drop, bitsOf_get _ _ _ (by omega), bitsOf_get _ _ _ hj]
    congr 2; omega
  · rw [List.getElem?_eq_none (by rw [List.length_drop, bitsOf_length]; omega), List.getElem?_eq_none (by rw [bitsOf_length]; omega)]
theorem bits_take (x m k : Nat) (h : k ≤ m) : (bitsOf x m).take k = bitsOf (x >>> (m - k)) k := by
  apply List.ext_getElem?
  intro j
  by_cases hj : j < k
  · rw [List.getElem?_take_of_lt hj, bitsOf_get _ _ _ (by omega), bitsOf_get _ _ _ hj, Nat.testBit_shiftRight]
    congr 2; omega
  · rw [List.getElem?_eq_none (by rw [List.length_take, bitsOf_length]; omega), List.getElem?_eq_none (by rw [bitsOf_length]; omega)]
theorem bits_field (f F : Nat) (h : F ≤ 63) : ((bitsOf f 64).drop 1).take F = bitsOf (fieldOf f (63 - F) F) F := by
  apply List.ext_getElem?
  intro j
  by_cases hj : j < F
  · rw [List.getElem?_take_of_lt hj, List.getElem?_drop, bitsOf_get _ _ _ (by omega), bitsOf_get _ _ _ hj, fieldOf, Nat.testBit_mod_two_pow, Nat.testBit_shiftRight, decide_eq_true (by omega), Bool.true_and]
    congr 2; omega
  · rw [List.getElem?_eq_none (by rw [List.length_take, List.length_drop, bitsOf_length]; omega), List.getElem?_eq_none (by rw [bitsOf_length]; omega)]
/-- a number's string, cut, is what is assembled of its parts -/
theorem asm_cut (n : Nat) (hn : Wd n) (s : Int) (f : Nat) (hr : inR n s = true) (ones : Bool) (run v1 v2 F : Nat)
    (hk : headK (s / 4) = List.replicate run ones ++ [!ones]) (hF : F = n - 2 - run - 2) (hv1 : v1 = (s % 4).toNat / 2 ^ (2 - min (n - 2 - run) 2)) (hv2 : v2 = fieldOf f (63 - F) F) :
    run ≤ n - 1 ∧ asmL n ones run v1 v2 = cutL n s f := by
  have hw := wd_le hn
  have hr' := of_decide_eq_true hr
  have hrun : run ≤ n - 1 := by
    have hl := congrArg List.length hk
    unfold headK at hl
    split at hl <;> simp at hl <;> omega
  refine ⟨hrun, ?_⟩
  unfold asmL cutL canon
  rw [hk]
  by_cases he : n - 1 - run = 0
  · rw [if_pos he, List.append_nil, List.append_assoc, List.append_assoc, List.take_append_of_le_length (by simp; omega), List.take_of_length_le (by simp; omega)]
  · rw [if_neg he, List.append_assoc, List.append_assoc, List.take_append, List.take_of_length_le (by simp; omega), List.length_replicate, show n - 1 - run = (n - 2 - run) + 1 by omega, List.cons_append, List.take_succ_cons, List.nil_append]
    congr 2
    obtain ⟨q, hq⟩ : ∃ q, q = n - 2 - run := ⟨_, rfl⟩
    rw [← hq] at hF hv1 ⊢
    have hm : min q 2 ≤ 2 := Nat.min_le_right _ _
    rw [List.take_append, bitsOf_length, hv1, hv2, ← Nat.shiftRight_eq_div_pow, ← bits_take _ 2 (min q 2) hm, ← hF, bits_field f F (by omega)]
    congr 1
    · by_cases h2 : q ≤ 2
      · rw [Nat.min_eq_left h2]
      · rw [Nat.min_eq_right (by omega), List.take_of_length_le (by rw [bitsOf_length]; exact Nat.le_refl _), List.take_of_length_le (by rw [bitsOf_length]; omega)]
end Go.Proofs.Ytfmhhcmjcmechab

namespace Go.Proofs.Ytfmhhcmjcmechab
open Go.ChangeShapes Go.WideShapes Go.ChangeAt Go.RowKit
set_option linter.unusedVariables false
set_option linter.unusedSimpArgs false
set_option maxRecDepth 100000

theorem ret_ii {k : IntKind} {a b c d : Int} (h : a = b) (g : c = d) : Ending.returned (.tuple #[.int k a, .int k c]) = .returned (.tuple #[.int k b, .int k d]) := by rw [h, g]
/-! ### the code's helpers: regime, row, room, assemble -/
end Go.Proofs.Ytfmhhcmjcmechab

namespace Go.Proofs.Ytfmhhcmjcmechab
open Go.ChangeShapes Go.WideShapes Go.ChangeAt Go.RowKit
set_option linter.unusedVariables false
set_option linter.unusedSimpArgs false
set_option maxRecDepth 100000

/-! ### assemble -/
theorem putOf_lt (x at_ m v : Nat) (hx : x < 2 ^ 64) : putOf x at_ m v < 2 ^ 64 := by
  unfold putOf
  exact Nat.or_lt_two_pow (Nat.lt_of_le_of_lt Nat.and_le_left hx) (Nat.lt_of_le_of_lt Nat.and_le_left (Nat.mod_lt _ (by decide)))
def asmV (n run : Nat) (ex : Int) : Nat := u64Of (ex / 2 ^ (2 - min (n - 2 - run) 2))
def asmP (n : Nat) (neg ones : Bool) (run : Nat) (ex : Int) (fr : Nat) : Nat :=
  if neg then minusU (numOf (asmL n ones run (asmV n run ex) fr)) % 2 ^ n else numOf (asmL n ones run (asmV n run ex) fr)
theorem isField_nat {a m : Nat} (h : a + m ≤ 64) : isField a m = true := by simp [isField]; omega
end Go.Proofs.Ytfmhhcmjcmechab

namespace Go.Proofs.Ytfmhhcmjcmechab
open Go.ChangeShapes Go.WideShapes Go.ChangeAt Go.RowKit
set_option linter.unusedVariables false
set_option linter.unusedSimpArgs false
set_option maxRecDepth 100000

/-! ### Split -/
abbrev codeV (c : Int) : Value := .iface 29 (.int .i64 c)
theorem cfield_nat (y a m : Nat) (hy : y < 2 ^ 64) (h : a + m ≤ 64) (A : Int) (hA : A = a) (w : World) :
    Calls Try.prog 34 #[.int .u64 y, .int .i64 A, .int .i64 m] w fun e w' => e = .returned (.tuple #[.int .u64 (fieldOf y a m : Nat), .nilIface]) ∧ ∃ q, w' = w.drewN q := by
  subst hA
  have := lfield_ok y a m hy (isField_nat h) w
  rwa [Int.toNat_natCast, Int.toNat_natCast] at this
theorem strS_word (n x : Nat) (hn : Wd n) (hx : x < 2 ^ 64) : (if x.testBit (n - 1) then minusU x else x) % 2 ^ (n - 1) = numOf (strS n x) := by
  have hw := wd_le hn
  have drop1 : ∀ y, numOf ((bitsOf y n).drop 1) = y % 2 ^ (n - 1) := fun y => by
    have := bits_drop1 y n (by omega)
    rw [this, numOf_bits]
  unfold strS
  cases x.testBit (n - 1)
  · simp only [Bool.false_eq_true, if_false]; rw [drop1]
  · simp only [if_true]; rw [drop1]
theorem ext_neg (n x : Nat) (hn : Wd n) : decide (extOf x n < 0) = x.testBit (n - 1) := by
  have h := Nat.mod_lt x (show 0 < 2 ^ n from Nat.pos_of_ne_zero (by simp))
  unfold extOf
  cases x.testBit (n - 1)
  · exact decide_eq_false (by simp only [Bool.toNat_false, Nat.zero_mul]; omega)
  · exact decide_eq_true (by simp only [Bool.toNat_true, Nat.one_mul]; omega)
end Go.Proofs.Ytfmhhcmjcmechab

namespace Go.Proofs.Ytfmhhcmjcmechab
open Go.ChangeShapes Go.WideShapes Go.ChangeAt Go.RowKit
set_option linter.unusedVariables false
set_option linter.unusedSimpArgs false
set_option maxRecDepth 100000

/-! ### Decode -/
theorem word_frac (t : List Bool) (h : (restL t).length ≤ 63) : wordL t = 9223372036854775808 + fracL t * 2 ^ (63 - ((restL t).length - 2)) ∧ fracL t * 2 ^ (63 - ((restL t).length - 2)) < 9223372036854775808 := by
  have hl : ((restL t).drop 2).length = (restL t).length - 2 := by rw [List.length_drop]
  have e : ((restL t).drop 2 ++ noughts 63).take 63 = (restL t).drop 2 ++ noughts (63 - ((restL t).length - 2)) := by
    rw [List.take_append, List.take_of_length_le (by omega), take_noughts _ _ (by omega), hl]
  have h2 := numOf_lt ((restL t).drop 2 ++ noughts (63 - ((restL t).length - 2)))
  have h3 : ((restL t).drop 2 ++ noughts (63 - ((restL t).length - 2))).length = 63 := by
    rw [List.length_append, hl, List.length_replicate]; omega
  rw [h3, numOf_append, numOf_noughts, List.length_replicate] at h2
  refine ⟨?_, h2⟩
  unfold wordL fracL
  rw [e, numOf_cons, h3, numOf_append, numOf_noughts, List.length_replicate]
  rfl
theorem word_or (X : Nat) (h : X < 9223372036854775808) : bits BinOp.or IntKind.u64 9223372036854775808 (X : Int) = ((9223372036854775808 + X : Nat) : Int) := by
  have := u64_or_nat 9223372036854775808 X (by decide) (by omega)
  rw [show ((9223372036854775808 : Nat) : Int) = 9223372036854775808 from rfl] at this
  rw [this]
  congr 1
  have e := Nat.two_pow_add_eq_or_of_lt (i := 63) (b := X) h 1
  rw [show 2 ^ 63 * 1 = 9223372036854775808 by decide] at e
  exact e.symm
end Go.Proofs.Ytfmhhcmjcmechab

namespace Go.Proofs.Ytfmhhcmjcmechab
open Go.ChangeShapes Go.WideShapes Go.ChangeAt Go.RowKit
set_option linter.unusedVariables false
set_option linter.unusedSimpArgs false
set_option maxRecDepth 100000

/-! ### what is assembled -/
theorem asmV_nat (n run x : Nat) (h : x < 4) : asmV n run (x : Int) = x / 2 ^ (2 - min (n - 2 - run) 2) := by
  unfold asmV u64Of
  obtain ⟨j, hj⟩ : ∃ j, j = 2 ^ (2 - min (n - 2 - run) 2) := ⟨_, rfl⟩
  have e : ((2 : Int) ^ (2 - min (n - 2 - run) 2)) = ((j : Nat) : Int) := by rw [hj]; simp
  rw [e, ← hj, ← Int.natCast_ediv]
  have hq := Nat.div_le_self x j
  generalize x / j = q at *
  omega
theorem asmP_parts (n : Nat) (hn : Wd n) (neg : Bool) (t : List Bool) (hl : t.length = n - 1) (ht : true ∈ t) : asmP n neg (onesL t) (runL t) (expL t : Nat) (fracL t) = patOf n neg t := by
  have hw := wd_le hn
  have hex : expL t < 4 := by
    have := numOf_lt ((restL t ++ noughts 2).take 2)
    rw [show ((restL t ++ noughts 2).take 2).length = 2 by simp] at this
    exact this
  unfold asmP
  rw [asmV_nat n _ _ hex, asm_parts n t (by omega) hl _ rfl]
  exact pat_neg n hn neg t hl ht (Nat.lt_of_lt_of_le (numOf_lt _) (Nat.pow_le_pow_right (by decide) (by omega)))
theorem asmP_cut (n : Nat) (hn : Wd n) (neg : Bool) (s : Int) (f : Nat) (hr : inR n s = true) (ones : Bool) (run F : Nat) (hk : headK (s / 4) = List.replicate run ones ++ [!ones]) (hF : F = n - 2 - run - 2) :
    run ≤ n - 1 ∧ asmP n neg ones run (((s % 4).toNat : Nat) : Int) (fieldOf f (63 - F) F) = patOf n neg (cutL n s f) := by
  have hw := wd_le hn
  obtain ⟨h1, h2⟩ := asm_cut n hn s f hr ones run _ _ F hk hF rfl rfl
  obtain ⟨ht, hl⟩ := cut_true n s f hn hr
  refine ⟨h1, ?_⟩
  unfold asmP
  rw [asmV_nat n _ _ (by omega), h2]
  exact pat_neg n hn neg (cutL n s f) hl ht (Nat.lt_of_lt_of_le (numOf_lt _) (Nat.pow_le_pow_right (by decide) (by rw [hl]; omega)))
theorem asmP_lt (n : Nat) (hn : Wd n) (neg ones : Bool) (run : Nat) (h : run ≤ n - 1) (ex : Int) (fr : Nat) : asmP n neg ones run ex fr < 2 ^ 64 := by
  have hw := wd_le hn
  unfold asmP
  split
  · exact Nat.lt_of_le_of_lt (Nat.mod_le _ _) (minusU_lt _)
  · exact Nat.lt_of_lt_of_le (numOf_lt _) (Nat.pow_le_pow_right (by decide) (by rw [asmL_length n ones run _ _ h]; omega))
/-! ### parts -/
end Go.Proofs.Ytfmhhcmjcmechab

namespace Go.Proofs.Ytfmhhcmjcmechab
open Go.ChangeShapes Go.WideShapes Go.ChangeAt Go.RowKit
set_option linter.unusedVariables false
set_option linter.unusedSimpArgs false
set_option maxRecDepth 100000

/-! ### Join -/
end Go.Proofs.Ytfmhhcmjcmechab

namespace Go.Proofs.Ytfmhhcmjcmechab
open Go.ChangeShapes Go.WideShapes Go.ChangeAt Go.RowKit
set_option linter.unusedVariables false
set_option linter.unusedSimpArgs false
set_option maxRecDepth 100000

/-! ### sound -/
end Go.Proofs.Ytfmhhcmjcmechab

namespace Go.Proofs.Ytfmhhcmjcmechab
open Go.ChangeShapes Go.WideShapes Go.ChangeAt Go.RowKit
set_option linter.unusedVariables false
set_option linter.unusedSimpArgs false
set_option maxRecDepth 100000

/-! ### Encode -/
end Go.Proofs.Ytfmhhcmjcmechab

namespace Go.Proofs.Ytfmhhcmjcmechab
/-! ### the contracts of package codec stand in CkE (Split), CkF (Decode), CkH (Join), CkI (Encode) -/
end Go.Proofs.Ytfmhhcmjcmechab

namespace Go.Proofs.Ytfmhhcmjcmechab
open Go.ChangeShapes Go.WideShapes Go.ChangeAt Go.RowKit
set_option linter.unusedVariables false
set_option linter.unusedSimpArgs false
set_option maxRecDepth 100000

end Go.Proofs.Ytfmhhcmjcmechab

namespace Go.Proofs.Ytfmhhcmjcmechab
set_option linter.unusedVariables false
set_option linter.unusedSimpArgs false

/-! ### patterns come back (plain mathematics) -/
theorem inR_of (m : Nat) (t : List Bool) (hm : Wd m) (hl : t.length = m - 1) (ht : true ∈ t) : inR m (scaleL t) = true := by
  have hw := wd_le hm
  have hne : t ≠ [] := by rintro rfl; cases ht
  have hex : expL t < 4 := by
    have := numOf_lt ((restL t ++ noughts 2).take 2)
    rw [show ((restL t ++ noughts 2).take 2).length = 2 by simp] at this
    exact this
  refine decide_eq_true ?_
  obtain ⟨b, r, tl, rfl, htl⟩ := split_run t hne
  rw [List.length_append, List.length_replicate] at hl
  unfold scaleL regL
  rw [runL_rep b r tl htl, onesL_rep]
  rcases htl with rfl | ⟨u, rfl⟩
  · rw [List.append_nil] at *
    have hb : b = true := (List.mem_replicate.1 ht).2.symm
    subst hb
    have h0 : expL (List.replicate (r + 1) true) = 0 := by
      unfold expL; rw [restL_end]; decide
    rw [h0]
    simp at hl ⊢; omega
  · rw [List.length_cons] at hl
    generalize expL (List.replicate (r + 1) b ++ (!b) :: u) = ex at *
    cases b <;> simp <;> omega
theorem cut_home (m : Nat) (t : List Bool) (hm : Wd m) (hl : t.length = m - 1) (ht : true ∈ t) : cutL m (scaleL t) (wordL t) = t := by
  have hw := wd_le hm
  obtain ⟨z, hz, _⟩ := canon_parse t ht (by omega)
  unfold cutL
  rw [hz, List.take_append_of_le_length (by omega), List.take_of_length_le (by omega)]
theorem fits_home (m : Nat) (t : List Bool) (hm : Wd m) (hl : t.length = m - 1) (ht : true ∈ t) : fitsN m (scaleL t) (wordL t) = true := by
  unfold fitsN
  rw [cut_home m t hm hl ht]
  simp
theorem sound_home (m : Nat) (neg : Bool) (t : List Bool) (hm : Wd m) (hl : t.length = m - 1) (ht : true ∈ t) : soundN 1 neg (scaleL t) (wordL t) = true := by
  have hw := wd_le hm
  have h1 := of_decide_eq_true (inR_of m t hm hl ht)
  have h2 := wordL_bounds t
  unfold soundN
  rw [if_neg (by decide)]
  exact decide_eq_true ⟨rfl, h2.1, by omega, by omega⟩
theorem parts_none (m : Nat) (t : List Bool) (hm : Wd m) (hl : t.length = m - 1) (ht : true ∈ t) : ¬ isParts t false 0 0 0 0 0 0 := by
  rintro ⟨_, h, _⟩
  cases t with
  | nil => cases ht
  | cons b t => rw [runL] at h; omega
theorem kind_cases (m y : Nat) (hk : kindOf m y ≠ 1) : (kindOf m y = 0 ∧ y = 0) ∨ (kindOf m y = 2 ∧ y = 2 ^ (m - 1)) := by
  unfold kindOf at *
  by_cases h : y = 0
  · rw [if_pos h] at *; exact .inl ⟨rfl, h⟩
  · rw [if_neg h] at *
    by_cases h2 : y = 2 ^ (m - 1)
    · rw [if_pos h2] at *; exact .inr ⟨rfl, h2⟩
    · rw [if_neg h2] at *; exact absurd rfl hk
end Go.Proofs.Ytfmhhcmjcmechab

namespace Go.Proofs.Ytfmhhcmjcmechab
open Go.ChangeShapes Go.WideShapes Go.ChangeAt Go.RowKit
set_option linter.unusedVariables false
set_option linter.unusedSimpArgs false
set_option maxRecDepth 100000

/-! ### ranks (plain mathematics) -/
theorem extOf_val (n x : Nat) (hn : Wd n) : extOf x n = if x % 2 ^ n < 2 ^ (n - 1) then ((x % 2 ^ n : Nat) : Int) else ((x % 2 ^ n : Nat) : Int) - ((2 ^ n : Nat) : Int) := by
  obtain ⟨H, h1, h2, h3, _⟩ := wd_pows hn
  have hw := wd_le hn
  have hm := Nat.mod_lt x (show 0 < 2 ^ n by omega)
  have ht := top_of n _ hn hm
  rw [← testBit_low x n (by omega)] at ht
  unfold extOf
  rw [ht]
  by_cases h : x % 2 ^ n < 2 ^ (n - 1)
  · rw [if_pos h, decide_eq_false (by omega)]; simp
  · rw [if_neg h, decide_eq_true (by omega)]; simp
theorem mod_mod64 (n z : Nat) (hn : Wd n) : z % 2 ^ 64 % 2 ^ n = z % 2 ^ n := Nat.mod_mod_of_dvd z (Nat.pow_dvd_pow 2 (wd_le hn).2)
theorem rank_range (n x : Nat) (hn : Wd n) : ∃ H : Nat, 2 ^ n = 2 * H ∧ 2 ^ (n - 1) = H ∧ 128 ≤ H ∧ -(H : Int) ≤ extOf x n ∧ extOf x n ≤ (H : Int) - 1 ∧ (narB n x = true ↔ extOf x n = -(H : Int)) ∧ H ≤ 9223372036854775808 := by
  obtain ⟨H, h1, h2, h3, q, hq, hq1⟩ := wd_pows hn
  have hm := Nat.mod_lt x (show 0 < 2 ^ n by omega)
  refine ⟨H, h1, h2, h3, ?_, ?_, ?_, ?_⟩
  · rw [extOf_val n x hn]; split <;> omega
  · rw [extOf_val n x hn]; split <;> omega
  · rw [extOf_val n x hn]
    unfold narB
    rw [decide_eq_true_eq]
    constructor
    · intro h; rw [if_neg (by omega)]; omega
    · intro h; split at h <;> omega
  · have := (two_pow_lt hn).2; omega
theorem rank_mod (n x : Nat) (hn : Wd n) : extOf (x % 2 ^ n) n = extOf x n := by
  rw [extOf_val n _ hn, extOf_val n x hn, Nat.mod_mod]
theorem rank_next (n p : Nat) (hn : Wd n) (H : Nat) (h2 : 2 ^ (n - 1) = H) : extOf (nextO n p) n = if extOf p n = -(H : Int) ∨ extOf p n = (H : Int) - 1 then extOf p n else extOf p n + 1 := by
  obtain ⟨H', h1, h2', h3, q, hq, hq1⟩ := wd_pows hn
  have hH : H' = H := by omega
  subst hH
  have hm := Nat.mod_lt p (show 0 < 2 ^ n by omega)
  unfold nextO stepO
  rw [mod_mod64 n _ hn]
  have e := extOf_val n p hn
  by_cases hc : p % 2 ^ n = 2 ^ (n - 1) ∨ p % 2 ^ n = 2 ^ (n - 1) - 1
  · rw [if_pos hc, rank_mod n p hn, if_pos (by rw [e]; split <;> omega)]
  · rw [if_neg hc, if_neg (by rw [e]; split <;> omega), extOf_val n _ hn, Nat.mod_mod, e]
    rw [h1] at *
    generalize p % (2 * H') = y at *
    by_cases h : y + 1 = 2 * H'
    · rw [h, Nat.mod_self]
      rw [if_pos (by omega), if_neg (by omega)]; omega
    · rw [Nat.mod_eq_of_lt (by omega)]
      split <;> split <;> omega
theorem rank_prev (n p : Nat) (hn : Wd n) (H : Nat) (h2 : 2 ^ (n - 1) = H) : extOf (prevO n p) n = if extOf p n = -(H : Int) ∨ extOf p n = 1 - (H : Int) then extOf p n else extOf p n - 1 := by
  obtain ⟨H', h1, h2', h3, q, hq, hq1⟩ := wd_pows hn
  have hH : H' = H := by omega
  subst hH
  have hm := Nat.mod_lt p (show 0 < 2 ^ n by omega)
  have hle := (two_pow_lt hn).2
  unfold prevO stepO
  rw [mod_mod64 n _ hn, Nat.mod_eq_of_lt (show 2 ^ (n - 1) + 1 < 2 ^ 64 by omega)]
  have e := extOf_val n p hn
  by_cases hc : p % 2 ^ n = 2 ^ (n - 1) ∨ p % 2 ^ n = 2 ^ (n - 1) + 1
  · rw [if_pos hc, rank_mod n p hn, if_pos (by rw [e]; split <;> omega)]
  · rw [if_neg hc, if_neg (by rw [e]; split <;> omega), extOf_val n _ hn, Nat.mod_mod, e]
    rw [h1] at *
    generalize p % (2 * H') = y at *
    by_cases h : y = 0
    · subst h
      have e2 : (0 + 18446744073709551615) % (2 * H') = 2 * H' - 1 := by
        rw [show 0 + 18446744073709551615 = (2 * H' - 1) + (2 * H') * (q - 1) by
          have : (2 * H') * (q - 1) + 2 * H' = 18446744073709551616 := by rw [← Nat.mul_succ, show (q - 1).succ = q by omega, hq, Nat.mul_comm]
          omega, Nat.add_mul_mod_self_left, Nat.mod_eq_of_lt (by omega)]
      rw [e2, if_neg (by omega), if_pos (by omega)]; omega
    · have e2 : (y + 18446744073709551615) % (2 * H') = y - 1 := by
        rw [show y + 18446744073709551615 = (y - 1) + (2 * H') * q by
          have : (2 * H') * q = 18446744073709551616 := by rw [hq, Nat.mul_comm]
          omega, Nat.add_mul_mod_self_left, Nat.mod_eq_of_lt (by omega)]
      rw [e2]
      split <;> split <;> omega
theorem rank_min (n a b : Nat) (hn : Wd n) : extOf (minO n a b) n = min (extOf a n) (extOf b n) := by
  unfold minO
  rcases cmpR_cases n a b with ⟨h, h2⟩ | ⟨h, h2⟩ | ⟨h, h2⟩ <;> rw [h]
  · rw [if_pos (by decide), rank_mod n a hn]; omega
  · rw [if_neg (by decide), rank_mod n b hn]; omega
  · rw [if_neg (by decide), rank_mod n b hn]; omega
theorem rank_max (n a b : Nat) (hn : Wd n) : extOf (maxO n a b) n = max (extOf a n) (extOf b n) := by
  unfold maxO
  rcases cmpR_cases n a b with ⟨h, h2⟩ | ⟨h, h2⟩ | ⟨h, h2⟩ <;> rw [h]
  · rw [if_neg (by decide), rank_mod n b hn]; omega
  · rw [if_pos (by decide), rank_mod n a hn]; omega
  · rw [if_neg (by decide), rank_mod n b hn]; omega
theorem rank_neg (n p : Nat) (hn : Wd n) (hp : p < 2 ^ 64) (hk : narB n p = false) : extOf (negO n p) n = -extOf p n := by
  obtain ⟨H, h1, h2, h3, _⟩ := wd_pows hn
  have hm := Nat.mod_lt p (show 0 < 2 ^ n by omega)
  unfold negO
  rw [minusU_mod n p hn hp, extOf_val n _ hn, extOf_val n p hn, Nat.mod_mod]
  unfold narB at hk
  have hk2 : ¬ p % 2 ^ n = 2 ^ (n - 1) := of_decide_eq_false hk
  rw [h1, h2] at *
  generalize p % (2 * H) = y at *
  by_cases h : y = 0
  · subst h; rw [Nat.sub_zero, Nat.mod_self, if_pos (by omega)]; simp
  · rw [Nat.mod_eq_of_lt (a := 2 * H - y) (by omega)]
    split <;> split <;> omega
/-- one on and one back; Min, Max, Clamp -/
theorem chain_facts (n p q : Nat) (hn : Wd n) :
    (cmpR n p (nextO n p) ≤ 0 ∧ stepsO n p (nextO n p) ≤ 1 ∧ (cmpR n p (nextO n p) = 0 ↔ stepsO n p (nextO n p) = 0)) ∧
    (stepsO n p (nextO n p) = 1 → cmpR n p (prevO n (nextO n p)) = 0) ∧
    stepsO n (minO n p q) (maxO n p q) = stepsO n q p ∧
    (∀ A, ((clampV n A (minO n p q) (maxO n p q)).1 = 9 ∧ (clampV n A (minO n p q) (maxO n p q)).2 = 0) ∨ ((clampV n A (minO n p q) (maxO n p q)).1 = 0 ∧ 0 ≤ cmpR n (clampV n A (minO n p q) (maxO n p q)).2 (minO n p q) ∧ 0 ≤ cmpR n (maxO n p q) (clampV n A (minO n p q) (maxO n p q)).2)) := by
  obtain ⟨H, h1, h2, h3, r1, r2, r3, h4⟩ := rank_range n p hn
  have e1 := rank_next n p hn H h2
  have e2 := rank_prev n (nextO n p) hn H h2
  have c1 := cmpR_cases n p (nextO n p)
  have c2 := cmpR_cases n p (prevO n (nextO n p))
  have s1 : stepsO n p (nextO n p) = u64Of (if extOf p n < extOf (nextO n p) n then extOf (nextO n p) n - extOf p n else extOf p n - extOf (nextO n p) n) := rfl
  have us : ∀ t : Int, 0 ≤ t → t ≤ 18446744073709551615 → ((u64Of t : Nat) : Int) = t := fun t a b => by unfold u64Of; omega
  have hs : (stepsO n p (nextO n p) = 0 ∧ extOf (nextO n p) n = extOf p n) ∨ (stepsO n p (nextO n p) = 1 ∧ extOf (nextO n p) n = extOf p n + 1) := by
    rw [s1]
    by_cases hc : extOf p n = -(H : Int) ∨ extOf p n = (H : Int) - 1
    · rw [if_pos hc] at e1
      rw [e1]
      refine .inl ⟨?_, rfl⟩
      rw [if_neg (by omega), Int.sub_self]; rfl
    · rw [if_neg hc] at e1
      rw [e1]
      refine .inr ⟨?_, rfl⟩
      rw [if_pos (by omega)]
      have := us (extOf p n + 1 - extOf p n) (by omega) (by omega)
      omega
  refine ⟨⟨?_, ?_, ?_⟩, ?_, ?_, ?_⟩
  · rcases c1 with ⟨a, b⟩ | ⟨a, b⟩ | ⟨a, b⟩ <;> rcases hs with ⟨s, t⟩ | ⟨s, t⟩ <;> omega
  · rcases hs with ⟨s, t⟩ | ⟨s, t⟩ <;> omega
  · rcases c1 with ⟨a, b⟩ | ⟨a, b⟩ | ⟨a, b⟩ <;> rcases hs with ⟨s, t⟩ | ⟨s, t⟩ <;> omega
  · intro hs1
    have ht : extOf (nextO n p) n = extOf p n + 1 := by rcases hs with ⟨s, t⟩ | ⟨s, t⟩ <;> omega
    have hb : extOf (prevO n (nextO n p)) n = extOf p n := by
      rw [e2, ht]
      by_cases hc : extOf p n = -(H : Int)
      · rw [if_pos (.inl hc)] at e1; omega
      · rw [if_neg (by omega)]; omega
    rcases c2 with ⟨a, b⟩ | ⟨a, b⟩ | ⟨a, b⟩ <;> omega
  · unfold stepsO
    rw [rank_min n p q hn, rank_max n p q hn]
    congr 1
    split <;> split <;> omega
  · intro A
    unfold clampV
    by_cases hc : narB n A = true ∨ narB n (minO n p q) = true ∨ narB n (maxO n p q) = true
    · rw [if_pos hc]; exact .inl ⟨rfl, rfl⟩
    · rw [if_neg hc]
      have hle : ¬ 0 < cmpR n (minO n p q) (maxO n p q) := by
        have m1 := rank_min n p q hn
        have m2 := rank_max n p q hn
        rcases cmpR_cases n (minO n p q) (maxO n p q) with ⟨a, b⟩ | ⟨a, b⟩ | ⟨a, b⟩ <;> omega
      rw [if_neg hle]
      refine .inr ⟨rfl, ?_, ?_⟩
      · show 0 ≤ cmpR n (minO n (maxO n A (minO n p q)) (maxO n p q)) (minO n p q)
        have m1 := rank_min n (maxO n A (minO n p q)) (maxO n p q) hn
        have m2 := rank_max n A (minO n p q) hn
        have m3 := rank_max n p q hn
        have m4 := rank_min n p q hn
        rcases cmpR_cases n (minO n (maxO n A (minO n p q)) (maxO n p q)) (minO n p q) with ⟨a, b⟩ | ⟨a, b⟩ | ⟨a, b⟩ <;> omega
      · show 0 ≤ cmpR n (maxO n p q) (minO n (maxO n A (minO n p q)) (maxO n p q))
        have m1 := rank_min n (maxO n A (minO n p q)) (maxO n p q) hn
        rcases cmpR_cases n (maxO n p q) (minO n (maxO n A (minO n p q)) (maxO n p q)) with ⟨a, b⟩ | ⟨a, b⟩ | ⟨a, b⟩ <;> omega
end Go.Proofs.Ytfmhhcmjcmechab

namespace Go.Proofs.Ytfmhhcmjcmechab
open Go.ChangeShapes Go.WideShapes Go.ChangeAt Go.RowKit
set_option linter.unusedVariables false
set_option linter.unusedSimpArgs false
set_option maxRecDepth 100000

/-! ### package order: ranks, what is known of a width, patterns of ranks -/
abbrev codeO (c : Int) : Value := .iface 29 (.int .i64 c)
theorem home_of (n : Nat) (hn : Wd n) (x : Nat) : u64Of (extOf x n) % 2 ^ n = x % 2 ^ n := by
  rw [extOf_val n x hn]
  rcases hn with rfl | rfl | rfl | rfl <;> (unfold u64Of; simp only [Nat.reducePow, Nat.reduceSub]; split <;> omega)
theorem patok_of (n : Nat) (hn : Wd n) (x : Nat) : patOk n (extOf x n) = true := by
  unfold patOk
  rw [home_of n hn, rank_mod n x hn]
  simp
theorem opat_ok (n x : Nat) (hn : Wd n) (w : World) :
    Calls Try.prog 25 #[.int .i64 n, .int .i64 (extOf x n)] w fun e w' => e = .returned (.tuple #[.int .u64 (x % 2 ^ n : Nat), .nilIface]) ∧ Below w.heap.size w w' := by
  have k := pattern_ok n (extOf x n) hn (patok_of n hn x) w
  rw [home_of n hn] at k
  exact k
theorem onan_any (x : Int) (w : World) : Calls Try.prog 28 #[.int .i64 x] w fun e w' => e = .returned (.bool false) ∧ w' = w := by
  refine cps fun Q hQ => ?_
  go_enter Try.func28, Try.ntmps28
  go_wp2
  exact hQ.out _ _ ⟨by simp, rfl⟩
theorem ocompare_any (x y c : Int) (h : (c = -1 ∧ x < y) ∨ (c = 1 ∧ y < x) ∨ (c = 0 ∧ x = y)) (w : World) : Calls Try.prog 19 #[.int .i64 x, .int .i64 y] w fun e w' => e = .returned (.int .i64 c) ∧ w' = w := by
  refine cps fun Q hQ => ?_
  rcases h with ⟨rfl, h⟩ | ⟨rfl, h⟩ | ⟨rfl, rfl⟩
  · have d1 : decide (x < y) = true := decide_eq_true h
    clear h
    go_enter Try.func19, Try.ntmps19
    go_wp2_with (go_at_call 28; refine (onan_any _ _).mono ?_; rintro e w' ⟨rfl, hw⟩; rw [hw]; clear hw w')
    exact hQ.out _ _ ⟨rfl, rfl⟩
  · have d1 : decide (x < y) = false := decide_eq_false (by omega)
    have d2 : decide (y < x) = true := decide_eq_true h
    clear h
    go_enter Try.func19, Try.ntmps19
    go_wp2_with (go_at_call 28; refine (onan_any _ _).mono ?_; rintro e w' ⟨rfl, hw⟩; rw [hw]; clear hw w')
    exact hQ.out _ _ ⟨rfl, rfl⟩
  · have d1 : decide (x < x) = false := decide_eq_false (by omega)
    go_enter Try.func19, Try.ntmps19
    go_wp2_with (go_at_call 28; refine (onan_any _ _).mono ?_; rintro e w' ⟨rfl, hw⟩; rw [hw]; clear hw w')
    exact hQ.out _ _ ⟨rfl, rfl⟩
theorem oranks_no (n : Int) (a b : Nat) (hn : isW n = false) (w : World) :
    Calls Try.prog 18 #[.int .i64 n, .int .u64 a, .int .u64 b] w fun e w' => e = .returned (.tuple #[.int .i64 0, .int .i64 0, codeO 2]) ∧ Below w.heap.size w w' := by
  have k1 := rank_no n a hn
  clear hn
  refine cps fun Q hQ => ?_
  go_enter Try.func18, Try.ntmps18
  go_wp2_with (go_at_call 27; refine (k1 _).mono ?_; rintro e w1 ⟨rfl, hb1⟩)
  go_ret3
  exact hQ.out _ _ ⟨rfl, hb1⟩
theorem oranks_ok (n a b : Nat) (hn : Wd n) (w : World) :
    Calls Try.prog 18 #[.int .i64 n, .int .u64 a, .int .u64 b] w fun e w' => e = .returned (.tuple #[.int .i64 (extOf a n), .int .i64 (extOf b n), .nilIface]) ∧ Below w.heap.size w w' := by
  have k1 := rank_ok n a hn
  have k2 := rank_ok n b hn
  clear hn
  refine cps fun Q hQ => ?_
  generalize extOf a n = x at *
  generalize extOf b n = y at *
  go_enter Try.func18, Try.ntmps18
  go_wp2_with (first
    | (go_at_call 27; have chk := hb1; refine (k2 _).mono ?_; rintro e w2 ⟨rfl, hb2⟩)
    | (go_at_call 27; refine (k1 _).mono ?_; rintro e w1 ⟨rfl, hb1⟩))
  go_ret3
  exact hQ.out _ _ ⟨rfl, bthenS hb1 hb2⟩
theorem cset5 {a W : World} {m : Nat} {v0 v1 v2 v3 v4 : Value} (h : Below a.heap.size a W) (hb : a.heap.size ≤ m) :
    Below a.heap.size a (((((W.setCell ⟨m, 0, none⟩ v0).setCell ⟨m, 1, none⟩ v1).setCell ⟨m, 2, none⟩ v2).setCell ⟨m, 3, none⟩ v3).setCell ⟨m, 4, none⟩ v4) :=
  cset (cset (cset (cset (cset h hb 0 v0) hb 1 v1) hb 2 v2) hb 3 v3) hb 4 v4
theorem oknown_no (n : Int) (p : Nat) (hn : isW n = false) (w : World) :
    Calls Try.prog 24 #[.int .i64 n, .int .u64 p] w fun e w' => e = .returned (.tuple #[shp0, .int .u64 0, codeO 2]) ∧ Below w.heap.size w w' := by
  have k1 := of_no n hn
  unfold shp0 at *
  clear hn
  refine cps fun Q hQ => ?_
  go_enter Try.func24, Try.ntmps24
  go_wp2_with (go_at_call 35; refine (k1 _).mono ?_; rintro e w1 ⟨rfl, hb1⟩; have HB1 : Hid (Below _ _ _) := hb1; have R0 := (hb1.block w.heap.size (by simp)).trans (rownew w _ _); have b0 := rowcell R0 0; have b1 := rowcell R0 1; have b2 := rowcell R0 2; have b3 := rowcell R0 3; have b4 := rowcell R0 4; have bf := rowfree R0; simp only [List.getElem?_toArray, List.getElem?_cons_zero, List.getElem?_cons_succ] at b0 b1 b2 b3 b4; have z1 : w.heap.size < w1.heap.size := (by have := hb1.size; simp at this; omega); have hne1 : ¬ w.heap.size = w1.heap.size := (by omega); have hne2 : ¬ w1.heap.size = w.heap.size := (by omega); clear hb1 R0)
  refine bodyPost_ret (v := .tuple #[.agg #[.int .i64 0, .int .u64 0, .int .u64 0, .int .u64 0, .int .i64 0], .int .u64 0, codeO 2]) (by simp [results, Try.results24, go_sem, b0, b1, b2, b3, b4, hne1, hne2, z1]) rfl (hQ.out _ _ ⟨rfl, ?_⟩)
  exact cmore (cset5 (cthen (cmore (Below.refl _ _) _) HB1.out) (Nat.le_refl _)) _
theorem oknown_ok (n p : Nat) (hn : Wd n) (hp : p < 2 ^ 64) (w : World) :
    Calls Try.prog 24 #[.int .i64 n, .int .u64 p] w fun e w' => e = .returned (.tuple #[shp n (2 ^ (n - 1)), .int .u64 (p % 2 ^ n : Nat), .nilIface]) ∧ Below w.heap.size w w' := by
  have k1 := of_ok n hn
  have k2 := fold_ok n p hn hp
  unfold shp at *
  clear hn hp
  generalize p % 2 ^ n = x at *
  generalize 2 ^ (n - 1) = m at *
  refine cps fun Q hQ => ?_
  go_enter Try.func24, Try.ntmps24
  go_wp2_with (first
    | (go_at_call 35; refine (k1 _).mono ?_; rintro e w1 ⟨rfl, hb1⟩; have HB1 : Hid (Below _ _ _) := hb1; have R0 : Hid (w1.heap[w.heap.size]? = _) := (hb1.block w.heap.size (by simp)).trans (rownew w _ _); have z1 : w.heap.size < w1.heap.size := (by have := hb1.size; simp at this; omega); clear hb1)
    | (go_at_call 21; refine (k2 _).mono ?_; rintro e w2 ⟨rfl, hb2⟩; have HB2 : Hid (Below _ _ _) := hb2; have R1 := (hb2.block w.heap.size (by simp; omega)).trans ((Below.heap_alloc w1 _ _ z1).trans R0.out); have b0 := rowcell R1 0; have b1 := rowcell R1 1; have b2 := rowcell R1 2; have b3 := rowcell R1 3; have b4 := rowcell R1 4; have bf := rowfree R1; simp only [List.getElem?_toArray, List.getElem?_cons_zero, List.getElem?_cons_succ] at b0 b1 b2 b3 b4; have R2 := (hb2.block w1.heap.size (by simp)).trans (rownew w1 _ _); have c0 := rowcell R2 0; have c1 := rowcell R2 1; have c2 := rowcell R2 2; have c3 := rowcell R2 3; have c4 := rowcell R2 4; have cf := rowfree R2; simp only [List.getElem?_toArray, List.getElem?_cons_zero, List.getElem?_cons_succ] at c0 c1 c2 c3 c4; clear hb2 R1 R2))
  refine bodyPost_ret (v := .tuple #[.agg #[.int .i64 n, .int .u64 (m - 1 : Nat), .int .u64 1, .int .u64 m, .int .i64 (4 * n - 8 : Nat)], .int .u64 x, .nilIface]) (by simp [results, Try.results24, go_sem, b0, b1, b2, b3, b4]) rfl (hQ.out _ _ ⟨rfl, ?_⟩)
  exact cset5 (cthen (cmore (cthen (cmore (Below.refl _ _) _) HB1.out) _) HB2.out) (Nat.le_refl _)
end Go.Proofs.Ytfmhhcmjcmechab

namespace Go.Proofs.Ytfmhhcmjcmechab
open Go.ChangeShapes Go.WideShapes Go.ChangeAt Go.RowKit
set_option linter.unusedVariables false
set_option linter.unusedSimpArgs false
set_option maxRecDepth 100000

theorem kind_nar (n x : Nat) (hn : Wd n) : (kindOf n (x % 2 ^ n) == 2) = narB n x := by
  unfold kindOf narB
  have hp := two_pow_lt hn
  by_cases h : x % 2 ^ n = 0
  · rw [if_pos h, h, decide_eq_false (by omega)]; rfl
  · rw [if_neg h]
    by_cases h2 : x % 2 ^ n = 2 ^ (n - 1)
    · rw [if_pos h2, decide_eq_true h2]; rfl
    · rw [if_neg h2, decide_eq_false h2]; rfl
set_option maxHeartbeats 1000000 in
theorem orefuse_ok (n : Nat) (hn : Wd n) (l : List Nat) (hl : ∀ x ∈ l, x < 2 ^ 64) (hlen : l.length ≤ 1099511627776) (g c : Nat) (w : World) (hg : g < w.heap.size) (h : ∀ j (hj : j < l.length), w.cell? ⟨g, j, none⟩ = some (.int .u64 (l[j] : Nat))) :
    Calls Try.prog 26 #[.int .i64 n, .slice (some ⟨g, 0, none⟩) l.length c] w fun e w' => e = .returned (if l.any (narB n) then codeO 9 else .nilIface) ∧ Below w.heap.size w w' := by
  refine cps fun Q hQ => ?_
  have H : Hid (∀ j (hj : j < l.length), w.cell? ⟨g, j, none⟩ = some (.int .u64 (l[j] : Nat))) := h
  have HL : Hid (∀ x ∈ l, x < 2 ^ 64) := hl
  have HN : Hid (Wd n) := hn
  clear h hl hn
  go_enter Try.func26, Try.ntmps26
  go_wp2
  go_loopw [11] (fun iv wr => ∃ i : Nat, i ≤ l.length ∧ iv = .int .i64 i ∧ Hid (∀ j (hj : j < l.length), j < i → narB n l[j] = false) ∧ Hid (Below w.heap.size w wr)) (fun iv _ => l.length - (intOf iv).toNat)
  case atStart => exact ⟨0, Nat.zero_le _, rfl, fun j hj h => by omega, Below.refl _ _⟩
  case round =>
    obtain ⟨i, hi, rfl, hst, hbl⟩ := hrel
    by_cases hlt : i < l.length
    · have hc := H.out i hlt
      rw [← hbl.out.cell (p := ⟨g, i, none⟩) hg] at hc
      have k1 := fun W => kind_ok n l[i] HN.out (HL.out _ (List.getElem_mem hlt)) W
      have hk := kind_nar n l[i] HN.out
      obtain ⟨x, hx⟩ : ∃ x, x = l[i] := ⟨_, rfl⟩
      rw [← hx] at hc k1 hk
      have HX : Hid (x = l[i]) := hx
      clear hx
      generalize kindOf n (x % 2 ^ n) = k at *
      cases hb : narB n x
      · rw [hb] at hk
        have HB : Hid (narB n x = false) := hb
        clear hb
        go_wp2_with (go_at_call 36; refine (k1 _).mono ?_; rintro e w1 ⟨rfl, hb1⟩)
        go_roundw
        case rel => exact ⟨i + 1, by omega, by go_num, fun j hj h => by
          by_cases e : j = i
          · subst e; rw [← HX.out]; exact HB.out
          · exact hst.out j hj (by omega), hbl.out.trans (hb1.mono hbl.out.size)⟩
        case measure => simp [intOf]; omega
      · rw [hb] at hk
        have hif : l.any (narB n) = true := List.any_eq_true.2 ⟨x, HX.out ▸ List.getElem_mem hlt, hb⟩
        rw [hif, if_pos rfl] at hQ
        clear hb hif
        go_wp2_with (go_at_call 36; refine (k1 _).mono ?_; rintro e w1 ⟨rfl, hb1⟩)
        exact hQ.out _ _ ⟨rfl, hbl.out.trans (hb1.mono hbl.out.size)⟩
    · have hif : l.any (narB n) = false := by
        rw [List.any_eq_false]
        intro x hx
        obtain ⟨j, hj, e⟩ := List.getElem_of_mem hx
        rw [← e, hst.out j hj (by omega)]
        decide
      rw [hif, if_neg (by decide)] at hQ
      clear hif
      go_wp2
      exact hQ.out _ _ ⟨rfl, hbl.out⟩
theorem orefuse_no (n : Int) (hn : isW n = false) (x : Nat) (k g c : Nat) (hk : 1 ≤ k) (w : World) (h : w.cell? ⟨g, 0, none⟩ = some (.int .u64 (x : Nat))) :
    Calls Try.prog 26 #[.int .i64 n, .slice (some ⟨g, 0, none⟩) k c] w fun e w' => e = .returned (codeO 2) ∧ Below w.heap.size w w' := by
  have k1 := kind_no n x hn
  refine cps fun Q hQ => ?_
  clear hn
  go_enter Try.func26, Try.ntmps26
  go_wp2
  go_loopw [11] (fun iv wr => iv = .int .i64 0 ∧ wr = w) (fun iv _ => 1)
  case atStart => exact ⟨rfl, rfl⟩
  case round =>
    obtain ⟨rfl, rfl⟩ := hrel
    go_wp2_with (go_at_call 36; refine (k1 _).mono ?_; rintro e w1 ⟨rfl, hb1⟩)
    exact hQ.out _ _ ⟨rfl, hb1⟩
theorem ocmp_no (n : Int) (a b : Nat) (hn : isW n = false) (w : World) :
    Calls Try.prog 6 #[.int .i64 n, .int .u64 a, .int .u64 b] w fun e w' => e = .returned (.tuple #[.int .i64 0, codeO 2]) ∧ Below w.heap.size w w' := by
  have k1 := oranks_no n a b hn
  clear hn
  refine cps fun Q hQ => ?_
  go_enter Try.func6, Try.ntmps6
  go_wp2_with (go_at_call 18; refine (k1 _).mono ?_; rintro e w1 ⟨rfl, hb1⟩)
  exact hQ.out _ _ ⟨rfl, hb1⟩
theorem omin_no (n : Int) (a b : Nat) (hn : isW n = false) (w : World) :
    Calls Try.prog 15 #[.int .i64 n, .int .u64 a, .int .u64 b] w fun e w' => e = .returned (.tuple #[.int .u64 0, codeO 2]) ∧ Below w.heap.size w w' := by
  have k1 := oranks_no n a b hn
  clear hn
  refine cps fun Q hQ => ?_
  go_enter Try.func15, Try.ntmps15
  go_wp2_with (go_at_call 18; refine (k1 _).mono ?_; rintro e w1 ⟨rfl, hb1⟩)
  exact hQ.out _ _ ⟨rfl, hb1⟩
theorem omax_no (n : Int) (a b : Nat) (hn : isW n = false) (w : World) :
    Calls Try.prog 16 #[.int .i64 n, .int .u64 a, .int .u64 b] w fun e w' => e = .returned (.tuple #[.int .u64 0, codeO 2]) ∧ Below w.heap.size w w' := by
  have k1 := oranks_no n a b hn
  clear hn
  refine cps fun Q hQ => ?_
  go_enter Try.func16, Try.ntmps16
  go_wp2_with (go_at_call 18; refine (k1 _).mono ?_; rintro e w1 ⟨rfl, hb1⟩)
  exact hQ.out _ _ ⟨rfl, hb1⟩
theorem onext_no (n : Int) (p : Nat) (hn : isW n = false) (w : World) :
    Calls Try.prog 12 #[.int .i64 n, .int .u64 p] w fun e w' => e = .returned (.tuple #[.int .u64 0, codeO 2]) ∧ Below w.heap.size w w' := by
  have k1 := oknown_no n p hn
  unfold shp0 at k1
  clear hn
  refine cps fun Q hQ => ?_
  go_enter Try.func12, Try.ntmps12
  go_wp2_with (go_at_call 24; refine (k1 _).mono ?_; rintro e w1 ⟨rfl, hb1⟩)
  exact hQ.out _ _ ⟨rfl, bmoreS hb1 _⟩
theorem oprev_no (n : Int) (p : Nat) (hn : isW n = false) (w : World) :
    Calls Try.prog 13 #[.int .i64 n, .int .u64 p] w fun e w' => e = .returned (.tuple #[.int .u64 0, codeO 2]) ∧ Below w.heap.size w w' := by
  have k1 := oknown_no n p hn
  unfold shp0 at k1
  clear hn
  refine cps fun Q hQ => ?_
  go_enter Try.func13, Try.ntmps13
  go_wp2_with (go_at_call 24; refine (k1 _).mono ?_; rintro e w1 ⟨rfl, hb1⟩)
  exact hQ.out _ _ ⟨rfl, bmoreS hb1 _⟩
theorem osteps_no (n : Int) (a b : Nat) (hn : isW n = false) (w : World) :
    Calls Try.prog 14 #[.int .i64 n, .int .u64 a, .int .u64 b] w fun e w' => e = .returned (.tuple #[.int .u64 0, codeO 2]) ∧ Below w.heap.size w w' := by
  have k1 := oranks_no n a b hn
  clear hn
  refine cps fun Q hQ => ?_
  go_enter Try.func14, Try.ntmps14
  go_wp2_with (go_at_call 18; refine (k1 _).mono ?_; rintro e w1 ⟨rfl, hb1⟩)
  exact hQ.out _ _ ⟨rfl, hb1⟩
theorem oneg_no (n : Int) (p : Nat) (hn : isW n = false) (w : World) :
    Calls Try.prog 9 #[.int .i64 n, .int .u64 p] w fun e w' => e = .returned (.tuple #[.int .u64 0, codeO 2]) ∧ Below w.heap.size w w' := by
  obtain ⟨u, hu⟩ : ∃ u : Nat, (u : Int) = -(p : Int) % 18446744073709551616 := ⟨(-(p : Int) % 18446744073709551616).toNat, by omega⟩
  have k1 := fold_no n u hn
  have e1 : IntKind.u64.wrap (-(p : Int)) = (u : Int) := by rw [IntKind.wrap_u64, hu]
  have e2 := hu.symm
  clear hn hu
  refine cps fun Q hQ => ?_
  go_enter Try.func9, Try.ntmps9
  go_wp2_with (go_at_call 21; refine (k1 _).mono ?_; rintro e w1 ⟨rfl, hb1⟩)
  exact hQ.out _ _ ⟨rfl, hb1⟩
theorem oneg_ok (n p : Nat) (hn : Wd n) (hp : p < 2 ^ 64) (w : World) :
    Calls Try.prog 9 #[.int .i64 n, .int .u64 p] w fun e w' => e = .returned (.tuple #[.int .u64 (negO n p : Nat), .nilIface]) ∧ Below w.heap.size w w' := by
  have k1 := fold_ok n (minusU p) hn (minusU_lt p)
  have e1 := minusU_wrap p hp
  have e2 : -(p : Int) % 18446744073709551616 = (minusU p : Int) := by rw [← e1, IntKind.wrap_u64]
  unfold negO
  clear hn hp
  generalize minusU p % 2 ^ n = r at *
  generalize minusU p = u at *
  refine cps fun Q hQ => ?_
  go_enter Try.func9, Try.ntmps9
  go_wp2_with (go_at_call 21; refine (k1 _).mono ?_; rintro e w1 ⟨rfl, hb1⟩)
  exact hQ.out _ _ ⟨rfl, hb1⟩
theorem ocmp_ok (n a b : Nat) (hn : Wd n) (ha : a < 2 ^ 64) (hb : b < 2 ^ 64) (w : World) :
    Calls Try.prog 6 #[.int .i64 n, .int .u64 a, .int .u64 b] w fun e w' => e = .returned (.tuple #[.int .i64 (cmpR n a b), .nilIface]) ∧ Below w.heap.size w w' := by
  have k1 := oranks_ok n a b hn
  have hc := cmpR_cases n a b
  have k2 := ocompare_any (extOf a n) (extOf b n) (cmpR n a b) hc
  clear hn ha hb hc
  generalize cmpR n a b = c at *
  generalize extOf a n = x at *
  generalize extOf b n = y at *
  refine cps fun Q hQ => ?_
  go_enter Try.func6, Try.ntmps6
  go_wp2_with (first
    | (go_at_call 18; refine (k1 _).mono ?_; rintro e w1 ⟨rfl, hb1⟩)
    | (go_at_call 19; refine (k2 _).mono ?_; rintro e wx ⟨rfl, hwx⟩; rw [hwx]; clear hwx wx))
  exact hQ.out _ _ ⟨rfl, hb1⟩
theorem omin_ok (n a b : Nat) (hn : Wd n) (ha : a < 2 ^ 64) (hb : b < 2 ^ 64) (w : World) :
    Calls Try.prog 15 #[.int .i64 n, .int .u64 a, .int .u64 b] w fun e w' => e = .returned (.tuple #[.int .u64 (minO n a b : Nat), .nilIface]) ∧ Below w.heap.size w w' := by
  have k1 := oranks_ok n a b hn
  have k2 := opat_ok n (minO n a b) hn
  have hm : (if extOf b n < extOf a n then extOf b n else extOf a n) = extOf (minO n a b) n := by rw [rank_min n a b hn]; split <;> omega
  rw [show minO n a b % 2 ^ n = minO n a b by unfold minO; split <;> exact Nat.mod_mod _ _] at k2
  generalize extOf (minO n a b) n = r at *
  generalize minO n a b = z at *
  generalize extOf a n = x at *
  generalize extOf b n = y at *
  clear hn ha hb
  refine cps fun Q hQ => ?_
  go_enter Try.func15, Try.ntmps15
  go_wp2_with (first
    | (go_at_call 18; refine (k1 _).mono ?_; rintro e w1 ⟨rfl, hb1⟩)
    | (go_at_call 25; refine (k2 _).mono ?_; rintro e w2 ⟨rfl, hb2⟩))
  exact hQ.out _ _ ⟨rfl, bthenS hb1 hb2⟩
theorem omax_ok (n a b : Nat) (hn : Wd n) (ha : a < 2 ^ 64) (hb : b < 2 ^ 64) (w : World) :
    Calls Try.prog 16 #[.int .i64 n, .int .u64 a, .int .u64 b] w fun e w' => e = .returned (.tuple #[.int .u64 (maxO n a b : Nat), .nilIface]) ∧ Below w.heap.size w w' := by
  have k1 := oranks_ok n a b hn
  have k2 := opat_ok n (maxO n a b) hn
  have hm : (if extOf a n < extOf b n then extOf b n else extOf a n) = extOf (maxO n a b) n := by rw [rank_max n a b hn]; split <;> omega
  rw [show maxO n a b % 2 ^ n = maxO n a b by unfold maxO; split <;> exact Nat.mod_mod _ _] at k2
  generalize extOf (maxO n a b) n = r at *
  generalize maxO n a b = z at *
  generalize extOf a n = x at *
  generalize extOf b n = y at *
  clear hn ha hb
  refine cps fun Q hQ => ?_
  go_enter Try.func16, Try.ntmps16
  go_wp2_with (first
    | (go_at_call 18; refine (k1 _).mono ?_; rintro e w1 ⟨rfl, hb1⟩)
    | (go_at_call 25; refine (k2 _).mono ?_; rintro e w2 ⟨rfl, hb2⟩))
  exact hQ.out _ _ ⟨rfl, bthenS hb1 hb2⟩
theorem onext_ok (n p : Nat) (hn : Wd n) (hp : p < 2 ^ 64) (w : World) :
    Calls Try.prog 12 #[.int .i64 n, .int .u64 p] w fun e w' => e = .returned (.tuple #[.int .u64 (nextO n p : Nat), .nilIface]) ∧ Below w.heap.size w w' := by
  have k1 := oknown_ok n p hn hp
  have k2 := fold_ok n ((p % 2 ^ n + 1) % 2 ^ 64) hn (Nat.mod_lt _ (by decide))
  have hm := two_pow_lt hn
  rw [show nextO n p = stepO n p 1 (2 ^ (n - 1) - 1) from rfl]
  unfold shp at k1
  unfold stepO
  have hq : ∃ q, q = (2 ^ (n - 1) - 1) ∧ q = 2 ^ (n - 1) - 1 := ⟨_, rfl, rfl⟩
  obtain ⟨q, hq1, hq2⟩ := hq
  rw [← hq1]
  have hx64 : p % 2 ^ n < 2 ^ 64 := Nat.lt_of_le_of_lt (Nat.mod_le _ _) hp
  obtain ⟨y, hy⟩ : ∃ y, y = (p % 2 ^ n + 1) % 2 ^ 64 := ⟨_, rfl⟩
  rw [← hy] at k2
  rw [← hy]
  have e1 : IntKind.u64.wrap (((p % 2 ^ n : Nat) : Int) + 1) = (y : Int) := by rw [IntKind.wrap_u64, hy]; omega
  have e2 : (((p % 2 ^ n : Nat) : Int) + 1) % 18446744073709551616 = (y : Int) := by rw [hy]; omega
  clear hy hn hp hx64 hq1
  generalize y % 2 ^ n = z at *
  generalize p % 2 ^ n = x at *
  generalize 2 ^ (n - 1) = m at *
  have hq3 : (m - 1 : Nat) = q := by omega
  clear hq2
  rw [hq3] at k1
  clear hm
  refine cps fun Q hQ => ?_
  by_cases h1 : x = m
  · rw [if_pos (.inl h1)] at hQ
    have d1 : ((x : Int) == (m : Int)) = true := beq_iff_eq.2 (by omega)
    clear h1
    go_enter Try.func12, Try.ntmps12
    go_wp2_with (first
      | (go_at_call 24; refine (k1 _).mono ?_; rintro e w1 ⟨rfl, hb1⟩)
      | (go_at_call 21; refine (k2 _).mono ?_; rintro e w2 ⟨rfl, hb2⟩))
    exact hQ.out _ _ ⟨rfl, bmoreS hb1 _⟩
  · have d1 : ((x : Int) == (m : Int)) = false := beq_eq_false_iff_ne.2 (by omega)
    by_cases h2 : x = q
    · rw [if_pos (.inr h2)] at hQ
      have d2 : ((x : Int) == (q : Int)) = true := beq_iff_eq.2 (by omega)
      clear h1 h2
      go_enter Try.func12, Try.ntmps12
      go_wp2_with (first
        | (go_at_call 24; refine (k1 _).mono ?_; rintro e w1 ⟨rfl, hb1⟩)
        | (go_at_call 21; refine (k2 _).mono ?_; rintro e w2 ⟨rfl, hb2⟩))
      exact hQ.out _ _ ⟨rfl, bmoreS hb1 _⟩
    · rw [if_neg (by rintro (h | h); exact h1 h; exact h2 h)] at hQ
      have d2 : ((x : Int) == (q : Int)) = false := beq_eq_false_iff_ne.2 (by omega)
      clear h1 h2
      go_enter Try.func12, Try.ntmps12
      go_wp2_with (first
        | (go_at_call 24; refine (k1 _).mono ?_; rintro e w1 ⟨rfl, hb1⟩)
        | (go_at_call 21; refine (k2 _).mono ?_; rintro e w2 ⟨rfl, hb2⟩))
      exact hQ.out _ _ ⟨rfl, bthenS (bmoreS hb1 _) hb2⟩
theorem oprev_ok (n p : Nat) (hn : Wd n) (hp : p < 2 ^ 64) (w : World) :
    Calls Try.prog 13 #[.int .i64 n, .int .u64 p] w fun e w' => e = .returned (.tuple #[.int .u64 (prevO n p : Nat), .nilIface]) ∧ Below w.heap.size w w' := by
  have k1 := oknown_ok n p hn hp
  have k2 := fold_ok n ((p % 2 ^ n + 18446744073709551615) % 2 ^ 64) hn (Nat.mod_lt _ (by decide))
  have hm := two_pow_lt hn
  rw [show prevO n p = stepO n p 18446744073709551615 ((2 ^ (n - 1) + 1) % 2 ^ 64) from rfl]
  unfold shp at k1
  unfold stepO
  have hq : ∃ q, q = ((2 ^ (n - 1) + 1) % 2 ^ 64) ∧ q = 2 ^ (n - 1) + 1 := ⟨_, rfl, Nat.mod_eq_of_lt (by omega)⟩
  obtain ⟨q, hq1, hq2⟩ := hq
  rw [← hq1]
  have hx64 : p % 2 ^ n < 2 ^ 64 := Nat.lt_of_le_of_lt (Nat.mod_le _ _) hp
  obtain ⟨y, hy⟩ : ∃ y, y = (p % 2 ^ n + 18446744073709551615) % 2 ^ 64 := ⟨_, rfl⟩
  rw [← hy] at k2
  rw [← hy]
  have e1 : IntKind.u64.wrap (((p % 2 ^ n : Nat) : Int) - 1) = (y : Int) := by rw [IntKind.wrap_u64, hy]; omega
  have e2 : (((p % 2 ^ n : Nat) : Int) - 1) % 18446744073709551616 = (y : Int) := by rw [hy]; omega
  clear hy hn hp hx64 hq1
  generalize y % 2 ^ n = z at *
  generalize p % 2 ^ n = x at *
  generalize 2 ^ (n - 1) = m at *
  have hq3 : ((m : Int) + 1) = (q : Int) := by omega
  clear hq2
  have e3 : IntKind.u64.wrap (q : Int) = (q : Int) := by rw [wrapN, Nat.mod_eq_of_lt (by omega)]
  clear hm
  refine cps fun Q hQ => ?_
  by_cases h1 : x = m
  · rw [if_pos (.inl h1)] at hQ
    have d1 : ((x : Int) == (m : Int)) = true := beq_iff_eq.2 (by omega)
    clear h1
    go_enter Try.func13, Try.ntmps13
    go_wp2_with (first
      | (go_at_call 24; refine (k1 _).mono ?_; rintro e w1 ⟨rfl, hb1⟩)
      | (go_at_call 21; refine (k2 _).mono ?_; rintro e w2 ⟨rfl, hb2⟩))
    exact hQ.out _ _ ⟨rfl, bmoreS hb1 _⟩
  · have d1 : ((x : Int) == (m : Int)) = false := beq_eq_false_iff_ne.2 (by omega)
    by_cases h2 : x = q
    · rw [if_pos (.inr h2)] at hQ
      have d2 : ((x : Int) == (q : Int)) = true := beq_iff_eq.2 (by omega)
      clear h1 h2
      go_enter Try.func13, Try.ntmps13
      go_wp2_with (first
        | (go_at_call 24; refine (k1 _).mono ?_; rintro e w1 ⟨rfl, hb1⟩)
        | (go_at_call 21; refine (k2 _).mono ?_; rintro e w2 ⟨rfl, hb2⟩))
      exact hQ.out _ _ ⟨rfl, bmoreS hb1 _⟩
    · rw [if_neg (by rintro (h | h); exact h1 h; exact h2 h)] at hQ
      have d2 : ((x : Int) == (q : Int)) = false := beq_eq_false_iff_ne.2 (by omega)
      clear h1 h2
      go_enter Try.func13, Try.ntmps13
      go_wp2_with (first
        | (go_at_call 24; refine (k1 _).mono ?_; rintro e w1 ⟨rfl, hb1⟩)
        | (go_at_call 21; refine (k2 _).mono ?_; rintro e w2 ⟨rfl, hb2⟩))
      exact hQ.out _ _ ⟨rfl, bthenS (bmoreS hb1 _) hb2⟩
theorem osteps_ok (n a b : Nat) (hn : Wd n) (ha : a < 2 ^ 64) (hb : b < 2 ^ 64) (w : World) :
    Calls Try.prog 14 #[.int .i64 n, .int .u64 a, .int .u64 b] w fun e w' => e = .returned (.tuple #[.int .u64 (stepsO n a b : Nat), .nilIface]) ∧ Below w.heap.size w w' := by
  have k1 := oranks_ok n a b hn
  unfold stepsO
  clear hn ha hb
  generalize extOf a n = x at *
  generalize extOf b n = y at *
  refine cps fun Q hQ => ?_
  obtain ⟨g, hg⟩ : ∃ g, g = (if x < y then y else x) := ⟨_, rfl⟩
  obtain ⟨l, hl⟩ : ∃ l, l = (if y < x then y else x) := ⟨_, rfl⟩
  have hgl : (if x < y then y - x else x - y) = g - l := by rw [hg, hl]; split <;> split <;> omega
  rw [hgl] at hQ
  have s1 := u64_sub g l
  have s3 : (g % 18446744073709551616 - l % 18446744073709551616) % 18446744073709551616 = (u64Of (g - l) : Int) := by unfold u64Of; omega
  have hg' := hg.symm
  have hl' := hl.symm
  generalize u64Of (g - l) = u at *
  clear hg hl hgl
  go_enter Try.func14, Try.ntmps14
  go_wp2_with (go_at_call 18; refine (k1 _).mono ?_; rintro e w1 ⟨rfl, hb1⟩)
  exact hQ.out _ _ ⟨rfl, hb1⟩
theorem orefuse1_ok (n p : Nat) (hn : Wd n) (hp : p < 2 ^ 64) (w : World) (t : TypeId) :
    Calls Try.prog 26 #[.int .i64 n, .slice (some ⟨w.heap.size, 0, none⟩) 1 1] (w.alloc (.cells #[.int .u64 p] t)) fun e w' => e = .returned (if narB n p then codeO 9 else .nilIface) ∧ Below (w.alloc (.cells #[.int .u64 p] t)).heap.size (w.alloc (.cells #[.int .u64 p] t)) w' := by
  have k := orefuse_ok n hn [p] (by simpa using hp) (by simp) w.heap.size 1 (w.alloc (.cells #[.int .u64 p] t)) (by simp) (fun j hj => by
    have : j = 0 := by simpa using hj
    subst this
    exact World.cell?_alloc_at _ _ _ _ rfl)
  simpa using k
theorem orefuse3_ok (n p lo hi : Nat) (hn : Wd n) (hp : p < 2 ^ 64) (hlo : lo < 2 ^ 64) (hhi : hi < 2 ^ 64) (w : World) (t : TypeId) :
    Calls Try.prog 26 #[.int .i64 n, .slice (some ⟨w.heap.size, 0, none⟩) 3 3] (w.alloc (.cells #[.int .u64 p, .int .u64 lo, .int .u64 hi] t)) fun e w' => e = .returned (if narB n p || (narB n lo || narB n hi) then codeO 9 else .nilIface) ∧ Below (w.alloc (.cells #[.int .u64 p, .int .u64 lo, .int .u64 hi] t)).heap.size (w.alloc (.cells #[.int .u64 p, .int .u64 lo, .int .u64 hi] t)) w' := by
  have k := orefuse_ok n hn [p, lo, hi] (by intro x hx; simp at hx; rcases hx with rfl | rfl | rfl <;> assumption) (by simp) w.heap.size 3 (w.alloc (.cells #[.int .u64 p, .int .u64 lo, .int .u64 hi] t)) (by simp) (fun j hj => by
    have h3 : j = 0 ∨ j = 1 ∨ j = 2 := by simp at hj; omega
    rcases h3 with rfl | rfl | rfl <;> exact World.cell?_alloc_at _ _ _ _ rfl)
  simp only [List.any_cons, List.any_nil, Bool.or_false, List.length_cons, List.length_nil, Nat.zero_add, Nat.reduceAdd] at k
  exact k
theorem oclamp_no (n : Int) (p lo hi : Nat) (hn : isW n = false) (w : World) :
    Calls Try.prog 17 #[.int .i64 n, .int .u64 p, .int .u64 lo, .int .u64 hi] w fun e w' => e = .returned (.tuple #[.int .u64 0, codeO 2]) ∧ Below w.heap.size w w' := by
  have k1 := fun (w : World) (t : TypeId) => orefuse_no n hn p 3 w.heap.size 3 (by decide) (w.alloc (.cells #[.int .u64 p, .int .u64 lo, .int .u64 hi] t)) (World.cell?_alloc_at _ _ _ _ rfl)
  clear hn
  refine cps fun Q hQ => ?_
  go_enter Try.func17, Try.ntmps17
  go_wp2_with (go_at_call 26; refine (k1 _ _).mono ?_; rintro e w1 ⟨rfl, hb1⟩)
  exact hQ.out _ _ ⟨rfl, bthenS (bmoreS (Below.refl _ _) _) hb1⟩
theorem oclamp_ok (n p lo hi : Nat) (hn : Wd n) (hp : p < 2 ^ 64) (hlo : lo < 2 ^ 64) (hhi : hi < 2 ^ 64) (w : World) :
    Calls Try.prog 17 #[.int .i64 n, .int .u64 p, .int .u64 lo, .int .u64 hi] w fun e w' => e = .returned (.tuple #[.int .u64 (clampV n p lo hi).2, (if (clampV n p lo hi).1 = 0 then .nilIface else codeO (clampV n p lo hi).1)]) ∧ Below w.heap.size w w' := by
  have k1 := orefuse3_ok n p lo hi hn hp hlo hhi
  have k2 := oranks_ok n lo hi hn
  have k3 := rank_ok n p hn
  have k4 := opat_ok n (minO n (maxO n p lo) hi) hn
  rw [rank_min n _ _ hn, rank_max n _ _ hn, show minO n (maxO n p lo) hi % 2 ^ n = minO n (maxO n p lo) hi by unfold minO; split <;> exact Nat.mod_mod _ _] at k4
  have hc := cmpR_cases n lo hi
  unfold clampV
  clear hn hp hlo hhi
  generalize minO n (maxO n p lo) hi = z at *
  generalize cmpR n lo hi = c at *
  generalize extOf p n = x at *
  generalize extOf lo n = l at *
  generalize extOf hi n = h at *
  have hor : (narB n p = true ∨ narB n lo = true ∨ narB n hi = true) ↔ (narB n p || (narB n lo || narB n hi)) = true := by simp
  generalize (narB n p || (narB n lo || narB n hi)) = bb at *
  refine cps fun Q hQ => ?_
  cases bb
  · rw [if_neg (fun e => Bool.noConfusion (hor.1 e))] at hQ
    simp only [Bool.false_eq_true, if_false] at k1
    clear hor
    by_cases hlt : h < l
    · have hc1 : c = 1 := by omega
      subst hc1
      rw [if_pos (by decide), if_neg (by decide)] at hQ
      have d1 : decide (h < l) = true := decide_eq_true hlt
      clear hc hlt k4 k3
      go_enter Try.func17, Try.ntmps17
      go_wp2_with (first
        | (go_at_call 26; refine (k1 _ _).mono ?_; rintro e w1 ⟨rfl, hb1⟩)
        | (go_at_call 18; refine (k2 _).mono ?_; rintro e w2 ⟨rfl, hb2⟩))
      exact hQ.out _ _ ⟨rfl, bthenS (bthenS (bmoreS (Below.refl _ _) _) hb1) hb2⟩
    · rw [if_neg (by omega), if_pos rfl] at hQ
      have d1 : decide (h < l) = false := decide_eq_false hlt
      obtain ⟨g, hg⟩ : ∃ g, g = (if x < l then l else x) := ⟨_, rfl⟩
      obtain ⟨m, hm⟩ : ∃ m, m = (if h < g then h else g) := ⟨_, rfl⟩
      rw [show max x l = g by rw [hg]; split <;> omega, show min g h = m by rw [hm]; split <;> omega] at k4
      have hg' := hg.symm
      have hm' := hm.symm
      clear hc hlt hg hm
      go_enter Try.func17, Try.ntmps17
      go_wp2_with (first
        | (go_at_call 26; refine (k1 _ _).mono ?_; rintro e w1 ⟨rfl, hb1⟩)
        | (go_at_call 18; refine (k2 _).mono ?_; rintro e w2 ⟨rfl, hb2⟩)
        | (go_at_call 27; refine (k3 _).mono ?_; rintro e w3 ⟨rfl, hb3⟩)
        | (go_at_call 25; refine (k4 _).mono ?_; rintro e w4 ⟨rfl, hb4⟩))
      exact hQ.out _ _ ⟨rfl, bthenS (bthenS (bthenS (bthenS (bmoreS (Below.refl _ _) _) hb1) hb2) hb3) hb4⟩
  · rw [if_pos (hor.2 rfl), if_neg (by decide)] at hQ
    simp only [if_true] at k1
    clear hor hc k2 k3 k4
    go_enter Try.func17, Try.ntmps17
    go_wp2_with (go_at_call 26; refine (k1 _ _).mono ?_; rintro e w1 ⟨rfl, hb1⟩)
    exact hQ.out _ _ ⟨rfl, bthenS (bmoreS (Below.refl _ _) _) hb1⟩
end Go.Proofs.Ytfmhhcmjcmechab

namespace Go.Proofs.Ytfmhhcmjcmechab
/-! ### the contracts of package order stand in OrdE, OrdF -/
end Go.Proofs.Ytfmhhcmjcmechab

namespace Go.Proofs.Ytfmhhcmjcmechab
open Go.ChangeShapes Go.WideShapes Go.ChangeAt Go.RowKit
set_option linter.unusedVariables false
set_option linter.unusedSimpArgs false
set_option maxRecDepth 100000

theorem oup_any (w : World) : Calls Try.prog 5 #[] w fun e w' => e = .returned (.bool true) ∧ Below w.heap.size w w' := by
  have k1 := fun w => ocmp_ok 8 255 1 (.inl rfl) (by decide) (by decide) w
  have k2 := fun w => onext_ok 8 255 (.inl rfl) (by decide) w
  have k3 := fun w => oneg_ok 8 64 (.inl rfl) (by decide) w
  rw [show cmpR 8 255 1 = -1 by decide +kernel] at k1
  rw [show nextO 8 255 = 0 by decide +kernel] at k2
  rw [show negO 8 64 = 192 by decide +kernel] at k3
  rw [show ((255 : Nat) : Int) = 255 from rfl, show ((8 : Nat) : Int) = 8 from rfl, show ((1 : Nat) : Int) = 1 from rfl] at k1
  rw [show ((255 : Nat) : Int) = 255 from rfl, show ((8 : Nat) : Int) = 8 from rfl, show ((0 : Nat) : Int) = 0 from rfl] at k2
  rw [show ((64 : Nat) : Int) = 64 from rfl, show ((8 : Nat) : Int) = 8 from rfl, show ((192 : Nat) : Int) = 192 from rfl] at k3
  refine cps fun Q hQ => ?_
  go_enter Try.func5, Try.ntmps5
  go_wp2_with (first
    | (go_at_call 6; refine (k1 _).mono ?_; rintro e w1 ⟨rfl, hb1⟩)
    | (go_at_call 12; refine (k2 _).mono ?_; rintro e w2 ⟨rfl, hb2⟩)
    | (go_at_call 9; refine (k3 _).mono ?_; rintro e w3 ⟨rfl, hb3⟩))
  exact hQ.out _ _ ⟨rfl, cthen (cthen hb1 hb2) hb3⟩
end Go.Proofs.Ytfmhhcmjcmechab

namespace Go.Proofs.Ytfmhhcmjcmechab
set_option linter.unusedVariables false
set_option linter.unusedSimpArgs false

/-! ### noughts behind a pattern (plain mathematics) -/
theorem wider_pows (n d : Nat) (hn : 1 ≤ n) : 2 ^ (n + d) = 2 ^ n * 2 ^ d ∧ 2 ^ (n + d - 1) = 2 ^ (n - 1) * 2 ^ d := by
  refine ⟨Nat.pow_add .., ?_⟩
  rw [← Nat.pow_add]; congr 1; omega
theorem wider_mod (n d x : Nat) (h : n + d ≤ 64) : (x * 2 ^ d % 2 ^ 64) % 2 ^ (n + d) = x % 2 ^ n * 2 ^ d := by
  rw [Nat.mod_mod_of_dvd _ (Nat.pow_dvd_pow 2 h), Nat.pow_add, Nat.mul_mod_mul_right]
theorem wider_kind (n d x : Nat) (hn : Wd n) (h : n + d ≤ 64) : kindOf (n + d) ((x * 2 ^ d % 2 ^ 64) % 2 ^ (n + d)) = kindOf n (x % 2 ^ n) := by
  have hw := wd_le hn
  rw [wider_mod n d x h]
  unfold kindOf
  rw [(wider_pows n d (by omega)).2]
  have hD : 0 < 2 ^ d := Nat.pow_pos (by decide)
  generalize 2 ^ d = D at *
  generalize x % 2 ^ n = y at *
  generalize 2 ^ (n - 1) = H at *
  by_cases h0 : y = 0
  · subst h0; rw [Nat.zero_mul, if_pos rfl, if_pos rfl]
  · have : ¬ y * D = 0 := by
      intro e
      rcases Nat.mul_eq_zero.1 e with e | e <;> omega
    rw [if_neg h0, if_neg this]
    by_cases h1 : y = H
    · subst h1; rw [if_pos rfl, if_pos rfl]
    · rw [if_neg h1, if_neg fun e => h1 (Nat.eq_of_mul_eq_mul_right hD e)]
theorem wider_top (n d x : Nat) (hn : Wd n) (h : n + d ≤ 64) : (x * 2 ^ d % 2 ^ 64).testBit (n + d - 1) = x.testBit (n - 1) := by
  have hw := wd_le hn
  rw [Nat.testBit_mod_two_pow, Nat.testBit_mul_two_pow]
  have h1 : n + d - 1 < 64 := by omega
  have h2 : d ≤ n + d - 1 := by omega
  rw [show n + d - 1 - d = n - 1 by omega]
  simp [h1, h2]
theorem wider_str (n d x : Nat) (hn : Wd n) (hm : Wd (n + d)) (hx : x < 2 ^ 64) : strS (n + d) (x * 2 ^ d % 2 ^ 64) = strS n x ++ noughts d := by
  have hw := wd_le hn
  have hv := wd_le hm
  refine numOf_inj (by rw [List.length_append, strS_length, strS_length]; simp; omega) ?_
  rw [strS_num _ _ hm (Nat.mod_lt _ (by decide)), numOf_append, numOf_noughts, strS_num n x hn hx, wider_top n d x hn hv.2, wider_mod n d x hv.2, (wider_pows n d (by omega)).1, (wider_pows n d (by omega)).2]
  simp only [List.length_replicate, Nat.add_zero]
  split
  · rw [← Nat.sub_mul, Nat.mul_mod_mul_right]
  · rw [Nat.mul_mod_mul_right]
/-- what a pattern means -/
def decK (n x : Nat) : Int := kindOf n (x % 2 ^ n)
def decB (n x : Nat) : Bool := if kindOf n (x % 2 ^ n) = 1 then x.testBit (n - 1) else false
def decS (n x : Nat) : Int := if kindOf n (x % 2 ^ n) = 1 then scaleL (strS n x) else 0
def decF (n x : Nat) : Nat := if kindOf n (x % 2 ^ n) = 1 then wordL (strS n x) else 0
theorem wider_all (n d x : Nat) (hn : Wd n) (hm : Wd (n + d)) (hx : x < 2 ^ 64) :
    decK (n + d) (x * 2 ^ d % 2 ^ 64) = decK n x ∧ decB (n + d) (x * 2 ^ d % 2 ^ 64) = decB n x ∧ decS (n + d) (x * 2 ^ d % 2 ^ 64) = decS n x ∧ decF (n + d) (x * 2 ^ d % 2 ^ 64) = decF n x := by
  have hv := wd_le hm
  have hk := wider_kind n d x hn hv.2
  unfold decK decB decS decF
  rw [hk]
  by_cases h1 : kindOf n (x % 2 ^ n) = 1
  · rw [h1]
    simp only [if_true]
    have ht := (patOf_str n x hn hx h1).1
    rw [wider_str n d x hn hm hx, wider_top n d x hn hv.2]
    have hs := same_pad (strS n x) d ht
    exact ⟨trivial, rfl, hs.scale, hs.word⟩
  · simp only [h1, if_false]
    exact ⟨trivial, trivial, trivial, trivial⟩
end Go.Proofs.Ytfmhhcmjcmechab

namespace Go.Proofs.Ytfmhhcmjcmechab
set_option linter.unusedVariables false
set_option linter.unusedSimpArgs false

/-! ### the string of an exact number as one natural number of 209 bits: it rises with the number (plain mathematics) -/
def hdA (k : Int) : Nat := if 0 ≤ k then 2 ^ 80 - 2 ^ (79 - k.toNat) else 2 ^ (79 - (-k).toNat)
def hdS (k : Int) : Nat := if 0 ≤ k then 2 ^ (78 - k.toNat) else 2 ^ (79 - (-k).toNat)
theorem hd_step (k : Int) (h1 : -79 ≤ k) (h2 : k ≤ 77) : hdA k + hdS k = hdA (k + 1) := by
  unfold hdA hdS
  by_cases h0 : 0 ≤ k
  · obtain ⟨j, rfl⟩ := Int.eq_ofNat_of_zero_le h0
    rw [if_pos h0, if_pos h0, if_pos (by omega), show (((j : Nat) : Int) + 1).toNat = j + 1 by omega, Int.toNat_natCast]
    have e : 2 ^ (79 - j) = 2 * 2 ^ (78 - j) := by rw [← Nat.pow_succ']; congr 1; omega
    have e2 : 79 - (j + 1) = 78 - j := by omega
    have e3 : 2 ^ (79 - j) ≤ 2 ^ 80 := Nat.pow_le_pow_right (by decide) (by omega)
    rw [e2]
    rw [e] at e3 ⊢
    generalize 2 ^ (78 - j) = x at *
    omega
  · rw [if_neg h0, if_neg h0]
    by_cases h3 : k = -1
    · subst h3; decide
    · rw [if_neg (by omega)]
      have e : 2 ^ (79 - (-(k + 1)).toNat) = 2 * 2 ^ (79 - (-k).toNat) := by rw [← Nat.pow_succ']; congr 1; omega
      rw [e]; omega
theorem hd_pos (k : Int) : 0 < hdS k := by unfold hdS; split <;> exact Nat.pow_pos (by decide)
theorem hd_rise (k : Int) (d : Nat) (h1 : -79 ≤ k) (h2 : k + d ≤ 77) : hdA k + hdS k ≤ hdA (k + 1 + d) := by
  induction d with
  | zero => rw [hd_step k h1 (by omega)]; simp
  | succ d ih =>
    have := ih (by omega)
    have h3 := hd_step (k + 1 + d) (by omega) (by omega)
    rw [show k + 1 + ((d + 1 : Nat) : Int) = k + 1 + d + 1 by omega, ← h3]
    omega
theorem hd_mono {k k' : Int} (h1 : -79 ≤ k) (h : k < k') (h2 : k' ≤ 78) : hdA k + hdS k ≤ hdA k' := by
  have := hd_rise k (k' - k - 1).toNat h1 (by omega)
  rw [show k + 1 + (((k' - k - 1).toNat : Nat) : Int) = k' by omega] at this
  exact this
/-- e and the digits behind the first -/
def tailN (s : Int) (M : Nat) : Nat := (s % 4).toNat * 2 ^ 127 + (M - 2 ^ 127)
def zed (s : Int) (M : Nat) : Nat := hdA (s / 4) * 2 ^ 129 + hdS (s / 4) * tailN s M
def Mant (M : Nat) : Prop := 2 ^ 127 ≤ M ∧ M < 2 ^ 128
theorem tail_lt (s : Int) (M : Nat) (h : Mant M) : tailN s M < 2 ^ 129 := by
  obtain ⟨h1, h2⟩ := h
  unfold tailN
  have : (s % 4).toNat < 4 := by omega
  generalize (s % 4).toNat = e at *
  omega
theorem zed_hi (s : Int) (M : Nat) (h : Mant M) : zed s M < (hdA (s / 4) + hdS (s / 4)) * 2 ^ 129 := by
  unfold zed
  rw [Nat.add_mul]
  exact Nat.add_lt_add_left (Nat.mul_lt_mul_of_pos_left (tail_lt s M h) (hd_pos _)) _
theorem zed_lo (s : Int) (M : Nat) : hdA (s / 4) * 2 ^ 129 ≤ zed s M := Nat.le_add_right _ _
/-- it rises with the scale, and with the digits -/
theorem zed_lt {s s' : Int} {M M' : Nat} (h : Mant M) (h' : Mant M') (h1 : -316 ≤ s) (h2 : s' < 312) (hlt : s < s' ∨ (s = s' ∧ M < M')) : zed s M < zed s' M' := by
  have key : s / 4 = s' / 4 → tailN s M < tailN s' M' → zed s M < zed s' M' := fun e ht => by
    unfold zed
    rw [e]
    exact Nat.add_lt_add_left (Nat.mul_lt_mul_of_pos_left ht (hd_pos _)) _
  rcases hlt with hlt | ⟨rfl, hM⟩
  · by_cases e : s / 4 = s' / 4
    · refine key e ?_
      unfold tailN
      obtain ⟨a1, a2⟩ := h
      obtain ⟨b1, b2⟩ := h'
      have : (s % 4).toNat + 1 ≤ (s' % 4).toNat := by omega
      generalize (s % 4).toNat = x at *
      generalize (s' % 4).toNat = y at *
      omega
    · have hk : s / 4 < s' / 4 := by omega
      have h3 := hd_mono (k := s / 4) (k' := s' / 4) (by omega) hk (by omega)
      exact Nat.lt_of_lt_of_le (zed_hi s M h) (Nat.le_trans (Nat.mul_le_mul_right _ h3) (zed_lo s' M'))
  · refine key rfl ?_
    unfold tailN
    have := h.1
    omega
theorem zed_le {s s' : Int} {M M' : Nat} (h : Mant M) (h' : Mant M') (h1 : -316 ≤ s) (h2 : s' < 312) (hle : s < s' ∨ (s = s' ∧ M ≤ M')) : zed s M ≤ zed s' M' := by
  rcases hle with hl | ⟨rfl, hM⟩
  · exact Nat.le_of_lt (zed_lt h h' h1 h2 (.inl hl))
  · rcases Nat.lt_or_ge M M' with hlt | hge
    · exact Nat.le_of_lt (zed_lt h h' h1 h2 (.inr ⟨rfl, hlt⟩))
    · have : M = M' := by omega
      subst this; exact Nat.le_refl _
theorem numOf_ones (k : Nat) : numOf (List.replicate k true) = 2 ^ k - 1 := by
  induction k with
  | zero => rfl
  | succ k ih =>
    rw [List.replicate_succ, numOf_cons, ih, List.length_replicate, Nat.pow_succ]
    have : 0 < 2 ^ k := Nat.pow_pos (by decide)
    simp; omega
/-- the string, written out, is that number -/
theorem zed_str (s : Int) (M : Nat) (D : List Bool) (hD : D.length = 127) (hM : numOf D = M - 2 ^ 127) (h1 : -76 * 4 ≤ s) (h2 : s < 76 * 4) :
    (headK (s / 4) ++ bitsOf (s % 4).toNat 2 ++ D).length ≤ 209 ∧ numOf (headK (s / 4) ++ bitsOf (s % 4).toNat 2 ++ D) * 2 ^ (209 - (headK (s / 4) ++ bitsOf (s % 4).toNat 2 ++ D).length) = zed s M := by
  have hl : (headK (s / 4) ++ bitsOf (s % 4).toNat 2 ++ D).length = (headK (s / 4)).length + 129 := by simp [bitsOf_length, hD]
  have hn : numOf (headK (s / 4) ++ bitsOf (s % 4).toNat 2 ++ D) = numOf (headK (s / 4)) * 2 ^ 129 + tailN s M := by
    rw [numOf_append, numOf_append, numOf_bits, hD, bitsOf_length, hM, Nat.mod_eq_of_lt (a := (s % 4).toNat) (by omega), Nat.add_mul, Nat.mul_assoc, ← Nat.pow_add]
    unfold tailN; omega
  rw [hl, hn]
  have hh : numOf (headK (s / 4)) * 2 ^ (80 - (headK (s / 4)).length) = hdA (s / 4) ∧ 2 ^ (80 - (headK (s / 4)).length) = hdS (s / 4) ∧ (headK (s / 4)).length ≤ 80 := by
    unfold headK hdA hdS
    by_cases h0 : 0 ≤ s / 4
    · rw [if_pos h0, if_pos h0, if_pos h0]
      obtain ⟨j, hj⟩ := Int.eq_ofNat_of_zero_le h0
      rw [hj, Int.toNat_natCast]
      have hj2 : j < 76 := by omega
      rw [numOf_append, numOf_ones, List.length_append, List.length_replicate]
      simp only [List.length_singleton]
      refine ⟨?_, by congr 1; omega, by omega⟩
      have e1 : numOf [false] = 0 := rfl
      rw [e1, Nat.add_zero, Nat.pow_one, show 80 - (j + 1 + 1) = 78 - j by omega, Nat.mul_assoc, ← Nat.pow_succ', show (78 - j).succ = 79 - j by omega, Nat.sub_mul, ← Nat.pow_add, show j + 1 + (79 - j) = 80 by omega, Nat.one_mul]
    · rw [if_neg h0, if_neg h0, if_neg h0]
      have hj2 : (-(s / 4)).toNat ≤ 76 := by omega
      rw [numOf_append, List.length_append, List.length_replicate]
      simp only [List.length_singleton]
      have e0 := numOf_noughts (-(s / 4)).toNat
      refine ⟨?_, by congr 1; omega, by omega⟩
      rw [show List.replicate (-(s / 4)).toNat false = noughts (-(s / 4)).toNat from rfl, e0, show 80 - ((-(s / 4)).toNat + 1) = 79 - (-(s / 4)).toNat by omega, show numOf [true] = 1 from rfl]
      simp
  obtain ⟨a, b, c⟩ := hh
  refine ⟨by omega, ?_⟩
  rw [show 209 - ((headK (s / 4)).length + 129) = 80 - (headK (s / 4)).length by omega, Nat.add_mul, Nat.mul_right_comm, a, b, Nat.mul_comm (tailN s M)]
  rfl
end Go.Proofs.Ytfmhhcmjcmechab

namespace Go.Proofs.Ytfmhhcmjcmechab
set_option linter.unusedVariables false
set_option linter.unusedSimpArgs false

/-! ### what is left behind a cut, and rounding: to the nearer, of a tie to the even one (plain mathematics) -/
def leftL (l : List Bool) (rest : Bool) : Nat :=
  if l.getD 0 false then (if (l.drop 1).any id || rest then 3 else 2) else (if (l.drop 1).any id || rest then 1 else 0)
def roundP (P left : Nat) : Nat := if left = 3 ∨ (left = 2 ∧ P % 2 = 1) then P + 1 else P
/-- P times 2 H and R: to the nearer -/
def rhe (H Z : Nat) : Nat := roundP (Z / (2 * H)) (if Z % (2 * H) = 0 then 0 else if Z % (2 * H) < H then 1 else if Z % (2 * H) = H then 2 else 3)
theorem roundP_le (P l : Nat) : P ≤ roundP P l ∧ roundP P l ≤ P + 1 := by unfold roundP; split <;> omega
theorem rhe_mono (H : Nat) (hH : 0 < H) {Z Z' : Nat} (h : Z ≤ Z') : rhe H Z ≤ rhe H Z' := by
  have e1 := Nat.div_add_mod Z (2 * H)
  have e2 := Nat.div_add_mod Z' (2 * H)
  have m1 := Nat.mod_lt Z (show 0 < 2 * H by omega)
  have m2 := Nat.mod_lt Z' (show 0 < 2 * H by omega)
  have hp : Z / (2 * H) ≤ Z' / (2 * H) := Nat.div_le_div_right h
  unfold rhe
  rcases Nat.lt_or_ge (Z / (2 * H)) (Z' / (2 * H)) with hlt | hge
  · exact Nat.le_trans (roundP_le _ _).2 (Nat.le_trans hlt (roundP_le _ _).1)
  · have he : Z / (2 * H) = Z' / (2 * H) := by omega
    rw [he] at e1 ⊢
    generalize Z' / (2 * H) = P at *
    generalize 2 * H * P = B at *
    generalize Z % (2 * H) = R at *
    generalize Z' % (2 * H) = R' at *
    have hR : R ≤ R' := by omega
    unfold roundP
    repeat' split
    all_goals omega
/-- on which side of the ties a number lies -/
theorem rhe_side (H Z p : Nat) (hH : 0 < H) (h : rhe H Z = p) : (Z < p * (2 * H) + H ∨ (Z = p * (2 * H) + H ∧ p % 2 = 0)) ∧ (1 ≤ p → (p - 1) * (2 * H) + H < Z ∨ ((p - 1) * (2 * H) + H = Z ∧ p % 2 = 0)) := by
  have e1 := Nat.div_add_mod Z (2 * H)
  have m1 := Nat.mod_lt Z (show 0 < 2 * H by omega)
  unfold rhe roundP at h
  rw [Nat.mul_comm] at e1
  generalize Z % (2 * H) = R at *
  generalize hP : Z / (2 * H) = P at *
  have hsub : 1 ≤ p → (p - 1) * (2 * H) + 2 * H = p * (2 * H) := fun hp => by
    rw [← Nat.succ_mul]; congr 1; omega
  by_cases hup : ((if R = 0 then 0 else if R < H then 1 else if R = H then 2 else 3) = 3 ∨ ((if R = 0 then 0 else if R < H then 1 else if R = H then 2 else 3) = 2 ∧ P % 2 = 1))
  · rw [if_pos hup] at h
    subst h
    have hRH : H ≤ R ∧ (R = H → P % 2 = 1) := by
      rcases hup with hup | ⟨hup, h2⟩
      · repeat' split at hup
        all_goals first | omega | exact ⟨by omega, by omega⟩
      · repeat' split at hup
        all_goals first | omega | exact ⟨by omega, fun _ => h2⟩
    have hs := hsub (by omega)
    rw [Nat.add_sub_cancel] at hs ⊢
    generalize (P + 1) * (2 * H) = C at *
    generalize P * (2 * H) = B at *
    refine ⟨by omega, fun _ => ?_⟩
    by_cases e : R = H
    · have := hRH.2 e; exact .inr ⟨by omega, by omega⟩
    · exact .inl (by omega)
  · rw [if_neg hup] at h
    subst h
    have hRH : R ≤ H ∧ (R = H → P % 2 = 0) := by
      refine ⟨Nat.le_of_not_lt fun hlt => hup (.inl ?_), fun e => ?_⟩
      · rw [if_neg (by omega), if_neg (by omega), if_neg (by omega)]
      · rcases Nat.mod_two_eq_zero_or_one P with h0 | h1
        · exact h0
        · exact absurd (.inr ⟨by rw [if_neg (by omega), if_neg (by omega), if_pos e], h1⟩) hup
    generalize P * (2 * H) = B at *
    refine ⟨?_, fun hp => ?_⟩
    · by_cases e : R = H
      · exact .inr ⟨by omega, hRH.2 e⟩
      · exact .inl (by omega)
    · have := hsub hp
      exact .inl (by omega)
/-! ### a string, cut -/
theorem any_num (l : List Bool) : l.any id = decide (numOf l ≠ 0) := by
  cases h : l.any id
  · refine (decide_eq_false fun hn => ?_).symm
    have := mem_of_pos l hn
    rw [List.any_eq_false] at h
    exact h true this rfl
  · refine (decide_eq_true ?_).symm
    obtain ⟨b, hb, hb2⟩ := List.any_eq_true.1 h
    have : b = true := hb2
    subst this
    have := numOf_pos l hb
    omega
theorem cut_num (l : List Bool) (m : Nat) (hm : m ≤ l.length) : numOf l = numOf (l.take m) * 2 ^ (l.length - m) + numOf (l.drop m) := by
  conv => lhs; rw [← List.take_append_drop m l]
  rw [numOf_append, List.length_drop]
/-- the first m bits, and what is left, of a string that is followed by noughts, and perhaps by something more -/
theorem cut_left (l : List Bool) (m : Nat) (rest : Bool) (hm : m < l.length) (hl : l.length ≤ 209) :
    roundP (numOf (l.take m)) (leftL (l.drop m) rest) = rhe (2 ^ (209 - m)) (2 * (numOf l * 2 ^ (209 - l.length)) + rest.toNat) := by
  have hc := cut_num l m (by omega)
  have hd : (l.drop m).length = l.length - m := List.length_drop ..
  have hlt := numOf_lt (l.drop m)
  rw [hd] at hlt
  cases hs : l.drop m with
  | nil => rw [hs] at hd; simp at hd; omega
  | cons b t =>
    rw [hs] at hd hlt hc
    have ht : t.length = l.length - m - 1 := by simp at hd; omega
    have htl := numOf_lt t
    rw [numOf_cons, ht] at hc hlt
    rw [ht] at htl
    -- powers
    have p1 : 2 ^ (l.length - m) = 2 * 2 ^ (l.length - m - 1) := by rw [← Nat.pow_succ']; congr 1; omega
    have p2 : 2 ^ (209 - m) = 2 ^ (l.length - m) * 2 ^ (209 - l.length) := by rw [← Nat.pow_add]; congr 1; omega
    have p3 : 0 < 2 ^ (l.length - m - 1) := Nat.pow_pos (by decide)
    have p4 : 0 < 2 ^ (209 - l.length) := Nat.pow_pos (by decide)
    rw [hc, p2, p1]
    rw [p1] at hlt
    have hany := any_num t
    unfold leftL
    rw [show (b :: t).getD 0 false = b from rfl, show (b :: t).drop 1 = t from rfl, hany]
    generalize numOf (l.take m) = P at *
    generalize 2 ^ (l.length - m - 1) = A at *
    generalize 2 ^ (209 - l.length) = C at *
    generalize numOf t = V at *
    -- the number is P times 2 H and R
    have hVC : V * C + C ≤ A * C := by rw [← Nat.succ_mul]; exact Nat.mul_le_mul_right _ htl
    have hV0 : V = 0 ∨ C ≤ V * C := by
      rcases Nat.eq_zero_or_pos V with h | h
      · exact .inl h
      · exact .inr (Nat.le_mul_of_pos_left _ h)
    have hAC : 0 < A * C := Nat.mul_pos p3 p4
    have hZ : 2 * ((P * (2 * A) + (b.toNat * A + V)) * C) + rest.toNat = P * (2 * (2 * A * C)) + (2 * (b.toNat * (A * C) + V * C) + rest.toNat) := by
      rw [Nat.add_mul, Nat.add_mul, Nat.mul_assoc b.toNat, Nat.mul_add, ← Nat.mul_assoc 2 (P * (2 * A)) C]
      have : 2 * (P * (2 * A)) * C = P * (2 * (2 * A * C)) := by
        simp only [Nat.mul_assoc, Nat.mul_left_comm]
      rw [this]; omega
    have hR : 2 * (b.toNat * (A * C) + V * C) + rest.toNat < 2 * (2 * A * C) := by
      rw [Nat.mul_assoc 2 A C]
      generalize A * C = D at *
      generalize V * C = E at *
      cases b <;> cases rest <;> simp <;> omega
    rw [hZ]
    unfold rhe
    have hpos : 0 < 2 * (2 * A * C) := by omega
    rw [Nat.mul_comm P, Nat.mul_add_div hpos, Nat.div_eq_of_lt hR, Nat.add_zero, Nat.mul_add_mod, Nat.mod_eq_of_lt hR]
    rw [Nat.mul_assoc 2 A C]
    congr 1
    generalize A * C = D at *
    rcases hV0 with rfl | hV0
    · cases b <;> cases rest <;> simp <;> (try omega)
      all_goals (repeat' split) <;> omega
    · have hne : V ≠ 0 := by rintro rfl; omega
      generalize hE : V * C = E at *
      cases b <;> cases rest <;> simp [hne] <;> (try omega)
      all_goals (repeat' split) <;> omega
end Go.Proofs.Ytfmhhcmjcmechab

namespace Go.Proofs.Ytfmhhcmjcmechab
set_option linter.unusedVariables false
set_option linter.unusedSimpArgs false

/-! ### an exact number's string, cut and rounded (plain mathematics) -/
def digX (hi lo : Nat) : List Bool := (bitsOf hi 64).drop 1 ++ bitsOf lo 64
def strX (s : Int) (hi lo : Nat) : List Bool := headK (s / 4) ++ bitsOf (s % 4).toNat 2 ++ digX hi lo
def manX (hi lo : Nat) : Nat := hi * 18446744073709551616 + lo
structure WordsX (hi lo : Nat) : Prop where
  top : 9223372036854775808 ≤ hi
  hi64 : hi < 18446744073709551616
  lo64 : lo < 18446744073709551616
theorem WordsX.mant {hi lo : Nat} (h : WordsX hi lo) : Mant (manX hi lo) := by
  obtain ⟨a, b, c⟩ := h
  unfold Mant manX
  have e1 : (2 : Nat) ^ 127 = 9223372036854775808 * 18446744073709551616 := by decide
  have e2 : (2 : Nat) ^ 128 = 18446744073709551616 * 18446744073709551616 := by decide
  omega
theorem digX_length (hi lo : Nat) : (digX hi lo).length = 127 := by simp [digX, bitsOf_length]
theorem digX_num {hi lo : Nat} (h : WordsX hi lo) : numOf (digX hi lo) = manX hi lo - 2 ^ 127 := by
  obtain ⟨a, b, c⟩ := h
  have h1 := top_word hi a b
  have h2 : numOf (bitsOf hi 64) = hi := by rw [numOf_bits]; exact Nat.mod_eq_of_lt b
  rw [h1, numOf_cons] at h2
  have h3 : ((bitsOf hi 64).drop 1).length = 63 := by rw [List.length_drop, bitsOf_length]
  rw [h3] at h2
  have h4 : numOf (bitsOf lo 64) = lo := by rw [numOf_bits]; exact Nat.mod_eq_of_lt c
  unfold digX manX
  rw [numOf_append, bitsOf_length, h4]
  have e1 : (2 : Nat) ^ 127 = 9223372036854775808 * 18446744073709551616 := by decide
  have e2 : (2 : Nat) ^ 64 = 18446744073709551616 := by decide
  have e3 : (2 : Nat) ^ 63 = 9223372036854775808 := by decide
  rw [e3] at h2
  simp only [Bool.toNat_true, Nat.one_mul] at h2
  generalize numOf ((bitsOf hi 64).drop 1) = x at *
  rw [e1, e2]
  omega
/-- is nothing left behind the first digit? -/
def justX (hi lo : Nat) (rest : Bool) : Bool := !rest && !(digX hi lo).any id
theorem justX_iff {hi lo : Nat} (h : WordsX hi lo) (rest : Bool) : justX hi lo rest = true ↔ rest = false ∧ manX hi lo = 2 ^ 127 := by
  unfold justX
  rw [any_num, digX_num h]
  have := h.mant.1
  cases rest <;> simp
  omega
/-- the scales that are neither at the greatest value nor at the least -/
def midX (n : Nat) (s : Int) (just : Bool) : Prop := s < 4 * n - 8 ∧ 8 - 4 * (n : Int) ≤ s ∧ ¬ (s = 8 - 4 * n ∧ just = true)
def cutX (n : Nat) (s : Int) (hi lo : Nat) (rest : Bool) : Nat × Nat :=
  if 4 * (n : Int) - 8 ≤ s then (2 ^ (n - 1) - 1, 0)
  else if s < 8 - 4 * (n : Int) ∨ (s = 8 - 4 * n ∧ justX hi lo rest = true) then (1, 0)
  else (numOf ((strX s hi lo).take (n - 1)), leftL ((strX s hi lo).drop (n - 1)) rest)
def rndX (n : Nat) (s : Int) (hi lo : Nat) (rest : Bool) : Nat := roundP (cutX n s hi lo rest).1 (cutX n s hi lo rest).2
def zX (s : Int) (hi lo : Nat) (rest : Bool) : Nat := 2 * zed s (manX hi lo) + rest.toNat
theorem numOf_false (t : List Bool) (h : false ∈ t) : numOf t + 2 ≤ 2 ^ t.length := by
  induction t with
  | nil => cases h
  | cons b t ih =>
    rw [numOf_cons, List.length_cons, Nat.pow_succ]
    have hlt := numOf_lt t
    have hp : 0 < 2 ^ t.length := Nat.pow_pos (by decide)
    cases b
    · simp; omega
    · have := ih (by simpa using h)
      simp; omega
theorem strX_mid (n : Nat) (s : Int) (hi lo : Nat) (hn : Wd n) (h1 : s < 4 * n - 8) (h2 : 8 - 4 * (n : Int) ≤ s) :
    true ∈ (strX s hi lo).take (n - 1) ∧ false ∈ (strX s hi lo).take (n - 1) ∧ ((strX s hi lo).take (n - 1)).length = n - 1 ∧ n - 1 < (strX s hi lo).length := by
  have hw := wd_le hn
  have hlen : 128 < (strX s hi lo).length := by
    unfold strX
    obtain ⟨b, r, hh, _⟩ := headK_form (s / 4)
    rw [hh]; simp [bitsOf_length, digX_length]
  have key : ∀ (b : Bool) (j : Nat) (R : List Bool), strX s hi lo = List.replicate (j + 1) b ++ (!b) :: R → j + 1 ≤ n - 2 → true ∈ (strX s hi lo).take (n - 1) ∧ false ∈ (strX s hi lo).take (n - 1) := by
    intro b j R e hj
    rw [e, List.take_append, List.length_replicate, show n - 1 - (j + 1) = (n - 1 - (j + 1) - 1) + 1 by omega, List.take_succ_cons, List.take_of_length_le (by rw [List.length_replicate]; omega)]
    cases b
    · exact ⟨List.mem_append_right _ (List.mem_cons_self ..), List.mem_append_left _ (by simp)⟩
    · exact ⟨List.mem_append_left _ (by simp), List.mem_append_right _ (List.mem_cons_self ..)⟩
  have hk : true ∈ (strX s hi lo).take (n - 1) ∧ false ∈ (strX s hi lo).take (n - 1) := by
    obtain ⟨b, r, hh, hk⟩ := headK_form (s / 4)
    refine key b r (bitsOf (s % 4).toNat 2 ++ digX hi lo) (by unfold strX; rw [hh]; simp) ?_
    cases b <;> simp at hk <;> omega
  exact ⟨hk.1, hk.2, by rw [List.length_take]; omega, by omega⟩
/-- in the middle the rounded pattern is the number's string, rounded -/
theorem rnd_mid (n : Nat) (s : Int) (hi lo : Nat) (rest : Bool) (hn : Wd n) (h : WordsX hi lo) (hm : midX n s (justX hi lo rest)) :
    rndX n s hi lo rest = rhe (2 ^ (210 - n)) (zX s hi lo rest) ∧ 1 ≤ rndX n s hi lo rest ∧ rndX n s hi lo rest ≤ 2 ^ (n - 1) - 1 := by
  have hw := wd_le hn
  obtain ⟨h1, h2, h3⟩ := hm
  obtain ⟨t1, t2, t3, t4⟩ := strX_mid n s hi lo hn h1 h2
  have hc : cutX n s hi lo rest = (numOf ((strX s hi lo).take (n - 1)), leftL ((strX s hi lo).drop (n - 1)) rest) := by
    unfold cutX
    rw [if_neg (by omega), if_neg (by rintro (h | h); omega; exact h3 h)]
  have p1 := numOf_pos _ t1
  have p2 := numOf_false _ t2
  rw [t3] at p2
  obtain ⟨z1, z2⟩ := zed_str s (manX hi lo) (digX hi lo) (digX_length hi lo) (digX_num h) (by omega) (by omega)
  have hcl := cut_left (strX s hi lo) (n - 1) rest t4 z1
  unfold rndX
  rw [hc]
  have hr := roundP_le (numOf ((strX s hi lo).take (n - 1))) (leftL ((strX s hi lo).drop (n - 1)) rest)
  refine ⟨?_, Nat.le_trans p1 hr.1, Nat.le_trans hr.2 (by omega)⟩
  show roundP _ _ = _
  rw [hcl, show 209 - (n - 1) = 210 - n by omega]
  unfold zX strX
  rw [z2]
theorem rnd_range (n : Nat) (s : Int) (hi lo : Nat) (rest : Bool) (hn : Wd n) (h : WordsX hi lo) : 1 ≤ rndX n s hi lo rest ∧ rndX n s hi lo rest ≤ 2 ^ (n - 1) - 1 := by
  obtain ⟨H, e1, e2, e3, _⟩ := wd_pows hn
  by_cases hm : midX n s (justX hi lo rest)
  · exact (rnd_mid n s hi lo rest hn h hm).2
  · unfold rndX cutX
    rw [e2]
    by_cases c1 : 4 * (n : Int) - 8 ≤ s
    · rw [if_pos c1]; simp only [roundP]; simp; omega
    · rw [if_neg c1]
      have c2 : s < 8 - 4 * (n : Int) ∨ (s = 8 - 4 * n ∧ justX hi lo rest = true) := by
        unfold midX at hm
        by_cases c3 : s < 8 - 4 * (n : Int)
        · exact .inl c3
        · refine .inr ?_
          by_cases c4 : s = 8 - 4 * n ∧ justX hi lo rest = true
          · exact c4
          · exact absurd ⟨by omega, by omega, c4⟩ hm
      rw [if_pos c2]; simp only [roundP]; simp; omega
theorem rnd_top (n : Nat) (s : Int) (hi lo : Nat) (rest : Bool) (c : 4 * (n : Int) - 8 ≤ s) : rndX n s hi lo rest = 2 ^ (n - 1) - 1 := by
  unfold rndX cutX; rw [if_pos c]; rfl
theorem rnd_low (n : Nat) (s : Int) (hi lo : Nat) (rest : Bool) (c0 : ¬ 4 * (n : Int) - 8 ≤ s) (c : s < 8 - 4 * (n : Int) ∨ (s = 8 - 4 * n ∧ justX hi lo rest = true)) : rndX n s hi lo rest = 1 := by
  unfold rndX cutX; rw [if_neg c0, if_pos c]; rfl
theorem mid_or (n : Nat) (s : Int) (j : Bool) : midX n s j ∨ 4 * (n : Int) - 8 ≤ s ∨ (¬ 4 * (n : Int) - 8 ≤ s ∧ (s < 8 - 4 * (n : Int) ∨ (s = 8 - 4 * n ∧ j = true))) := by
  unfold midX
  by_cases c1 : 4 * (n : Int) - 8 ≤ s
  · exact .inr (.inl c1)
  · by_cases c3 : s < 8 - 4 * (n : Int)
    · exact .inr (.inr ⟨c1, .inl c3⟩)
    · by_cases c4 : s = 8 - 4 * n ∧ j = true
      · exact .inr (.inr ⟨c1, .inr c4⟩)
      · exact .inl ⟨by omega, by omega, c4⟩
theorem mid_rise (n : Nat) (s s' : Int) (hi lo hi' lo' : Nat) (hn : Wd n) (h : WordsX hi lo) (h' : WordsX hi' lo') (hm : midX n s (justX hi lo false)) (hm' : midX n s' (justX hi' lo' false))
    (hle : s < s' ∨ (s = s' ∧ manX hi lo ≤ manX hi' lo')) : rndX n s hi lo false ≤ rndX n s' hi' lo' false := by
  have hw := wd_le hn
  rw [(rnd_mid n s hi lo false hn h hm).1, (rnd_mid n s' hi' lo' false hn h' hm').1]
  obtain ⟨a1, a2, _⟩ := hm
  obtain ⟨b1, b2, _⟩ := hm'
  have hz := zed_le h.mant h'.mant (by omega) (by omega) hle
  refine rhe_mono _ (Nat.pow_pos (by decide)) ?_
  unfold zX
  exact Nat.add_le_add_right (Nat.mul_le_mul_left 2 hz) _
/-- of two numbers the greater one is not rounded to less -/
theorem rnd_rise (n : Nat) (s s' : Int) (hi lo hi' lo' : Nat) (hn : Wd n) (h : WordsX hi lo) (h' : WordsX hi' lo')
    (hle : s < s' ∨ (s = s' ∧ manX hi lo ≤ manX hi' lo')) : rndX n s hi lo false ≤ rndX n s' hi' lo' false := by
  have r1 := rnd_range n s hi lo false hn h
  have r2 := rnd_range n s' hi' lo' false hn h'
  rcases mid_or n s (justX hi lo false) with hm | c1 | ⟨c0, c1⟩
  · rcases mid_or n s' (justX hi' lo' false) with hm' | c2 | ⟨c3, c2⟩
    · exact mid_rise n s s' hi lo hi' lo' hn h h' hm hm' hle
    · rw [rnd_top n s' hi' lo' false c2]; exact r1.2
    · exfalso
      obtain ⟨a1, a2, a3⟩ := hm
      have hs : s = 8 - 4 * (n : Int) ∧ s' = s := by
        clear r1 r2 a3 h h'
        rcases hle with hl | ⟨hl, _⟩ <;> rcases c2 with c2 | ⟨c2, _⟩ <;> omega
      have hM : manX hi lo ≤ manX hi' lo' := by
        clear r1 r2 a3 h h'
        rcases hle with hl | ⟨_, hl⟩
        · omega
        · exact hl
      have hj : justX hi' lo' false = true := by
        rcases c2 with c2 | ⟨_, c2⟩
        · exfalso; clear r1 r2 a3 h h'; omega
        · exact c2
      have e1 := ((justX_iff h' false).1 hj).2
      have h3 := h.mant.1
      exact a3 ⟨hs.1, (justX_iff h false).2 ⟨rfl, Nat.le_antisymm (e1 ▸ hM) h3⟩⟩
  · have c2 : 4 * (n : Int) - 8 ≤ s' := by clear r1 r2 h h'; omega
    rw [rnd_top n s' hi' lo' false c2]; exact r1.2
  · rw [rnd_low n s hi lo false c0 c1]; exact r2.1
end Go.Proofs.Ytfmhhcmjcmechab

namespace Go.Proofs.Ytfmhhcmjcmechab
set_option linter.unusedVariables false
set_option linter.unusedSimpArgs false

/-! ### what the program cuts off a number's string, and what it finds behind (plain mathematics) -/
def cmpX (left : Nat) (rest : Bool) : Nat := if left = 2 ^ 127 then (if rest then 3 else 2) else if 2 ^ 127 < left then 3 else if left = 0 ∧ rest = false then 0 else 1
theorem left_num (l : List Bool) (j : Nat) (rest : Bool) (hj : 1 ≤ j) (hj2 : j ≤ 128) (hl : l.length = j + 1) :
    leftL l rest = cmpX (numOf l / 2 * 2 ^ (128 - j)) (decide (numOf l % 2 = 1) || rest) := by
  cases l with
  | nil => simp at hl
  | cons b t =>
    have ht : t.length = j := by simpa using hl
    have hV := numOf_lt t
    rw [ht] at hV
    rw [numOf_cons, ht]
    have hany := any_num t
    unfold leftL cmpX
    rw [show (b :: t).getD 0 false = b from rfl, show (b :: t).drop 1 = t from rfl, hany]
    have p1 : 2 ^ j = 2 * 2 ^ (j - 1) := by rw [← Nat.pow_succ']; congr 1; omega
    have p2 : 2 ^ (j - 1) * 2 ^ (128 - j) = 2 ^ 127 := by rw [← Nat.pow_add]; congr 1; omega
    have p3 : 0 < 2 ^ (128 - j) := Nat.pow_pos (by decide)
    rw [p1] at hV ⊢
    generalize numOf t = V at *
    generalize 2 ^ (j - 1) = A at *
    generalize 2 ^ (128 - j) = C at *
    have hh : (b.toNat * (2 * A) + V) / 2 = b.toNat * A + V / 2 := by cases b <;> simp <;> omega
    have hm : (b.toNat * (2 * A) + V) % 2 = V % 2 := by cases b <;> simp <;> omega
    rw [hh, hm, Nat.add_mul, Nat.mul_assoc b.toNat A C, ← p2]
    have hlt : V / 2 * C < A * C := Nat.mul_lt_mul_of_pos_right (by omega) p3
    have h0 : V / 2 * C = 0 ↔ V / 2 = 0 := by
      constructor
      · intro h; rcases Nat.mul_eq_zero.1 h with h | h <;> omega
      · intro h; rw [h]; simp
    generalize V / 2 * C = X at *
    generalize A * C = D at *
    cases b
    · simp only [Bool.toNat_false, Nat.zero_mul, Nat.zero_add]
      have n1 : ¬ X = D := by omega
      have n2 : ¬ D < X := by omega
      rw [if_neg n1, if_neg n2]
      by_cases hx : X = 0
      · have := h0.1 hx
        rcases Nat.mod_two_eq_zero_or_one V with hv | hv
        · have : V = 0 := by omega
          subst this
          cases rest <;> simp [hx]
        · have : V ≠ 0 := by omega
          cases rest <;> simp [hx, hv, this]
      · have : ¬ V / 2 = 0 := fun h => hx (h0.2 h)
        have : V ≠ 0 := by omega
        cases rest <;> simp [hx, this]
    · simp only [Bool.toNat_true, Nat.one_mul]
      by_cases hx : X = 0
      · have := h0.1 hx
        have n1 : D + X = D := by omega
        rw [if_pos n1]
        rcases Nat.mod_two_eq_zero_or_one V with hv | hv
        · have : V = 0 := by omega
          subst this
          cases rest <;> simp
        · have : V ≠ 0 := by omega
          cases rest <;> simp [hv, this]
      · have : ¬ V / 2 = 0 := fun h => hx (h0.2 h)
        have : V ≠ 0 := by omega
        have n1 : ¬ D + X = D := by omega
        have n2 : D < D + X := by omega
        rw [if_neg n1, if_pos n2]
        cases rest <;> simp [this]
theorem headK_num (k : Int) : numOf (headK k) = (if 0 ≤ k then 2 ^ (k.toNat + 2) - 2 else 1) ∧ (headK k).length = (if 0 ≤ k then k.toNat + 2 else (1 - k).toNat) := by
  unfold headK
  by_cases h : 0 ≤ k
  · rw [if_pos h, if_pos h, if_pos h, numOf_append, numOf_ones]
    have : 1 ≤ 2 ^ (k.toNat + 1) := Nat.one_le_two_pow
    rw [Nat.pow_succ 2 (k.toNat + 1)]
    refine ⟨?_, by simp⟩
    show (2 ^ (k.toNat + 1) - 1) * 2 ^ 1 + 0 = _
    omega
  · rw [if_neg h, if_neg h, if_neg h, numOf_append, show List.replicate (-k).toNat false = noughts (-k).toNat from rfl, numOf_noughts]
    refine ⟨by simp; rfl, ?_⟩
    simp [noughts]; omega
def tailL (s : Int) (hi lo : Nat) : List Bool := bitsOf (s % 4).toNat 2 ++ digX hi lo
theorem tailL_num (s : Int) {hi lo : Nat} (h : WordsX hi lo) : (tailL s hi lo).length = 129 ∧ numOf (tailL s hi lo) = tailN s (manX hi lo) := by
  unfold tailL
  refine ⟨by simp [bitsOf_length, digX_length], ?_⟩
  rw [numOf_append, digX_num h, digX_length, numOf_bits, Nat.mod_eq_of_lt (by omega)]
  rfl
theorem room_pows (room : Nat) (h : room ≤ 64) : 2 ^ (129 - room) = 2 * 2 ^ (128 - room) ∧ 2 ^ 128 = 2 ^ (128 - room) * 2 ^ room := by
  refine ⟨?_, ?_⟩
  · rw [← Nat.pow_succ']; congr 1; omega
  · rw [← Nat.pow_add]; congr 1; omega
/-- the first n - 1 bits of the string, and what is left, from the run and from what stands behind it but for the last bit -/
theorem cut_parts (n : Nat) (s : Int) (hi lo : Nat) (rest : Bool) (h : WordsX hi lo) (hr : (headK (s / 4)).length ≤ n - 1) (hn : n ≤ 64) (B room : Nat)
    (hB : B = tailN s (manX hi lo) / 2) (hroom : room = n - 1 - (headK (s / 4)).length) :
    numOf ((strX s hi lo).take (n - 1)) = numOf (headK (s / 4)) * 2 ^ room + B / 2 ^ (128 - room) ∧ B / 2 ^ (128 - room) < 2 ^ room ∧ leftL ((strX s hi lo).drop (n - 1)) rest = cmpX (B * 2 ^ room % 2 ^ 128) (decide (lo % 2 = 1) || rest) := by
  obtain ⟨t1, t2⟩ := tailL_num s h
  have e : strX s hi lo = headK (s / 4) ++ tailL s hi lo := by unfold strX tailL; simp
  have hr2 : room ≤ 64 := by omega
  have e1 : (strX s hi lo).take (n - 1) = headK (s / 4) ++ (tailL s hi lo).take room := by
    rw [e, List.take_append, List.take_of_length_le hr, ← hroom]
  have e2 : (strX s hi lo).drop (n - 1) = (tailL s hi lo).drop room := by
    rw [e, List.drop_append, List.drop_of_length_le hr, ← hroom, List.nil_append]
  have hc := cut_num (tailL s hi lo) room (by omega)
  have hlt := numOf_lt ((tailL s hi lo).drop room)
  rw [List.length_drop, t1] at hlt
  rw [t1, t2] at hc
  have hpar : tailN s (manX hi lo) % 2 = lo % 2 := by
    unfold tailN manX
    have := h.top
    rw [show (2 : Nat) ^ 127 = 2 * 85070591730234615865843651857942052864 by decide]
    omega
  obtain ⟨p1, p3⟩ := room_pows room hr2
  have hdl : ((tailL s hi lo).drop room).length = (128 - room) + 1 := by rw [List.length_drop, t1]; omega
  have htl : ((tailL s hi lo).take room).length = room := by rw [List.length_take, t1]; omega
  have hlf := left_num ((tailL s hi lo).drop room) (128 - room) rest (by omega) (by omega) hdl
  have htk := numOf_lt ((tailL s hi lo).take room)
  rw [htl] at htk
  rw [e1, e2, hlf, numOf_append, htl, p3, Nat.mul_mod_mul_right, show 128 - (128 - room) = room by omega]
  rw [p1] at hc hlt
  generalize numOf ((tailL s hi lo).drop room) = R at *
  generalize numOf ((tailL s hi lo).take room) = P at *
  generalize tailN s (manX hi lo) = T at *
  have hpos : 0 < 2 ^ (128 - room) := Nat.pow_pos (by decide)
  generalize 2 ^ (128 - room) = G at *
  have hB2 : B = P * G + R / 2 := by
    have : P * (2 * G) = 2 * (P * G) := by rw [Nat.mul_left_comm]
    omega
  have hRG : R / 2 < G := by omega
  have d1 : B / G = P := by rw [hB2, Nat.mul_comm, Nat.mul_add_div hpos, Nat.div_eq_of_lt hRG]; rfl
  have d2 : B % G = R / 2 := by rw [hB2, Nat.mul_comm, Nat.mul_add_mod, Nat.mod_eq_of_lt hRG]
  have hR2 : R % 2 = lo % 2 := by
    have : P * (2 * G) = 2 * (P * G) := by rw [Nat.mul_left_comm]
    omega
  rw [d1, d2, hR2]
  exact ⟨rfl, htk, rfl⟩
/-- within the ends the run has room -/
theorem head_room (n : Nat) (s : Int) (hn : Wd n) (h1 : s < 4 * n - 8) (h2 : 8 - 4 * (n : Int) ≤ s) : (headK (s / 4)).length ≤ n - 1 ∧ 2 ≤ (headK (s / 4)).length := by
  have hw := wd_le hn
  rw [(headK_num (s / 4)).2]
  split <;> omega
end Go.Proofs.Ytfmhhcmjcmechab

namespace Go.Proofs.Ytfmhhcmjcmechab
open Go.ChangeShapes Go.WideShapes Go.ChangeAt Go.RowKit
set_option linter.unusedVariables false
set_option linter.unusedSimpArgs false
set_option maxRecDepth 100000

/-! ### the document's round: which Exacts are sound; what is left -/
def exV (k : Int) (neg : Bool) (s : Int) (hi lo : Nat) (rest : Bool) : Value := .agg #[.int .i64 k, .bool neg, .int .i64 s, .int .u64 hi, .int .u64 lo, .bool rest]
def soundX (k : Int) (neg : Bool) (s : Int) (hi lo : Nat) (rest : Bool) : Bool :=
  if k = 0 ∨ k = 2 then decide (neg = false ∧ s = 0 ∧ hi = 0 ∧ lo = 0 ∧ rest = false) else decide (k = 1 ∧ 9223372036854775808 ≤ hi ∧ -1099511627776 ≤ s ∧ s ≤ 1099511627776)
end Go.Proofs.Ytfmhhcmjcmechab

namespace Go.Proofs.Ytfmhhcmjcmechab
open Go.ChangeShapes Go.WideShapes Go.ChangeAt Go.RowKit
set_option linter.unusedVariables false
set_option linter.unusedSimpArgs false
set_option maxRecDepth 100000

/-! ### the document's Cut -/
end Go.Proofs.Ytfmhhcmjcmechab

namespace Go.Proofs.Ytfmhhcmjcmechab
open Go.ChangeShapes Go.WideShapes Go.ChangeAt Go.RowKit
set_option linter.unusedVariables false
set_option linter.unusedSimpArgs false
set_option maxRecDepth 100000

/-! ### the document's Round -/
def patR (n : Nat) (neg : Bool) (R : Nat) : Nat := if neg then 2 ^ n - R else R
end Go.Proofs.Ytfmhhcmjcmechab

namespace Go.Proofs.Ytfmhhcmjcmechab
open Go.ChangeShapes Go.WideShapes Go.ChangeAt Go.RowKit
set_option linter.unusedVariables false
set_option linter.unusedSimpArgs false
set_option maxRecDepth 100000

/-! ### the document's Of -/
theorem of7_bad (k : Int) (neg : Bool) (s : Int) (f : Nat) (hs : soundN k neg s f = false) (w : World) :
    Calls Try.prog 10 #[numV k neg s f] w fun e w' => e = .returned (.tuple #[exV 0 false 0 0 0 false, .int .i64 1]) ∧ Below w.heap.size w w' := by
  have k2 := sound6_any k neg s f
  rw [hs] at k2
  unfold numV exV at *
  clear hs
  refine cps fun Q hQ => ?_
  go_enter Try.func10, Try.ntmps10
  go_wp2_with (go_at_call 22; refine (k2 _).mono ?_; rintro e w2 ⟨rfl, hb2⟩; have RX := (hb2.block w.heap.size (by simp; omega)).trans ((Below.heap_alloc (w.alloc _) _ _ (by simp)).trans (rownew w _ _)); have RR := (hb2.block (w.heap.size + 1) (by simp)).trans (rownew' _ _ _ _ (by simp)); have x0 := rowcell RX 0; have x1 := rowcell RX 1; have x2 := rowcell RX 2; have x3 := rowcell RX 3; have xf := rowfree RX; simp only [List.getElem?_toArray, List.getElem?_cons_zero, List.getElem?_cons_succ] at x0 x1 x2 x3; have r0 := rowcell RR 0; have r1 := rowcell RR 1; have r2 := rowcell RR 2; have r3 := rowcell RR 3; have r4 := rowcell RR 4; have r5 := rowcell RR 5; have rf := rowfree RR; simp only [List.getElem?_toArray, List.getElem?_cons_zero, List.getElem?_cons_succ] at r0 r1 r2 r3 r4 r5; have HB2 : Hid (Below _ _ _) := cthen (cmore (cmore (Below.refl _ _) _) _) hb2; clear hb2 RX RR)
  refine bodyPost_ret (v := .tuple #[.agg #[.int .i64 0, .bool false, .int .i64 0, .int .u64 0, .int .u64 0, .bool false], .int .i64 1]) (by simp [results, Try.results10, go_sem, r0, r1, r2, r3, r4, r5]) rfl (hQ.out _ _ ⟨rfl, ?_⟩)
  have hle : w.heap.size ≤ w.heap.size + 1 := by omega
  exact cset (cset (cset (cset (cset (cset HB2.out hle _ _) hle _ _) hle _ _) hle _ _) hle _ _) hle _ _
theorem of7_ok (k : Int) (neg : Bool) (s : Int) (f : Nat) (hs : soundN k neg s f = true) (w : World) :
    Calls Try.prog 10 #[numV k neg s f] w fun e w' => e = .returned (.tuple #[exV k neg s f 0 false, .int .i64 0]) ∧ Below w.heap.size w w' := by
  have k2 := sound6_any k neg s f
  rw [hs] at k2
  unfold numV exV at *
  clear hs
  refine cps fun Q hQ => ?_
  go_enter Try.func10, Try.ntmps10
  go_wp2_with (go_at_call 22; refine (k2 _).mono ?_; rintro e w2 ⟨rfl, hb2⟩; have RX := (hb2.block w.heap.size (by simp; omega)).trans ((Below.heap_alloc (w.alloc _) _ _ (by simp)).trans (rownew w _ _)); have RR := (hb2.block (w.heap.size + 1) (by simp)).trans (rownew' _ _ _ _ (by simp)); have x0 := rowcell RX 0; have x1 := rowcell RX 1; have x2 := rowcell RX 2; have x3 := rowcell RX 3; have xf := rowfree RX; simp only [List.getElem?_toArray, List.getElem?_cons_zero, List.getElem?_cons_succ] at x0 x1 x2 x3; have r0 := rowcell RR 0; have r1 := rowcell RR 1; have r2 := rowcell RR 2; have r3 := rowcell RR 3; have r4 := rowcell RR 4; have r5 := rowcell RR 5; have rf := rowfree RR; simp only [List.getElem?_toArray, List.getElem?_cons_zero, List.getElem?_cons_succ] at r0 r1 r2 r3 r4 r5; have HB2 : Hid (Below _ _ _) := cthen (cmore (cmore (Below.refl _ _) _) _) hb2; clear hb2 RX RR)
  refine bodyPost_ret (v := .tuple #[.agg #[.int .i64 k, .bool neg, .int .i64 s, .int .u64 f, .int .u64 0, .bool false], .int .i64 0]) (by simp [results, Try.results10, go_sem, r0, r1, r2, r3, r4, r5]) rfl (hQ.out _ _ ⟨rfl, ?_⟩)
  have hle : w.heap.size ≤ w.heap.size + 1 := by omega
  exact cset (cset (cset (cset (cset (cset HB2.out hle _ _) hle _ _) hle _ _) hle _ _) hle _ _) hle _ _
end Go.Proofs.Ytfmhhcmjcmechab

namespace Go.Proofs.Ytfmhhcmjcmechab
open Go.ChangeShapes Go.WideShapes Go.ChangeAt Go.RowKit
set_option linter.unusedVariables false
set_option linter.unusedSimpArgs false
set_option maxRecDepth 100000

/-! ### the document's order of exact numbers -/
def sgnX (k : Int) (neg : Bool) : Int := if k = 1 then (if neg then -1 else 1) else 0
theorem sign7_any (k : Int) (neg : Bool) (s : Int) (hi lo : Nat) (rest : Bool) (w : World) :
    Calls Try.prog 23 #[exV k neg s hi lo rest] w fun e w' => e = .returned (.int .i64 (sgnX k neg)) ∧ Below w.heap.size w w' := by
  unfold exV sgnX
  refine cps fun Q hQ => ?_
  by_cases h1 : k = 1
  · subst h1
    cases neg
    all_goals
      go_enter Try.func23, Try.ntmps23
      go_wp2
      exact hQ.out _ _ ⟨rfl, cmore (Below.refl _ _) _⟩
  · have d1 : (k == 1) = false := beq_eq_false_iff_ne.2 h1
    rw [if_neg h1] at hQ
    clear h1
    go_enter Try.func23, Try.ntmps23
    go_wp2
    exact hQ.out _ _ ⟨rfl, cmore (Below.refl _ _) _⟩
set_option maxHeartbeats 2000000 in
theorem cmp7_sgn (k k' : Int) (neg neg' : Bool) (s s' : Int) (hi lo hi' lo' : Nat) (rest rest' : Bool) (hne : sgnX k neg ≠ sgnX k' neg') (w : World) :
    Calls Try.prog 11 #[exV k neg s hi lo rest, exV k' neg' s' hi' lo' rest'] w fun e w' => e = .returned (.int .i64 (if sgnX k neg < sgnX k' neg' then -1 else 1)) ∧ Below w.heap.size w w' := by
  have k1 := sign7_any k neg s hi lo rest
  have k2 := sign7_any k' neg' s' hi' lo' rest'
  unfold exV at *
  generalize sgnX k neg = a at *
  generalize sgnX k' neg' = b at *
  refine cps fun Q hQ => ?_
  rcases Int.lt_or_gt_of_ne hne with hlt | hlt
  · rw [if_pos hlt] at hQ
    have d1 : decide (a < b) = true := decide_eq_true hlt
    clear hne
    go_enter Try.func11, Try.ntmps11
    go_wp2_with (first
      | (have chk := T1; clear chk; go_at_call 23; refine (k2 _).mono ?_; rintro e w3 ⟨rfl, hb3⟩; have RX3 := (hb3.block w.heap.size z2).trans RX2.out; have RY3 := (hb3.block (w.heap.size + 1) z2').trans RY2.out; have x0 := rowcell RX3 0; have x1 := rowcell RX3 1; have x2 := rowcell RX3 2; have x3 := rowcell RX3 3; have x4 := rowcell RX3 4; have x5 := rowcell RX3 5; have xf := rowfree RX3; simp only [List.getElem?_toArray, List.getElem?_cons_zero, List.getElem?_cons_succ] at x0 x1 x2 x3 x4 x5; have y0 := rowcell RY3 0; have y1 := rowcell RY3 1; have y2 := rowcell RY3 2; have y3 := rowcell RY3 3; have y4 := rowcell RY3 4; have y5 := rowcell RY3 5; have yf := rowfree RY3; simp only [List.getElem?_toArray, List.getElem?_cons_zero, List.getElem?_cons_succ] at y0 y1 y2 y3 y4 y5; have HB3 : Hid (Below _ _ _) := cthen B2.out hb3; clear hb3 RX3 RY3)
      | (go_at_call 23; refine (k1 _).mono ?_; rintro e w2 ⟨rfl, hb2⟩; have RX2 : Hid _ := (hb2.block w.heap.size (by simp; omega)).trans ((Below.heap_alloc (w.alloc _) _ _ (by simp)).trans (rownew w _ _)); have RY2 : Hid _ := (hb2.block (w.heap.size + 1) (by simp)).trans (rownew' _ _ _ _ (by simp)); have z2 : w.heap.size < w2.heap.size := (by have := hb2.size; simp at this; omega); have z2' : w.heap.size + 1 < w2.heap.size := (by have := hb2.size; simp at this; omega); have NX := rowcell RX2.out 0; have B2 : Hid (Below _ _ _) := cthen (cmore (cmore (Below.refl _ _) _) _) hb2; have T1 : True := trivial; have p0 := rowcell RX2.out 0; have p1 := rowcell RX2.out 1; have p2 := rowcell RX2.out 2; have p3 := rowcell RX2.out 3; have p4 := rowcell RX2.out 4; have p5 := rowcell RX2.out 5; have pf := rowfree RX2.out; simp only [List.getElem?_toArray, List.getElem?_cons_zero, List.getElem?_cons_succ] at p0 p1 p2 p3 p4 p5; have q0 := rowcell RY2.out 0; have q1 := rowcell RY2.out 1; have q2 := rowcell RY2.out 2; have q3 := rowcell RY2.out 3; have q4 := rowcell RY2.out 4; have q5 := rowcell RY2.out 5; have qf := rowfree RY2.out; simp only [List.getElem?_toArray, List.getElem?_cons_zero, List.getElem?_cons_succ] at q0 q1 q2 q3 q4 q5; clear hb2 NX))
    all_goals exact hQ.out _ _ ⟨rfl, HB3.out⟩
  · rw [if_neg (by omega)] at hQ
    have d1 : decide (a < b) = false := decide_eq_false (by omega)
    have d2 : decide (b < a) = true := decide_eq_true hlt
    clear hne
    go_enter Try.func11, Try.ntmps11
    go_wp2_with (first
      | (have chk := T1; clear chk; go_at_call 23; refine (k2 _).mono ?_; rintro e w3 ⟨rfl, hb3⟩; have RX3 := (hb3.block w.heap.size z2).trans RX2.out; have RY3 := (hb3.block (w.heap.size + 1) z2').trans RY2.out; have x0 := rowcell RX3 0; have x1 := rowcell RX3 1; have x2 := rowcell RX3 2; have x3 := rowcell RX3 3; have x4 := rowcell RX3 4; have x5 := rowcell RX3 5; have xf := rowfree RX3; simp only [List.getElem?_toArray, List.getElem?_cons_zero, List.getElem?_cons_succ] at x0 x1 x2 x3 x4 x5; have y0 := rowcell RY3 0; have y1 := rowcell RY3 1; have y2 := rowcell RY3 2; have y3 := rowcell RY3 3; have y4 := rowcell RY3 4; have y5 := rowcell RY3 5; have yf := rowfree RY3; simp only [List.getElem?_toArray, List.getElem?_cons_zero, List.getElem?_cons_succ] at y0 y1 y2 y3 y4 y5; have HB3 : Hid (Below _ _ _) := cthen B2.out hb3; clear hb3 RX3 RY3)
      | (go_at_call 23; refine (k1 _).mono ?_; rintro e w2 ⟨rfl, hb2⟩; have RX2 : Hid _ := (hb2.block w.heap.size (by simp; omega)).trans ((Below.heap_alloc (w.alloc _) _ _ (by simp)).trans (rownew w _ _)); have RY2 : Hid _ := (hb2.block (w.heap.size + 1) (by simp)).trans (rownew' _ _ _ _ (by simp)); have z2 : w.heap.size < w2.heap.size := (by have := hb2.size; simp at this; omega); have z2' : w.heap.size + 1 < w2.heap.size := (by have := hb2.size; simp at this; omega); have NX := rowcell RX2.out 0; have B2 : Hid (Below _ _ _) := cthen (cmore (cmore (Below.refl _ _) _) _) hb2; have T1 : True := trivial; have p0 := rowcell RX2.out 0; have p1 := rowcell RX2.out 1; have p2 := rowcell RX2.out 2; have p3 := rowcell RX2.out 3; have p4 := rowcell RX2.out 4; have p5 := rowcell RX2.out 5; have pf := rowfree RX2.out; simp only [List.getElem?_toArray, List.getElem?_cons_zero, List.getElem?_cons_succ] at p0 p1 p2 p3 p4 p5; have q0 := rowcell RY2.out 0; have q1 := rowcell RY2.out 1; have q2 := rowcell RY2.out 2; have q3 := rowcell RY2.out 3; have q4 := rowcell RY2.out 4; have q5 := rowcell RY2.out 5; have qf := rowfree RY2.out; simp only [List.getElem?_toArray, List.getElem?_cons_zero, List.getElem?_cons_succ] at q0 q1 q2 q3 q4 q5; clear hb2 NX))
    all_goals exact hQ.out _ _ ⟨rfl, HB3.out⟩
theorem cmp7_zero (k k' : Int) (neg neg' : Bool) (s s' : Int) (hi lo hi' lo' : Nat) (rest rest' : Bool) (h1 : sgnX k neg = 0) (h2 : sgnX k' neg' = 0) (w : World) :
    Calls Try.prog 11 #[exV k neg s hi lo rest, exV k' neg' s' hi' lo' rest'] w fun e w' => e = .returned (.int .i64 0) ∧ Below w.heap.size w w' := by
  have k1 := sign7_any k neg s hi lo rest
  have k2 := sign7_any k' neg' s' hi' lo' rest'
  rw [h1] at k1
  rw [h2] at k2
  clear h1 h2
  unfold exV at *
  refine cps fun Q hQ => ?_
  go_enter Try.func11, Try.ntmps11
  go_wp2_with (first
    | (have chk := T1; clear chk; go_at_call 23; refine (k2 _).mono ?_; rintro e w3 ⟨rfl, hb3⟩; have RX3 := (hb3.block w.heap.size z2).trans RX2.out; have RY3 := (hb3.block (w.heap.size + 1) z2').trans RY2.out; have x0 := rowcell RX3 0; have x1 := rowcell RX3 1; have x2 := rowcell RX3 2; have x3 := rowcell RX3 3; have x4 := rowcell RX3 4; have x5 := rowcell RX3 5; have xf := rowfree RX3; simp only [List.getElem?_toArray, List.getElem?_cons_zero, List.getElem?_cons_succ] at x0 x1 x2 x3 x4 x5; have y0 := rowcell RY3 0; have y1 := rowcell RY3 1; have y2 := rowcell RY3 2; have y3 := rowcell RY3 3; have y4 := rowcell RY3 4; have y5 := rowcell RY3 5; have yf := rowfree RY3; simp only [List.getElem?_toArray, List.getElem?_cons_zero, List.getElem?_cons_succ] at y0 y1 y2 y3 y4 y5; have HB3 : Hid (Below _ _ _) := cthen B2.out hb3; clear hb3 RX3 RY3)
    | (go_at_call 23; refine (k1 _).mono ?_; rintro e w2 ⟨rfl, hb2⟩; have RX2 : Hid _ := (hb2.block w.heap.size (by simp; omega)).trans ((Below.heap_alloc (w.alloc _) _ _ (by simp)).trans (rownew w _ _)); have RY2 : Hid _ := (hb2.block (w.heap.size + 1) (by simp)).trans (rownew' _ _ _ _ (by simp)); have z2 : w.heap.size < w2.heap.size := (by have := hb2.size; simp at this; omega); have z2' : w.heap.size + 1 < w2.heap.size := (by have := hb2.size; simp at this; omega); have NX := rowcell RX2.out 0; have B2 : Hid (Below _ _ _) := cthen (cmore (cmore (Below.refl _ _) _) _) hb2; have T1 : True := trivial; have p0 := rowcell RX2.out 0; have p1 := rowcell RX2.out 1; have p2 := rowcell RX2.out 2; have p3 := rowcell RX2.out 3; have p4 := rowcell RX2.out 4; have p5 := rowcell RX2.out 5; have pf := rowfree RX2.out; simp only [List.getElem?_toArray, List.getElem?_cons_zero, List.getElem?_cons_succ] at p0 p1 p2 p3 p4 p5; have q0 := rowcell RY2.out 0; have q1 := rowcell RY2.out 1; have q2 := rowcell RY2.out 2; have q3 := rowcell RY2.out 3; have q4 := rowcell RY2.out 4; have q5 := rowcell RY2.out 5; have qf := rowfree RY2.out; simp only [List.getElem?_toArray, List.getElem?_cons_zero, List.getElem?_cons_succ] at q0 q1 q2 q3 q4 q5; clear hb2 NX))
  all_goals exact hQ.out _ _ ⟨rfl, HB3.out⟩
end Go.Proofs.Ytfmhhcmjcmechab

namespace Go.Proofs.Ytfmhhcmjcmechab
open Go.ChangeShapes Go.WideShapes Go.ChangeAt Go.RowKit
set_option linter.unusedVariables false
set_option linter.unusedSimpArgs false
set_option maxRecDepth 100000

/-! ### two numbers of one sign, compared -/
set_option maxHeartbeats 4000000 in
theorem cmp7_real (neg : Bool) (s s' : Int) (hi lo hi' lo' : Nat) (w : World) :
    Calls Try.prog 11 #[exV 1 neg s hi lo false, exV 1 neg s' hi' lo' false] w fun e w' => e = .returned (.int .i64 (if s = s' ∧ hi = hi' ∧ lo = lo' then 0 else if s < s' ∨ (s = s' ∧ (hi < hi' ∨ (hi = hi' ∧ lo < lo'))) then -(if neg then -1 else 1) else (if neg then -1 else 1))) ∧ Below w.heap.size w w' := by
  have k1 := sign7_any 1 neg s hi lo false
  have k2 := sign7_any 1 neg s' hi' lo' false
  unfold exV sgnX at *
  rw [if_pos rfl] at k1 k2
  refine cps fun Q hQ => ?_
  rcases Int.lt_trichotomy s s' with c | rfl | c
  · rw [if_neg (by omega), if_pos (by omega)] at hQ
    have d1 : decide (s < s') = true := decide_eq_true c
    have d2 : (s == s') = false := beq_eq_false_iff_ne.2 (by omega)
    cases neg
    all_goals
        go_enter Try.func11, Try.ntmps11
        go_wp2_with (first
          | (have chk := T1; clear chk; go_at_call 23; refine (k2 _).mono ?_; rintro e w3 ⟨rfl, hb3⟩; have RX3 := (hb3.block w.heap.size z2).trans RX2.out; have RY3 := (hb3.block (w.heap.size + 1) z2').trans RY2.out; have x0 := rowcell RX3 0; have x1 := rowcell RX3 1; have x2 := rowcell RX3 2; have x3 := rowcell RX3 3; have x4 := rowcell RX3 4; have x5 := rowcell RX3 5; have xf := rowfree RX3; simp only [List.getElem?_toArray, List.getElem?_cons_zero, List.getElem?_cons_succ] at x0 x1 x2 x3 x4 x5; have y0 := rowcell RY3 0; have y1 := rowcell RY3 1; have y2 := rowcell RY3 2; have y3 := rowcell RY3 3; have y4 := rowcell RY3 4; have y5 := rowcell RY3 5; have yf := rowfree RY3; simp only [List.getElem?_toArray, List.getElem?_cons_zero, List.getElem?_cons_succ] at y0 y1 y2 y3 y4 y5; have HB3 : Hid (Below _ _ _) := cthen B2.out hb3; clear hb3 RX3 RY3)
          | (go_at_call 23; refine (k1 _).mono ?_; rintro e w2 ⟨rfl, hb2⟩; have RX2 : Hid _ := (hb2.block w.heap.size (by simp; omega)).trans ((Below.heap_alloc (w.alloc _) _ _ (by simp)).trans (rownew w _ _)); have RY2 : Hid _ := (hb2.block (w.heap.size + 1) (by simp)).trans (rownew' _ _ _ _ (by simp)); have z2 : w.heap.size < w2.heap.size := (by have := hb2.size; simp at this; omega); have z2' : w.heap.size + 1 < w2.heap.size := (by have := hb2.size; simp at this; omega); have NX := rowcell RX2.out 0; have B2 : Hid (Below _ _ _) := cthen (cmore (cmore (Below.refl _ _) _) _) hb2; have T1 : True := trivial; have p0 := rowcell RX2.out 0; have p1 := rowcell RX2.out 1; have p2 := rowcell RX2.out 2; have p3 := rowcell RX2.out 3; have p4 := rowcell RX2.out 4; have p5 := rowcell RX2.out 5; have pf := rowfree RX2.out; simp only [List.getElem?_toArray, List.getElem?_cons_zero, List.getElem?_cons_succ] at p0 p1 p2 p3 p4 p5; have q0 := rowcell RY2.out 0; have q1 := rowcell RY2.out 1; have q2 := rowcell RY2.out 2; have q3 := rowcell RY2.out 3; have q4 := rowcell RY2.out 4; have q5 := rowcell RY2.out 5; have qf := rowfree RY2.out; simp only [List.getElem?_toArray, List.getElem?_cons_zero, List.getElem?_cons_succ] at q0 q1 q2 q3 q4 q5; clear hb2 NX))
        all_goals first | (refine hQ.out _ _ ⟨?_, HB3.out⟩; rfl) | (exfalso; omega)
  · rcases Nat.lt_trichotomy hi hi' with c | rfl | c
    · rw [if_neg (by omega), if_pos (by omega)] at hQ
      have d1 : decide ((hi : Int) < (hi' : Int)) = true := decide_eq_true (by omega)
      have d2 : ((hi : Int) == (hi' : Int)) = false := beq_eq_false_iff_ne.2 (by omega)
      cases neg
      all_goals
          go_enter Try.func11, Try.ntmps11
          go_wp2_with (first
            | (have chk := T1; clear chk; go_at_call 23; refine (k2 _).mono ?_; rintro e w3 ⟨rfl, hb3⟩; have RX3 := (hb3.block w.heap.size z2).trans RX2.out; have RY3 := (hb3.block (w.heap.size + 1) z2').trans RY2.out; have x0 := rowcell RX3 0; have x1 := rowcell RX3 1; have x2 := rowcell RX3 2; have x3 := rowcell RX3 3; have x4 := rowcell RX3 4; have x5 := rowcell RX3 5; have xf := rowfree RX3; simp only [List.getElem?_toArray, List.getElem?_cons_zero, List.getElem?_cons_succ] at x0 x1 x2 x3 x4 x5; have y0 := rowcell RY3 0; have y1 := rowcell RY3 1; have y2 := rowcell RY3 2; have y3 := rowcell RY3 3; have y4 := rowcell RY3 4; have y5 := rowcell RY3 5; have yf := rowfree RY3; simp only [List.getElem?_toArray, List.getElem?_cons_zero, List.getElem?_cons_succ] at y0 y1 y2 y3 y4 y5; have HB3 : Hid (Below _ _ _) := cthen B2.out hb3; clear hb3 RX3 RY3)
            | (go_at_call 23; refine (k1 _).mono ?_; rintro e w2 ⟨rfl, hb2⟩; have RX2 : Hid _ := (hb2.block w.heap.size (by simp; omega)).trans ((Below.heap_alloc (w.alloc _) _ _ (by simp)).trans (rownew w _ _)); have RY2 : Hid _ := (hb2.block (w.heap.size + 1) (by simp)).trans (rownew' _ _ _ _ (by simp)); have z2 : w.heap.size < w2.heap.size := (by have := hb2.size; simp at this; omega); have z2' : w.heap.size + 1 < w2.heap.size := (by have := hb2.size; simp at this; omega); have NX := rowcell RX2.out 0; have B2 : Hid (Below _ _ _) := cthen (cmore (cmore (Below.refl _ _) _) _) hb2; have T1 : True := trivial; have p0 := rowcell RX2.out 0; have p1 := rowcell RX2.out 1; have p2 := rowcell RX2.out 2; have p3 := rowcell RX2.out 3; have p4 := rowcell RX2.out 4; have p5 := rowcell RX2.out 5; have pf := rowfree RX2.out; simp only [List.getElem?_toArray, List.getElem?_cons_zero, List.getElem?_cons_succ] at p0 p1 p2 p3 p4 p5; have q0 := rowcell RY2.out 0; have q1 := rowcell RY2.out 1; have q2 := rowcell RY2.out 2; have q3 := rowcell RY2.out 3; have q4 := rowcell RY2.out 4; have q5 := rowcell RY2.out 5; have qf := rowfree RY2.out; simp only [List.getElem?_toArray, List.getElem?_cons_zero, List.getElem?_cons_succ] at q0 q1 q2 q3 q4 q5; clear hb2 NX))
          all_goals first | (refine hQ.out _ _ ⟨?_, HB3.out⟩; rfl) | (exfalso; omega)
    · rcases Nat.lt_trichotomy lo lo' with c | rfl | c
      · rw [if_neg (by omega), if_pos (by omega)] at hQ
        have d1 : decide ((lo : Int) < (lo' : Int)) = true := decide_eq_true (by omega)
        have d2 : ((lo : Int) == (lo' : Int)) = false := beq_eq_false_iff_ne.2 (by omega)
        cases neg
        all_goals
            go_enter Try.func11, Try.ntmps11
            go_wp2_with (first
              | (have chk := T1; clear chk; go_at_call 23; refine (k2 _).mono ?_; rintro e w3 ⟨rfl, hb3⟩; have RX3 := (hb3.block w.heap.size z2).trans RX2.out; have RY3 := (hb3.block (w.heap.size + 1) z2').trans RY2.out; have x0 := rowcell RX3 0; have x1 := rowcell RX3 1; have x2 := rowcell RX3 2; have x3 := rowcell RX3 3; have x4 := rowcell RX3 4; have x5 := rowcell RX3 5; have xf := rowfree RX3; simp only [List.getElem?_toArray, List.getElem?_cons_zero, List.getElem?_cons_succ] at x0 x1 x2 x3 x4 x5; have y0 := rowcell RY3 0; have y1 := rowcell RY3 1; have y2 := rowcell RY3 2; have y3 := rowcell RY3 3; have y4 := rowcell RY3 4; have y5 := rowcell RY3 5; have yf := rowfree RY3; simp only [List.getElem?_toArray, List.getElem?_cons_zero, List.getElem?_cons_succ] at y0 y1 y2 y3 y4 y5; have HB3 : Hid (Below _ _ _) := cthen B2.out hb3; clear hb3 RX3 RY3)
              | (go_at_call 23; refine (k1 _).mono ?_; rintro e w2 ⟨rfl, hb2⟩; have RX2 : Hid _ := (hb2.block w.heap.size (by simp; omega)).trans ((Below.heap_alloc (w.alloc _) _ _ (by simp)).trans (rownew w _ _)); have RY2 : Hid _ := (hb2.block (w.heap.size + 1) (by simp)).trans (rownew' _ _ _ _ (by simp)); have z2 : w.heap.size < w2.heap.size := (by have := hb2.size; simp at this; omega); have z2' : w.heap.size + 1 < w2.heap.size := (by have := hb2.size; simp at this; omega); have NX := rowcell RX2.out 0; have B2 : Hid (Below _ _ _) := cthen (cmore (cmore (Below.refl _ _) _) _) hb2; have T1 : True := trivial; have p0 := rowcell RX2.out 0; have p1 := rowcell RX2.out 1; have p2 := rowcell RX2.out 2; have p3 := rowcell RX2.out 3; have p4 := rowcell RX2.out 4; have p5 := rowcell RX2.out 5; have pf := rowfree RX2.out; simp only [List.getElem?_toArray, List.getElem?_cons_zero, List.getElem?_cons_succ] at p0 p1 p2 p3 p4 p5; have q0 := rowcell RY2.out 0; have q1 := rowcell RY2.out 1; have q2 := rowcell RY2.out 2; have q3 := rowcell RY2.out 3; have q4 := rowcell RY2.out 4; have q5 := rowcell RY2.out 5; have qf := rowfree RY2.out; simp only [List.getElem?_toArray, List.getElem?_cons_zero, List.getElem?_cons_succ] at q0 q1 q2 q3 q4 q5; clear hb2 NX))
            all_goals first | (refine hQ.out _ _ ⟨?_, HB3.out⟩; rfl) | (exfalso; omega)
      · rw [if_pos ⟨rfl, rfl, rfl⟩] at hQ
        cases neg
        all_goals
            go_enter Try.func11, Try.ntmps11
            go_wp2_with (first
              | (have chk := T1; clear chk; go_at_call 23; refine (k2 _).mono ?_; rintro e w3 ⟨rfl, hb3⟩; have RX3 := (hb3.block w.heap.size z2).trans RX2.out; have RY3 := (hb3.block (w.heap.size + 1) z2').trans RY2.out; have x0 := rowcell RX3 0; have x1 := rowcell RX3 1; have x2 := rowcell RX3 2; have x3 := rowcell RX3 3; have x4 := rowcell RX3 4; have x5 := rowcell RX3 5; have xf := rowfree RX3; simp only [List.getElem?_toArray, List.getElem?_cons_zero, List.getElem?_cons_succ] at x0 x1 x2 x3 x4 x5; have y0 := rowcell RY3 0; have y1 := rowcell RY3 1; have y2 := rowcell RY3 2; have y3 := rowcell RY3 3; have y4 := rowcell RY3 4; have y5 := rowcell RY3 5; have yf := rowfree RY3; simp only [List.getElem?_toArray, List.getElem?_cons_zero, List.getElem?_cons_succ] at y0 y1 y2 y3 y4 y5; have HB3 : Hid (Below _ _ _) := cthen B2.out hb3; clear hb3 RX3 RY3)
              | (go_at_call 23; refine (k1 _).mono ?_; rintro e w2 ⟨rfl, hb2⟩; have RX2 : Hid _ := (hb2.block w.heap.size (by simp; omega)).trans ((Below.heap_alloc (w.alloc _) _ _ (by simp)).trans (rownew w _ _)); have RY2 : Hid _ := (hb2.block (w.heap.size + 1) (by simp)).trans (rownew' _ _ _ _ (by simp)); have z2 : w.heap.size < w2.heap.size := (by have := hb2.size; simp at this; omega); have z2' : w.heap.size + 1 < w2.heap.size := (by have := hb2.size; simp at this; omega); have NX := rowcell RX2.out 0; have B2 : Hid (Below _ _ _) := cthen (cmore (cmore (Below.refl _ _) _) _) hb2; have T1 : True := trivial; have p0 := rowcell RX2.out 0; have p1 := rowcell RX2.out 1; have p2 := rowcell RX2.out 2; have p3 := rowcell RX2.out 3; have p4 := rowcell RX2.out 4; have p5 := rowcell RX2.out 5; have pf := rowfree RX2.out; simp only [List.getElem?_toArray, List.getElem?_cons_zero, List.getElem?_cons_succ] at p0 p1 p2 p3 p4 p5; have q0 := rowcell RY2.out 0; have q1 := rowcell RY2.out 1; have q2 := rowcell RY2.out 2; have q3 := rowcell RY2.out 3; have q4 := rowcell RY2.out 4; have q5 := rowcell RY2.out 5; have qf := rowfree RY2.out; simp only [List.getElem?_toArray, List.getElem?_cons_zero, List.getElem?_cons_succ] at q0 q1 q2 q3 q4 q5; clear hb2 NX))
            all_goals first | (refine hQ.out _ _ ⟨?_, HB3.out⟩; rfl) | (exfalso; omega)
      · rw [if_neg (by omega), if_neg (by omega)] at hQ
        have d1 : decide ((lo : Int) < (lo' : Int)) = false := decide_eq_false (by omega)
        have d2 : ((lo : Int) == (lo' : Int)) = false := beq_eq_false_iff_ne.2 (by omega)
        cases neg
        all_goals
            go_enter Try.func11, Try.ntmps11
            go_wp2_with (first
              | (have chk := T1; clear chk; go_at_call 23; refine (k2 _).mono ?_; rintro e w3 ⟨rfl, hb3⟩; have RX3 := (hb3.block w.heap.size z2).trans RX2.out; have RY3 := (hb3.block (w.heap.size + 1) z2').trans RY2.out; have x0 := rowcell RX3 0; have x1 := rowcell RX3 1; have x2 := rowcell RX3 2; have x3 := rowcell RX3 3; have x4 := rowcell RX3 4; have x5 := rowcell RX3 5; have xf := rowfree RX3; simp only [List.getElem?_toArray, List.getElem?_cons_zero, List.getElem?_cons_succ] at x0 x1 x2 x3 x4 x5; have y0 := rowcell RY3 0; have y1 := rowcell RY3 1; have y2 := rowcell RY3 2; have y3 := rowcell RY3 3; have y4 := rowcell RY3 4; have y5 := rowcell RY3 5; have yf := rowfree RY3; simp only [List.getElem?_toArray, List.getElem?_cons_zero, List.getElem?_cons_succ] at y0 y1 y2 y3 y4 y5; have HB3 : Hid (Below _ _ _) := cthen B2.out hb3; clear hb3 RX3 RY3)
              | (go_at_call 23; refine (k1 _).mono ?_; rintro e w2 ⟨rfl, hb2⟩; have RX2 : Hid _ := (hb2.block w.heap.size (by simp; omega)).trans ((Below.heap_alloc (w.alloc _) _ _ (by simp)).trans (rownew w _ _)); have RY2 : Hid _ := (hb2.block (w.heap.size + 1) (by simp)).trans (rownew' _ _ _ _ (by simp)); have z2 : w.heap.size < w2.heap.size := (by have := hb2.size; simp at this; omega); have z2' : w.heap.size + 1 < w2.heap.size := (by have := hb2.size; simp at this; omega); have NX := rowcell RX2.out 0; have B2 : Hid (Below _ _ _) := cthen (cmore (cmore (Below.refl _ _) _) _) hb2; have T1 : True := trivial; have p0 := rowcell RX2.out 0; have p1 := rowcell RX2.out 1; have p2 := rowcell RX2.out 2; have p3 := rowcell RX2.out 3; have p4 := rowcell RX2.out 4; have p5 := rowcell RX2.out 5; have pf := rowfree RX2.out; simp only [List.getElem?_toArray, List.getElem?_cons_zero, List.getElem?_cons_succ] at p0 p1 p2 p3 p4 p5; have q0 := rowcell RY2.out 0; have q1 := rowcell RY2.out 1; have q2 := rowcell RY2.out 2; have q3 := rowcell RY2.out 3; have q4 := rowcell RY2.out 4; have q5 := rowcell RY2.out 5; have qf := rowfree RY2.out; simp only [List.getElem?_toArray, List.getElem?_cons_zero, List.getElem?_cons_succ] at q0 q1 q2 q3 q4 q5; clear hb2 NX))
            all_goals first | (refine hQ.out _ _ ⟨?_, HB3.out⟩; rfl) | (exfalso; omega)
    · rw [if_neg (by omega), if_neg (by omega)] at hQ
      have d1 : decide ((hi : Int) < (hi' : Int)) = false := decide_eq_false (by omega)
      have d2 : ((hi : Int) == (hi' : Int)) = false := beq_eq_false_iff_ne.2 (by omega)
      cases neg
      all_goals
          go_enter Try.func11, Try.ntmps11
          go_wp2_with (first
            | (have chk := T1; clear chk; go_at_call 23; refine (k2 _).mono ?_; rintro e w3 ⟨rfl, hb3⟩; have RX3 := (hb3.block w.heap.size z2).trans RX2.out; have RY3 := (hb3.block (w.heap.size + 1) z2').trans RY2.out; have x0 := rowcell RX3 0; have x1 := rowcell RX3 1; have x2 := rowcell RX3 2; have x3 := rowcell RX3 3; have x4 := rowcell RX3 4; have x5 := rowcell RX3 5; have xf := rowfree RX3; simp only [List.getElem?_toArray, List.getElem?_cons_zero, List.getElem?_cons_succ] at x0 x1 x2 x3 x4 x5; have y0 := rowcell RY3 0; have y1 := rowcell RY3 1; have y2 := rowcell RY3 2; have y3 := rowcell RY3 3; have y4 := rowcell RY3 4; have y5 := rowcell RY3 5; have yf := rowfree RY3; simp only [List.getElem?_toArray, List.getElem?_cons_zero, List.getElem?_cons_succ] at y0 y1 y2 y3 y4 y5; have HB3 : Hid (Below _ _ _) := cthen B2.out hb3; clear hb3 RX3 RY3)
            | (go_at_call 23; refine (k1 _).mono ?_; rintro e w2 ⟨rfl, hb2⟩; have RX2 : Hid _ := (hb2.block w.heap.size (by simp; omega)).trans ((Below.heap_alloc (w.alloc _) _ _ (by simp)).trans (rownew w _ _)); have RY2 : Hid _ := (hb2.block (w.heap.size + 1) (by simp)).trans (rownew' _ _ _ _ (by simp)); have z2 : w.heap.size < w2.heap.size := (by have := hb2.size; simp at this; omega); have z2' : w.heap.size + 1 < w2.heap.size := (by have := hb2.size; simp at this; omega); have NX := rowcell RX2.out 0; have B2 : Hid (Below _ _ _) := cthen (cmore (cmore (Below.refl _ _) _) _) hb2; have T1 : True := trivial; have p0 := rowcell RX2.out 0; have p1 := rowcell RX2.out 1; have p2 := rowcell RX2.out 2; have p3 := rowcell RX2.out 3; have p4 := rowcell RX2.out 4; have p5 := rowcell RX2.out 5; have pf := rowfree RX2.out; simp only [List.getElem?_toArray, List.getElem?_cons_zero, List.getElem?_cons_succ] at p0 p1 p2 p3 p4 p5; have q0 := rowcell RY2.out 0; have q1 := rowcell RY2.out 1; have q2 := rowcell RY2.out 2; have q3 := rowcell RY2.out 3; have q4 := rowcell RY2.out 4; have q5 := rowcell RY2.out 5; have qf := rowfree RY2.out; simp only [List.getElem?_toArray, List.getElem?_cons_zero, List.getElem?_cons_succ] at q0 q1 q2 q3 q4 q5; clear hb2 NX))
          all_goals first | (refine hQ.out _ _ ⟨?_, HB3.out⟩; rfl) | (exfalso; omega)
  · rw [if_neg (by omega), if_neg (by omega)] at hQ
    have d1 : decide (s < s') = false := decide_eq_false (by omega)
    have d2 : (s == s') = false := beq_eq_false_iff_ne.2 (by omega)
    cases neg
    all_goals
        go_enter Try.func11, Try.ntmps11
        go_wp2_with (first
          | (have chk := T1; clear chk; go_at_call 23; refine (k2 _).mono ?_; rintro e w3 ⟨rfl, hb3⟩; have RX3 := (hb3.block w.heap.size z2).trans RX2.out; have RY3 := (hb3.block (w.heap.size + 1) z2').trans RY2.out; have x0 := rowcell RX3 0; have x1 := rowcell RX3 1; have x2 := rowcell RX3 2; have x3 := rowcell RX3 3; have x4 := rowcell RX3 4; have x5 := rowcell RX3 5; have xf := rowfree RX3; simp only [List.getElem?_toArray, List.getElem?_cons_zero, List.getElem?_cons_succ] at x0 x1 x2 x3 x4 x5; have y0 := rowcell RY3 0; have y1 := rowcell RY3 1; have y2 := rowcell RY3 2; have y3 := rowcell RY3 3; have y4 := rowcell RY3 4; have y5 := rowcell RY3 5; have yf := rowfree RY3; simp only [List.getElem?_toArray, List.getElem?_cons_zero, List.getElem?_cons_succ] at y0 y1 y2 y3 y4 y5; have HB3 : Hid (Below _ _ _) := cthen B2.out hb3; clear hb3 RX3 RY3)
          | (go_at_call 23; refine (k1 _).mono ?_; rintro e w2 ⟨rfl, hb2⟩; have RX2 : Hid _ := (hb2.block w.heap.size (by simp; omega)).trans ((Below.heap_alloc (w.alloc _) _ _ (by simp)).trans (rownew w _ _)); have RY2 : Hid _ := (hb2.block (w.heap.size + 1) (by simp)).trans (rownew' _ _ _ _ (by simp)); have z2 : w.heap.size < w2.heap.size := (by have := hb2.size; simp at this; omega); have z2' : w.heap.size + 1 < w2.heap.size := (by have := hb2.size; simp at this; omega); have NX := rowcell RX2.out 0; have B2 : Hid (Below _ _ _) := cthen (cmore (cmore (Below.refl _ _) _) _) hb2; have T1 : True := trivial; have p0 := rowcell RX2.out 0; have p1 := rowcell RX2.out 1; have p2 := rowcell RX2.out 2; have p3 := rowcell RX2.out 3; have p4 := rowcell RX2.out 4; have p5 := rowcell RX2.out 5; have pf := rowfree RX2.out; simp only [List.getElem?_toArray, List.getElem?_cons_zero, List.getElem?_cons_succ] at p0 p1 p2 p3 p4 p5; have q0 := rowcell RY2.out 0; have q1 := rowcell RY2.out 1; have q2 := rowcell RY2.out 2; have q3 := rowcell RY2.out 3; have q4 := rowcell RY2.out 4; have q5 := rowcell RY2.out 5; have qf := rowfree RY2.out; simp only [List.getElem?_toArray, List.getElem?_cons_zero, List.getElem?_cons_succ] at q0 q1 q2 q3 q4 q5; clear hb2 NX))
        all_goals first | (refine hQ.out _ _ ⟨?_, HB3.out⟩; rfl) | (exfalso; omega)
end Go.Proofs.Ytfmhhcmjcmechab

namespace Go.Proofs.Ytfmhhcmjcmechab
open Go.ChangeShapes Go.WideShapes Go.ChangeAt Go.RowKit
set_option linter.unusedVariables false
set_option linter.unusedSimpArgs false
set_option maxRecDepth 100000

/-! ### a scale within the bound -/
def heldX (s : Int) : Int := if s < -1099511627776 then -1099511627776 else if s > 1099511627776 then 1099511627776 else s
end Go.Proofs.Ytfmhhcmjcmechab

namespace Go.Proofs.Ytfmhhcmjcmechab

/-! ### numbers as rows of digits of 24 bits, the lowest first -/
/-- what stands from digit k on -/
def top (n : Nat) : Nat → Nat
  | 0 => n
  | k + 1 => top n k / 16777216
theorem top_zero (n : Nat) : top n 0 = n := rfl
theorem top_succ (n k : Nat) : top n (k + 1) = top n k / 16777216 := rfl
theorem top_succ' (n k : Nat) : top n (k + 1) = top (n / 16777216) k := by
  induction k with
  | zero => rfl
  | succ k ih => rw [top_succ, ih, top_succ]
theorem top_eq (n k : Nat) : top n k = n / 16777216 ^ k := by
  induction k with
  | zero => simp [top]
  | succ k ih => rw [top_succ, ih, Nat.div_div_eq_div_mul, Nat.pow_succ]
theorem top_add (n j k : Nat) : top n (j + k) = top (top n j) k := by
  induction k with
  | zero => rfl
  | succ k ih => rw [← Nat.add_assoc, top_succ, ih, top_succ]
theorem top_zero_left (k : Nat) : top 0 k = 0 := by
  induction k with
  | zero => rfl
  | succ k ih => rw [top_succ, ih]
theorem top_mono (n : Nat) {j k : Nat} (h : j ≤ k) : top n k ≤ top n j := by
  obtain ⟨i, rfl⟩ := Nat.exists_eq_add_of_le h
  induction i with
  | zero => exact Nat.le_refl _
  | succ i ih => have := ih (by omega); rw [← Nat.add_assoc, top_succ]; omega
theorem top_div (n m k : Nat) : top (n / m) k = top n k / m := by
  rw [top_eq, top_eq, Nat.div_div_eq_div_mul, Nat.div_div_eq_div_mul, Nat.mul_comm]

/-- the lowest k digits -/
def low (n k : Nat) : List Nat := (List.range k).map fun i => top n i % 16777216
theorem low_length (n k : Nat) : (low n k).length = k := by simp [low]
theorem low_zero (n : Nat) : low n 0 = [] := rfl
theorem low_snoc (n k : Nat) : low n (k + 1) = low n k ++ [top n k % 16777216] := by simp [low, List.range_succ]
theorem low_cons (n k : Nat) : low n (k + 1) = n % 16777216 :: low (n / 16777216) k := by
  simp only [low, List.range_succ_eq_map, List.map_cons, List.map_map, top_zero]
  congr 1
  apply List.map_congr_left
  intro i _
  simp [top_succ']
theorem low_get (n k i : Nat) (h : i < k) : (low n k).getD i 0 = top n i % 16777216 := by
  simp [low, h]

def dig (n : Nat) : List Nat := if h : n = 0 then [] else n % 16777216 :: dig (n / 16777216)
theorem dig_zero : dig 0 = [] := by unfold dig; simp
theorem dig_pos {n : Nat} (h : n ≠ 0) : dig n = n % 16777216 :: dig (n / 16777216) := by
  conv => lhs; unfold dig
  simp [h]
/-- how many digits -/
def dlen (n : Nat) : Nat := (dig n).length
theorem dlen_zero : dlen 0 = 0 := by simp [dlen, dig_zero]
theorem dlen_pos {n : Nat} (h : n ≠ 0) : dlen n = dlen (n / 16777216) + 1 := by simp [dlen, dig_pos h]
theorem dlen_eq_zero {n : Nat} : dlen n = 0 ↔ n = 0 := by
  constructor
  · intro h; by_cases h0 : n = 0
    · exact h0
    · rw [dlen_pos h0] at h; omega
  · rintro rfl; exact dlen_zero
theorem top_pos_iff (n k : Nat) : 0 < top n k ↔ k < dlen n := by
  induction k generalizing n with
  | zero =>
    rw [top_zero]
    by_cases h : n = 0
    · subst h; simp [dlen_zero]
    · rw [dlen_pos h]; omega
  | succ k ih =>
    rw [top_succ', ih]
    by_cases h : n = 0
    · subst h; simp [dlen_zero]
    · rw [dlen_pos h]; omega
theorem top_eq_zero {n k : Nat} (h : dlen n ≤ k) : top n k = 0 := by
  by_cases hc : 0 < top n k
  · have := (top_pos_iff n k).1 hc; omega
  · omega
theorem low_dlen (n : Nat) : low n (dlen n) = dig n := by
  induction n using Nat.strongRecOn with
  | _ n ih =>
    by_cases h : n = 0
    · subst h; simp [dlen_zero, low_zero, dig_zero]
    · rw [dlen_pos h, low_cons, ih _ (by omega), ← dig_pos h]
theorem low_more (n k : Nat) : low n (dlen n + k) = dig n ++ List.replicate k 0 := by
  induction k with
  | zero => simp [low_dlen]
  | succ k ih => rw [← Nat.add_assoc, low_snoc, ih, top_eq_zero (by omega), List.append_assoc, List.replicate_succ']
theorem low_ge {n m : Nat} (h : dlen n ≤ m) : low n m = dig n ++ List.replicate (m - dlen n) 0 := by
  obtain ⟨k, rfl⟩ := Nat.exists_eq_add_of_le h
  rw [low_more]; congr 2; omega
theorem dig_get (n k : Nat) : (dig n).getD k 0 = top n k % 16777216 := by
  by_cases h : k < dlen n
  · rw [← low_dlen, low_get _ _ _ h]
  · rw [top_eq_zero (by omega), List.getD_eq_getElem?_getD, List.getElem?_eq_none (by unfold dlen at h; omega)]; rfl
theorem dig_length (n : Nat) : (dig n).length = dlen n := rfl
theorem dlen_mono {a b : Nat} (h : a ≤ b) : dlen a ≤ dlen b := by
  by_cases hc : dlen a ≤ dlen b
  · exact hc
  · have h1 : 0 < top a (dlen b) := (top_pos_iff a _).2 (by omega)
    have h2 : top b (dlen b) = 0 := top_eq_zero (Nat.le_refl _)
    rw [top_eq] at h1 h2
    have := Nat.div_le_div_right (c := 16777216 ^ dlen b) h
    omega
theorem dlen_le_of_lt {n k : Nat} (h : n < 16777216 ^ k) : dlen n ≤ k := by
  by_cases hc : dlen n ≤ k
  · exact hc
  · have h1 : 0 < top n k := (top_pos_iff n _).2 (by omega)
    rw [top_eq, Nat.div_eq_of_lt h] at h1; omega
theorem lt_of_dlen_le {n k : Nat} (h : dlen n ≤ k) : n < 16777216 ^ k := by
  have h1 := top_eq_zero h
  rw [top_eq] at h1
  exact (Nat.div_eq_zero_iff.1 h1).resolve_left (Nat.ne_of_gt (Nat.pow_pos (by decide)))
/-- the last digit is not nought -/
theorem dig_last {n : Nat} (h : n ≠ 0) : top n (dlen n - 1) % 16777216 ≠ 0 ∧ top n (dlen n - 1) = top n (dlen n - 1) % 16777216 := by
  have h1 : 0 < dlen n := by rw [dlen_pos h]; omega
  have h2 : 0 < top n (dlen n - 1) := (top_pos_iff _ _).2 (by omega)
  have h3 : top n (dlen n - 1 + 1) = 0 := top_eq_zero (by omega)
  rw [top_succ] at h3
  omega

/-- the number that a row of digits is -/
def val : List Nat → Nat
  | [] => 0
  | d :: l => d + 16777216 * val l
theorem val_cons (d : Nat) (l : List Nat) : val (d :: l) = d + 16777216 * val l := rfl
theorem val_append (l m : List Nat) : val (l ++ m) = val l + 16777216 ^ l.length * val m := by
  induction l with
  | nil => simp [val]
  | cons d l ih => simp only [List.cons_append, val_cons, ih, List.length_cons, Nat.pow_succ, Nat.mul_add]; rw [Nat.mul_comm (16777216 ^ l.length) 16777216, Nat.mul_assoc]; omega
theorem val_low (l : List Nat) (h : ∀ d ∈ l, d < 16777216) : low (val l) l.length = l := by
  induction l with
  | nil => rfl
  | cons d l ih =>
    have hd := h d (by simp)
    rw [List.length_cons, low_cons]
    have e1 : val (d :: l) % 16777216 = d := by rw [val_cons]; omega
    have e2 : val (d :: l) / 16777216 = val l := by rw [val_cons]; omega
    rw [e1, e2, ih (fun x hx => h x (by simp [hx]))]
theorem val_dig (n : Nat) : val (dig n) = n := by
  induction n using Nat.strongRecOn with
  | _ n ih =>
    by_cases h : n = 0
    · subst h; simp [dig_zero, val]
    · rw [dig_pos h, val_cons, ih _ (by omega)]; omega
theorem val_lt (l : List Nat) (h : ∀ d ∈ l, d < 16777216) : val l < 16777216 ^ l.length := by
  induction l with
  | nil => simp [val]
  | cons d l ih =>
    have hd := h d (by simp)
    have := ih (fun x hx => h x (by simp [hx]))
    rw [val_cons, List.length_cons, Nat.pow_succ]
    omega
theorem low_mem (n k d : Nat) (h : d ∈ low n k) : d < 16777216 := by
  simp only [low, List.mem_map] at h
  obtain ⟨i, _, rfl⟩ := h
  omega
theorem dig_mem (n d : Nat) (h : d ∈ dig n) : d < 16777216 := by rw [← low_dlen] at h; exact low_mem _ _ _ h
theorem dig_drop (n q : Nat) : (dig n).drop q = dig (top n q) := by
  induction q generalizing n with
  | zero => rfl
  | succ q ih =>
    by_cases h : n = 0
    · subst h; simp [dig_zero, top_zero_left]
    · rw [dig_pos h, List.drop_succ_cons, ih, top_succ']
theorem dig_shift {n : Nat} (h : n ≠ 0) (q : Nat) : dig (n * 16777216 ^ q) = List.replicate q 0 ++ dig n := by
  induction q with
  | zero => simp
  | succ q ih =>
    have hp : 0 < 16777216 ^ q := Nat.pow_pos (by decide)
    have h1 : n * 16777216 ^ (q + 1) ≠ 0 := Nat.mul_ne_zero h (Nat.ne_of_gt (Nat.pow_pos (by decide)))
    have e : n * 16777216 ^ (q + 1) = (n * 16777216 ^ q) * 16777216 := by rw [Nat.pow_succ, Nat.mul_assoc]
    rw [dig_pos h1, e, Nat.mul_mod_left, Nat.mul_div_cancel _ (by decide), ih, List.replicate_succ, List.cons_append]
theorem low_zeros (k : Nat) : low 0 k = List.replicate k 0 := by
  have := low_more 0 k
  rw [dlen_zero, dig_zero] at this; simpa using this
theorem dlen_top (n q : Nat) : dlen (top n q) = dlen n - q := by
  have := congrArg List.length (dig_drop n q)
  rw [List.length_drop] at this; unfold dlen; omega
/-- comparing: the first digit from above that differs -/
theorem cmp_len {a b : Nat} (h : dlen a < dlen b) : a < b := by
  by_cases hc : a < b
  · exact hc
  · have := dlen_mono (a := b) (b := a) (by omega); omega
theorem cmp_top {a b k : Nat} (h : top a k < top b k) : a < b := by
  by_cases hc : a < b
  · exact hc
  · rw [top_eq, top_eq] at h
    have := Nat.div_le_div_right (a := b) (b := a) (c := 16777216 ^ k) (by omega)
    omega
end Go.Proofs.Ytfmhhcmjcmechab

namespace Go.Proofs.Ytfmhhcmjcmechab
open Go.ChangeShapes Go.WideShapes Go.ChangeAt Go.RowKit
set_option linter.unusedVariables false
set_option maxRecDepth 100000

/-! ### rows of ints that are read -/
def enc (d : Nat) : Value := .int .i64 (d : Int)
/-- v is a slice of ints that reads as l in w -/
def Row (w : World) (v : Value) (l : List Nat) : Prop :=
  ∃ ao c, v = .slice ao l.length c ∧ c ≤ 9223372036854775807 ∧ l.length ≤ c ∧
    ((ao = none ∧ l = [] ∧ c = 0) ∨ ∃ b off, ao = some ⟨b, off, none⟩ ∧ b < w.heap.size ∧ ∀ j, j < l.length → w.cell? ⟨b, off + j, none⟩ = some (.int .i64 (l.getD j 0 : Nat)))
theorem Row.below {w w' : World} {v : Value} {l : List Nat} (h : Row w v l) (hb : Below w.heap.size w w') : Row w' v l := by
  obtain ⟨ao, c, rfl, hc, hl, h⟩ := h
  refine ⟨ao, c, rfl, hc, hl, ?_⟩
  rcases h with h | ⟨b, off, rfl, hlt, h⟩
  · exact .inl h
  · exact .inr ⟨b, off, rfl, Nat.lt_of_lt_of_le hlt hb.size, fun j hj => (hb.cell (p := ⟨b, off + j, none⟩) hlt).trans (h j hj)⟩
theorem row_nil (w : World) : Row w (.slice none 0 0) [] := ⟨none, 0, rfl, by decide, by decide, .inl ⟨rfl, rfl, rfl⟩⟩
theorem row_own {w : World} {base n : Nat} {e : TypeId} {v : Value} {l : List Nat} (h : w.ownsRow base e 1 v n (l.map enc)) : Row w v l := by
  obtain ⟨h1, h2⟩ := h
  rcases h2 with ⟨rfl, rfl⟩ | ⟨g, cap, cur, rfl, _, hg, hn, hcap, hsz, ht⟩
  · have : l = [] := by simpa using h1
    subst this; exact row_nil w
  · have hl : l.length = n := by simpa using h1
    subst hl
    unfold maxLen at hcap
    refine ⟨_, cap, rfl, by omega, hn, .inr ⟨g, 0, rfl, ?_, ?_⟩⟩
    · exact (Array.getElem?_eq_some_iff.1 hg).1
    · intro j hj
      have hc : cur[j]? = some (.int .i64 (l.getD j 0 : Nat)) := by
        have e1 : (cur.toList.take (l.length * 1))[j]? = (l.map enc)[j]? := by rw [ht]
        rw [List.getElem?_take_of_lt (by omega)] at e1
        simpa [hj, enc] using e1
      simp [World.cell?, hg, hc]
/-- how a row goes into a walk -/
theorem Row.out {w : World} {v : Value} {l : List Nat} (h : Row w v l) : ∃ ao c, v = .slice ao l.length c ∧ c ≤ 9223372036854775807 ∧ l.length ≤ c ∧
    (l.length = 0 ∨ ∃ b off, ao = some ⟨b, off, none⟩ ∧ ∀ j, j < l.length → w.cell? ⟨b, off + j, none⟩ = some (.int .i64 (l.getD j 0 : Nat))) := by
  obtain ⟨ao, c, rfl, hc, hl, h⟩ := h
  refine ⟨ao, c, rfl, hc, hl, ?_⟩
  rcases h with ⟨_, rfl, _⟩ | ⟨b, off, rfl, _, h⟩
  · exact .inl rfl
  · exact .inr ⟨b, off, rfl, h⟩

theorem infoInt : (Try.prog.info? 3).map (fun i => (i.zero, i.size, i.bytes)) = some (some (.int .i64 0), 1, 8) := by kernel_rfl

/-- a number's slice, as the walk wants it -/
theorem Row.num {w : World} {v : Value} {n : Nat} (h : Row w v (dig n)) : ∃ ao c, v = .slice ao (dlen n) c ∧ c ≤ 9223372036854775807 ∧ dlen n ≤ c := by
  obtain ⟨ao, c, rfl, hc, hl, _⟩ := h
  exact ⟨ao, c, rfl, hc, hl⟩

/-- 'l[:n]' of a row -/
theorem Row.take {w : World} {ao : Option Addr} {c k : Nat} {l : List Nat} (h : Row w (.slice ao k c) l) (n : Nat) (hn : n ≤ l.length) : Row w (.slice ao n c) (l.take n) := by
  obtain ⟨ao', c', he, hc, hl, h⟩ := h
  injection he with e1 e2 e3
  subst e1 e2 e3
  have e : (l.take n).length = n := by rw [List.length_take]; omega
  refine ⟨ao, c, by rw [e], hc, by omega, ?_⟩
  rcases h with ⟨h1, h2, h3⟩ | ⟨b, off, h1, h2, h3⟩
  · exact .inl ⟨h1, by rw [h2]; simp, h3⟩
  · refine .inr ⟨b, off, h1, h2, fun j hj => ?_⟩
    rw [e] at hj
    rw [h3 j (by omega), List.getD_eq_getElem?_getD, List.getD_eq_getElem?_getD, List.getElem?_take_of_lt hj]

end Go.Proofs.Ytfmhhcmjcmechab

namespace Go.Proofs.Ytfmhhcmjcmechab
open Go.ChangeShapes Go.WideShapes Go.ChangeAt Go.RowKit
set_option linter.unusedVariables false
set_option maxRecDepth 100000

/-- how a number's slice goes into a walk that reads its elements -/
theorem Row.reads {w : World} {v : Value} {n : Nat} (h : Row w v (dig n)) : ∃ ao c, v = .slice ao (dlen n) c ∧ c ≤ 9223372036854775807 ∧ dlen n ≤ c ∧
    (dlen n = 0 ∨ ∃ b off, ao = some ⟨b, off, none⟩ ∧ b < w.heap.size ∧ ∀ j, j < dlen n → w.cell? ⟨b, off + j, none⟩ = some (.int .i64 (top n j % 16777216 : Nat))) := by
  obtain ⟨ao, c, rfl, hc, hl, h⟩ := h
  refine ⟨ao, c, rfl, hc, hl, ?_⟩
  rcases h with ⟨_, h, _⟩ | ⟨b, off, rfl, hb, h⟩
  · exact .inl (by unfold dlen; rw [h]; rfl)
  · exact .inr ⟨b, off, rfl, hb, fun j hj => by rw [h j hj, dig_get]⟩
theorem owns_drewN {w : World} {base n sz : Nat} {e : TypeId} {v : Value} {xs : List Value} (h : w.ownsRow base e sz v n xs) (q : Nat) : (w.drewN q).ownsRow base e sz v n xs := h

theorem mul_part (A q : Nat) : A * q = 16777216 * (A / 16777216 * q) + A % 16777216 * q := by
  conv => lhs; rw [← Nat.div_add_mod A 16777216]
  rw [Nat.add_mul, Nat.mul_assoc]

end Go.Proofs.Ytfmhhcmjcmechab

namespace Go.Proofs.Ytfmhhcmjcmechab
open Go.ChangeShapes Go.WideShapes Go.ChangeAt Go.RowKit
set_option linter.unusedVariables false
set_option maxRecDepth 100000

theorem owns_below {w w' : World} {base n sz : Nat} {e : TypeId} {v : Value} {xs : List Value} (h : w.ownsRow base e sz v n xs) (hb : Below w.heap.size w w') : w'.ownsRow base e sz v n xs := by
  refine ⟨h.1, ?_⟩
  rcases h.2 with hn | ⟨g, cap, cur, rfl, hg, hgg, rest⟩
  · exact .inl hn
  · refine .inr ⟨g, cap, cur, rfl, hg, ?_, rest⟩
    rw [hb.block g (Array.getElem?_eq_some_iff.1 hgg).1]; exact hgg
theorem made_ints (n : Nat) : (madeCells (Value.int .i64 0).cells (n * 1)).toList = (List.replicate n 0).map enc := by
  have e : ∀ x : Nat, [Value.int .i64 0][x % 1]?.getD default = .int .i64 0 := fun x => by rw [Nat.mod_one]; rfl
  simp [madeCells, enc, Value.cells, e, List.map_const']
/-- 'l[q:]' of a row -/
theorem Row.drop {w : World} {b off c : Nat} {n k : Nat} (h : Row w (.slice (some ⟨b, off, none⟩) k c) (dig n)) (q : Nat) (hq : q ≤ dlen n) : Row w (.slice (some ⟨b, off + q, none⟩) (dlen n - q) (c - q)) (dig (top n q)) := by
  obtain ⟨ao', c', he, hc, hl, h⟩ := h
  injection he with e1 e2 e3
  subst e1 e2 e3
  have hl' : dlen n ≤ c := hl
  refine ⟨_, c - q, by rw [dig_length, dlen_top], by omega, by rw [dig_length, dlen_top]; omega, ?_⟩
  rcases h with ⟨h1, h2⟩ | ⟨b', off', h1, h2, h3⟩
  · simp at h1
  · simp at h1
    obtain ⟨rfl, rfl⟩ := h1
    refine .inr ⟨_, _, rfl, h2, fun j hj => ?_⟩
    rw [dig_length, dlen_top] at hj
    rw [Nat.add_assoc, h3 (q + j) (by rw [dig_length]; omega), dig_get, dig_get, top_add]

theorem row_lit (w : World) (e : TypeId) (d : Nat) (hd : d ≠ 0) (hd2 : d < 16777216) : Row (w.alloc (.cells #[.int .i64 (d : Int)] e)) (.slice (some ⟨w.heap.size, 0, none⟩) 1 1) (dig d) := by
  have hl : dig d = [d] := by rw [dig_pos hd, show d / 16777216 = 0 by omega, dig_zero, Nat.mod_eq_of_lt hd2]
  rw [hl]
  refine ⟨_, 1, rfl, by decide, Nat.le_refl _, .inr ⟨_, 0, rfl, by simp, fun j hj => ?_⟩⟩
  have : j = 0 := by simpa using hj
  subst this
  exact World.cell?_alloc_at _ _ _ _ rfl

end Go.Proofs.Ytfmhhcmjcmechab

namespace Go.Proofs.Ytfmhhcmjcmechab
open Go.ChangeShapes Go.WideShapes Go.ChangeAt Go.RowKit
set_option linter.unusedVariables false
set_option maxRecDepth 100000

theorem shr_digit (Y r : Nat) (hr : r < 24) : Y % 16777216 / 2 ^ r + Y / 16777216 % 16777216 % 2 ^ r * (16777216 / 2 ^ r) = Y / 2 ^ r % 16777216 := by
  have h : r = 0 ∨ r = 1 ∨ r = 2 ∨ r = 3 ∨ r = 4 ∨ r = 5 ∨ r = 6 ∨ r = 7 ∨ r = 8 ∨ r = 9 ∨ r = 10 ∨ r = 11 ∨ r = 12 ∨ r = 13 ∨ r = 14 ∨ r = 15 ∨ r = 16 ∨ r = 17 ∨ r = 18 ∨ r = 19 ∨ r = 20 ∨ r = 21 ∨ r = 22 ∨ r = 23 := by omega
  rcases h with h | h | h | h | h | h | h | h | h | h | h | h | h | h | h | h | h | h | h | h | h | h | h | h <;> subst h <;> simp only [Nat.reducePow, Nat.reduceDiv] <;> omega

/-- the lowest k digits, and noughts behind -/
def lowz (n k m : Nat) : List Nat := low n k ++ List.replicate (m - k) 0
theorem lowz_zero (n m : Nat) : lowz n 0 m = List.replicate m 0 := by simp [lowz, low_zero]
theorem lowz_all (n m : Nat) : lowz n m m = low n m := by simp [lowz]
theorem lowz_set (n k m : Nat) (h : k < m) : (lowz n k m).set k (top n k % 16777216) = lowz n (k + 1) m := by
  unfold lowz
  obtain ⟨j, rfl⟩ : ∃ j, m = k + 1 + j := ⟨m - k - 1, by omega⟩
  rw [show k + 1 + j - k = j + 1 by omega, show k + 1 + j - (k + 1) = j by omega, List.replicate_succ, low_snoc, List.set_append]
  simp [low_length]

theorem Row.drew {w : World} {v : Value} {l : List Nat} (h : Row w v l) : Row w.drew v l := h.below (Below.refl _ _).drew
theorem Row.cells {w : World} {b off k c n : Nat} (h : Row w (.slice (some ⟨b, off, none⟩) k c) (dig n)) : ∀ j, j < dlen n → w.cell? ⟨b, off + j, none⟩ = some (.int .i64 (top n j % 16777216 : Nat)) := by
  obtain ⟨ao, c', he, _, _, hr⟩ := h.reads
  injection he with e1 _ _
  subst e1
  intro j hj
  rcases hr with hr | ⟨b', off', e, _, hr⟩
  · omega
  · simp at e
    obtain ⟨rfl, rfl⟩ := e
    exact hr j hj

end Go.Proofs.Ytfmhhcmjcmechab

namespace Go.Proofs.Ytfmhhcmjcmechab
open Go.ChangeShapes Go.WideShapes Go.ChangeAt Go.RowKit
set_option linter.unusedVariables false
set_option maxRecDepth 100000

/-! ### how many bits -/
def blen (n : Nat) : Nat := if h : n = 0 then 0 else blen (n / 2) + 1
theorem blen_zero : blen 0 = 0 := by unfold blen; simp
theorem blen_pos {n : Nat} (h : n ≠ 0) : blen n = blen (n / 2) + 1 := by
  conv => lhs; unfold blen
  simp [h]
theorem blen_le {n m : Nat} : blen n ≤ m ↔ n < 2 ^ m := by
  induction m generalizing n with
  | zero =>
    by_cases h : n = 0
    · subst h; simp [blen_zero]
    · rw [blen_pos h]; simp; exact h
  | succ m ih =>
    by_cases h : n = 0
    · subst h; simp [blen_zero]; exact Nat.pow_pos (by decide)
    · rw [blen_pos h, Nat.add_le_add_iff_right, ih, Nat.pow_succ]; omega
theorem blen_shift {a k : Nat} (h : a / 2 ^ k ≠ 0) : blen a = blen (a / 2 ^ k) + k := by
  induction k with
  | zero => simp
  | succ k ih =>
    have e : a / 2 ^ (k + 1) = a / 2 ^ k / 2 := by rw [Nat.pow_succ, Nat.div_div_eq_div_mul]
    have h1 : a / 2 ^ k ≠ 0 := by intro h2; rw [e, h2] at h; simp at h
    rw [ih h1, blen_pos h1, e]; omega
theorem blen_top {a : Nat} (h : a ≠ 0) : blen a = blen (top a (dlen a - 1)) + 24 * (dlen a - 1) := by
  have e : top a (dlen a - 1) = a / 2 ^ (24 * (dlen a - 1)) := by
    rw [top_eq, show (16777216 : Nat) = 2 ^ 24 by decide, ← Nat.pow_mul]
  have h2 := (dig_last h).1
  have h3 : top a (dlen a - 1) ≠ 0 := by intro h4; rw [h4] at h2; simp at h2
  rw [e] at h3 ⊢
  exact blen_shift h3

/-! ### comparing -/
def cmpN (a b : Nat) : Int := if a < b then -1 else if a = b then 0 else 1
theorem cmpN_lt {a b : Nat} (h : a < b) : cmpN a b = -1 := by simp [cmpN, h]
theorem cmpN_gt {a b : Nat} (h : b < a) : cmpN a b = 1 := by unfold cmpN; rw [if_neg (by omega), if_neg (by omega)]
theorem cmpN_eq (a : Nat) : cmpN a a = 0 := by simp [cmpN]
/-! ### is one of the lowest bits 1? -/
theorem low_part (a i m : Nat) (hm : m ≤ 24) (h : 2 ^ (24 * i) ∣ a) : top a i % 16777216 % 2 ^ m = 0 ↔ 2 ^ (24 * i + m) ∣ a := by
  obtain ⟨x, rfl⟩ := h
  have e : top (2 ^ (24 * i) * x) i = x := by
    rw [top_eq, show (16777216 : Nat) = 2 ^ 24 by decide, ← Nat.pow_mul, Nat.mul_div_cancel_left _ (Nat.pow_pos (by decide))]
  have hd : 2 ^ m ∣ 16777216 := by rw [show (16777216 : Nat) = 2 ^ 24 by decide]; exact Nat.pow_dvd_pow 2 hm
  rw [e, Nat.mod_mod_of_dvd _ hd, Nat.pow_add, Nat.mul_dvd_mul_iff_left (Nat.pow_pos (by decide))]
  exact (Nat.dvd_iff_mod_eq_zero).symm
theorem low_end (a i : Nat) (h : 2 ^ (24 * i) ∣ a) (hi : dlen a ≤ i) : a = 0 := by
  have h1 := lt_of_dlen_le hi
  rw [show (16777216 : Nat) = 2 ^ 24 by decide, ← Nat.pow_mul] at h1
  exact Nat.eq_zero_of_dvd_of_lt h h1
end Go.Proofs.Ytfmhhcmjcmechab

namespace Go.Proofs.Ytfmhhcmjcmechab
open Go.ChangeShapes Go.WideShapes Go.ChangeAt Go.RowKit
set_option linter.unusedVariables false
set_option linter.unusedSimpArgs false
set_option maxRecDepth 100000

/-! ### a natural number's first 128 bits, and whether something is lost -/
def normN (M : Nat) : Nat := if blen M < 128 then M * 2 ^ (128 - blen M) else M / 2 ^ (blen M - 128)
def lostN (M : Nat) : Bool := decide (128 < blen M) && decide (M % 2 ^ (blen M - 128) ≠ 0)
def exactV (neg : Bool) (M : Nat) (exp : Int) (rest : Bool) : Value :=
  if M = 0 then exV 0 false 0 0 0 false else exV 1 neg (heldX (exp + blen M - 1)) (normN M / 2 ^ 64 % 2 ^ 64) (normN M % 2 ^ 64) (rest || lostN M)
theorem blen_lo {M : Nat} (h : M ≠ 0) : 2 ^ (blen M - 1) ≤ M := by
  have := @blen_le M (blen M - 1)
  have hp : blen M ≠ 0 := by rw [blen_pos h]; omega
  refine Nat.le_of_not_lt fun hlt => ?_
  have := this.2 hlt
  omega
theorem blen_hi (M : Nat) : M < 2 ^ blen M := blen_le.1 (Nat.le_refl _)
/-- the first of the 128 bits is a 1 -/
theorem normN_mant {M : Nat} (h : M ≠ 0) : 2 ^ 127 ≤ normN M ∧ normN M < 2 ^ 128 := by
  have h1 := blen_lo h
  have h2 := blen_hi M
  have hp : 1 ≤ blen M := by rw [blen_pos h]; omega
  unfold normN
  split
  · rename_i hc
    constructor
    · have := Nat.mul_le_mul_right (2 ^ (128 - blen M)) h1
      rwa [← Nat.pow_add, show blen M - 1 + (128 - blen M) = 127 by omega] at this
    · have := Nat.mul_lt_mul_of_pos_right h2 (show 0 < 2 ^ (128 - blen M) from Nat.pow_pos (by decide))
      rwa [← Nat.pow_add, show blen M + (128 - blen M) = 128 by omega] at this
  · rename_i hc
    constructor
    · rw [Nat.le_div_iff_mul_le (Nat.pow_pos (by decide)), ← Nat.pow_add, show 127 + (blen M - 128) = blen M - 1 by omega]
      exact h1
    · rw [Nat.div_lt_iff_lt_mul (Nat.pow_pos (by decide)), ← Nat.pow_add, show 128 + (blen M - 128) = blen M by omega]
      exact h2
theorem normN_words {M : Nat} (h : M ≠ 0) : WordsX (normN M / 2 ^ 64 % 2 ^ 64) (normN M % 2 ^ 64) := by
  obtain ⟨h1, h2⟩ := normN_mant h
  have e1 : normN M / 2 ^ 64 < 2 ^ 64 := by rw [Nat.div_lt_iff_lt_mul (Nat.pow_pos (by decide)), ← Nat.pow_add]; exact h2
  have e2 : 2 ^ 63 ≤ normN M / 2 ^ 64 := by rw [Nat.le_div_iff_mul_le (Nat.pow_pos (by decide)), ← Nat.pow_add]; exact h1
  rw [Nat.mod_eq_of_lt e1]
  exact ⟨e2, e1, Nat.mod_lt _ (by decide)⟩
end Go.Proofs.Ytfmhhcmjcmechab

namespace Go.Proofs.Ytfmhhcmjcmechab
open Go.ChangeShapes Go.WideShapes Go.ChangeAt Go.RowKit
set_option linter.unusedVariables false
set_option linter.unusedSimpArgs false
set_option maxRecDepth 100000

theorem Row.setU {w : World} {v : Value} {l : List Nat} (h : Row w v l) (m k : Nat) (u u' : Value) (hc : w.cell? ⟨m, k, none⟩ = some u) (hu : ∀ x, u ≠ .int .i64 x) : Row (w.setCell ⟨m, k, none⟩ u') v l := by
  obtain ⟨ao, c, rfl, hc1, hl, h⟩ := h
  refine ⟨ao, c, rfl, hc1, hl, ?_⟩
  rcases h with h | ⟨b, off, rfl, hlt, h⟩
  · exact .inl h
  · refine .inr ⟨b, off, rfl, by simpa using hlt, fun j hj => ?_⟩
    have hj2 := h j hj
    have hne : (⟨m, k, none⟩ : Addr) ≠ ⟨b, off + j, none⟩ := fun e => by
      rw [← e, hc] at hj2
      exact hu _ (Option.some.inj hj2)
    rw [World.cell?_setCell_other _ _ _ _ hne]
    exact hj2
theorem dlen_of_blen {M : Nat} (h : blen M ≤ 1099511627776) : dlen M ≤ 1099511627776 := by
  refine Nat.le_trans (dlen_le_of_lt ?_) h
  refine Nat.lt_of_lt_of_le (blen_hi M) ?_
  rw [show (16777216 : Nat) = 2 ^ 24 by decide, ← Nat.pow_mul]
  exact Nat.pow_le_pow_right (by decide) (by omega)
theorem dlen_mant {K : Nat} (h : K < 2 ^ 128) : dlen K ≤ 1099511627776 := by
  refine Nat.le_trans (dlen_le_of_lt (k := 6) (Nat.lt_of_lt_of_le h (by decide))) (by decide)
theorem heldX_bounds (s : Int) : -1099511627776 ≤ heldX s ∧ heldX s ≤ 1099511627776 := by unfold heldX; split <;> (try split) <;> omega
theorem cset6 {a W : World} {m : Nat} {v0 v1 v2 v3 v4 v5 : Value} (h : Below a.heap.size a W) (hb : a.heap.size ≤ m) :
    Below a.heap.size a ((((((W.setCell ⟨m, 0, none⟩ v0).setCell ⟨m, 1, none⟩ v1).setCell ⟨m, 2, none⟩ v2).setCell ⟨m, 3, none⟩ v3).setCell ⟨m, 4, none⟩ v4).setCell ⟨m, 5, none⟩ v5) :=
  cset (cset (cset (cset (cset (cset h hb 0 v0) hb 1 v1) hb 2 v2) hb 3 v3) hb 4 v4) hb 5 v5
end Go.Proofs.Ytfmhhcmjcmechab

namespace Go.Proofs.Ytfmhhcmjcmechab
open Go.ChangeShapes Go.WideShapes Go.ChangeAt Go.RowKit
set_option linter.unusedVariables false
set_option linter.unusedSimpArgs false
set_option maxRecDepth 100000

theorem exactV_form (neg : Bool) (M : Nat) (exp : Int) (rest : Bool) : ∃ k b s h l r, exactV neg M exp rest = exV k b s h l r := by
  unfold exactV
  split
  · exact ⟨_, _, _, _, _, _, rfl⟩
  · exact ⟨_, _, _, _, _, _, rfl⟩
/-! ### Makes -/
def farE (exp : Int) : Int := if exp < -1125899906842624 then -1125899906842624 else if exp > 1125899906842624 then 1125899906842624 else exp
theorem exactV_far (neg : Bool) (M : Nat) (exp : Int) (rest : Bool) (hM : M < 2 ^ 128) : exactV neg M (farE exp) rest = exactV neg M exp rest := by
  by_cases h0 : M = 0
  · unfold exactV; rw [if_pos h0, if_pos h0]
  · have h1 : blen M ≤ 128 := blen_le.2 hM
    unfold exactV
    rw [if_neg h0, if_neg h0]
    congr 1
    unfold heldX farE
    have hb2 : 0 ≤ ((blen M : Nat) : Int) ∧ ((blen M : Nat) : Int) ≤ 128 := by omega
    generalize ((blen M : Nat) : Int) = b at *
    repeat' split
    all_goals omega
theorem manX_lt {hi lo : Nat} (hh : hi < 2 ^ 64) (hl : lo < 2 ^ 64) : manX hi lo < 2 ^ 128 := by unfold manX; omega
end Go.Proofs.Ytfmhhcmjcmechab

namespace Go.Proofs.Ytfmhhcmjcmechab
open Go.ChangeShapes Go.WideShapes Go.ChangeAt Go.RowKit
set_option linter.unusedVariables false

/-! ### numbers of 128 bits -/
structure Tw (n h l : Nat) : Prop where
  eq : n = h * 18446744073709551616 + l
  hi : h ≤ 18446744073709551615
  lo : l ≤ 18446744073709551615
theorem Tw.mk' {h l : Nat} (a : h ≤ 18446744073709551615) (b : l ≤ 18446744073709551615) : Tw (h * 18446744073709551616 + l) h l := ⟨rfl, a, b⟩

theorem bmore {a w : World} (h : Below a.heap.size a w) (o : Obj) : Below a.heap.size a (w.alloc o) := h.alloc h.size o

theorem maskN (a : Nat) (ha : a < 18446744073709551616) : bits .and .u64 (a : Int) 4294967295 = ((a % 4294967296 : Nat) : Int) := by
  have e := u64_and_nat a 4294967295 ha (by decide)
  rw [show ((4294967295 : Nat) : Int) = 4294967295 from rfl] at e
  rw [e, show (4294967295 : Nat) = 2 ^ 32 - 1 from rfl, Nat.and_two_pow_sub_one_eq_mod]
theorem divN (a : Nat) : (a : Int) / 4294967296 = ((a / 4294967296 : Nat) : Int) := by omega
theorem mulN (a b : Nat) : (a : Int) * (b : Int) = ((a * b : Nat) : Int) := (Int.natCast_mul a b).symm
theorem addN (a b : Nat) : (a : Int) + (b : Int) = ((a + b : Nat) : Int) := (Int.natCast_add a b).symm
theorem wrapU (a : Nat) (ha : a < 18446744073709551616) : IntKind.u64.wrap (a : Int) = (a : Int) := by rw [IntKind.wrap_u64]; omega
theorem wrapM (a : Nat) : IntKind.u64.wrap (a : Int) = ((a % 18446744073709551616 : Nat) : Int) := by rw [IntKind.wrap_u64]; omega
end Go.Proofs.Ytfmhhcmjcmechab

namespace Go.Proofs.Ytfmhhcmjcmechab
open Go.ChangeShapes Go.WideShapes Go.ChangeAt Go.RowKit
set_option linter.unusedVariables false

theorem bthen {a W w : World} (h : Below a.heap.size a W) (hb : Below W.heap.size W w) : Below a.heap.size a w := h.trans (hb.mono h.size)
theorem bdrew {a W : World} (h : Below a.heap.size a W) : Below a.heap.size a W.drew := h.drew
theorem bdrewN {a W : World} (h : Below a.heap.size a W) (q : Nat) : Below a.heap.size a (W.drewN q) := below_drewN h q

theorem drew_at (w : World) (c : Array Value) (t : TypeId) (n i : Nat) (hn : n = w.heap.size) : (w.alloc (.cells c t)).drew.cell? ⟨n, i, none⟩ = c[i]? := World.cell?_alloc_at c t n i hn
theorem bcell {W w1 : World} (hb : Below W.heap.size W w1) : (∀ b o, b < W.heap.size → w1.cell? ⟨b, o, none⟩ = W.cell? ⟨b, o, none⟩) ∧ (∀ b o, b < W.heap.size → w1.frozen? ⟨b, o, none⟩ = W.frozen? ⟨b, o, none⟩) :=
  ⟨fun b o h => hb.cell (p := ⟨b, o, none⟩) h, fun b o h => hb.frozen (p := ⟨b, o, none⟩) h⟩
theorem bset {a W : World} {b : Nat} (h : Below a.heap.size a W) (hb : a.heap.size ≤ b) (o : Nat) (v : Value) : Below a.heap.size a (W.setCell ⟨b, o, none⟩ v) := h.setCell hb _
theorem Tw.lt {n h l : Nat} (t : Tw n h l) : n < 340282366920938463463374607431768211456 := by
  obtain ⟨e, a, b⟩ := t; omega
/-! ### cmp -/
theorem cmp_words {a b h1 l1 h2 l2 : Nat} (ha : Tw a h1 l1) (hb : Tw b h2 l2) : (if cmpN h1 h2 = 0 then cmpN l1 l2 else cmpN h1 h2) = cmpN a b := by
  obtain ⟨ea, ha1, ha2⟩ := ha
  obtain ⟨eb, hb1, hb2⟩ := hb
  rcases Nat.lt_trichotomy h1 h2 with h | h | h
  · rw [cmpN_lt h, cmpN_lt (show a < b by omega)]; rfl
  · subst h
    rw [cmpN_eq, if_pos rfl]
    rcases Nat.lt_trichotomy l1 l2 with h | h | h
    · rw [cmpN_lt h, cmpN_lt (show a < b by omega)]
    · subst h; rw [cmpN_eq, show a = b by omega, cmpN_eq]
    · rw [cmpN_gt h, cmpN_gt (show b < a by omega)]
  · rw [cmpN_gt h, cmpN_gt (show b < a by omega)]; rfl
theorem cmpN_rng (x y : Nat) : -1 ≤ cmpN x y ∧ cmpN x y ≤ 1 := by unfold cmpN; split <;> (try split) <;> omega

/-! ### Len -/
theorem bitLen_eq (x : Nat) (hx : x ≤ 18446744073709551615) : Lib.bitLen x = blen x := by
  have h1 : ∀ f x : Nat, x < 2 ^ f → Lib.bitLenAux f x = blen x := by
    intro f
    induction f with
    | zero => intro x h; have : x = 0 := by omega
              subst this; rw [blen_zero]; rfl
    | succ f ih =>
      intro x h
      unfold Lib.bitLenAux
      by_cases h0 : x = 0
      · subst h0; rw [blen_zero]; rfl
      · rw [if_neg h0, blen_pos h0, ih _ (by rw [Nat.pow_succ] at h; omega), Nat.add_comm]
  exact h1 64 x (by omega)
end Go.Proofs.Ytfmhhcmjcmechab
