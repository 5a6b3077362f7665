import Derived.Test.YtajlgpamcpgalaaCodK
import Derived.Test.YtajlgpamcpgalaaLeadD
namespace Go.Proofs.Ytajlgpamcpgalaa
set_option linter.unusedVariables false
set_option linter.unusedSimpArgs false

/-! ### bits put, bits read, of a word that is a string (plain mathematics) -/
theorem numOf_noughts_append (z : Nat) (l : List Bool) : numOf (noughts z ++ l) = numOf l := by
  rw [numOf_append, numOf_noughts]; simp
theorem bits64_numOf (l : List Bool) (h : l.length ≤ 64) : bitsOf (numOf l) 64 = noughts (64 - l.length) ++ l := by
  refine numOf_inj (by rw [bitsOf_length, List.length_append, List.length_replicate]; omega) ?_
  rw [numOf_bits, numOf_noughts_append]
  exact Nat.mod_eq_of_lt (Nat.lt_of_lt_of_le (numOf_lt l) (Nat.pow_le_pow_right (by decide) h))
/-- bits put into a string -/
theorem put_list (a b c : List Bool) (v at_ m : Nat) (hb : b.length = m) (hc : c.length = at_) (hl : (a ++ b ++ c).length ≤ 64) :
    putOf (numOf (a ++ b ++ c)) at_ m v = numOf (a ++ bitsOf v m ++ c) := by
  have hlen : a.length + m + at_ ≤ 64 := by simp only [List.length_append] at hl; omega
  have hlt : numOf (a ++ b ++ c) < 2 ^ 64 := Nat.lt_of_lt_of_le (numOf_lt _) (Nat.pow_le_pow_right (by decide) hl)
  rw [put_eq _ at_ m v hlt (by omega), rputL, bits64_numOf _ hl]
  have hl2 : (a ++ b ++ c).length = a.length + m + at_ := by simp only [List.length_append]; omega
  rw [hl2]
  obtain ⟨z, hz⟩ : ∃ z, z = 64 - (a.length + m + at_) := ⟨_, rfl⟩
  rw [← hz]
  have e1 : (noughts z ++ (a ++ b ++ c)).take (64 - at_ - m) = noughts z ++ a := by
    rw [show noughts z ++ (a ++ b ++ c) = (noughts z ++ a) ++ (b ++ c) by simp, List.take_append_of_le_length (by simp; omega), List.take_of_length_le (by simp; omega)]
  have e2 : (noughts z ++ (a ++ b ++ c)).drop (64 - at_) = c := by
    rw [show noughts z ++ (a ++ b ++ c) = (noughts z ++ a ++ b) ++ c by simp, List.drop_append_of_le_length (by simp; omega), List.drop_of_length_le (by simp; omega), List.nil_append]
  rw [e1, e2, List.take_of_length_le (by omega), List.append_assoc, numOf_noughts_append, List.append_assoc]
theorem bits_ones (m : Nat) (hm : m ≤ 64) : bitsOf 18446744073709551615 m = List.replicate m true := by
  apply List.ext_getElem?
  intro j
  by_cases hj : j < m
  · rw [bitsOf_get _ _ _ hj, show (18446744073709551615 : Nat) = 2 ^ 64 - 1 by decide, Nat.testBit_two_pow_sub_one, List.getElem?_replicate, if_pos hj, decide_eq_true (by omega)]
  · rw [List.getElem?_eq_none (by rw [bitsOf_length]; omega), List.getElem?_eq_none (by simp; omega)]
theorem bits_none (m : Nat) : bitsOf 0 m = noughts m := by
  apply List.ext_getElem?
  intro j
  by_cases hj : j < m
  · rw [bitsOf_get _ _ _ hj, noughts, List.getElem?_replicate, if_pos hj, Nat.zero_testBit]
  · rw [List.getElem?_eq_none (by rw [bitsOf_length]; omega), List.getElem?_eq_none (by simp; omega)]
/-- the word of a run: all ones, or nought -/
def wordB (b : Bool) : Nat := if b then 18446744073709551615 else 0
theorem bits_wordB (b : Bool) (m : Nat) (hm : m ≤ 64) : bitsOf (wordB b) m = List.replicate m b := by
  cases b
  · exact bits_none m
  · exact bits_ones m hm
/-- the string that is assembled, of n - 1 bits -/
def asmL (n : Nat) (ones : Bool) (run v1 v2 : Nat) : List Bool :=
  List.replicate run ones ++ (if n - 1 - run = 0 then [] else (!ones) :: (bitsOf v1 (min (n - 2 - run) 2) ++ bitsOf v2 (n - 2 - run - 2)))
theorem asmL_length (n : Nat) (ones : Bool) (run v1 v2 : Nat) (h : run ≤ n - 1) : (asmL n ones run v1 v2).length = n - 1 := by
  unfold asmL
  split
  · simp; omega
  · simp [bitsOf_length]; omega
theorem asm_end (n : Nat) (ones : Bool) (run v1 v2 : Nat) (hn : n ≤ 64) (h1 : run = n - 1) :
    putOf (putOf (putOf 0 0 run (wordB ones)) 0 0 v1) 0 0 v2 = numOf (asmL n ones run v1 v2) := by
  have hz : ∀ (l : List Bool) v, l.length ≤ 64 → putOf (numOf l) 0 0 v = numOf l := fun l v hl => by
    have := put_list l [] [] v 0 0 rfl rfl (by simpa using hl)
    simpa [bitsOf] using this
  have h0 := put_list [] (noughts run) [] (wordB ones) 0 run (by simp) rfl (by simp; omega)
  rw [List.nil_append, List.append_nil, numOf_noughts, bits_wordB _ _ (by omega), List.nil_append, List.append_nil] at h0
  rw [h0, hz _ _ (by simp; omega), hz _ _ (by simp; omega)]
  unfold asmL
  rw [if_pos (by omega), List.append_nil]
theorem asm_all (n : Nat) (ones : Bool) (run v1 v2 behind E F : Nat) (hn : n ≤ 64) (hb : behind = n - 1 - run) (h1 : 0 < behind) (hE : E = min (n - 2 - run) 2) (hF : F = n - 2 - run - E) :
    putOf (putOf (putOf (putOf 0 behind run (wordB ones)) (behind - 1) 1 (wordB (!ones))) F E v1) 0 F v2 = numOf (asmL n ones run v1 v2) := by
  have h0 := put_list [] (noughts run) (noughts behind) (wordB ones) behind run (by simp) (by simp) (by simp; omega)
  rw [List.nil_append, noughts_add, numOf_noughts, bits_wordB _ _ (by omega), List.nil_append] at h0
  have e1 : noughts behind = [false] ++ noughts (behind - 1) := by
    rw [show [false] = noughts 1 from rfl, noughts_add]; congr 1; omega
  have h2 := put_list (List.replicate run ones) [false] (noughts (behind - 1)) (wordB (!ones)) (behind - 1) 1 rfl (by simp) (by simp; omega)
  rw [List.append_assoc, ← e1, bits_wordB _ _ (by omega)] at h2
  have e2 : noughts (behind - 1) = noughts E ++ noughts F := by rw [noughts_add]; congr 1; omega
  have h3 := put_list (List.replicate run ones ++ [!ones]) (noughts E) (noughts F) v1 F E (by simp) (by simp) (by simp; omega)
  rw [List.append_assoc, ← e2] at h3
  have h4 := put_list (List.replicate run ones ++ [!ones] ++ bitsOf v1 E) (noughts F) [] v2 0 F (by simp) rfl (by simp [bitsOf_length]; omega)
  rw [List.append_nil, List.append_nil] at h4
  rw [h0, h2, show List.replicate 1 (!ones) = [!ones] from rfl, h3, h4]
  unfold asmL
  rw [if_neg (by omega), show n - 2 - run - 2 = F by omega, ← hE]
  simp
/-- bits read out of a word that ends with a string -/
theorem fieldOf_mod (y at_ m k : Nat) (h : at_ + m ≤ k) : fieldOf y at_ m = fieldOf (y % 2 ^ k) at_ m := by
  apply Nat.eq_of_testBit_eq
  intro i
  rw [fieldOf, fieldOf, Nat.testBit_mod_two_pow, Nat.testBit_mod_two_pow, Nat.testBit_shiftRight, Nat.testBit_shiftRight, Nat.testBit_mod_two_pow]
  by_cases hi : i < m
  · rw [decide_eq_true (show at_ + i < k by omega)]; simp
  · simp [hi]
theorem fieldOf_list (a b c : List Bool) : fieldOf (numOf (a ++ b ++ c)) c.length b.length = numOf b := by
  have hc := numOf_lt c
  have hb := numOf_lt b
  have h0 : 0 < 2 ^ c.length := Nat.pos_of_ne_zero (by simp)
  rw [fieldOf, numOf_append, numOf_append, Nat.shiftRight_eq_div_pow, Nat.mul_comm, Nat.mul_add_div h0, Nat.div_eq_of_lt hc, Nat.add_zero, Nat.mul_comm, Nat.mul_add_mod, Nat.mod_eq_of_lt hb]
/-- the parts of a string, read off a word that ends with it -/
theorem exp_field (t : List Bool) (y m E F : Nat) (hl : t.length = m) (hy : y % 2 ^ m = numOf t) (hE : E = min (restL t).length 2) (hF : F = (restL t).length - E) :
    fieldOf y F E * 2 ^ (2 - E) = expL t ∧ fieldOf y 0 F = fracL t := by
  have hr := restL_length t
  have ht : t = t.take (runL t + 1) ++ (restL t).take E ++ (restL t).drop E := by
    rw [List.append_assoc, List.take_append_drop, restL, List.take_append_drop]
  have l1 : ((restL t).take E).length = E := by rw [List.length_take]; omega
  have l2 : ((restL t).drop E).length = F := by rw [List.length_drop]; omega
  have hEu : (E = (restL t).length ∧ (restL t).length ≤ 2) ∨ (E = 2 ∧ 2 < (restL t).length) := by omega
  have f1 := fieldOf_list (t.take (runL t + 1)) ((restL t).take E) ((restL t).drop E)
  have f2 := fieldOf_list (t.take (runL t + 1) ++ (restL t).take E) ((restL t).drop E) []
  rw [List.append_nil, List.length_nil] at f2
  rw [← ht, l1, l2] at f1
  rw [← ht, l2] at f2
  constructor
  · rw [fieldOf_mod y F E m (by omega), hy, f1]
    unfold expL
    have : (restL t ++ noughts 2).take 2 = (restL t).take E ++ noughts (2 - E) := by
      rcases hEu with ⟨h1, h2⟩ | ⟨h1, h2⟩
      · rw [List.take_append, List.take_of_length_le h2, h1, List.take_of_length_le (Nat.le_refl _), take_noughts _ _ (by omega)]
      · rw [h1, List.take_append_of_le_length (by omega)]; simp [noughts]
    rw [this, numOf_append, numOf_noughts]; simp
  · rw [fieldOf_mod y 0 F m (by omega), hy, f2, frac_drop _ _ hEu]; rfl
/-- the run of a string, read off a word that ends with it -/
theorem run_field (t : List Bool) (y m : Nat) (h0 : 0 < m) (hl : t.length = m) (hy : y % 2 ^ m = numOf t) : IsRun y m (onesL t) (runL t) := by
  have hne : t ≠ [] := by rintro rfl; simp at hl; omega
  obtain ⟨b, r, tl, rfl, htl⟩ := split_run t hne
  have hbit : ∀ j, j < m → y.testBit (m - 1 - j) = (List.replicate (r + 1) b ++ tl).getD j false := fun j hj => by
    have : (y % 2 ^ m).testBit (m - 1 - j) = y.testBit (m - 1 - j) := by
      rw [Nat.testBit_mod_two_pow, decide_eq_true (by omega)]; rfl
    rw [← this, hy, numOf_testBit, hl, decide_eq_true (by omega), show m - 1 - (m - 1 - j) = j by omega]; rfl
  rw [runL_rep b r tl htl, onesL_rep]
  have hl' : r + 1 + tl.length = m := by simpa using hl
  refine ⟨?_, by omega, by omega, ?_, ?_⟩
  · have := hbit 0 h0
    rw [Nat.sub_zero] at this
    rw [this, List.replicate_succ]; rfl
  · intro j hj
    rw [hbit j (by omega), List.getD_eq_getElem?_getD, List.getElem?_append_left (by simpa using hj), List.getElem?_replicate, if_pos hj]; rfl
  · intro hk
    rw [hbit (r + 1) hk, List.getD_eq_getElem?_getD, List.getElem?_append_right (by simp)]
    rcases htl with rfl | ⟨u, rfl⟩
    · simp at hl'; omega
    · simp
/-- a string is what is assembled of its parts -/
theorem asm_parts (n : Nat) (t : List Bool) (h2 : 2 ≤ n) (hl : t.length = n - 1) (v : Nat) (hv : v = expL t / 2 ^ (2 - min (n - 2 - runL t) 2)) : asmL n (onesL t) (runL t) v (fracL t) = t := by
  have hne : t ≠ [] := by rintro rfl; simp at hl; omega
  obtain ⟨b, r, tl, rfl, htl⟩ := split_run t hne
  unfold asmL
  have h1 := runL_rep b r tl htl
  have hl' : r + 1 + tl.length = n - 1 := by simpa using hl
  rw [h1] at hv ⊢
  rw [onesL_rep]
  rcases htl with rfl | ⟨u, rfl⟩
  · rw [if_pos (by simp at hl'; omega)]
  · have hu : u.length = n - 2 - (r + 1) := by simp at hl'; omega
    rw [if_neg (by simp at hl'; omega)]
    congr 2
    rw [← hu]
    have hr : restL (List.replicate (r + 1) b ++ (!b) :: u) = u := restL_rep b r u
    have hf : fracL (List.replicate (r + 1) b ++ (!b) :: u) = numOf (u.drop 2) := by unfold fracL; rw [hr]
    have he : expL (List.replicate (r + 1) b ++ (!b) :: u) = numOf ((u ++ noughts 2).take 2) := by unfold expL; rw [hr]
    have e1 : bitsOf (numOf (u.drop 2)) (u.length - 2) = u.drop 2 := by
      have := bitsOf_numOf (u.drop 2)
      rwa [List.length_drop] at this
    obtain ⟨E, hE⟩ : ∃ E, E = min u.length 2 := ⟨_, rfl⟩
    have hEu : (E = u.length ∧ u.length ≤ 2) ∨ (E = 2 ∧ 2 < u.length) := by omega
    have e2 : (u ++ noughts 2).take 2 = u.take E ++ noughts (2 - E) := by
      rcases hEu with ⟨h1, h2⟩ | ⟨h1, h2⟩
      · rw [List.take_append, List.take_of_length_le h2, h1, List.take_of_length_le (Nat.le_refl _), take_noughts _ _ (by omega)]
      · rw [h1, List.take_append_of_le_length (by omega)]; simp [noughts]
    have e3 : v = numOf (u.take E) := by
      rw [hv, he, e2, numOf_append, numOf_noughts, ← hu, ← hE, Nat.add_zero, List.length_replicate]
      exact Nat.mul_div_cancel _ (Nat.pos_of_ne_zero (by simp))
    have e4 : bitsOf (numOf (u.take E)) E = u.take E := by
      have := bitsOf_numOf (u.take E)
      rwa [List.length_take, Nat.min_eq_left (by omega)] at this
    rw [hf, e1, ← hE, e3, e4]
    rcases hEu with ⟨h1, h2⟩ | ⟨h1, h2⟩
    · rw [List.drop_of_length_le h2, List.append_nil, h1, List.take_of_length_le (Nat.le_refl _)]
    · rw [h1, List.take_append_drop]
theorem bits_drop1 (x m : Nat) (h : 1 ≤ m) : (bitsOf x m).drop 1 = bitsOf x (m - 1) := by
  apply List.ext_getElem?
  intro j
  by_cases hj : j < m - 1
  · rw [List.getElem?_drop, bitsOf_get _ _ _ (by omega), bitsOf_get _ _ _ hj]
    congr 2; omega
  · rw [List.getElem?_eq_none (by rw [List.length_drop, bitsOf_length]; omega), List.getElem?_eq_none (by rw [bitsOf_length]; omega)]
theorem bits_take (x m k : Nat) (h : k ≤ m) : (bitsOf x m).take k = bitsOf (x >>> (m - k)) k := by
  apply List.ext_getElem?
  intro j
  by_cases hj : j < k
  · rw [List.getElem?_take_of_lt hj, bitsOf_get _ _ _ (by omega), bitsOf_get _ _ _ hj, Nat.testBit_shiftRight]
    congr 2; omega
  · rw [List.getElem?_eq_none (by rw [List.length_take, bitsOf_length]; omega), List.getElem?_eq_none (by rw [bitsOf_length]; omega)]
theorem bits_field (f F : Nat) (h : F ≤ 63) : ((bitsOf f 64).drop 1).take F = bitsOf (fieldOf f (63 - F) F) F := by
  apply List.ext_getElem?
  intro j
  by_cases hj : j < F
  · rw [List.getElem?_take_of_lt hj, List.getElem?_drop, bitsOf_get _ _ _ (by omega), bitsOf_get _ _ _ hj, fieldOf, Nat.testBit_mod_two_pow, Nat.testBit_shiftRight, decide_eq_true (by omega), Bool.true_and]
    congr 2; omega
  · rw [List.getElem?_eq_none (by rw [List.length_take, List.length_drop, bitsOf_length]; omega), List.getElem?_eq_none (by rw [bitsOf_length]; omega)]
/-- a number's string, cut, is what is assembled of its parts -/
theorem asm_cut (n : Nat) (hn : Wd n) (s : Int) (f : Nat) (hr : inR n s = true) (ones : Bool) (run v1 v2 F : Nat)
    (hk : headK (s / 4) = List.replicate run ones ++ [!ones]) (hF : F = n - 2 - run - 2) (hv1 : v1 = (s % 4).toNat / 2 ^ (2 - min (n - 2 - run) 2)) (hv2 : v2 = fieldOf f (63 - F) F) :
    run ≤ n - 1 ∧ asmL n ones run v1 v2 = cutL n s f := by
  have hw := wd_le hn
  have hr' := of_decide_eq_true hr
  have hrun : run ≤ n - 1 := by
    have hl := congrArg List.length hk
    unfold headK at hl
    split at hl <;> simp at hl <;> omega
  refine ⟨hrun, ?_⟩
  unfold asmL cutL canon
  rw [hk]
  by_cases he : n - 1 - run = 0
  · rw [if_pos he, List.append_nil, List.append_assoc, List.append_assoc, List.take_append_of_le_length (by simp; omega), List.take_of_length_le (by simp; omega)]
  · rw [if_neg he, List.append_assoc, List.append_assoc, List.take_append, List.take_of_length_le (by simp; omega), List.length_replicate, show n - 1 - run = (n - 2 - run) + 1 by omega, List.cons_append, List.take_succ_cons, List.nil_append]
    congr 2
    obtain ⟨q, hq⟩ : ∃ q, q = n - 2 - run := ⟨_, rfl⟩
    rw [← hq] at hF hv1 ⊢
    have hm : min q 2 ≤ 2 := Nat.min_le_right _ _
    rw [List.take_append, bitsOf_length, hv1, hv2, ← Nat.shiftRight_eq_div_pow, ← bits_take _ 2 (min q 2) hm, ← hF, bits_field f F (by omega)]
    congr 1
    · by_cases h2 : q ≤ 2
      · rw [Nat.min_eq_left h2]
      · rw [Nat.min_eq_right (by omega), List.take_of_length_le (by rw [bitsOf_length]; exact Nat.le_refl _), List.take_of_length_le (by rw [bitsOf_length]; omega)]
end Go.Proofs.Ytajlgpamcpgalaa
