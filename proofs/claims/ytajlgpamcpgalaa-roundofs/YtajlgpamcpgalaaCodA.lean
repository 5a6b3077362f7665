import Derived.Test.YtajlgpamcpgalaaKit
namespace Go.Proofs.Ytajlgpamcpgalaa
set_option linter.unusedVariables false
set_option linter.unusedSimpArgs false

/-! ### strings of bits: runs, what they mean, and the string of a number (plain mathematics) -/
abbrev noughts (k : Nat) : List Bool := List.replicate k false
def runL : List Bool → Nat
  | [] => 0
  | b :: l => 1 + (l.takeWhile (· == b)).length
def onesL (l : List Bool) : Bool := l.getD 0 false
def restL (l : List Bool) : List Bool := l.drop (runL l + 1)
def regL (l : List Bool) : Int := if onesL l then (runL l : Int) - 1 else -(runL l : Int)
def expL (l : List Bool) : Nat := numOf ((restL l ++ noughts 2).take 2)
def fracL (l : List Bool) : Nat := numOf ((restL l).drop 2)
def scaleL (l : List Bool) : Int := 4 * regL l + expL l
def wordL (l : List Bool) : Nat := numOf (true :: (((restL l).drop 2) ++ noughts 63).take 63)

theorem takeWhile_rep (b : Bool) (r : Nat) (t : List Bool) (ht : t = [] ∨ ∃ u, t = (!b) :: u) : (List.replicate r b ++ t).takeWhile (· == b) = List.replicate r b := by
  induction r with
  | zero =>
    rcases ht with rfl | ⟨u, rfl⟩
    · rfl
    · cases b <;> rfl
  | succ r ih => rw [List.replicate_succ, List.cons_append, List.takeWhile_cons_of_pos (by simp), ih]
theorem runL_rep (b : Bool) (r : Nat) (t : List Bool) (ht : t = [] ∨ ∃ u, t = (!b) :: u) : runL (List.replicate (r + 1) b ++ t) = r + 1 := by
  rw [List.replicate_succ, List.cons_append, runL, takeWhile_rep b r t ht, List.length_replicate]; omega
theorem onesL_rep (b : Bool) (r : Nat) (t : List Bool) : onesL (List.replicate (r + 1) b ++ t) = b := by
  rw [List.replicate_succ, List.cons_append]; rfl
theorem restL_end (b : Bool) (r : Nat) : restL (List.replicate (r + 1) b) = [] := by
  have := runL_rep b r [] (.inl rfl)
  rw [List.append_nil] at this
  rw [restL, this, List.drop_of_length_le (by simp)]
theorem restL_rep (b : Bool) (r : Nat) (u : List Bool) : restL (List.replicate (r + 1) b ++ (!b) :: u) = u := by
  rw [restL, runL_rep b r _ (.inr ⟨u, rfl⟩), show r + 1 + 1 = (List.replicate (r + 1) b).length + 1 by simp, List.drop_append]
  simp
/-- each string begins with a run -/
theorem split_run (l : List Bool) (h : l ≠ []) : ∃ b r t, l = List.replicate (r + 1) b ++ t ∧ (t = [] ∨ ∃ u, t = (!b) :: u) := by
  induction l with
  | nil => exact absurd rfl h
  | cons a l ih =>
    cases l with
    | nil => exact ⟨a, 0, [], rfl, .inl rfl⟩
    | cons c l =>
      obtain ⟨b, r, t, he, ht⟩ := ih (by simp)
      by_cases hab : a = b
      · subst hab
        exact ⟨a, r + 1, t, by rw [he, List.replicate_succ (n := r + 1), List.cons_append], ht⟩
      · have : b = !a := by cases a <;> cases b <;> simp_all
        subst this
        refine ⟨a, 0, c :: l, rfl, .inr ⟨List.replicate r (!a) ++ t, ?_⟩⟩
        rw [he, List.replicate_succ, List.cons_append]
theorem numOf_append (a b : List Bool) : numOf (a ++ b) = numOf a * 2 ^ b.length + numOf b := by
  have := numOf_acc b (numOf a)
  rw [← this]; simp [numOf]
theorem numOf_noughts (k : Nat) : numOf (noughts k) = 0 := by
  induction k with
  | zero => rfl
  | succ k ih => rw [noughts, List.replicate_succ, numOf_cons]; simpa using ih
theorem bitsOf_numOf (l : List Bool) : bitsOf (numOf l) l.length = l := by
  apply List.ext_getElem?
  intro j
  by_cases hj : j < l.length
  · rw [bitsOf_get _ _ _ hj, List.getElem?_eq_getElem hj, numOf_testBit, show l.length - 1 - (l.length - 1 - j) = j by omega, List.getD_eq_getElem?_getD, List.getElem?_eq_getElem hj]
    simp; omega
  · rw [List.getElem?_eq_none (by rw [bitsOf_length]; omega), List.getElem?_eq_none (by omega)]
theorem numOf_inj {a b : List Bool} (hl : a.length = b.length) (h : numOf a = numOf b) : a = b := by
  rw [← bitsOf_numOf a, ← bitsOf_numOf b, h, hl]
theorem noughts_add (i j : Nat) : noughts i ++ noughts j = noughts (i + j) := by simp [noughts]
theorem take_noughts (i j : Nat) (h : j ≤ i) : (noughts i).take j = noughts j := by simp [noughts, Nat.min_eq_left h]
/-- noughts behind a string change nothing -/
theorem take_pad (l : List Bool) (k j m : Nat) (hk : k ≤ m) : (l ++ noughts j ++ noughts m).take k = (l ++ noughts m).take k := by
  rw [List.append_assoc, noughts_add]
  by_cases h : k ≤ l.length
  · rw [List.take_append_of_le_length h, List.take_append_of_le_length h]
  · rw [List.take_append, List.take_append, take_noughts _ _ (by omega), take_noughts _ _ (by omega)]
theorem drop_pad (l : List Bool) (j k : Nat) : ∃ i, (l ++ noughts j).drop k = l.drop k ++ noughts i ∧ i ≤ j := by
  refine ⟨j - (k - l.length), ?_, by omega⟩
  rw [List.drop_append, noughts, List.drop_replicate]
structure SameL (a b : List Bool) : Prop where
  ones : onesL a = onesL b
  run : runL a = runL b
  exp : expL a = expL b
  word : wordL a = wordL b
theorem SameL.scale {a b : List Bool} (h : SameL a b) : scaleL a = scaleL b := by unfold scaleL regL; rw [h.ones, h.run, h.exp]
theorem same_rest {a b : List Bool} (ho : onesL a = onesL b) (hr : runL a = runL b) (j : Nat) (he : restL a = restL b ++ noughts j) : SameL a b := by
  refine ⟨ho, hr, ?_, ?_⟩
  · unfold expL; rw [he, take_pad _ _ _ _ (Nat.le_refl _)]
  · unfold wordL
    obtain ⟨i, hi, _⟩ := drop_pad (restL b) j 2
    rw [he, hi, take_pad _ _ _ _ (Nat.le_refl _)]
theorem same_pad (l : List Bool) (j : Nat) (h : true ∈ l) : SameL (l ++ noughts j) l := by
  have hne : l ≠ [] := by rintro rfl; cases h
  obtain ⟨b, r, t, rfl, ht⟩ := split_run l hne
  cases j with
  | zero => rw [noughts, List.replicate_zero, List.append_nil]; exact ⟨rfl, rfl, rfl, rfl⟩
  | succ j =>
    rcases ht with rfl | ⟨u, rfl⟩
    · have hb : b = true := by
        rw [List.append_nil, List.mem_replicate] at h; exact h.2.symm
      subst hb
      rw [List.append_nil]
      refine same_rest ?_ ?_ j ?_
      · rw [onesL_rep]; have := onesL_rep true r []; rw [List.append_nil] at this; exact this.symm
      · have e := runL_rep true r [] (.inl rfl)
        rw [List.append_nil] at e
        rw [e]; exact runL_rep true r _ (.inr ⟨noughts j, rfl⟩)
      · rw [restL_end, List.nil_append, show noughts (j + 1) = (!true) :: noughts j from rfl, restL_rep]
    · rw [List.append_assoc, List.cons_append]
      refine same_rest ?_ ?_ (j + 1) ?_
      · rw [onesL_rep, onesL_rep]
      · rw [runL_rep b r _ (.inr ⟨_, rfl⟩), runL_rep b r _ (.inr ⟨_, rfl⟩)]
      · rw [restL_rep, restL_rep]

/-! ### the string of a number -/
def headK (k : Int) : List Bool := if 0 ≤ k then List.replicate (k.toNat + 1) true ++ [false] else List.replicate (-k).toNat false ++ [true]
def canon (s : Int) (f : Nat) : List Bool := headK (s / 4) ++ bitsOf (s % 4).toNat 2 ++ (bitsOf f 64).drop 1
theorem headK_rep (b : Bool) (r : Nat) : headK (if b then ((r + 1 : Nat) : Int) - 1 else -((r + 1 : Nat) : Int)) = List.replicate (r + 1) b ++ [!b] := by
  cases b
  · simp only [Bool.false_eq_true, if_false, headK]
    rw [if_neg (by omega), show (- -((r + 1 : Nat) : Int)).toNat = r + 1 by omega]; rfl
  · simp only [if_true, headK]
    rw [if_pos (by omega), show (((r + 1 : Nat) : Int) - 1).toNat + 1 = r + 1 by omega]; rfl
theorem headK_form (k : Int) : ∃ b r, headK k = List.replicate (r + 1) b ++ [!b] ∧ k = if b then ((r + 1 : Nat) : Int) - 1 else -((r + 1 : Nat) : Int) := by
  by_cases h : 0 ≤ k
  · refine ⟨true, k.toNat, ?_, ?_⟩
    · rw [headK, if_pos h]; rfl
    · rw [if_pos rfl]; omega
  · refine ⟨false, (-k).toNat - 1, ?_, ?_⟩
    · rw [headK, if_neg h, show (-k).toNat - 1 + 1 = (-k).toNat by omega]; rfl
    · rw [if_neg (by simp)]; omega
theorem numOf_bits (x n : Nat) : numOf (bitsOf x n) = x % 2 ^ n := by
  apply Nat.eq_of_testBit_eq
  intro i
  rw [Nat.testBit_mod_two_pow, numOf_testBit, bitsOf_length, bitsOf_getD]
  by_cases hi : i < n
  · rw [show n - 1 - (n - 1 - i) = i by omega]; simp [hi]; omega
  · simp [hi]
theorem top_word (f : Nat) (h : 9223372036854775808 ≤ f) (h2 : f < 18446744073709551616) : bitsOf f 64 = true :: (bitsOf f 64).drop 1 := by
  have hl : (bitsOf f 64).length = 64 := bitsOf_length _ _
  have hn := numOf_bits f 64
  cases hc : bitsOf f 64 with
  | nil => rw [hc] at hl; cases hl
  | cons b l =>
    rw [hc] at hl hn
    have hl2 : l.length = 63 := by simpa using hl
    have := numOf_lt l
    rw [numOf_cons, hl2] at hn
    rw [hl2] at this
    cases b
    · simp at hn; omega
    · rfl
/-- a number's string means the number -/
theorem canon_scale (s : Int) (f : Nat) : scaleL (canon s f) = s ∧ runL (canon s f) + 3 ≤ (canon s f).length := by
  obtain ⟨b, r, hh, hk⟩ := headK_form (s / 4)
  have e : canon s f = List.replicate (r + 1) b ++ (!b) :: (bitsOf (s % 4).toNat 2 ++ (bitsOf f 64).drop 1) := by
    rw [canon, hh]; simp
  have h1 : runL (canon s f) = r + 1 := by rw [e, runL_rep b r _ (.inr ⟨_, rfl⟩)]
  refine ⟨?_, ?_⟩
  · unfold scaleL regL expL
    rw [h1, e, onesL_rep, restL_rep, ← hk, List.append_assoc, List.take_append_of_le_length (by rw [bitsOf_length]; exact Nat.le_refl _), List.take_of_length_le (by rw [bitsOf_length]; exact Nat.le_refl _), numOf_bits]
    have : (s % 4).toNat % 2 ^ 2 = (s % 4).toNat := Nat.mod_eq_of_lt (by omega)
    rw [this]; omega
  · rw [h1, e]; simp [bitsOf_length]
theorem canon_word (s : Int) (f : Nat) (h : 9223372036854775808 ≤ f) (h2 : f < 18446744073709551616) : wordL (canon s f) = f := by
  obtain ⟨b, r, hh, hk⟩ := headK_form (s / 4)
  have e : canon s f = List.replicate (r + 1) b ++ (!b) :: (bitsOf (s % 4).toNat 2 ++ (bitsOf f 64).drop 1) := by
    rw [canon, hh]; simp
  have h3 : ((bitsOf f 64).drop 1).length = 63 := by rw [List.length_drop, bitsOf_length]
  unfold wordL
  rw [e, restL_rep, List.drop_append_of_le_length (by rw [bitsOf_length]; exact Nat.le_refl _), List.drop_of_length_le (by rw [bitsOf_length]; exact Nat.le_refl _), List.nil_append, List.take_append_of_le_length (by omega), List.take_of_length_le (by omega), ← top_word f h h2, numOf_bits]
  exact Nat.mod_eq_of_lt (by omega)
theorem canon_true (s : Int) (f : Nat) : true ∈ canon s f := by
  obtain ⟨b, r, hh, hk⟩ := headK_form (s / 4)
  rw [canon, hh, List.append_assoc, List.mem_append]
  left
  rw [List.mem_append]
  cases b
  · right; simp
  · left; simp
theorem padE (u : List Bool) (h : u.length ≤ 63) : (u ++ noughts 2).take 2 ++ (u.drop 2 ++ noughts 63).take 63 = u ++ noughts (65 - u.length) := by
  match u with
  | [] => rfl
  | [a] => rfl
  | a :: b :: v =>
    have hv : v.length ≤ 61 := by simpa using h
    simp only [List.cons_append, List.take_succ_cons, List.take_zero, List.drop_succ_cons, List.drop_zero, List.nil_append, List.length_cons]
    congr 2
    rw [List.take_append, List.take_of_length_le (by omega), take_noughts _ _ (by omega)]
    congr 2; omega
/-- and what a string means has that string, noughts behind it -/
theorem canon_parse (t : List Bool) (ht : true ∈ t) (hl : t.length ≤ 64) : ∃ z, canon (scaleL t) (wordL t) = t ++ noughts z ∧ 2 ≤ z := by
  have hne : t ≠ [] := by rintro rfl; cases ht
  have key : ∀ (b : Bool) (r : Nat) (u : List Bool), runL t = r + 1 → onesL t = b → restL t = u → r + u.length ≤ 63 →
      canon (scaleL t) (wordL t) = List.replicate (r + 1) b ++ (!b) :: (u ++ noughts (65 - u.length)) := by
    intro b r u h1 h2 h3 h4
    have he : expL t = numOf ((u ++ noughts 2).take 2) := by rw [expL, h3]
    have hlen : ((u ++ noughts 2).take 2).length = 2 := by simp
    have he4 := numOf_lt ((u ++ noughts 2).take 2)
    rw [hlen, ← he] at he4
    have hs : scaleL t = 4 * (if b then ((r + 1 : Nat) : Int) - 1 else -((r + 1 : Nat) : Int)) + expL t := by unfold scaleL regL; rw [h1, h2]
    have hh := headK_rep b r
    generalize (if b then ((r + 1 : Nat) : Int) - 1 else -((r + 1 : Nat) : Int)) = k at *
    have hk : scaleL t / 4 = k := by omega
    have hm : (scaleL t % 4).toNat = expL t := by omega
    have hw : (bitsOf (wordL t) 64).drop 1 = (u.drop 2 ++ noughts 63).take 63 := by
      have hl2 : (true :: (u.drop 2 ++ noughts 63).take 63).length = 64 := by simp
      have := bitsOf_numOf (true :: (u.drop 2 ++ noughts 63).take 63)
      rw [hl2] at this
      rw [wordL, h3, this]; rfl
    have hb2 : bitsOf (expL t) 2 = (u ++ noughts 2).take 2 := by
      have := bitsOf_numOf ((u ++ noughts 2).take 2)
      rw [hlen] at this
      rw [he, this]
    rw [canon, hk, hm, hh, hw, hb2, List.append_assoc, List.append_assoc, padE u (by omega)]
    rfl
  obtain ⟨b, r, tl, rfl, htl⟩ := split_run t hne
  rcases htl with rfl | ⟨u, rfl⟩
  · rw [List.append_nil] at *
    have hb : b = true := (List.mem_replicate.1 ht).2.symm
    subst hb
    have h1 := runL_rep true r [] (.inl rfl)
    have h2 := onesL_rep true r []
    rw [List.append_nil] at h1 h2
    rw [List.length_replicate] at hl
    refine ⟨66, ?_, by omega⟩
    rw [key true r [] h1 h2 (restL_end true r) (by simp; omega)]
    rfl
  · have hlu : r + u.length ≤ 62 := by simp at hl; omega
    refine ⟨65 - u.length, ?_, by omega⟩
    rw [key b r u (runL_rep b r _ (.inr ⟨u, rfl⟩)) (onesL_rep b r _) (restL_rep b r u) (by omega)]
    simp
theorem wordL_bounds (t : List Bool) : 9223372036854775808 ≤ wordL t ∧ wordL t < 18446744073709551616 := by
  have h1 : (((restL t).drop 2 ++ noughts 63).take 63).length = 63 := by simp
  have h2 := numOf_lt (((restL t).drop 2 ++ noughts 63).take 63)
  unfold wordL
  rw [numOf_cons]
  rw [h1] at *
  simp; omega
/-- a string of m bits means a number just if the number's string is that, and noughts -/
theorem parse_iff (t : List Bool) (s : Int) (f : Nat) (ht : true ∈ t) (hl : t.length ≤ 64) (h : 9223372036854775808 ≤ f) (h2 : f < 18446744073709551616) :
    (scaleL t = s ∧ wordL t = f) ↔ ∃ z, canon s f = t ++ noughts z := by
  constructor
  · rintro ⟨rfl, rfl⟩
    obtain ⟨z, hz, _⟩ := canon_parse t ht hl
    exact ⟨z, hz⟩
  · rintro ⟨z, hz⟩
    have hp := same_pad t z ht
    rw [← hz] at hp
    exact ⟨by rw [← hp.scale, (canon_scale s f).1], by rw [← hp.word, canon_word s f h h2]⟩
end Go.Proofs.Ytajlgpamcpgalaa
