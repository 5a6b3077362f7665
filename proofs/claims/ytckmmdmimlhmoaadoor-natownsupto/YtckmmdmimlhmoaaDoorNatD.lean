import Derived.Test.YtckmmdmimlhmoaaDoorNatC
namespace Go.Proofs.YtckmmdmimlhmoaaDoor
open Go.ChangeShapes Go.WideShapes Go.ChangeAt Go.RowKit
set_option linter.unusedVariables false
set_option maxRecDepth 100000

/-! ### texts of decimal digits -/
def dval (l : List Nat) : Nat := l.foldl (fun a d => a * 10 + d) 0
theorem dval_snoc (l : List Nat) (d : Nat) : dval (l ++ [d]) = dval l * 10 + d := by simp [dval]
theorem dval_ds (n : Nat) : dval (ds n) = n := by
  induction n using Nat.strongRecOn with
  | _ n ih =>
    by_cases h : n = 0
    · subst h; rw [ds_zero]; rfl
    · rw [ds_pos h, dval_snoc, ih _ (by omega)]; omega
theorem snoc_induct {P : List Nat → Prop} (h0 : P []) (h1 : ∀ l d, P l → P (l ++ [d])) (l : List Nat) : P l := by
  have h : ∀ m : List Nat, P m.reverse := by
    intro m
    induction m with
    | nil => exact h0
    | cons d m ih => rw [List.reverse_cons]; exact h1 _ _ ih
  have := h l.reverse
  rwa [List.reverse_reverse] at this
theorem ds_dval (l : List Nat) (h : ∀ d ∈ l, d < 10) : ds (dval l) = l.dropWhile (· == 0) := by
  induction l using snoc_induct with
  | h0 => exact ds_zero
  | h1 l d ih =>
    have ih := ih fun x hx => h x (List.mem_append_left _ hx)
    have hd : d < 10 := h d (by simp)
    rw [dval_snoc, List.dropWhile_append]
    by_cases h0 : dval l = 0
    · rw [h0, ds_zero] at ih
      rw [h0, ← ih]
      by_cases hd0 : d = 0
      · subst hd0; simp [ds_zero]
      · rw [ds_pos (by omega), show (0 * 10 + d) / 10 = 0 by omega, ds_zero, show (0 * 10 + d) % 10 = d by omega]
        simp [hd0]
    · rw [ds_pos (by omega), show (dval l * 10 + d) / 10 = dval l by omega, show (dval l * 10 + d) % 10 = d by omega, ih]
      have hne : (l.dropWhile (· == 0)).isEmpty = false := by
        rw [← ih, ds_pos h0]; simp
      rw [hne]; simp
/-- a text's digits -/
def digs (s : ByteArray) : List Nat := s.data.toList.map fun b => b.toNat - 48
theorem digs_length (s : ByteArray) : (digs s).length = s.size := by simp [digs]
theorem digs_get (s : ByteArray) (j : Nat) (h : j < s.size) : (digs s)[j]? = some ((s[j]'h).toNat - 48) := by
  unfold digs
  rw [List.getElem?_map, List.getElem?_eq_getElem (by simpa using h)]; rfl
theorem dnum_take (s : ByteArray) (i : Nat) (h : i ≤ s.size) : dnum s i = dval ((digs s).take i) := by
  induction i with
  | zero => rfl
  | succ i ih =>
    rw [dnum_succ s i (by omega), ih (by omega), List.take_add_one, digs_get s i (by omega)]
    exact (dval_snoc _ _).symm
theorem dnum_all (s : ByteArray) : dnum s s.size = dval (digs s) := by
  rw [dnum_take s s.size (Nat.le_refl _), List.take_of_length_le (by rw [digs_length]; exact Nat.le_refl _)]
theorem digs_dstr (l : List Nat) (h : ∀ d ∈ l, d < 10) : digs (dstr l) = l := by
  unfold digs dstr
  simp only [List.map_map]
  conv => rhs; rw [← List.map_id l]
  refine List.map_congr_left fun d hd => ?_
  have := h d hd
  simp only [Function.comp_apply, id]
  rw [UInt8.toNat_ofNat']
  omega
theorem dnum_dstr (l : List Nat) (h : ∀ d ∈ l, d < 10) : dnum (dstr l) l.length = dval l := by
  have := dnum_all (dstr l)
  rw [dstr_size, digs_dstr l h] at this
  exact this
theorem decS_size (n : Nat) : (decS n).size = if n = 0 then 1 else (ds n).length := by
  unfold decS
  split <;> rw [dstr_size] <;> rfl
theorem decS_pos (n : Nat) : 0 < (decS n).size := by
  rw [decS_size]
  split
  · decide
  · rename_i h
    rw [ds_pos h, List.length_append]; simp
theorem decS_dnum (n : Nat) : dnum (decS n) (decS n).size = n := by
  unfold decS
  split
  · rename_i h; subst h; rfl
  · rw [dstr_size, dnum_dstr _ (ds_mem n), dval_ds]
theorem dstr_get (l : List Nat) (j : Nat) (hj : j < (dstr l).size) : ((dstr l)[j]'hj).toNat = (48 + l[j]'(by rw [dstr_size] at hj; exact hj)) % 256 := by
  have e : (dstr l)[j]'hj = UInt8.ofNat (48 + l[j]'(by rw [dstr_size] at hj; exact hj)) := by
    show (dstr l).data[j] = _
    simp [dstr]
  rw [e, UInt8.toNat_ofNat']
theorem dstr_digits (l : List Nat) (h : ∀ d ∈ l, d < 10) (j : Nat) (hj : j < (dstr l).size) : 48 ≤ ((dstr l)[j]'hj).toNat ∧ ((dstr l)[j]'hj).toNat ≤ 57 := by
  have h2 := h _ (List.getElem_mem (l := l) (n := j) (by rw [dstr_size] at hj; exact hj))
  rw [dstr_get]
  omega
theorem decS_digits (n j : Nat) (hj : j < (decS n).size) : 48 ≤ ((decS n)[j]'hj).toNat ∧ ((decS n)[j]'hj).toNat ≤ 57 := by
  by_cases h0 : n = 0
  · have e : decS n = dstr [0] := by rw [decS, if_pos h0]
    have := dstr_digits [0] (by simp) j (by rw [← e]; exact hj)
    simpa only [e] using this
  · have e : decS n = dstr (ds n) := by rw [decS, if_neg h0]
    have := dstr_digits (ds n) (ds_mem n) j (by rw [← e]; exact hj)
    simpa only [e] using this
theorem digs_mem (s : ByteArray) (hd : ∀ j (hj : j < s.size), 48 ≤ (s[j]'hj).toNat ∧ (s[j]'hj).toNat ≤ 57) : ∀ d ∈ digs s, d < 10 := by
  intro d h
  obtain ⟨j, e⟩ := List.mem_iff_getElem?.1 h
  have hj : j < s.size := by
    have := (List.getElem?_eq_some_iff.1 e).1
    rwa [digs_length] at this
  rw [digs_get s j hj] at e
  have := hd j hj
  have := Option.some.inj e
  omega
theorem dstr_drop (s : ByteArray) (hd : ∀ j (hj : j < s.size), 48 ≤ (s[j]'hj).toNat ∧ (s[j]'hj).toNat ≤ 57) (z : Nat) (hz : z ≤ s.size) : dstr ((digs s).drop z) = s.extract z s.size := by
  have hsz : ((digs s).drop z).length = s.size - z := by rw [List.length_drop, digs_length]
  refine ByteArray.ext_getElem (by rw [dstr_size, hsz]; simp) fun j h1 h2 => ?_
  refine UInt8.toNat_inj.1 ?_
  rw [dstr_get]
  rw [dstr_size, hsz] at h1
  have h3 := hd (z + j) (by omega)
  have e : ((digs s).drop z)[j]'(by rw [hsz]; exact h1) = (s[z + j]'(by omega)).toNat - 48 := by
    have := digs_get s (z + j) (by omega)
    rw [List.getElem_drop]
    exact Option.some.inj ((List.getElem?_eq_getElem (by rw [digs_length]; omega)).symm.trans this)
  rw [e]
  have e2 : (s.extract z s.size)[j]'h2 = s[z + j]'(by omega) := ByteArray.getElem_extract ..
  rw [e2]
  omega
/-- a text of digits without its noughts ahead -/
theorem decS_cut (s : ByteArray) (hd : ∀ j (hj : j < s.size), 48 ≤ (s[j]'hj).toNat ∧ (s[j]'hj).toNat ≤ 57) (z : Nat) (hz : z < s.size) (h0 : ∀ j (hj : j < s.size), j < z → (s[j]'hj).toNat = 48)
    (h1 : z + 1 = s.size ∨ (s[z]'hz).toNat ≠ 48) : decS (dnum s s.size) = s.extract z s.size := by
  rw [← dstr_drop s hd z (by omega), dnum_all]
  have hdr : ∀ k, k ≤ z → (digs s).dropWhile (· == 0) = ((digs s).drop k).dropWhile (· == 0) := by
    intro k
    induction k with
    | zero => intro _; rfl
    | succ k ih =>
      intro hk
      rw [ih (by omega), List.drop_eq_getElem_cons (show k < (digs s).length by rw [digs_length]; omega)]
      have e : (digs s)[k]'(by rw [digs_length]; omega) = 0 := by
        have := digs_get s k (by omega)
        have e2 := Option.some.inj ((List.getElem?_eq_getElem (by rw [digs_length]; omega)).symm.trans this)
        rw [e2, h0 k (by omega) (by omega)]
      rw [e]
      simp
  have hv := ds_dval (digs s) (digs_mem s hd)
  rw [hdr z (Nat.le_refl _)] at hv
  have hcons := List.drop_eq_getElem_cons (show z < (digs s).length by rw [digs_length]; omega)
  have ez : (digs s)[z]'(by rw [digs_length]; omega) = (s[z]'hz).toNat - 48 := by
    have := digs_get s z hz
    exact Option.some.inj ((List.getElem?_eq_getElem (by rw [digs_length]; omega)).symm.trans this)
  by_cases hz0 : (s[z]'hz).toNat = 48
  · have hlast : z + 1 = s.size := by
      rcases h1 with h | h
      · exact h
      · exact absurd hz0 h
    have hnil : (digs s).drop (z + 1) = [] := List.drop_eq_nil_of_le (by rw [digs_length]; omega)
    rw [hcons, hnil, ez, hz0] at hv ⊢
    have hv0 : dval (digs s) = 0 := by
      by_cases g : dval (digs s) = 0
      · exact g
      · rw [ds_pos g] at hv
        simp at hv
    rw [decS, if_pos hv0]
  · rw [hcons, List.dropWhile_cons_of_neg (by rw [ez]; have := hd z hz; simp; omega), ← hcons] at hv
    have hv0 : dval (digs s) ≠ 0 := fun g => by
      rw [g, ds_zero, hcons] at hv
      cases hv
    rw [decS, if_neg hv0, hv]
end Go.Proofs.YtckmmdmimlhmoaaDoor
