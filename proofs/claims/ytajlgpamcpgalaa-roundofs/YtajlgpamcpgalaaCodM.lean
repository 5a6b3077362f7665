import Derived.Test.YtajlgpamcpgalaaCodL
namespace Go.Proofs.Ytajlgpamcpgalaa
set_option linter.unusedVariables false
set_option linter.unusedSimpArgs false

/-! ### patterns come back (plain mathematics) -/
theorem inR_of (m : Nat) (t : List Bool) (hm : Wd m) (hl : t.length = m - 1) (ht : true ∈ t) : inR m (scaleL t) = true := by
  have hw := wd_le hm
  have hne : t ≠ [] := by rintro rfl; cases ht
  have hex : expL t < 4 := by
    have := numOf_lt ((restL t ++ noughts 2).take 2)
    rw [show ((restL t ++ noughts 2).take 2).length = 2 by simp] at this
    exact this
  refine decide_eq_true ?_
  obtain ⟨b, r, tl, rfl, htl⟩ := split_run t hne
  rw [List.length_append, List.length_replicate] at hl
  unfold scaleL regL
  rw [runL_rep b r tl htl, onesL_rep]
  rcases htl with rfl | ⟨u, rfl⟩
  · rw [List.append_nil] at *
    have hb : b = true := (List.mem_replicate.1 ht).2.symm
    subst hb
    have h0 : expL (List.replicate (r + 1) true) = 0 := by
      unfold expL; rw [restL_end]; decide
    rw [h0]
    simp at hl ⊢; omega
  · rw [List.length_cons] at hl
    generalize expL (List.replicate (r + 1) b ++ (!b) :: u) = ex at *
    cases b <;> simp <;> omega
theorem cut_home (m : Nat) (t : List Bool) (hm : Wd m) (hl : t.length = m - 1) (ht : true ∈ t) : cutL m (scaleL t) (wordL t) = t := by
  have hw := wd_le hm
  obtain ⟨z, hz, _⟩ := canon_parse t ht (by omega)
  unfold cutL
  rw [hz, List.take_append_of_le_length (by omega), List.take_of_length_le (by omega)]
theorem fits_home (m : Nat) (t : List Bool) (hm : Wd m) (hl : t.length = m - 1) (ht : true ∈ t) : fitsN m (scaleL t) (wordL t) = true := by
  unfold fitsN
  rw [cut_home m t hm hl ht]
  simp
theorem sound_home (m : Nat) (neg : Bool) (t : List Bool) (hm : Wd m) (hl : t.length = m - 1) (ht : true ∈ t) : soundN 1 neg (scaleL t) (wordL t) = true := by
  have hw := wd_le hm
  have h1 := of_decide_eq_true (inR_of m t hm hl ht)
  have h2 := wordL_bounds t
  unfold soundN
  rw [if_neg (by decide)]
  exact decide_eq_true ⟨rfl, h2.1, by omega, by omega⟩
theorem parts_none (m : Nat) (t : List Bool) (hm : Wd m) (hl : t.length = m - 1) (ht : true ∈ t) : ¬ isParts t false 0 0 0 0 0 0 := by
  rintro ⟨_, h, _⟩
  cases t with
  | nil => cases ht
  | cons b t => rw [runL] at h; omega
theorem kind_cases (m y : Nat) (hk : kindOf m y ≠ 1) : (kindOf m y = 0 ∧ y = 0) ∨ (kindOf m y = 2 ∧ y = 2 ^ (m - 1)) := by
  unfold kindOf at *
  by_cases h : y = 0
  · rw [if_pos h] at *; exact .inl ⟨rfl, h⟩
  · rw [if_neg h] at *
    by_cases h2 : y = 2 ^ (m - 1)
    · rw [if_pos h2] at *; exact .inr ⟨rfl, h2⟩
    · rw [if_neg h2] at *; exact absurd rfl hk
end Go.Proofs.Ytajlgpamcpgalaa
