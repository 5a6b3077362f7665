import Derived.Test.YtajlgpamcpgalaaRndO
import Derived.Test.YtajlgpamcpgalaaRndH
import Derived.Test.YtajlgpamcpgalaaCodM
namespace Go.Proofs.Ytajlgpamcpgalaa
open Go.ChangeShapes Go.WideShapes Go.ChangeAt Go.RowKit
set_option linter.unusedVariables false
set_option linter.unusedSimpArgs false
set_option maxRecDepth 100000

/-! ### what a pattern means is rounded to it (plain mathematics) -/
theorem rhe_mul (H p : Nat) (hH : 0 < H) : rhe H (p * (2 * H)) = p := by
  unfold rhe
  rw [Nat.mul_div_cancel _ (by omega), Nat.mul_mod_left, if_pos rfl]
  unfold roundP
  rw [if_neg (by omega)]
theorem str_ends (m : Nat) (t : List Bool) (hm : Wd m) (hl : t.length = m - 1) (ht : true ∈ t) :
    (scaleL t = 4 * (m : Int) - 8 → numOf t = 2 ^ (m - 1) - 1) ∧ (scaleL t = 8 - 4 * (m : Int) → numOf t = 1) := by
  have hw := wd_le hm
  have hne : t ≠ [] := by rintro rfl; cases ht
  have hex : expL t < 4 := by
    have := numOf_lt ((restL t ++ noughts 2).take 2)
    rw [show ((restL t ++ noughts 2).take 2).length = 2 by simp] at this
    exact this
  obtain ⟨b, r, tl, rfl, htl⟩ := split_run t hne
  rw [List.length_append, List.length_replicate] at hl
  unfold scaleL regL
  rw [runL_rep b r tl htl, onesL_rep]
  generalize expL (List.replicate (r + 1) b ++ tl) = ex at *
  constructor
  · intro h
    cases b
    · simp at h; omega
    · simp at h
      have hr : r + 1 = m - 1 := by omega
      have htl0 : tl = [] := List.length_eq_zero_iff.1 (by omega)
      rw [htl0, List.append_nil, numOf_ones, hr]
  · intro h
    cases b
    · simp at h
      have hr : r + 1 = m - 2 ∨ r + 1 = m - 1 := by omega
      rcases htl with rfl | ⟨u, rfl⟩
      · rw [List.append_nil, List.mem_replicate] at ht
        exact absurd ht.2 (by decide)
      · rw [List.length_cons] at hl
        have hu : u = [] := List.length_eq_zero_iff.1 (by omega)
        subst hu
        rw [show List.replicate (r + 1) false = noughts (r + 1) from rfl, numOf_noughts_append]
        rfl
    · simp at h; omega
theorem rnd_home (m : Nat) (t : List Bool) (hm : Wd m) (hl : t.length = m - 1) (ht : true ∈ t) : rndX m (scaleL t) (wordL t) 0 false = numOf t := by
  have hw := wd_le hm
  have hr := of_decide_eq_true (inR_of m t hm hl ht)
  obtain ⟨e1, e2⟩ := str_ends m t hm hl ht
  rcases mid_or m (scaleL t) (justX (wordL t) 0 false) with h | h | ⟨h0, h⟩
  · rw [(rnd_mid m _ _ _ _ hm (words_of t) h).1]
    unfold zX
    rw [zed_parse t ht (by omega), hl, show 209 - (m - 1) = 210 - m by omega]
    have := rhe_mul (2 ^ (210 - m)) (numOf t) (Nat.pow_pos (by decide))
    rw [show numOf t * (2 * 2 ^ (210 - m)) = 2 * (numOf t * 2 ^ (210 - m)) by rw [Nat.mul_left_comm]] at this
    simpa using this
  · rw [rnd_top m _ _ _ _ h, e1 (by omega)]
  · rw [rnd_low m _ _ _ _ h0 h, e2 (by rcases h with h | h <;> omega)]
/-! ### ranks of patterns that are rounded -/
theorem extOf_patR (n : Nat) (hn : Wd n) (neg : Bool) (R : Nat) (h1 : 1 ≤ R) (h2 : R ≤ 2 ^ (n - 1) - 1) : extOf (patR n neg R) n = if neg then -(R : Int) else R := by
  obtain ⟨H, e1, e2, e3, _⟩ := wd_pows hn
  unfold patR
  rw [e2] at h2
  cases neg
  · simp only [Bool.false_eq_true, if_false]
    have hlt : R < 2 ^ n := by rw [e1]; omega
    have ht := top_of n R hn hlt
    rw [e2, decide_eq_false (by omega)] at ht
    unfold extOf
    rw [ht, Nat.mod_eq_of_lt hlt]; simp
  · simp only [if_true]
    have hlt : 2 ^ n - R < 2 ^ n := by rw [e1]; omega
    have ht := top_of n _ hn hlt
    rw [e2, decide_eq_true (by rw [e1]; omega)] at ht
    unfold extOf
    rw [ht, Nat.mod_eq_of_lt hlt, e1]; simp; omega
theorem extOf_nought (n : Nat) : extOf 0 n = 0 := by unfold extOf; simp
def valX (n : Nat) (k : Int) (neg : Bool) (s : Int) (hi lo : Nat) : Int := if k = 1 then (if neg then -(rndX n s hi lo false : Int) else rndX n s hi lo false) else 0
/-- a number that is a Zero or a Real without Rest, rounded -/
theorem rround_val (n : Nat) (hn : Wd n) (k : Int) (neg : Bool) (s : Int) (hi lo : Nat) (hh : hi < 2 ^ 64) (hl : lo < 2 ^ 64) (hs : soundX k neg s hi lo false = true) (hk : k ≠ 2) :
    ∃ P : Nat, (∀ w, Calls Try.prog 17 #[.int .i64 n, exV k neg s hi lo false] w fun e w' => e = .returned (.tuple #[.int .u64 P, .nilIface]) ∧ Below w.heap.size w w') ∧ extOf P n = valX n k neg s hi lo := by
  rcases soundX_cases hs with ⟨rfl, rfl, rfl, rfl, rfl, _⟩ | ⟨rfl, _⟩ | rfl
  · exact ⟨0, fun w => rround_zero n hn w, by rw [extOf_nought]; rfl⟩
  · exact absurd rfl hk
  · have hx : WordsX hi lo := ⟨soundX_top hs, hh, hl⟩
    obtain ⟨r1, r2⟩ := rnd_range n s hi lo false hn hx
    exact ⟨_, fun w => rround_real n neg s hi lo false hn hs hx w, by rw [extOf_patR n hn neg _ r1 r2]; unfold valX; rw [if_pos rfl]⟩
theorem lexN {hi lo hi' lo' : Nat} (hl : lo < 2 ^ 64) (hl' : lo' < 2 ^ 64) : (hi < hi' ∨ (hi = hi' ∧ lo < lo')) ↔ manX hi lo < manX hi' lo' := by
  unfold manX; omega
/-- the document's Cmp is on the side of what is rounded -/
theorem cmp7_val (n : Nat) (hn : Wd n) (k k' : Int) (neg neg' : Bool) (s s' : Int) (hi lo hi' lo' : Nat) (hh : hi < 2 ^ 64) (hl : lo < 2 ^ 64) (hh' : hi' < 2 ^ 64) (hl' : lo' < 2 ^ 64)
    (hs : soundX k neg s hi lo false = true) (hs' : soundX k' neg' s' hi' lo' false = true) (hk : k ≠ 2) (hk' : k' ≠ 2) :
    ∃ c : Int, (∀ w, Calls Try.prog 23 #[exV k neg s hi lo false, exV k' neg' s' hi' lo' false] w fun e w' => e = .returned (.int .i64 c) ∧ Below w.heap.size w w') ∧
      (c ≤ 0 → valX n k neg s hi lo ≤ valX n k' neg' s' hi' lo') ∧ (0 ≤ c → valX n k' neg' s' hi' lo' ≤ valX n k neg s hi lo) := by
  have sg : ∀ (k : Int) (neg : Bool) (s : Int) (hi lo : Nat), hi < 2 ^ 64 → lo < 2 ^ 64 → soundX k neg s hi lo false = true → k ≠ 2 →
      (sgnX k neg = 0 ∧ k = 0 ∧ valX n k neg s hi lo = 0) ∨ (sgnX k neg = 1 ∧ k = 1 ∧ neg = false ∧ 1 ≤ valX n k neg s hi lo) ∨ (sgnX k neg = -1 ∧ k = 1 ∧ neg = true ∧ valX n k neg s hi lo ≤ -1) := by
    intro k neg s hi lo hh hl hs hk
    rcases soundX_cases hs with ⟨rfl, rfl, rfl, rfl, rfl, _⟩ | ⟨rfl, _⟩ | rfl
    · exact .inl ⟨rfl, rfl, rfl⟩
    · exact absurd rfl hk
    · obtain ⟨r1, r2⟩ := rnd_range n s hi lo false hn ⟨soundX_top hs, hh, hl⟩
      unfold sgnX valX
      cases neg
      · refine .inr (.inl ⟨by simp, rfl, rfl, ?_⟩)
        simp; omega
      · refine .inr (.inr ⟨by simp, rfl, rfl, ?_⟩)
        simp; omega
  have h1 := sg k neg s hi lo hh hl hs hk
  have h2 := sg k' neg' s' hi' lo' hh' hl' hs' hk'
  by_cases hsg : sgnX k neg = sgnX k' neg'
  · rcases h1 with ⟨a1, a2, a3⟩ | ⟨a1, a2, a3, a4⟩ | ⟨a1, a2, a3, a4⟩
    · have b : sgnX k' neg' = 0 := by rw [← hsg, a1]
      refine ⟨0, fun w => cmp7_zero k k' neg neg' s s' hi lo hi' lo' false false a1 b w, ?_⟩
      rcases h2 with ⟨_, _, b3⟩ | ⟨b1, _⟩ | ⟨b1, _⟩
      · rw [a3, b3]; exact ⟨fun _ => Int.le_refl _, fun _ => Int.le_refl _⟩
      · rw [b] at b1; exact absurd b1 (by decide)
      · rw [b] at b1; exact absurd b1 (by decide)
    · have hk'1 : k' = 1 ∧ neg' = false := by
        rcases h2 with ⟨b1, _⟩ | ⟨b1, b2, b3, _⟩ | ⟨b1, _⟩
        · rw [← hsg, a1] at b1; exact absurd b1 (by decide)
        · exact ⟨b2, b3⟩
        · rw [← hsg, a1] at b1; exact absurd b1 (by decide)
      obtain ⟨rfl, rfl⟩ := hk'1
      subst a2 a3
      have hx : WordsX hi lo := ⟨soundX_top hs, hh, hl⟩
      have hx' : WordsX hi' lo' := ⟨soundX_top hs', hh', hl'⟩
      have m1 := rnd_rise n s s' hi lo hi' lo' hn hx hx'
      have m2 := rnd_rise n s' s hi' lo' hi lo hn hx' hx
      have lx := @lexN hi lo hi' lo' hl hl'
      refine ⟨_, fun w => cmp7_real false s s' hi lo hi' lo' w, ?_, ?_⟩
      · intro hc
        unfold valX
        simp only [if_true, Bool.false_eq_true, if_false] at hc ⊢
        have := m1 (by
          by_cases e1 : s = s' ∧ hi = hi' ∧ lo = lo'
          · obtain ⟨rfl, rfl, rfl⟩ := e1; exact .inr ⟨rfl, Nat.le_refl _⟩
          · rw [if_neg e1] at hc
            by_cases e2 : s < s' ∨ (s = s' ∧ (hi < hi' ∨ (hi = hi' ∧ lo < lo')))
            · rcases e2 with e2 | ⟨e2, e3⟩
              · exact .inl e2
              · exact .inr ⟨e2, Nat.le_of_lt (lx.1 e3)⟩
            · rw [if_neg e2] at hc; omega)
        omega
      · intro hc
        unfold valX
        simp only [if_true, Bool.false_eq_true, if_false] at hc ⊢
        have := m2 (by
          by_cases e1 : s = s' ∧ hi = hi' ∧ lo = lo'
          · obtain ⟨rfl, rfl, rfl⟩ := e1; exact .inr ⟨rfl, Nat.le_refl _⟩
          · rw [if_neg e1] at hc
            by_cases e2 : s < s' ∨ (s = s' ∧ (hi < hi' ∨ (hi = hi' ∧ lo < lo')))
            · rw [if_pos e2] at hc; omega
            · rcases Int.lt_trichotomy s s' with c1 | c1 | c1
              · exact absurd (.inl c1) e2
              · refine .inr ⟨c1.symm, Nat.le_of_not_lt fun hlt => e2 (.inr ⟨c1, lx.2 hlt⟩)⟩
              · exact .inl c1)
        omega
    · have hk'1 : k' = 1 ∧ neg' = true := by
        rcases h2 with ⟨b1, _⟩ | ⟨b1, _⟩ | ⟨b1, b2, b3, _⟩
        · rw [← hsg, a1] at b1; exact absurd b1 (by decide)
        · rw [← hsg, a1] at b1; exact absurd b1 (by decide)
        · exact ⟨b2, b3⟩
      obtain ⟨rfl, rfl⟩ := hk'1
      subst a2 a3
      have hx : WordsX hi lo := ⟨soundX_top hs, hh, hl⟩
      have hx' : WordsX hi' lo' := ⟨soundX_top hs', hh', hl'⟩
      have m1 := rnd_rise n s s' hi lo hi' lo' hn hx hx'
      have m2 := rnd_rise n s' s hi' lo' hi lo hn hx' hx
      have lx := @lexN hi lo hi' lo' hl hl'
      refine ⟨_, fun w => cmp7_real true s s' hi lo hi' lo' w, ?_, ?_⟩
      · intro hc
        unfold valX
        simp only [if_true] at hc ⊢
        have := m2 (by
          by_cases e1 : s = s' ∧ hi = hi' ∧ lo = lo'
          · obtain ⟨rfl, rfl, rfl⟩ := e1; exact .inr ⟨rfl, Nat.le_refl _⟩
          · rw [if_neg e1] at hc
            by_cases e2 : s < s' ∨ (s = s' ∧ (hi < hi' ∨ (hi = hi' ∧ lo < lo')))
            · rw [if_pos e2] at hc; omega
            · rcases Int.lt_trichotomy s s' with c1 | c1 | c1
              · exact absurd (.inl c1) e2
              · refine .inr ⟨c1.symm, Nat.le_of_not_lt fun hlt => e2 (.inr ⟨c1, lx.2 hlt⟩)⟩
              · exact .inl c1)
        omega
      · intro hc
        unfold valX
        simp only [if_true] at hc ⊢
        have := m1 (by
          by_cases e1 : s = s' ∧ hi = hi' ∧ lo = lo'
          · obtain ⟨rfl, rfl, rfl⟩ := e1; exact .inr ⟨rfl, Nat.le_refl _⟩
          · rw [if_neg e1] at hc
            by_cases e2 : s < s' ∨ (s = s' ∧ (hi < hi' ∨ (hi = hi' ∧ lo < lo')))
            · rcases e2 with e2 | ⟨e2, e3⟩
              · exact .inl e2
              · exact .inr ⟨e2, Nat.le_of_lt (lx.1 e3)⟩
            · rw [if_neg e2] at hc; omega)
        omega
  · refine ⟨_, fun w => cmp7_sgn k k' neg neg' s s' hi lo hi' lo' false false hsg w, ?_, ?_⟩
    · intro hc
      by_cases h : sgnX k neg < sgnX k' neg'
      · rcases h1 with ⟨a1, _, a3⟩ | ⟨a1, _, _, a4⟩ | ⟨a1, _, _, a4⟩ <;> rcases h2 with ⟨b1, _, b3⟩ | ⟨b1, _, _, b4⟩ | ⟨b1, _, _, b4⟩ <;> omega
      · rw [if_neg h] at hc; omega
    · intro hc
      by_cases h : sgnX k neg < sgnX k' neg'
      · rw [if_pos h] at hc; omega
      · rcases h1 with ⟨a1, _, a3⟩ | ⟨a1, _, _, a4⟩ | ⟨a1, _, _, a4⟩ <;> rcases h2 with ⟨b1, _, b3⟩ | ⟨b1, _, _, b4⟩ | ⟨b1, _, _, b4⟩ <;> omega
end Go.Proofs.Ytajlgpamcpgalaa
