import Derived.Test.YtckmmdmimlhmoaaDoorNumsD
import Derived.Test.YtckmmdmimlhmoaaDoorNumsE
import Derived.Test.YtckmmdmimlhmoaaDoorNumsG
namespace Go.Proofs.YtckmmdmimlhmoaaDoor
open Go.ChangeShapes Go.WideShapes Go.ChangeAt Go.RowKit
set_option linter.unusedVariables false

/-! ### numbers as rows of limbs of 64 bits, the lowest first -/
def encU (d : Nat) : Value := .int .u64 (d : Int)
/-- the number of a row of limbs (noughts at its end count nothing) -/
def uval : List Nat → Nat
  | [] => 0
  | d :: l => d + 18446744073709551616 * uval l
theorem uval_nil : uval [] = 0 := rfl
theorem uval_cons (d : Nat) (l : List Nat) : uval (d :: l) = d + 18446744073709551616 * uval l := rfl
/-- a number's limbs, in the one form -/
def lim (n : Nat) : List Nat := if h : n = 0 then [] else n % 18446744073709551616 :: lim (n / 18446744073709551616)
theorem lim_zero : lim 0 = [] := by unfold lim; simp
theorem lim_pos {n : Nat} (h : n ≠ 0) : lim n = n % 18446744073709551616 :: lim (n / 18446744073709551616) := by
  conv => lhs; unfold lim
  simp [h]
theorem uval_lim (n : Nat) : uval (lim n) = n := by
  induction n using Nat.strongRecOn with
  | _ n ih =>
    by_cases h : n = 0
    · subst h; rw [lim_zero, uval_nil]
    · rw [lim_pos h, uval_cons, ih _ (by omega)]; omega
theorem lim_mem (n d : Nat) (h : d ∈ lim n) : d < 18446744073709551616 := by
  induction n using Nat.strongRecOn with
  | _ n ih =>
    by_cases h0 : n = 0
    · subst h0; rw [lim_zero] at h; cases h
    · rw [lim_pos h0] at h
      rcases List.mem_cons.1 h with g | g
      · omega
      · exact ih _ (by omega) g
theorem lim_inj {a b : Nat} (h : lim a = lim b) : a = b := by rw [← uval_lim a, ← uval_lim b, h]
theorem uval_lt (l : List Nat) (h : ∀ d ∈ l, d < 18446744073709551616) : uval l < 2 ^ (64 * l.length) := by
  induction l with
  | nil => decide
  | cons d l ih =>
    have h1 := ih fun x hx => h x (List.mem_cons_of_mem _ hx)
    have h2 := h d (List.mem_cons_self ..)
    rw [uval_cons, List.length_cons, Nat.mul_add, Nat.pow_add]
    generalize 2 ^ (64 * l.length) = p at *
    omega
theorem uval_append (l m : List Nat) : uval (l ++ m) = uval l + 2 ^ (64 * l.length) * uval m := by
  induction l with
  | nil => simp [uval]
  | cons d l ih =>
    rw [List.cons_append, uval_cons, ih, uval_cons, List.length_cons, Nat.mul_add 64, Nat.pow_add, Nat.mul_add, show (2:Nat) ^ (64 * 1) = 18446744073709551616 by decide]
    rw [← Nat.mul_assoc, Nat.mul_comm 18446744073709551616 (2 ^ (64 * l.length))]
    omega
theorem uval_noughts (z : Nat) : uval (List.replicate z 0) = 0 := by
  induction z with
  | zero => rfl
  | succ z ih => rw [List.replicate_succ, uval_cons, ih]
theorem uval_ends (l : List Nat) (z : Nat) : uval (l ++ List.replicate z 0) = uval l := by rw [uval_append, uval_noughts]; omega
/-- a row without a nought at its end is its number's -/
theorem lim_uval (l : List Nat) (h : ∀ d ∈ l, d < 18446744073709551616) (hz : l.getLast? ≠ some 0) : lim (uval l) = l := by
  induction l with
  | nil => rw [uval_nil, lim_zero]
  | cons d l ih =>
    have h1 := h d (List.mem_cons_self ..)
    have h2 : l.getLast? ≠ some 0 := by
      cases l with
      | nil => simp
      | cons e m => rw [List.getLast?_cons_cons] at hz; exact hz
    have h3 := ih (fun x hx => h x (List.mem_cons_of_mem _ hx)) h2
    have h4 : uval (d :: l) ≠ 0 := by
      rw [uval_cons]
      intro g
      have g1 : d = 0 := by omega
      have g2 : uval l = 0 := by omega
      rw [g2, lim_zero] at h3
      subst g1
      rw [← h3] at hz
      simp at hz
    rw [lim_pos h4, uval_cons]
    rw [show (d + 18446744073709551616 * uval l) % 18446744073709551616 = d by omega, show (d + 18446744073709551616 * uval l) / 18446744073709551616 = uval l by omega, h3]
theorem lim_last (n : Nat) : (lim n).getLast? ≠ some 0 := by
  induction n using Nat.strongRecOn with
  | _ n ih =>
    by_cases h0 : n = 0
    · subst h0; rw [lim_zero]; simp
    · rw [lim_pos h0]
      by_cases h1 : n / 18446744073709551616 = 0
      · rw [h1, lim_zero]; simp; omega
      · have := ih _ (show n / 18446744073709551616 < n by omega)
        rw [lim_pos h1] at this ⊢
        rw [List.getLast?_cons_cons]; exact this
theorem dlen_uval (l : List Nat) (h : ∀ d ∈ l, d < 18446744073709551616) : dlen (uval l) ≤ 3 * l.length := by
  refine dlen_le_of_lt (Nat.lt_of_lt_of_le (uval_lt l h) ?_)
  rw [show (16777216 : Nat) = 2 ^ 24 by decide, ← Nat.pow_mul]
  exact Nat.pow_le_pow_right (by decide) (by omega)
theorem lim_length (n : Nat) : (lim n).length ≤ dlen n := by
  induction n using Nat.strongRecOn with
  | _ n ih =>
    by_cases h0 : n = 0
    · subst h0; rw [lim_zero]; simp
    · rw [lim_pos h0, List.length_cons, dlen_pos h0]
      have h1 := ih _ (show n / 18446744073709551616 < n by omega)
      have h2 : dlen (n / 18446744073709551616) ≤ dlen (n / 16777216) := dlen_mono (by omega)
      omega

/-! ### rows of limbs that are read -/
def RowU (w : World) (v : Value) (l : List Nat) : Prop :=
  ∃ ao c, v = .slice ao l.length c ∧ c ≤ 9223372036854775807 ∧ l.length ≤ c ∧
    (l = [] ∨ ∃ b off, ao = some ⟨b, off, none⟩ ∧ b < w.heap.size ∧ ∀ j, j < l.length → w.cell? ⟨b, off + j, none⟩ = some (.int .u64 (l.getD j 0 : Nat)))
theorem RowU.below {w w' : World} {v : Value} {l : List Nat} (h : RowU w v l) (hb : Below w.heap.size w w') : RowU w' v l := by
  obtain ⟨ao, c, rfl, hc, hl, h⟩ := h
  refine ⟨ao, c, rfl, hc, hl, ?_⟩
  rcases h with h | ⟨b, off, rfl, hlt, h⟩
  · exact .inl h
  · exact .inr ⟨b, off, rfl, Nat.lt_of_lt_of_le hlt hb.size, fun j hj => (hb.cell (p := ⟨b, off + j, none⟩) hlt).trans (h j hj)⟩
theorem rowU_nil (w : World) : RowU w (.slice none 0 0) [] := ⟨none, 0, rfl, by decide, by decide, .inl rfl⟩
theorem rowU_own {w : World} {base n : Nat} {e : TypeId} {v : Value} {l : List Nat} (h : w.ownsRow base e 1 v n (l.map encU)) : RowU w v l := by
  obtain ⟨h1, h2⟩ := h
  rcases h2 with ⟨rfl, rfl⟩ | ⟨g, cap, cur, rfl, _, hg, hn, hcap, hsz, ht⟩
  · have : l = [] := by simpa using h1
    subst this; exact rowU_nil w
  · have hl : l.length = n := by simpa using h1
    subst hl
    unfold maxLen at hcap
    refine ⟨_, cap, rfl, by omega, hn, .inr ⟨g, 0, rfl, ?_, ?_⟩⟩
    · exact (Array.getElem?_eq_some_iff.1 hg).1
    · intro j hj
      have hc : cur[j]? = some (.int .u64 (l.getD j 0 : Nat)) := by
        have e1 : (cur.toList.take (l.length * 1))[j]? = (l.map encU)[j]? := by rw [ht]
        rw [List.getElem?_take_of_lt (by omega)] at e1
        simpa [hj, encU] using e1
      simp [World.cell?, hg, hc]
theorem RowU.out {w : World} {v : Value} {l : List Nat} (h : RowU w v l) : ∃ ao c, v = .slice ao l.length c ∧ c ≤ 9223372036854775807 ∧ l.length ≤ c ∧
    (l.length = 0 ∨ ∃ b off, ao = some ⟨b, off, none⟩ ∧ ∀ j, j < l.length → w.cell? ⟨b, off + j, none⟩ = some (.int .u64 (l.getD j 0 : Nat))) := by
  obtain ⟨ao, c, rfl, hc, hl, h⟩ := h
  refine ⟨ao, c, rfl, hc, hl, ?_⟩
  rcases h with h | ⟨b, off, rfl, _, h⟩
  · exact .inl (by rw [h]; rfl)
  · exact .inr ⟨b, off, rfl, h⟩
/-- a row stands where another row grows -/
theorem Row.grown {w w' : World} {v : Value} {l : List Nat} {row : Option Nat} (h : Row w v l) (hg : w.grownBy w' row) (hne : ∀ g, row = some g → v.ownBlock ≠ some g) : Row w' v l := by
  obtain ⟨ao, c, rfl, hc, hl, h⟩ := h
  refine ⟨ao, c, rfl, hc, hl, ?_⟩
  rcases h with h | ⟨b, off, rfl, hlt, h⟩
  · exact .inl h
  · have hb : w'.heap[b]? = w.heap[b]? := hg.block b hlt fun e => hne b e.symm rfl
    refine .inr ⟨b, off, rfl, Nat.lt_of_lt_of_le hlt hg.size, fun j hj => ?_⟩
    rw [← h j hj]
    simp only [World.cell?, hb]
theorem RowU.grown {w w' : World} {v : Value} {l : List Nat} {row : Option Nat} (h : RowU w v l) (hg : w.grownBy w' row) (hne : ∀ g, row = some g → v.ownBlock ≠ some g) : RowU w' v l := by
  obtain ⟨ao, c, rfl, hc, hl, h⟩ := h
  refine ⟨ao, c, rfl, hc, hl, ?_⟩
  rcases h with h | ⟨b, off, rfl, hlt, h⟩
  · exact .inl h
  · have hb : w'.heap[b]? = w.heap[b]? := hg.block b hlt fun e => hne b e.symm rfl
    refine .inr ⟨b, off, rfl, Nat.lt_of_lt_of_le hlt hg.size, fun j hj => ?_⟩
    rw [← h j hj]
    simp only [World.cell?, hb]
theorem own_lt {w : World} {base n sz : Nat} {e : TypeId} {v : Value} {xs : List Value} (h : w.ownsRow base e sz v n xs) {g : Nat} (hg : v.ownBlock = some g) : base ≤ g ∧ g < w.heap.size := by
  obtain ⟨h1, h2⟩ := h
  rcases h2 with ⟨rfl, rfl⟩ | ⟨g', cap, cur, rfl, hb, hh, _⟩
  · cases hg
  · cases hg
    exact ⟨hb, (Array.getElem?_eq_some_iff.1 hh).1⟩
end Go.Proofs.YtckmmdmimlhmoaaDoor
