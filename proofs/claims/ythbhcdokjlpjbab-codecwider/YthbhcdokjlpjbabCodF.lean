import Derived.Test.YthbhcdokjlpjbabCodE
namespace Go.Proofs.Ythbhcdokjlpjbab
open Go.ChangeShapes Go.WideShapes Go.ChangeAt Go.RowKit
set_option linter.unusedVariables false
set_option linter.unusedSimpArgs false
set_option maxRecDepth 100000

/-! ### which Nums are sound -/
def soundN (k : Int) (neg : Bool) (s : Int) (f : Nat) : Bool :=
  if k = 0 ∨ k = 2 then decide (neg = false ∧ s = 0 ∧ f = 0) else decide (k = 1 ∧ 9223372036854775808 ≤ f ∧ -1073741824 ≤ s ∧ s ≤ 1073741824)
theorem sound_cases {k : Int} {neg : Bool} {s : Int} {f : Nat} (h : soundN k neg s f = true) : (k = 0 ∧ neg = false ∧ s = 0 ∧ f = 0) ∨ (k = 2 ∧ neg = false ∧ s = 0 ∧ f = 0) ∨ k = 1 := by
  unfold soundN at h
  split at h
  · rename_i hk
    have := of_decide_eq_true h
    rcases hk with rfl | rfl
    · exact .inl ⟨rfl, this⟩
    · exact .inr (.inl ⟨rfl, this⟩)
  · exact .inr (.inr (of_decide_eq_true h).1)
/-! ### Encode -/
def cutN (n : Nat) (s : Int) (f : Nat) : Nat := numOf ((canon s f).take (n - 1))
def inR (n : Nat) (s : Int) : Bool := decide (8 - 4 * (n : Int) ≤ s ∧ s ≤ 4 * n - 8)
end Go.Proofs.Ythbhcdokjlpjbab
