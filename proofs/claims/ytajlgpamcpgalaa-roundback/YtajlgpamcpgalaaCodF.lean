import Derived.Test.YtajlgpamcpgalaaCodE
namespace Go.Proofs.Ytajlgpamcpgalaa
open Go.ChangeShapes Go.WideShapes Go.ChangeAt Go.RowKit
set_option linter.unusedVariables false
set_option linter.unusedSimpArgs false
set_option maxRecDepth 100000

/-! ### which Nums are sound -/
def soundN (k : Int) (neg : Bool) (s : Int) (f : Nat) : Bool :=
  if k = 0 ∨ k = 2 then decide (neg = false ∧ s = 0 ∧ f = 0) else decide (k = 1 ∧ 9223372036854775808 ≤ f ∧ -1073741824 ≤ s ∧ s ≤ 1073741824)
theorem sound6_any (k : Int) (neg : Bool) (s : Int) (f : Nat) (w : World) :
    Calls Try.prog 32 #[numV k neg s f] w fun e w' => e = .returned (.bool (soundN k neg s f)) ∧ Below w.heap.size w w' := by
  unfold numV soundN
  refine cps fun Q hQ => ?_
  by_cases h0 : k = 0
  · subst h0
    go_enter Try.func32, Try.ntmps32
    go_wp2
    all_goals exact hQ.out _ _ ⟨ret_b (by simp_all), cmore (Below.refl _ _) _⟩
  · by_cases h2 : k = 2
    · subst h2
      go_enter Try.func32, Try.ntmps32
      go_wp2
      all_goals exact hQ.out _ _ ⟨ret_b (by simp_all), cmore (Below.refl _ _) _⟩
    · by_cases h1 : k = 1
      · subst h1
        go_enter Try.func32, Try.ntmps32
        go_wp2
        all_goals exact hQ.out _ _ ⟨ret_b (by simp_all <;> omega), cmore (Below.refl _ _) _⟩
      · have d0 : (k == 0) = false := beq_eq_false_iff_ne.2 h0
        have d1 : (k == 1) = false := beq_eq_false_iff_ne.2 h1
        have d2 : (k == 2) = false := beq_eq_false_iff_ne.2 h2
        have HN : Hid (¬ k = 0 ∧ ¬ k = 1 ∧ ¬ k = 2) := ⟨h0, h1, h2⟩
        clear h0 h1 h2
        go_enter Try.func32, Try.ntmps32
        go_wp2
        all_goals exact hQ.out _ _ ⟨ret_b (by have := HN.out; simp_all), cmore (Below.refl _ _) _⟩
theorem sound_cases {k : Int} {neg : Bool} {s : Int} {f : Nat} (h : soundN k neg s f = true) : (k = 0 ∧ neg = false ∧ s = 0 ∧ f = 0) ∨ (k = 2 ∧ neg = false ∧ s = 0 ∧ f = 0) ∨ k = 1 := by
  unfold soundN at h
  split at h
  · rename_i hk
    have := of_decide_eq_true h
    rcases hk with rfl | rfl
    · exact .inl ⟨rfl, this⟩
    · exact .inr (.inl ⟨rfl, this⟩)
  · exact .inr (.inr (of_decide_eq_true h).1)
/-! ### Encode -/
def cutN (n : Nat) (s : Int) (f : Nat) : Nat := numOf ((canon s f).take (n - 1))
def inR (n : Nat) (s : Int) : Bool := decide (8 - 4 * (n : Int) ≤ s ∧ s ≤ 4 * n - 8)
end Go.Proofs.Ytajlgpamcpgalaa
