import Derived.Test.YtajlgpamcpgalaaCodH
namespace Go.Proofs.Ytajlgpamcpgalaa
open Go.ChangeShapes Go.WideShapes Go.ChangeAt Go.RowKit
set_option linter.unusedVariables false
set_option linter.unusedSimpArgs false
set_option maxRecDepth 100000

/-- the pattern that the string, cut, writes; and what it means -/
abbrev cutL (n : Nat) (s : Int) (f : Nat) : List Bool := (canon s f).take (n - 1)
def fitsN (n : Nat) (s : Int) (f : Nat) : Bool := decide (scaleL (cutL n s f) = s ∧ wordL (cutL n s f) = f)
theorem pat_neg (n : Nat) (hn : Wd n) (neg : Bool) (t : List Bool) (hl : t.length = n - 1) (ht : true ∈ t) (h64 : numOf t < 2 ^ 64) : (if neg then minusU (numOf t) % 2 ^ n else numOf t) = patOf n neg t := by
  unfold patOf
  cases neg
  · rfl
  · have h5 := numOf_lt t
    have h6 := numOf_pos _ ht
    rw [hl] at h5
    obtain ⟨H, h1, h2, h3, _⟩ := wd_pows hn
    rw [h2] at h5
    simp only [if_true]
    rw [minusU_mod n _ hn h64, h1, Nat.mod_eq_of_lt (a := numOf t) (by omega), Nat.mod_eq_of_lt (by omega)]
end Go.Proofs.Ytajlgpamcpgalaa
