import Derived.Test.YtckmmdmimlhmoaaDoorNumsC
namespace Go.Proofs.YtckmmdmimlhmoaaDoor
open Go.ChangeShapes Go.WideShapes Go.ChangeAt Go.RowKit
set_option linter.unusedVariables false
set_option maxRecDepth 100000

theorem shr_digit (Y r : Nat) (hr : r < 24) : Y % 16777216 / 2 ^ r + Y / 16777216 % 16777216 % 2 ^ r * (16777216 / 2 ^ r) = Y / 2 ^ r % 16777216 := by
  have h : r = 0 ∨ r = 1 ∨ r = 2 ∨ r = 3 ∨ r = 4 ∨ r = 5 ∨ r = 6 ∨ r = 7 ∨ r = 8 ∨ r = 9 ∨ r = 10 ∨ r = 11 ∨ r = 12 ∨ r = 13 ∨ r = 14 ∨ r = 15 ∨ r = 16 ∨ r = 17 ∨ r = 18 ∨ r = 19 ∨ r = 20 ∨ r = 21 ∨ r = 22 ∨ r = 23 := by omega
  rcases h with h | h | h | h | h | h | h | h | h | h | h | h | h | h | h | h | h | h | h | h | h | h | h | h <;> subst h <;> simp only [Nat.reducePow, Nat.reduceDiv] <;> omega

/-- the lowest k digits, and noughts behind -/
def lowz (n k m : Nat) : List Nat := low n k ++ List.replicate (m - k) 0
theorem lowz_zero (n m : Nat) : lowz n 0 m = List.replicate m 0 := by simp [lowz, low_zero]
theorem lowz_all (n m : Nat) : lowz n m m = low n m := by simp [lowz]
theorem lowz_set (n k m : Nat) (h : k < m) : (lowz n k m).set k (top n k % 16777216) = lowz n (k + 1) m := by
  unfold lowz
  obtain ⟨j, rfl⟩ : ∃ j, m = k + 1 + j := ⟨m - k - 1, by omega⟩
  rw [show k + 1 + j - k = j + 1 by omega, show k + 1 + j - (k + 1) = j by omega, List.replicate_succ, low_snoc, List.set_append]
  simp [low_length]

theorem Row.drew {w : World} {v : Value} {l : List Nat} (h : Row w v l) : Row w.drew v l := h.below (Below.refl _ _).drew
theorem Row.cells {w : World} {b off k c n : Nat} (h : Row w (.slice (some ⟨b, off, none⟩) k c) (dig n)) : ∀ j, j < dlen n → w.cell? ⟨b, off + j, none⟩ = some (.int .i64 (top n j % 16777216 : Nat)) := by
  obtain ⟨ao, c', he, _, _, hr⟩ := h.reads
  injection he with e1 _ _
  subst e1
  intro j hj
  rcases hr with hr | ⟨b', off', e, _, hr⟩
  · omega
  · simp at e
    obtain ⟨rfl, rfl⟩ := e
    exact hr j hj

end Go.Proofs.YtckmmdmimlhmoaaDoor
