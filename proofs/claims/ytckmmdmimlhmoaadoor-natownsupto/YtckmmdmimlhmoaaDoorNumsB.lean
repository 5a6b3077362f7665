import Derived.Test.YtckmmdmimlhmoaaDoorNums
namespace Go.Proofs.YtckmmdmimlhmoaaDoor
open Go.ChangeShapes Go.WideShapes Go.ChangeAt Go.RowKit
set_option linter.unusedVariables false
set_option maxRecDepth 100000

/-- how a number's slice goes into a walk that reads its elements -/
theorem Row.reads {w : World} {v : Value} {n : Nat} (h : Row w v (dig n)) : ∃ ao c, v = .slice ao (dlen n) c ∧ c ≤ 9223372036854775807 ∧ dlen n ≤ c ∧
    (dlen n = 0 ∨ ∃ b off, ao = some ⟨b, off, none⟩ ∧ b < w.heap.size ∧ ∀ j, j < dlen n → w.cell? ⟨b, off + j, none⟩ = some (.int .i64 (top n j % 16777216 : Nat))) := by
  obtain ⟨ao, c, rfl, hc, hl, h⟩ := h
  refine ⟨ao, c, rfl, hc, hl, ?_⟩
  rcases h with ⟨_, h, _⟩ | ⟨b, off, rfl, hb, h⟩
  · exact .inl (by unfold dlen; rw [h]; rfl)
  · exact .inr ⟨b, off, rfl, hb, fun j hj => by rw [h j hj, dig_get]⟩
theorem owns_drewN {w : World} {base n sz : Nat} {e : TypeId} {v : Value} {xs : List Value} (h : w.ownsRow base e sz v n xs) (q : Nat) : (w.drewN q).ownsRow base e sz v n xs := h

theorem mul_part (A q : Nat) : A * q = 16777216 * (A / 16777216 * q) + A % 16777216 * q := by
  conv => lhs; rw [← Nat.div_add_mod A 16777216]
  rw [Nat.add_mul, Nat.mul_assoc]

end Go.Proofs.YtckmmdmimlhmoaaDoor
