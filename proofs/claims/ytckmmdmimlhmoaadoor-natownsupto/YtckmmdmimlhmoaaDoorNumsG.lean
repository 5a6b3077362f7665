import Derived.Test.YtckmmdmimlhmoaaDoorNumsE
import Derived.Laws.AppendOwnNone
namespace Go.Proofs.YtckmmdmimlhmoaaDoor
open Go.ChangeShapes Go.WideShapes Go.ChangeAt Go.RowKit
set_option linter.unusedVariables false
set_option maxRecDepth 100000

/-- the digits from i on, noughts below -/
def hiz (n i m : Nat) : List Nat := (List.range m).map fun j => if i ≤ j then top n j % 16777216 else 0
theorem hiz_length (n i m : Nat) : (hiz n i m).length = m := by simp [hiz]
theorem hiz_start (n m : Nat) : hiz n m m = List.replicate m 0 := by
  apply List.ext_getElem
  · simp [hiz]
  · intro j h1 h2
    have : j < m := by simpa [hiz] using h1
    simp [hiz]; omega
theorem hiz_zero (n m : Nat) : hiz n 0 m = low n m := by simp [hiz, low]
theorem hiz_set (n i m : Nat) (h : i < m) : (hiz n (i + 1) m).set i (top n i % 16777216) = hiz n i m := by
  apply List.ext_getElem
  · simp [hiz]
  · intro j h1 h2
    have hj : j < m := by simpa [hiz] using h2
    rw [List.getElem_set]
    by_cases e : i = j
    · subst e; simp [hiz]
    · rw [if_neg e]
      simp only [hiz, List.getElem_map, List.getElem_range]
      by_cases g : i ≤ j
      · rw [if_pos (by omega), if_pos g]
      · rw [if_neg (by omega), if_neg g]
theorem dig_push (r d : Nat) (hd : d < 16777216) : ∃ z, d :: dig r = dig (r * 16777216 + d) ++ List.replicate z 0 := by
  by_cases h : r * 16777216 + d = 0
  · have h1 : r = 0 := by omega
    have h2 : d = 0 := by omega
    subst h1 h2
    exact ⟨1, by simp [dig_zero]⟩
  · refine ⟨0, ?_⟩
    rw [dig_pos h, show (r * 16777216 + d) % 16777216 = d by omega, show (r * 16777216 + d) / 16777216 = r by omega]
    simp
/-- one step of the division from above -/
theorem div_step (a b i : Nat) (hb : 0 < b) :
    top (a / b) i % 16777216 = (top a (i + 1) % b * 16777216 + top a i % 16777216) / b ∧
    (top a (i + 1) % b * 16777216 + top a i % 16777216) % b = top a i % b ∧ top a (i + 1) % b * 16777216 + top a i % 16777216 < b * 16777216 := by
  have e : top a i = top a (i + 1) * 16777216 + top a i % 16777216 := by rw [top_succ]; omega
  have hd : top a i % 16777216 < 16777216 := Nat.mod_lt _ (by decide)
  rw [top_div]
  generalize top a i % 16777216 = d at *
  have hr := Nat.mod_lt (top a (i + 1)) hb
  have hN : top a (i + 1) % b * 16777216 + d < b * 16777216 := by
    have h := Nat.mul_le_mul_right 16777216 (Nat.succ_le_of_lt hr)
    rw [Nat.succ_mul] at h
    exact Nat.lt_of_lt_of_le (Nat.add_lt_add_left hd _) h
  have hq : (top a (i + 1) % b * 16777216 + d) / b < 16777216 := Nat.div_lt_of_lt_mul hN
  have h0 : top a i = b * (top a (i + 1) / b * 16777216) + (top a (i + 1) % b * 16777216 + d) := by
    have h1 : top a (i + 1) * 16777216 = (b * (top a (i + 1) / b) + top a (i + 1) % b) * 16777216 := by rw [Nat.div_add_mod]
    rw [e, h1, Nat.add_mul, Nat.mul_assoc]; omega
  refine ⟨?_, ?_, hN⟩
  · rw [h0, Nat.mul_add_div hb, Nat.add_comm, Nat.add_mul_mod_self_right, Nat.mod_eq_of_lt hq]
  · rw [h0, Nat.mul_add_mod]
theorem Row.other {w : World} {v u : Value} {l : List Nat} {g j : Nat} (h : Row w v l) (hne : v.ownBlock ≠ some g) : Row (w.setCell ⟨g, j, none⟩ u) v l := by
  obtain ⟨ao, c, rfl, hc, hl, h⟩ := h
  refine ⟨ao, c, rfl, hc, hl, ?_⟩
  rcases h with h | ⟨b, off, rfl, hlt, h⟩
  · exact .inl h
  · have hb : b ≠ g := fun e => hne (by rw [e]; rfl)
    refine .inr ⟨b, off, rfl, by simpa using hlt, fun i hi => ?_⟩
    rw [World.cell?_setCell_other w ⟨g, j, none⟩ ⟨b, off + i, none⟩ u (by intro e; exact hb (by injection e with e1; exact e1.symm)), h i hi]
theorem owns_alloc {w : World} {base n sz : Nat} {e : TypeId} {v : Value} {xs : List Value} (h : w.ownsRow base e sz v n xs) (o : Obj) : (w.alloc o).ownsRow base e sz v n xs := h.alloc o
theorem bmore0 {a w : World} (h : Below a.heap.size a w) (o : Obj) : Below a.heap.size a (w.alloc o) := h.alloc h.size o
theorem bthen0 {a W w : World} (h : Below a.heap.size a W) (hb : Below W.heap.size W w) : Below a.heap.size a w := h.trans (hb.mono h.size)

theorem bdrewN' {B : Nat} {a W : World} (h : Below B a W) (q : Nat) : Below B a (W.drewN q) := below_drewN h q

end Go.Proofs.YtckmmdmimlhmoaaDoor
