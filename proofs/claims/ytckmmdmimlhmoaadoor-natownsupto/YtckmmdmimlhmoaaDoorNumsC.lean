import Derived.Test.YtckmmdmimlhmoaaDoorNumsB
namespace Go.Proofs.YtckmmdmimlhmoaaDoor
open Go.ChangeShapes Go.WideShapes Go.ChangeAt Go.RowKit
set_option linter.unusedVariables false
set_option maxRecDepth 100000

theorem owns_below {w w' : World} {base n sz : Nat} {e : TypeId} {v : Value} {xs : List Value} (h : w.ownsRow base e sz v n xs) (hb : Below w.heap.size w w') : w'.ownsRow base e sz v n xs := by
  refine ⟨h.1, ?_⟩
  rcases h.2 with hn | ⟨g, cap, cur, rfl, hg, hgg, rest⟩
  · exact .inl hn
  · refine .inr ⟨g, cap, cur, rfl, hg, ?_, rest⟩
    rw [hb.block g (Array.getElem?_eq_some_iff.1 hgg).1]; exact hgg
theorem made_ints (n : Nat) : (madeCells (Value.int .i64 0).cells (n * 1)).toList = (List.replicate n 0).map enc := by
  have e : ∀ x : Nat, [Value.int .i64 0][x % 1]?.getD default = .int .i64 0 := fun x => by rw [Nat.mod_one]; rfl
  simp [madeCells, enc, Value.cells, e, List.map_const']
/-- 'l[q:]' of a row -/
theorem Row.drop {w : World} {b off c : Nat} {n k : Nat} (h : Row w (.slice (some ⟨b, off, none⟩) k c) (dig n)) (q : Nat) (hq : q ≤ dlen n) : Row w (.slice (some ⟨b, off + q, none⟩) (dlen n - q) (c - q)) (dig (top n q)) := by
  obtain ⟨ao', c', he, hc, hl, h⟩ := h
  injection he with e1 e2 e3
  subst e1 e2 e3
  have hl' : dlen n ≤ c := hl
  refine ⟨_, c - q, by rw [dig_length, dlen_top], by omega, by rw [dig_length, dlen_top]; omega, ?_⟩
  rcases h with ⟨h1, h2⟩ | ⟨b', off', h1, h2, h3⟩
  · simp at h1
  · simp at h1
    obtain ⟨rfl, rfl⟩ := h1
    refine .inr ⟨_, _, rfl, h2, fun j hj => ?_⟩
    rw [dig_length, dlen_top] at hj
    rw [Nat.add_assoc, h3 (q + j) (by rw [dig_length]; omega), dig_get, dig_get, top_add]

theorem row_lit (w : World) (e : TypeId) (d : Nat) (hd : d ≠ 0) (hd2 : d < 16777216) : Row (w.alloc (.cells #[.int .i64 (d : Int)] e)) (.slice (some ⟨w.heap.size, 0, none⟩) 1 1) (dig d) := by
  have hl : dig d = [d] := by rw [dig_pos hd, show d / 16777216 = 0 by omega, dig_zero, Nat.mod_eq_of_lt hd2]
  rw [hl]
  refine ⟨_, 1, rfl, by decide, Nat.le_refl _, .inr ⟨_, 0, rfl, by simp, fun j hj => ?_⟩⟩
  have : j = 0 := by simpa using hj
  subst this
  exact World.cell?_alloc_at _ _ _ _ rfl

end Go.Proofs.YtckmmdmimlhmoaaDoor
