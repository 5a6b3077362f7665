import Derived.Test.YtajlgpamcpgalaaCodB
import Derived.Test.YtajlgpamcpgalaaRegC
import Derived.Deep.RegionLaw
import Derived.Deep.CutBlock
import Derived.Deep.CutRange
namespace Go.Proofs.Ytajlgpamcpgalaa
open Go.ChangeShapes Go.WideShapes Go.ChangeAt Go.RowKit
set_option linter.unusedVariables false
set_option linter.unusedSimpArgs false
set_option maxRecDepth 100000

theorem cthen {a W w : World} (h : Below a.heap.size a W) (hb : Below W.heap.size W w) : Below a.heap.size a w := h.trans (hb.mono h.size)
theorem cmore {a w : World} (h : Below a.heap.size a w) (o : Obj) : Below a.heap.size a (w.alloc o) := h.alloc h.size o
theorem cdrew {a W : World} (h : Below a.heap.size a W) : Below a.heap.size a W.drew := h.drew
theorem cset {a W : World} {b : Nat} (h : Below a.heap.size a W) (hb : a.heap.size ≤ b) (o : Nat) (v : Value) : Below a.heap.size a (W.setCell ⟨b, o, none⟩ v) := h.setCell hb _
theorem ccell {W w1 : World} (hb : Below W.heap.size W w1) : (∀ b o, b < W.heap.size → w1.cell? ⟨b, o, none⟩ = W.cell? ⟨b, o, none⟩) ∧ (∀ b o, b < W.heap.size → w1.frozen? ⟨b, o, none⟩ = W.frozen? ⟨b, o, none⟩) :=
  ⟨fun b o h => hb.cell (p := ⟨b, o, none⟩) h, fun b o h => hb.frozen (p := ⟨b, o, none⟩) h⟩
theorem rowcell {w : World} {m : Nat} {c : Array Value} {t : TypeId} (h : w.heap[m]? = some (.cells c t (0, 0))) (k : Nat) : w.cell? ⟨m, k, none⟩ = c[k]? := by simp [World.cell?, h]
theorem rowfree {w : World} {m : Nat} {c : Array Value} {t : TypeId} (h : w.heap[m]? = some (.cells c t (0, 0))) (k : Nat) : w.frozen? ⟨m, k, none⟩ = false := by simp [World.frozen?, h]
theorem rowset {w : World} {m : Nat} {c : Array Value} {t : TypeId} (h : w.heap[m]? = some (.cells c t (0, 0))) (k : Nat) (v : Value) : (w.setCell ⟨m, k, none⟩ v).heap[m]? = some (.cells (c.setIfInBounds k v) t (0, 0)) :=
  heap_setCell_same w m k c t v h
theorem rownew (w : World) (c : Array Value) (t : TypeId) : (w.alloc (.cells c t)).heap[w.heap.size]? = some (.cells c t (0, 0)) := by
  show (w.heap.push _)[w.heap.size]? = _
  exact Array.getElem?_push_size
theorem rownew' (w : World) (c : Array Value) (t : TypeId) (m : Nat) (h : m = w.heap.size) : (w.alloc (.cells c t)).heap[m]? = some (.cells c t (0, 0)) := by subst h; exact rownew w c t
theorem row8 {w : World} {m : Nat} {u0 u1 u2 u3 u4 u5 u6 u7 v0 v1 v2 v3 v4 v5 v6 v7 : Value} {t : TypeId} (h : w.heap[m]? = some (.cells #[u0, u1, u2, u3, u4, u5, u6, u7] t (0, 0))) :
    ((((((((w.setCell ⟨m, 0, none⟩ v0).setCell ⟨m, 1, none⟩ v1).setCell ⟨m, 2, none⟩ v2).setCell ⟨m, 3, none⟩ v3).setCell ⟨m, 4, none⟩ v4).setCell ⟨m, 5, none⟩ v5).setCell ⟨m, 6, none⟩ v6).setCell ⟨m, 7, none⟩ v7).heap[m]? = some (.cells #[v0, v1, v2, v3, v4, v5, v6, v7] t (0, 0)) := by
  have h := rowset h 0 v0
  simp only [List.setIfInBounds_toArray, List.set_cons_zero, List.set_cons_succ] at h
  have h := rowset h 1 v1
  simp only [List.setIfInBounds_toArray, List.set_cons_zero, List.set_cons_succ] at h
  have h := rowset h 2 v2
  simp only [List.setIfInBounds_toArray, List.set_cons_zero, List.set_cons_succ] at h
  have h := rowset h 3 v3
  simp only [List.setIfInBounds_toArray, List.set_cons_zero, List.set_cons_succ] at h
  have h := rowset h 4 v4
  simp only [List.setIfInBounds_toArray, List.set_cons_zero, List.set_cons_succ] at h
  have h := rowset h 5 v5
  simp only [List.setIfInBounds_toArray, List.set_cons_zero, List.set_cons_succ] at h
  have h := rowset h 6 v6
  simp only [List.setIfInBounds_toArray, List.set_cons_zero, List.set_cons_succ] at h
  have h := rowset h 7 v7
  simp only [List.setIfInBounds_toArray, List.set_cons_zero, List.set_cons_succ] at h
  exact h
theorem cset8 {a W : World} {m : Nat} {v0 v1 v2 v3 v4 v5 v6 v7 : Value} (h : Below a.heap.size a W) (hb : a.heap.size ≤ m) :
    Below a.heap.size a ((((((((W.setCell ⟨m, 0, none⟩ v0).setCell ⟨m, 1, none⟩ v1).setCell ⟨m, 2, none⟩ v2).setCell ⟨m, 3, none⟩ v3).setCell ⟨m, 4, none⟩ v4).setCell ⟨m, 5, none⟩ v5).setCell ⟨m, 6, none⟩ v6).setCell ⟨m, 7, none⟩ v7) :=
  cset (cset (cset (cset (cset (cset (cset (cset h hb 0 v0) hb 1 v1) hb 2 v2) hb 3 v3) hb 4 v4) hb 5 v5) hb 6 v6) hb 7 v7
theorem rowlt {w : World} {m : Nat} {c : Array Value} {t : TypeId} (h : w.heap[m]? = some (.cells c t (0, 0))) : m < w.heap.size := (Array.getElem?_eq_some_iff.1 h).1
/-! ### Split -/
def fdV (neg : Bool) (l : List Bool) : Value := .agg #[.bool neg, .bool (onesL l), .int .i64 (runL l), .int .i64 (regL l), .int .i64 (min (restL l).length 2 : Nat), .int .i64 (expL l), .int .i64 ((restL l).length - 2 : Nat), .int .u64 (fracL l)]
def fd0 : Value := .agg #[.bool false, .bool false, .int .i64 0, .int .i64 0, .int .i64 0, .int .i64 0, .int .i64 0, .int .u64 0]
theorem strS_length (n x : Nat) : (strS n x).length = n - 1 := by unfold strS; split <;> rw [List.length_drop, bitsOf_length]
theorem char_eq (b : Bool) : ((48 + ((b.toNat : Nat) : Int)) == 49) = b := by cases b <;> rfl
theorem restL_length (l : List Bool) : (restL l).length = l.length - (runL l + 1) := by unfold restL; rw [List.length_drop]
theorem exp_take (u : List Bool) (E : Nat) (h : (E = u.length ∧ u.length ≤ 2) ∨ (E = 2 ∧ 2 < u.length)) : (u.take E ++ [false, false]).take 2 = (u ++ noughts 2).take 2 := by
  rcases h with ⟨rfl, h⟩ | ⟨rfl, h⟩
  · rw [List.take_of_length_le (Nat.le_refl _)]; rfl
  · rw [List.take_append_of_le_length (by rw [List.length_take]; omega), List.take_append_of_le_length (by omega), List.take_take]; rfl
theorem frac_drop (u : List Bool) (E : Nat) (h : (E = u.length ∧ u.length ≤ 2) ∨ (E = 2 ∧ 2 < u.length)) : u.drop E = u.drop 2 := by
  rcases h with ⟨rfl, h⟩ | ⟨rfl, h⟩
  · rw [List.drop_of_length_le (Nat.le_refl _), List.drop_of_length_le h]
  · rfl
theorem runL_le (l : List Bool) : runL l ≤ l.length := by
  cases l with
  | nil => exact Nat.le_refl _
  | cons b l =>
    have := (List.takeWhile_sublist (· == b) (l := l)).length_le
    rw [runL, List.length_cons]; omega
end Go.Proofs.Ytajlgpamcpgalaa
