import Derived.Test.YtckmmdmimlhmoaaDoorNatTy
namespace Go.Proofs.YtckmmdmimlhmoaaDoor
open Go.ChangeShapes Go.WideShapes Go.ChangeAt Go.RowKit
set_option linter.unusedVariables false
set_option linter.unusedSimpArgs false
set_option maxRecDepth 100000

/-! ### powers of ten -/
def fac (k j : Nat) : Nat := 10 ^ min (k - 19 * j) 19
theorem pow19 {m : Nat} (h : m ≤ 19) : 10 ^ m < 18446744073709551616 :=
  Nat.lt_of_le_of_lt (Nat.pow_le_pow_right (by decide) h) (by decide)
theorem fac_lt (k j : Nat) : fac k j < 18446744073709551616 := pow19 (Nat.min_le_right _ _)
def facs (k i : Nat) : List (List Nat) := (List.range i).map fun j => lim (fac k j)
theorem facs_length (k i : Nat) : (facs k i).length = i := by simp [facs]
theorem facs_get (k i j : Nat) (h : j < i) : (facs k i).getD j [] = lim (fac k j) := by
  rw [facs, List.getD_eq_getElem?_getD, List.getElem?_map, List.getElem?_range h]; rfl
theorem facs_limbs (k i : Nat) : ∀ l ∈ facs k i, Limbs l := fun l h => by
  obtain ⟨j, _, rfl⟩ := List.mem_map.1 h
  exact lim_limbs _
theorem facs_prod (k i : Nat) : ((facs k i).map uval).prod = 10 ^ min k (19 * i) := by
  induction i with
  | zero => simp [facs]
  | succ i ih =>
    have e : facs k (i + 1) = facs k i ++ [lim (fac k i)] := by simp [facs, List.range_succ]
    rw [e, List.map_append, List.prod_append, ih]
    simp only [List.map_cons, List.map_nil, List.prod_cons, List.prod_nil, Nat.mul_one, uval_lim]
    rw [fac, ← Nat.pow_add]
    congr 1
    omega
theorem facs_sum (k i : Nat) : ((facs k i).map List.length).sum ≤ i := by
  induction i with
  | zero => simp [facs]
  | succ i ih =>
    have e : facs k (i + 1) = facs k i ++ [lim (fac k i)] := by simp [facs, List.range_succ]
    rw [e, List.map_append, List.sum_append]
    have := lim_length_le (x := fac k i) (n := 1) (by simpa using fac_lt k i)
    simp only [List.map_cons, List.map_nil, List.sum_cons, List.sum_nil]
    omega
/-- the factors so far, in a row of the call's own -/
def Facs (w : World) (base k i : Nat) (v : Value) : Prop :=
  ∃ xs : List Value, w.ownsRow base 23 1 v i xs ∧ ∀ j, j < i → ∃ u, xs[j]? = some u ∧ OwnU 0 w u (fac k j)
theorem OwnU.kept {B : Nat} {w w' : World} {v : Value} {x : Nat} {row : Option Nat} (h : OwnU B w v x) (hg : w.grownBy w' row) (hne : ∀ g L, row = some g → ¬ Blk w g L) : OwnU B w' v x := by
  obtain ⟨ao, rfl, hm, h⟩ := h
  refine ⟨ao, rfl, hm, ?_⟩
  rcases h with h | ⟨g, z, rfl, hb, hk⟩
  · exact .inl h
  · exact .inr ⟨g, z, rfl, hb, hk.kept hg fun e => hne g _ e hk⟩
theorem not_blk {w : World} {base n : Nat} {v : Value} {xs : List Value} (h : w.ownsRow base 23 1 v n xs) (g : Nat) (L : List Nat) (e : v.ownBlock = some g) : ¬ Blk w g L := by
  rintro ⟨tl, hk⟩
  rcases h.2 with ⟨rfl, _⟩ | ⟨g', cap, cur, rfl, hb, hg, _⟩
  · simp [Value.ownBlock] at e
  · simp [Value.ownBlock] at e
    subst e
    rw [hg] at hk
    simp at hk
theorem below_grown {w w' : World} (h : Below w.heap.size w w') : w.grownBy w' none := ⟨h.os, h.tape, h.output, h.size, fun k hk _ => h.block k hk⟩
theorem Facs.nil (w : World) (base k : Nat) : Facs w base k 0 (.slice none 0 0) := ⟨[], World.ownsRow_nil _ _ _ _, fun j hj => by omega⟩
theorem Facs.below {w w' : World} {base k i : Nat} {v : Value} (h : Facs w base k i v) (hb : Below w.heap.size w w') : Facs w' base k i v := by
  obtain ⟨xs, ho, hx⟩ := h
  refine ⟨xs, ho.kept (below_grown hb) ?_, fun j hj => ?_⟩
  · rcases e : v.ownBlock with _ | b
    · exact .inl rfl
    · exact .inr (by simp)
  · obtain ⟨u, h1, h2⟩ := hx j hj
    exact ⟨u, h1, h2.below (B' := 0) hb⟩
theorem Facs.rows {w : World} {base k i : Nat} {v : Value} (h : Facs w base k i v) : RowUU w v (facs k i) := by
  obtain ⟨xs, ho, hx⟩ := h
  have hl := facs_length k i
  rcases id ho.2 with ⟨rfl, rfl⟩ | ⟨g, cap, cur, rfl, hb, hg, hn, hcap, _⟩
  · exact ⟨none, 0, by rw [hl], by decide, by omega, .inl (List.eq_nil_of_length_eq_zero hl)⟩
  · refine ⟨_, cap, by rw [hl], by unfold maxLen at hcap; omega, by omega, .inr ⟨g, 0, rfl, (Array.getElem?_eq_some_iff.1 hg).1, fun j hj => ?_⟩⟩
    rw [hl] at hj
    obtain ⟨u, h1, h2⟩ := hx j hj
    rw [Nat.zero_add]
    refine ⟨u, (ho.cellAt j (by omega)).trans h1, ?_⟩
    rw [facs_get k i j hj]
    exact h2.row
theorem infoNat : (Tryd.prog.info? 23).map (fun i => (i.zero, i.size, i.bytes)) = some (some (.slice none 0 0), 1, 24) := by kernel_rfl
theorem OwnU.form {B : Nat} {w : World} {v : Value} {x : Nat} (h : OwnU B w v x) : ∃ ao n, v = .slice ao n n := by
  obtain ⟨ao, rfl, _⟩ := h; exact ⟨_, _, rfl⟩
theorem OwnU.one {B : Nat} {w : World} {v : Value} {x : Nat} (h : OwnU B w v x) : v.oneCell' = true := by
  obtain ⟨ao, rfl, _⟩ := h; rfl
end Go.Proofs.YtckmmdmimlhmoaaDoor
