import Derived.Test.YtckmmdmimlhmoaaDoorNatIn
import Derived.Deep.Matrix
namespace Go.Proofs.YtckmmdmimlhmoaaDoor
open Go.ChangeShapes Go.WideShapes Go.ChangeAt Go.RowKit Go.Deep
set_option linter.unusedVariables false
set_option maxRecDepth 100000

/-! ### a list of Nats that is handed in -/
/-- v is a slice of slices that reads as L in w -/
def RowUU (w : World) (v : Value) (L : List (List Nat)) : Prop :=
  ∃ ao c, v = .slice ao L.length c ∧ c ≤ 9223372036854775807 ∧ L.length ≤ c ∧
    (L = [] ∨ ∃ b off, ao = some ⟨b, off, none⟩ ∧ b < w.heap.size ∧ ∀ j, j < L.length → ∃ u, w.cell? ⟨b, off + j, none⟩ = some u ∧ RowU w u (L.getD j []))
theorem RowUU.below {w w' : World} {v : Value} {L : List (List Nat)} (h : RowUU w v L) (hb : Below w.heap.size w w') : RowUU w' v L := by
  obtain ⟨ao, c, rfl, hc, hl, h⟩ := h
  refine ⟨ao, c, rfl, hc, hl, ?_⟩
  rcases h with h | ⟨b, off, rfl, hlt, h⟩
  · exact .inl h
  · refine .inr ⟨b, off, rfl, Nat.lt_of_lt_of_le hlt hb.size, fun j hj => ?_⟩
    obtain ⟨u, h1, h2⟩ := h j hj
    exact ⟨u, (hb.cell (p := ⟨b, off + j, none⟩) hlt).trans h1, h2.below hb⟩
theorem bulk_map {H : Type} (f : Nat → DataW H) (g : Nat → Nat) (n : Nat) (h : ∀ r, r < n → g r ≤ Rows.uptoBulk (f r)) : ((List.range n).map g).sum ≤ Rows.uptoBulkAll ((List.range n).map f) := by
  have aux : ∀ l : List Nat, (∀ r ∈ l, g r ≤ Rows.uptoBulk (f r)) → (l.map g).sum ≤ Rows.uptoBulkAll (l.map f) := by
    intro l
    induction l with
    | nil => intro _; simp [Rows.uptoBulkAll]
    | cons a l ih =>
      intro hl
      have h1 := ih fun r hr => hl r (List.mem_cons_of_mem _ hr)
      have h2 := hl a (List.mem_cons_self ..)
      simp only [List.map_cons, List.sum_cons, Rows.uptoBulkAll]
      omega
  exact aux _ fun r hr => h r (List.mem_range.1 hr)
theorem cellsNat : Tryd.prog.cellsOf 23 = 1 := by kernel_rfl
theorem nats_in {H : Type} {enc : TypeId × Value → H} {W : World} {base : Nat} {v : Value} {d : DataW H} {ps : List MemPlace}
    (hval : Value.okWide Tryd.prog W .any base 47 v) (h : DataW.Trod enc Tryd.prog W 0 (fun _ => true) true 47 v d ps) :
    ∃ L : List (List Nat), (∀ l ∈ L, ∀ x ∈ l, x < 18446744073709551616) ∧ RowUU W v L ∧ L.length + (L.map List.length).sum ≤ Rows.uptoBulk d := by
  obtain ⟨a0, len, cap, rfl⟩ := okWide_slice Tryd.underlying47 hval
  obtain ⟨fuel, hf⟩ := h
  rcases open_int_rows Tryd.underlying47 Tryd.underlying23 Tryd.underlying42 cellsNat cellsU64 hf with ⟨hcs, hx⟩ | ⟨a, len', cap', A, Ls, C, Z, hcs, _, hl, hm, hx, hrow⟩
  · simp [Value.cells] at hcs
    obtain ⟨rfl, rfl, rfl⟩ := hcs
    exact ⟨[], fun x hx => (by cases hx), ⟨none, 0, rfl, by decide, by decide, .inl rfl⟩, by simp⟩
  · simp [Value.cells] at hcs
    obtain ⟨rfl, rfl, rfl⟩ := hcs
    simp only [Prod.mk.injEq] at hx
    obtain ⟨rfl, rfl⟩ := hx
    have hbd : ∀ r, r < cap → ∀ z ∈ Z r, 0 ≤ z ∧ z < 18446744073709551616 := fun r hr z hz => by
      obtain ⟨x, rfl, hx⟩ := nat_of_u64 ((hrow r hr).2.2.2.2.1 z hz)
      omega
    have hln : ((List.range len).map fun r => ((Z r).take (Ls r)).map Int.toNat).length = len := by simp
    have hone : ∀ r, r < cap → (((Z r).take (Ls r)).map Int.toNat).length = Ls r := fun r hr => by
      obtain ⟨_, h1, _, h3, _⟩ := hrow r hr
      rw [List.length_map, List.length_take]; omega
    have hget : ∀ r, r < len → ((List.range len).map fun r => ((Z r).take (Ls r)).map Int.toNat).getD r [] = ((Z r).take (Ls r)).map Int.toNat := fun r hr => by
      rw [List.getD_eq_getElem?_getD, List.getElem?_map, List.getElem?_range hr]; rfl
    refine ⟨(List.range len).map fun r => ((Z r).take (Ls r)).map Int.toNat, ?_, ⟨some a, cap, by rw [hln], by unfold maxLen at hm; omega, by rw [hln]; exact hl, ?_⟩, ?_⟩
    · intro l hl2 x hx
      obtain ⟨r, hr, rfl⟩ := List.mem_map.1 hl2
      obtain ⟨z, hz1, rfl⟩ := List.mem_map.1 hx
      have := hbd r (by have := List.mem_range.1 hr; omega) z (List.mem_of_mem_take hz1)
      omega
    · by_cases h0 : len = 0
      · subst h0; exact .inl rfl
      · obtain ⟨b, off, spot⟩ := a
        have hspot : spot = none := by simpa [Addr.add] using World.cell?_spot (hrow 0 (by omega)).1
        subst hspot
        have hcell : ∀ r, r < cap → W.cell? ⟨b, off + r, none⟩ = some (.slice (A r) (Ls r) (C r)) := fun r hr => by
          have := (hrow r hr).1
          unfold Addr.add at this
          by_cases h : r = 0
          · subst h; simpa using this
          · simpa [h] using this
        have hlt : b < W.heap.size := by
          rcases Nat.lt_or_ge b W.heap.size with g | g
          · exact g
          · have := hcell 0 (by omega)
            simp [World.cell?, Array.getElem?_eq_none g] at this
        refine .inr ⟨b, off, rfl, hlt, fun j hj => ⟨_, hcell j (by rw [hln] at hj; omega), ?_⟩⟩
        rw [hln] at hj
        rw [hget j hj]
        obtain ⟨_, h1, h2, h3, h4, h5, h6⟩ := hrow j (by omega)
        have h7 := hone j (by omega)
        refine ⟨A j, C j, by rw [h7], by unfold maxLen at h2; omega, by rw [h7]; exact h1, ?_⟩
        by_cases hz : Ls j = 0
        · left
          exact List.eq_nil_of_length_eq_zero (by rw [h7]; exact hz)
        · right
          cases hA : A j with
          | none => have := h5 hA; omega
          | some a' =>
            obtain ⟨_, hc⟩ := h6 a' hA
            obtain ⟨b', off', rfl, hc'⟩ := ints_at (w := W) (k := .u64) (zs := Z j) (a := a') (fun c hc2 => hc c (by omega)) (by omega)
            have hlt' : b' < W.heap.size := by
              rcases Nat.lt_or_ge b' W.heap.size with g | g
              · exact g
              · have := hc' 0 (by omega)
                simp [World.cell?, Array.getElem?_eq_none g] at this
            refine ⟨b', off', rfl, hlt', fun i hi => ?_⟩
            rw [h7] at hi
            have hi2 : i < (Z j).length := by omega
            rw [hc' i hi2]
            have e1 : (Z j).getD i 0 = (Z j)[i] := by rw [List.getD_eq_getElem?_getD, List.getElem?_eq_getElem hi2]; rfl
            have e2 : (((Z j).take (Ls j)).map Int.toNat).getD i 0 = ((Z j)[i]).toNat := by
              rw [List.getD_eq_getElem?_getD, List.getElem?_map, List.getElem?_take_of_lt hi, List.getElem?_eq_getElem hi2]; rfl
            rw [e1, e2]
            have := hbd j (by omega) (Z j)[i] (List.getElem_mem _)
            congr 2
            omega
    · have h1 := bulk_map (H := H) (fun r => intRow .u64 (A r) (Ls r) (Z r)) (fun r => Ls r + 1) len (fun r hr => by
        obtain ⟨_, g1, _, g3, _, g5, _⟩ := hrow r (by omega)
        unfold intRow
        cases hA : A r with
        | none => have := g5 hA; simp only [Rows.uptoBulk]; omega
        | some a' =>
          have h2 := bulk_slice (lits (H := H) .u64 ((Z r).take (Ls r))) (lits .u64 ((Z r).drop (Ls r)))
          have h3 : (lits (H := H) .u64 ((Z r).take (Ls r))).length = Ls r := by simp [lits]; omega
          rw [h3] at h2
          exact h2)
      have h2 : ((List.range len).map fun r => Ls r + 1).sum = ((List.range len).map Ls).sum + len := by
        have aux : ∀ l : List Nat, (l.map fun r => Ls r + 1).sum = (l.map Ls).sum + l.length := by
          intro l
          induction l with
          | nil => rfl
          | cons a l ih => simp only [List.map_cons, List.sum_cons, List.length_cons, ih]; omega
        rw [aux, List.length_range]
      have h3 : (((List.range len).map fun r => ((Z r).take (Ls r)).map Int.toNat).map List.length) = (List.range len).map Ls := by
        rw [List.map_map]
        refine List.map_congr_left fun r hr => ?_
        exact hone r (by have := List.mem_range.1 hr; omega)
      rw [hln, h3]
      simp only [Rows.uptoBulk]
      omega
end Go.Proofs.YtckmmdmimlhmoaaDoor
