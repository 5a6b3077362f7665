import Derived.Test.YtckmmdmimlhmoaaDoorOwnB
namespace Go.Proofs.YtckmmdmimlhmoaaDoor
open Go.ChangeShapes Go.WideShapes Go.ChangeAt Go.RowKit
set_option linter.unusedVariables false
set_option linter.unusedSimpArgs false
set_option maxRecDepth 100000

/-! ### lists that came out, each its owner's -/
/-- v reads as L, in a block of its own, with no room that is seen behind it -/
def Res (base : Nat) (w : World) (v : Value) (L : List Nat) : Prop :=
  ∃ ao, v = .slice ao L.length L.length ∧ L.length ≤ 9223372036854775807 ∧ (L = [] ∨ ∃ g, ao = some ⟨g, 0, none⟩ ∧ base ≤ g ∧ Blk w g L)
theorem OwnU.res {B : Nat} {w : World} {v : Value} {x : Nat} (h : OwnU B w v x) : Res B w v (lim x) := by
  obtain ⟨ao, rfl, hm, h⟩ := h
  refine ⟨ao, rfl, hm, ?_⟩
  rcases h with h | ⟨g, z, rfl, hB, tl, hb⟩
  · exact .inl h
  · exact .inr ⟨g, rfl, hB, (List.replicate z 0).map encU ++ tl, by rw [hb, List.map_append, List.append_assoc]⟩
theorem Res.mono {B B' : Nat} {w : World} {v : Value} {L : List Nat} (h : Res B w v L) (hB : B' ≤ B) : Res B' w v L := by
  obtain ⟨ao, rfl, hm, h⟩ := h
  refine ⟨ao, rfl, hm, ?_⟩
  rcases h with h | ⟨g, rfl, hb, hk⟩
  · exact .inl h
  · exact .inr ⟨g, rfl, by omega, hk⟩
theorem Res.chg {S : Nat → Prop} {B : Nat} {w w' : World} {v : Value} {L : List Nat} (h : Res B w v L) (hc : Chg S w w') (hs : L ≠ [] → ∀ g, v.ownBlock = some g → ¬ S g) : Res B w' v L := by
  obtain ⟨ao, rfl, hm, h⟩ := h
  refine ⟨ao, rfl, hm, ?_⟩
  rcases h with h | ⟨g, rfl, hb, hk⟩
  · exact .inl h
  · by_cases h0 : L = []
    · exact .inl h0
    · exact .inr ⟨g, rfl, hb, hk.chg hc (hs h0 g rfl)⟩
theorem Res.own {B : Nat} {w : World} {v : Value} {L : List Nat} (h : Res B w v L) (h0 : L ≠ []) : ∃ g, v.ownBlock = some g ∧ B ≤ g ∧ g < w.heap.size ∧ Blk w g L := by
  obtain ⟨ao, rfl, hm, h⟩ := h
  rcases h with h | ⟨g, rfl, hb, hk⟩
  · exact absurd h h0
  · exact ⟨g, rfl, hb, hk.lt, hk⟩
theorem Res.below {B : Nat} {w w' : World} {v : Value} {L : List Nat} (h : Res B w v L) (hb : Below w.heap.size w w') : Res B w' v L :=
  h.chg (Chg.below hb) fun h0 g hg => by obtain ⟨g', h1, h2, h3, _⟩ := h.own h0; rw [hg] at h1; cases h1; omega
theorem Res.row {B : Nat} {w : World} {v : Value} {L : List Nat} (h : Res B w v L) : RowU w v L := by
  obtain ⟨ao, rfl, hm, h⟩ := h
  rcases h with h | ⟨g, rfl, hb, hk⟩
  · exact ⟨ao, _, rfl, hm, Nat.le_refl _, .inl h⟩
  · exact Blk.row (P := []) (A := L) (R := []) (by simpa using hk) _ (Nat.le_refl _) hm
/-- N of them -/
structure Rs (base : Nat) (w : World) (N : Nat) (vs : Nat → Value) (Ls : Nat → List Nat) : Prop where
  each : ∀ j, j < N → Res base w (vs j) (Ls j)
  apart : ∀ j k, j < N → k < N → j ≠ k → Ls j ≠ [] → Ls k ≠ [] → (vs j).ownBlock ≠ (vs k).ownBlock
theorem slices_ne {w : World} {base n : Nat} {v : Value} {xs : List Value} (h : w.ownsRow base 22 1 v n xs) (g : Nat) (L : List Nat) (e : v.ownBlock = some g) : ¬ Blk w g L := by
  rintro ⟨tl, hk⟩
  rcases h.2 with ⟨rfl, _⟩ | ⟨g', cap, cur, rfl, hb, hg, _⟩
  · simp [Value.ownBlock] at e
  · simp [Value.ownBlock] at e
    subst e
    rw [hg] at hk
    simp at hk
theorem slices_owns {w : World} {base n base' n' : Nat} {v v' : Value} {xs xs' : List Value} (h : w.ownsRow base 22 1 v n xs) (h' : w.ownsRow base' 42 1 v' n' xs') (g : Nat) (e : v.ownBlock = some g) : v'.ownBlock ≠ some g := by
  intro e'
  rcases h.2 with ⟨rfl, _⟩ | ⟨g1, cap, cur, rfl, hb, hg, _⟩
  · simp [Value.ownBlock] at e
  · simp [Value.ownBlock] at e
    subst e
    rcases h'.2 with ⟨rfl, _⟩ | ⟨g2, cap2, cur2, rfl, hb2, hg2, _⟩
    · simp [Value.ownBlock] at e'
    · simp [Value.ownBlock] at e'
      subst e'
      rw [hg] at hg2
      simp at hg2
/-- what its owner writes over the list number j -/
def wrote (j n : Nat) : List Nat := (List.range n).map fun k => 1000 * j + k
def more (j n : Nat) : List Nat := (List.range n).map fun k => 500000 + 1000 * j + k
theorem wrote_length (j n : Nat) : (wrote j n).length = n := by simp [wrote]
theorem more_succ (j k : Nat) : more j (k + 1) = more j k ++ [500000 + 1000 * j + k] := by simp [more, List.range_succ]
theorem wrote_get (j n k : Nat) (h : k < n) : (wrote j n).getD k 0 = 1000 * j + k := by
  simp [wrote, List.getD_eq_getElem?_getD, h]
theorem more_get (j n k : Nat) (h : k < n) : (more j n).getD k 0 = 500000 + 1000 * j + k := by
  simp [more, List.getD_eq_getElem?_getD, h]
def wroteAt (j k : Nat) (L : List Nat) : List Nat := (wrote j L.length).take k ++ L.drop k
theorem wroteAt_length (j k : Nat) (L : List Nat) (h : k ≤ L.length) : (wroteAt j k L).length = L.length := by
  simp [wroteAt, wrote]; omega
theorem wroteAt_step (j k : Nat) (L : List Nat) (h : k < L.length) : (wroteAt j k L).set k (1000 * j + k) = wroteAt j (k + 1) L := by
  have e1 : ((wrote j L.length).take k).length = k := by simp [wrote]; omega
  unfold wroteAt
  rw [List.set_append_right _ _ (by omega), e1, Nat.sub_self, List.drop_eq_getElem_cons h, List.set_cons_zero, List.take_add_one]
  have e2 : (wrote j L.length)[k]? = some (1000 * j + k) := by simp [wrote, h]
  rw [e2]
  simp
theorem wroteAt_all (j : Nat) (L : List Nat) : wroteAt j L.length L = wrote j L.length := by
  simp only [wroteAt, wrote, List.drop_length, List.append_nil]
  exact List.take_of_length_le (by simp)
theorem infoSl : (Tryd.prog.info? 22).map (fun i => (i.zero, i.size, i.bytes)) = some (some (.slice none 0 0), 1, 24) := by kernel_rfl
/-- writing over one list leaves the others -/
theorem Res.write {B : Nat} {w : World} {v : Value} {L : List Nat} (h : Res B w v L) (j d : Nat) (hj : j < L.length) : ∃ g, v = .slice (some ⟨g, 0, none⟩) L.length L.length ∧ w.cell? ⟨g, j, none⟩ = some (.int .u64 (L.getD j 0 : Nat)) ∧ w.frozen? ⟨g, j, none⟩ = false ∧
    Res B (w.setCell ⟨g, j, none⟩ (.int .u64 (d : Nat))) v (L.set j d) ∧ Chg (fun k => v.ownBlock = some k) w (w.setCell ⟨g, j, none⟩ (.int .u64 (d : Nat))) := by
  obtain ⟨ao, rfl, hm, h⟩ := h
  rcases h with h | ⟨g, rfl, hb, hk⟩
  · rw [h] at hj; cases hj
  · refine ⟨g, rfl, hk.cell j hj, hk.frozen j, ⟨_, by rw [List.length_set], by rw [List.length_set]; exact hm, .inr ⟨g, rfl, hb, hk.set j d hj⟩⟩, (Chg.refl _ w).set g j _ rfl⟩
/-- the state of the first loop: the lists below m are written over, those below i are grown -/
structure ApAt (base : Nat) (w wr : World) (N : Nat) (lv : Value) (vs : Nat → Value) (Ls : Nat → List Nat) (m i : Nat) (gv : Value) : Prop where
  hbase : base ≤ w.heap.size
  bel : Below base w wr
  list : wr.ownsRow base 22 1 lv N ((List.range N).map vs)
  res : ∀ j, j < N → Res base wr (vs j) (if j < m then wrote j (Ls j).length else Ls j)
  apart : ∀ j k, j < N → k < N → j ≠ k → Ls j ≠ [] → Ls k ≠ [] → (vs j).ownBlock ≠ (vs k).ownBlock
  old : ∀ j, j < N → Ls j ≠ [] → ∀ g, (vs j).ownBlock = some g → g < w.heap.size
  lold : ∀ g, lv.ownBlock = some g → g < w.heap.size
  rows : ∃ us : List Value, wr.ownsRow w.heap.size 22 1 gv i us ∧ ∀ j, j < i → ∃ u, us[j]? = some u ∧ wr.ownsRow w.heap.size 42 1 u ((Ls j).length + 7) ((wrote j (Ls j).length ++ more j 7).map encU)
theorem wrote_nil (j : Nat) (L : List Nat) : wrote j L.length = [] ↔ L = [] := by
  rw [← List.length_eq_zero_iff, wrote_length, List.length_eq_zero_iff]
theorem ite_nil {m j : Nat} {L : List Nat} : (if j < m then wrote j L.length else L) ≠ [] ↔ L ≠ [] := by
  split
  · rw [Ne, wrote_nil]
  · rfl
theorem ApAt.start {base N : Nat} {w : World} {lv : Value} {vs : Nat → Value} {Ls : Nat → List Nat} (hb : base ≤ w.heap.size) (hl : w.ownsRow base 22 1 lv N ((List.range N).map vs)) (hr : Rs base w N vs Ls) : ApAt base w w N lv vs Ls 0 0 (.slice none 0 0) := by
  refine ⟨hb, Below.refl _ _, hl, fun j hj => by rw [if_neg (by omega)]; exact hr.each j hj, hr.apart, fun j hj h0 g hg => ?_, fun g hg => (hl.lt g hg).2, [], World.ownsRow_nil _ _ _ _, fun j hj => by omega⟩
  obtain ⟨g', h1, _, h2, _⟩ := (hr.each j hj).own h0
  rw [hg] at h1; cases h1; exact h2
theorem ApAt.below {base N m i : Nat} {w wr w' : World} {lv gv : Value} {vs : Nat → Value} {Ls : Nat → List Nat} (h : ApAt base w wr N lv vs Ls m i gv) (hb : Below wr.heap.size wr w') : ApAt base w w' N lv vs Ls m i gv := by
  obtain ⟨us, h1, h2⟩ := h.rows
  have hz : base ≤ wr.heap.size := Nat.le_trans h.hbase h.bel.size
  refine ⟨h.hbase, h.bel.trans (hb.mono hz), ?_, fun j hj => (h.res j hj).below hb, h.apart, h.old, h.lold, us, ?_, fun j hj => ?_⟩
  · exact owns_chg h.list (Chg.below hb) fun g hg => by have := (h.list.lt g hg).2; omega
  · exact owns_chg h1 (Chg.below hb) fun g hg => by have := (h1.lt g hg).2; omega
  · obtain ⟨u, h3, h4⟩ := h2 j hj
    exact ⟨u, h3, owns_chg h4 (Chg.below hb) fun g hg => by have := (h4.lt g hg).2; omega⟩
theorem ApAt.wrote {base N i : Nat} {w wr w' : World} {lv gv : Value} {vs : Nat → Value} {Ls : Nat → List Nat} (h : ApAt base w wr N lv vs Ls i i gv) (hi : i < N) (hc : Chg (fun k => Ls i ≠ [] ∧ (vs i).ownBlock = some k) wr w') (hres : Res base w' (vs i) (wrote i (Ls i).length)) : ApAt base w w' N lv vs Ls (i + 1) i gv := by
  obtain ⟨us, h1, h2⟩ := h.rows
  have hblk : ∀ k, (Ls i ≠ [] ∧ (vs i).ownBlock = some k) → base ≤ k ∧ k < w.heap.size ∧ ∃ L, Blk wr k L := fun k ⟨h0, hk⟩ => by
    have := h.old i hi h0 k hk
    obtain ⟨g, h3, h4, h5, h6⟩ := (h.res i hi).own (ite_nil.2 h0)
    rw [hk] at h3; cases h3
    exact ⟨h4, this, _, h6⟩
  refine ⟨h.hbase, h.bel.trans ⟨hc.os, hc.tape, hc.output, hc.size, fun k hk => hc.block k ?_ fun hs => ?_⟩, ?_, fun j hj => ?_, h.apart, h.old, h.lold, us, ?_, fun j hj => ?_⟩
  · have := h.bel.size; have := h.hbase; omega
  · have := (hblk k hs).1; omega
  · refine owns_chg h.list hc fun g hg hs => ?_
    obtain ⟨_, _, L, hL⟩ := hblk g hs
    exact slices_ne h.list g L hg hL
  · by_cases hji : j = i
    · subst hji
      rw [if_pos (Nat.lt_succ_self _)]
      exact hres
    · have e : (if j < i + 1 then Go.Proofs.YtckmmdmimlhmoaaDoor.wrote j (Ls j).length else Ls j) = (if j < i then Go.Proofs.YtckmmdmimlhmoaaDoor.wrote j (Ls j).length else Ls j) := by
        by_cases hlt : j < i
        · rw [if_pos hlt, if_pos (by omega)]
        · rw [if_neg hlt, if_neg (by omega)]
      refine e ▸ (h.res j hj).chg hc fun h0 g hg hs => ?_
      have h0' := ite_nil.1 h0
      exact h.apart j i hj hi hji h0' hs.1 (hg.trans hs.2.symm)
  · refine owns_chg h1 hc fun g hg hs => ?_
    have := (h1.lt g hg).1; have := (hblk g hs).2.1; omega
  · obtain ⟨u, h3, h4⟩ := h2 j hj
    refine ⟨u, h3, owns_chg h4 hc fun g hg hs => ?_⟩
    have := (h4.lt g hg).1; have := (hblk g hs).2.1; omega
theorem ApAt.grow {base N i : Nat} {w wr w' : World} {lv gv gv' g : Value} {vs : Nat → Value} {Ls : Nat → List Nat} (h : ApAt base w wr N lv vs Ls (i + 1) i gv) (hg : wr.ownsRow w.heap.size 42 1 g ((Ls i).length + 7) ((Go.Proofs.YtckmmdmimlhmoaaDoor.wrote i (Ls i).length ++ more i 7).map encU))
    (us : List Value) (hus : wr.ownsRow w.heap.size 22 1 gv i us) (hrows : ∀ j, j < i → ∃ u, us[j]? = some u ∧ wr.ownsRow w.heap.size 42 1 u ((Ls j).length + 7) ((Go.Proofs.YtckmmdmimlhmoaaDoor.wrote j (Ls j).length ++ more j 7).map encU))
    (hown : w'.ownsRow w.heap.size 22 1 gv' (i + 1) (us ++ [g])) (hgr : wr.grownBy w' gv.ownBlock) : ApAt base w w' N lv vs Ls (i + 1) (i + 1) gv' := by
  have hc := Chg.grown hgr
  have hge : ∀ k, some k = gv.ownBlock → w.heap.size ≤ k := fun k hk => (hus.lt k hk.symm).1
  refine ⟨h.hbase, h.bel.trans ⟨hc.os, hc.tape, hc.output, hc.size, fun k hk => hc.block k ?_ fun hs => ?_⟩, ?_, fun j hj => ?_, h.apart, h.old, h.lold, us ++ [g], hown, fun j hj => ?_⟩
  · have := h.bel.size; have := h.hbase; omega
  · have := hge k hs; have := h.hbase; omega
  · refine owns_chg h.list hc fun k hk hs => ?_
    have := hge k hs; have := h.lold k hk; omega
  · refine (h.res j hj).chg hc fun h0 k hk hs => ?_
    have := hge k hs; have := h.old j hj (ite_nil.1 h0) k hk; omega
  · have hul : us.length = i := by have := hus.1; omega
    by_cases hji : j < i
    · obtain ⟨u, h3, h4⟩ := hrows j hji
      refine ⟨u, by rw [List.getElem?_append_left (by omega)]; exact h3, owns_chg h4 hc fun k hk hs => ?_⟩
      exact slices_owns hus h4 k hs.symm hk
    · have : j = i := by omega
      subst this
      refine ⟨g, by rw [List.getElem?_append_right (by omega), hul, Nat.sub_self]; rfl, owns_chg hg hc fun k hk hs => ?_⟩
      exact slices_owns hus hg k hs.symm hk
end Go.Proofs.YtckmmdmimlhmoaaDoor
