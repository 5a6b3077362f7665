import Derived.Test.YtheliihkkoohnabGreatJoin3
import Derived.Deep.CutBlock
import Derived.Deep.CutRange
import Derived.Test.YtheliihkkoohnabGreatJoin2
namespace Go.Proofs.YtheliihkkoohnabGreat
open Go.ChangeShapes Go.WideShapes Go.ChangeAt Go.RowKit
set_option linter.unusedVariables false
set_option linter.unusedSimpArgs false
set_option maxRecDepth 100000

/-! ### numbers as verniertop has them: M times 2^E, with a sign -/
/-- an integer is put where a nought stood at its box's end: no number's row has that cell -/
theorem Row.setZ {w : World} {v : Value} {n : Nat} (h : Row w v (dig n)) {m : Nat} {u0 u1 : Value} {t : TypeId} (hr : w.heap[m]? = some (.cells #[u0, u1, .int .i64 0] t (0, 0))) (u' : Value) : Row (w.setCell ⟨m, 2, none⟩ u') v (dig n) := by
  obtain ⟨ao, c, rfl, hc1, hl, h⟩ := h
  refine ⟨ao, c, rfl, hc1, hl, ?_⟩
  rcases h with h | ⟨b, off, rfl, hlt, h⟩
  · exact .inl h
  · refine .inr ⟨b, off, rfl, hlt.set, fun j hj => ?_⟩
    have hj2 := h j hj
    have hne : (⟨m, 2, none⟩ : Addr) ≠ ⟨b, off + j, none⟩ := fun e => by
      have e1 : m = b := congrArg Addr.block e
      have e2 : 2 = off + j := congrArg Addr.off e
      have c2 := rowcell hr 2
      rw [e, hj2] at c2
      simp only [List.getElem?_toArray, List.getElem?_cons_zero, List.getElem?_cons_succ, Option.some.injEq, Value.int.injEq, true_and] at c2
      by_cases hl2 : j + 1 < (dig n).length
      · have c3 := h (j + 1) hl2
        rw [← e1, show off + (j + 1) = 3 by omega, rowcell hr 3] at c3
        simp at c3
      · have hn0 : n ≠ 0 := fun z => by rw [z, dig_zero] at hj; exact absurd hj (Nat.not_lt_zero _)
        have hlen : (dig n).length = dlen n := rfl
        have hd := (dig_last hn0).1
        rw [show dlen n - 1 = j by omega, ← dig_get] at hd
        omega
    rw [World.cell?_setCell_other _ _ _ _ hne]
    exact hj2
theorem Row.put3 {w : World} {v : Value} {n : Nat} (h : Row w v (dig n)) {m : Nat} {ao : Option Addr} {l c : Nat} {b : Bool} {t : TypeId} (hr : w.heap[m]? = some (.cells #[.bool b, .slice ao l c, .int .i64 0] t (0, 0))) (u0 u1 u2 : Value) :
    Row (((w.setCell ⟨m, 0, none⟩ u0).setCell ⟨m, 1, none⟩ u1).setCell ⟨m, 2, none⟩ u2) v (dig n) := by
  have h0 := h.setU m 0 _ u0 (rowcell hr 0) (by intro x e; cases e)
  have r0 := rowset hr 0 u0
  simp only [List.setIfInBounds_toArray, List.set_cons_zero, List.set_cons_succ] at r0
  have h1 := h0.setU m 1 _ u1 (rowcell r0 1) (by intro x e; cases e)
  have r1 := rowset r0 1 u1
  simp only [List.setIfInBounds_toArray, List.set_cons_zero, List.set_cons_succ] at r1
  exact h1.setZ r1 u2
theorem drewrow {wq W0 : World} {q m : Nat} {x : Option Obj} (e : wq = W0.drewN q) (h : W0.heap[m]? = x) : wq.heap[m]? = x := by rw [e]; exact h
theorem cset3 {a W : World} {m : Nat} {v0 v1 v2 : Value} (h : Below a.heap.size a W) (hb : a.heap.size ≤ m) :
    Below a.heap.size a (((W.setCell ⟨m, 0, none⟩ v0).setCell ⟨m, 1, none⟩ v1).setCell ⟨m, 2, none⟩ v2) :=
  cset (cset (cset h hb 0 v0) hb 1 v1) hb 2 v2
theorem far3 {W : World} {m g k : Nat} {v0 v1 v2 : Value} (h : m ≠ g) : (((W.setCell ⟨m, 0, none⟩ v0).setCell ⟨m, 1, none⟩ v1).setCell ⟨m, 2, none⟩ v2).drew.cell? ⟨g, k, none⟩ = W.cell? ⟨g, k, none⟩ := by
  show (((W.setCell ⟨m, 0, none⟩ v0).setCell ⟨m, 1, none⟩ v1).setCell ⟨m, 2, none⟩ v2).cell? ⟨g, k, none⟩ = _
  have hab : ∀ o o' : Nat, (⟨m, o, none⟩ : Addr) ≠ ⟨g, o', none⟩ := fun o o' e => h (congrArg Addr.block e)
  rw [World.cell?_setCell_other _ _ _ _ (hab _ _), World.cell?_setCell_other _ _ _ _ (hab _ _), World.cell?_setCell_other _ _ _ _ (hab _ _)]
theorem valof_real (neg : Bool) (s : Int) (f : Nat) (hf : f < 2 ^ 64) (hs : -1000 ≤ s ∧ s ≤ 1000) (w : World) :
    Calls Tryz.prog 10 #[numV 1 neg s f] w fun e w' => ∃ v, e = .returned (.agg #[.bool neg, v, .int .i64 (s - 63)]) ∧ Row w' v (dig f) ∧ Below w.heap.size w w' := by
  have k1 := of_any f hf
  have e1 : IntKind.i64.wrap (s - 63) = s - 63 := wrapI (by omega)
  clear hf hs
  unfold numV
  refine cps fun Q hQ => ?_
  go_enter Tryz.func10, Tryz.ntmps10
  go_upto_region 3 with fail
  obtain ⟨W0, hW0⟩ : ∃ W0, W0 = (w.alloc (.cells #[.int .i64 1, .bool neg, .int .i64 s, .int .u64 f] 31)).alloc (.cells #[.bool false, .slice none 0 0, .int .i64 0] 36) := ⟨_, rfl⟩
  have row0 : W0.heap[w.heap.size]? = some (.cells #[.int .i64 1, .bool neg, .int .i64 s, .int .u64 f] 31 (0, 0)) := by rw [hW0]; exact (Below.heap_alloc _ _ _ (by simp)).trans (rownew _ _ _)
  have row1 : W0.heap[w.heap.size + 1]? = some (.cells #[.bool false, .slice none 0 0, .int .i64 0] 36 (0, 0)) := by rw [hW0]; exact rownew' _ _ _ _ (by simp)
  have z0 : w.heap.size < W0.heap.size := by rw [hW0]; first | (simp; done) | (simp; omega)
  have z1 : w.heap.size + 1 < W0.heap.size := by rw [hW0]; simp
  have hB0 : Below w.heap.size w W0 := by rw [hW0]; exact cmore (cmore (Below.refl _ _) _) _
  have ne10 : w.heap.size + 1 ≠ w.heap.size := by omega
  rw [← hW0]
  clear hW0
  have cls : ∀ W, Below W0.heap.size W0 W → W.cell? ⟨w.heap.size, 1, none⟩ = some (.bool neg) ∧ W.cell? ⟨w.heap.size, 2, none⟩ = some (.int .i64 s) ∧ W.cell? ⟨w.heap.size, 3, none⟩ = some (.int .u64 f) := fun W hW => ⟨((hW.cell (p := ⟨w.heap.size, 1, none⟩) z0).trans (rowcell row0 1)), ((hW.cell (p := ⟨w.heap.size, 2, none⟩) z0).trans (rowcell row0 2)), ((hW.cell (p := ⟨w.heap.size, 3, none⟩) z0).trans (rowcell row0 3))⟩
  refine wpC_region (fun W => W.cell? ⟨w.heap.size, 1, none⟩ = some (.bool neg) ∧ W.cell? ⟨w.heap.size, 2, none⟩ = some (.int .i64 s) ∧ W.cell? ⟨w.heap.size, 3, none⟩ = some (.int .u64 f)) (by kernel_rfl) ?_
  refine wpC_take 0 (v := ?_) rfl (by kernel_rfl) (fun _ _ _ h => h) (by kernel_rfl) ?_ ?_; rotate_left; · (intro wC hC; obtain ⟨c0, c1, c2⟩ := hC; go_simp <;> with_reducible rfl)
  refine wpC_take 1 (v := ?_) rfl (by kernel_rfl) (fun _ _ _ h => h) (by kernel_rfl) ?_ ?_; rotate_left; · (intro wC hC; obtain ⟨c0, c1, c2⟩ := hC; go_simp <;> with_reducible rfl)
  refine wpC_take 2 (v := ?_) rfl (by kernel_rfl) (fun _ _ _ h => h) (by kernel_rfl) ?_ ?_; rotate_left; · (intro wC hC; obtain ⟨c0, c1, c2⟩ := hC; go_simp <;> with_reducible rfl)
  refine wpC_take 3 (v := ?_) rfl (by kernel_rfl) (fun _ _ _ h => h) (by kernel_rfl) ?_ ?_; rotate_left; · (intro wC hC; obtain ⟨c0, c1, c2⟩ := hC; go_simp <;> with_reducible rfl)
  refine wpC_take 5 (v := ?_) rfl (by kernel_rfl) (fun _ _ _ h => h) (by kernel_rfl) ?_ ?_; rotate_left; · (intro wC hC; obtain ⟨c0, c1, c2⟩ := hC; go_simp <;> with_reducible rfl)
  refine wpC_take 6 (v := ?_) rfl (by kernel_rfl) (fun _ _ _ h => h) (by kernel_rfl) ?_ ?_; rotate_left; · (intro wC hC; obtain ⟨c0, c1, c2⟩ := hC; go_simp <;> with_reducible rfl)
  refine wpC_take 7 (v := ?_) rfl (by kernel_rfl) (fun _ _ _ h => h) (by kernel_rfl) ?_ ?_; rotate_left; · (intro wC hC; obtain ⟨c0, c1, c2⟩ := hC; go_simp <;> with_reducible rfl)
  have b0 := cdrew (Below.refl W0.heap.size W0)
  refine wpC_step 4 rfl (by kernel_rfl) (by kernel_rfl) (cls _ b0) (fun K hK => ?_)
  go_simp
  go_wp2_with ((go_at_call 24; go_must (refine (k1 _).mono ?_); rintro e w1 ⟨v1, rfl, hr1, hb1⟩))
  try (refine hK _ _ ?_; clear hK K)
  have b1 : Below W0.heap.size W0 w1 := cthen b0 hb1
  obtain ⟨ao1, cc1, rfl, hcc1, hcc2⟩ := (hr1).num
  refine wpC_take 8 (v := ?_) rfl (by kernel_rfl) (fun _ _ _ h => h) (by kernel_rfl) ?_ ?_; rotate_left; · (intro wC hC; obtain ⟨c0, c1, c2⟩ := hC; go_simp <;> with_reducible rfl)
  have RR := (b1.block (w.heap.size + 1) z1).trans row1
  have g0 := rowcell RR 0; have g1 := rowcell RR 1; have g2 := rowcell RR 2; have gf := rowfree RR; simp only [List.getElem?_toArray, List.getElem?_cons_zero, List.getElem?_cons_succ] at g0 g1 g2
  have yy : w.heap.size + 1 < w1.heap.size := Nat.lt_of_lt_of_le z1 b1.size
  refine wpC_step 9 rfl (by kernel_rfl) (by kernel_rfl) (cls _ b1) (fun K hK => ?_)
  go_simp
  try (refine hK _ _ ?_; clear hK K)
  refine wpC_done (by kernel_rfl) (⟨(far3 ne10).trans (cls _ b1).1, (far3 ne10).trans (cls _ b1).2.1, (far3 ne10).trans (cls _ b1).2.2⟩) ?_
  go_wp2
  refine bodyPost_ret (v := .agg #[.bool neg, .slice ao1 (dlen f) cc1, .int .i64 (s - 63)]) (by simp [results, Tryz.results10, go_sem, g0, g1, g2, gf, yy]) rfl (hQ.out _ _ ⟨_, rfl, ?_, ?_⟩)
  · exact (hr1).put3 RR _ _ _
  · exact cset3 (cthen (hB0) b1) (by omega)
theorem valof_other (k : Int) (neg : Bool) (s : Int) (f : Nat) (hk : k ≠ 1) (w : World) :
    Calls Tryz.prog 10 #[numV k neg s f] w fun e w' => e = .returned (.agg #[.bool false, .slice none 0 0, .int .i64 0]) ∧ Below w.heap.size w w' := by
  have d0 : (k == 1) = false := beq_eq_false_iff_ne.2 hk
  clear hk
  unfold numV
  refine cps fun Q hQ => ?_
  go_enter Tryz.func10, Tryz.ntmps10
  go_wp2
  refine bodyPost_ret (v := .agg #[.bool false, .slice none 0 0, .int .i64 0]) (by simp [results, Tryz.results10, go_sem]) rfl (hQ.out _ _ ⟨rfl, ?_⟩)
  exact cmore (cmore (Below.refl _ _) _) _
theorem vsign_any (neg : Bool) (v : Value) (M : Nat) (E : Int) (w : World) (hr : Row w v (dig M)) :
    Calls Tryz.prog 11 #[.agg #[.bool neg, v, .int .i64 E]] w fun e w' => e = .returned (.int .i64 (if M = 0 then 0 else if neg then -1 else 1)) ∧ Below w.heap.size w w' := by
  obtain ⟨ao, c, rfl, h1, h2⟩ := hr.num
  have hd : (M = 0 ∧ dlen M = 0) ∨ (M ≠ 0 ∧ ((dlen M : Int) == 0) = false) := by
    by_cases h : M = 0
    · exact .inl ⟨h, dlen_eq_zero.2 h⟩
    · exact .inr ⟨h, beq_eq_false_iff_ne.2 (fun c => h (dlen_eq_zero.1 (by omega)))⟩
  clear hr h1 h2
  refine cps fun Q hQ => ?_
  rcases hd with ⟨h, hd⟩ | ⟨h, hd⟩
  · rw [if_pos h] at hQ
    rw [hd]
    clear h hd
    go_enter Tryz.func11, Tryz.ntmps11
    go_wp2
    exact hQ.out _ _ ⟨rfl, cmore (Below.refl _ _) _⟩
  · rw [if_neg h] at hQ
    generalize dlen M = d at *
    clear h
    cases neg
    · rw [if_neg (by decide)] at hQ
      go_enter Tryz.func11, Tryz.ntmps11
      go_wp2
      exact hQ.out _ _ ⟨rfl, cmore (Below.refl _ _) _⟩
    · rw [if_pos rfl] at hQ
      go_enter Tryz.func11, Tryz.ntmps11
      go_wp2
      exact hQ.out _ _ ⟨rfl, cmore (Below.refl _ _) _⟩
theorem pick_any (op : Int) (h : (Lit.int .i64 op).wf = true) (w : World) : ∃ r : Int, 0 ≤ r ∧ r < 6 ∧ ∀ w, Calls Tryz.prog 4 #[.int .i64 op, .int .i64 6] w fun e w' => e = .returned (.int .i64 r) ∧ w' = w := by
  have hb := bounds_i64 h
  by_cases h0 : op < 0
  · refine ⟨(-(op + 1)) % 6, by omega, by omega, fun w => ?_⟩
    have d0 : decide (op < 0) = true := decide_eq_true h0
    have e1 : IntKind.i64.wrap (op + 1) = op + 1 := wrapI (by omega)
    have e2 : IntKind.i64.wrap (-(op + 1)) = -(op + 1) := wrapI (by omega)
    have e2' : wrap64 (-(op + 1)) = -(op + 1) := by unfold wrap64; omega
    have e3 : (-(op + 1)).tmod 6 = (-(op + 1)) % 6 := Int.tmod_eq_emod_of_nonneg (by omega)
    have e4 : IntKind.i64.wrap ((-(op + 1)) % 6) = (-(op + 1)) % 6 := wrapI (by omega)
    generalize hx : -(op + 1) = x at *
    generalize hr : x % 6 = r at *
    clear h0 hb h hr
    refine cps fun Q hQ => ?_
    go_enter Tryz.func4, Tryz.ntmps4
    go_wp2
    all_goals exact hQ.out _ _ ⟨rfl, rfl⟩
  · refine ⟨op % 6, by omega, by omega, fun w => ?_⟩
    have d0 : decide (op < 0) = false := decide_eq_false h0
    have e3 : op.tmod 6 = op % 6 := Int.tmod_eq_emod_of_nonneg (by omega)
    have e4 : IntKind.i64.wrap (op % 6) = op % 6 := wrapI (by omega)
    generalize hr : op % 6 = r at *
    clear h0 hb h hr
    refine cps fun Q hQ => ?_
    go_enter Tryz.func4, Tryz.ntmps4
    go_wp2
    all_goals exact hQ.out _ _ ⟨rfl, rfl⟩
theorem vdown_ge (n1 : Bool) (v1 : Value) (N1 : Nat) (e1 : Int) (n2 : Bool) (v2 : Value) (N2 : Nat) (e2 : Int) (w : World) (hr1 : Row w v1 (dig N1)) (hr2 : Row w v2 (dig N2)) (hM1 : dlen N1 ≤ 549755813888) (hM2 : dlen N2 ≤ 549755813888) (he1 : -100000 ≤ e1 ∧ e1 ≤ 100000) (he2 : -100000 ≤ e2 ∧ e2 ≤ 100000) (d : Nat) (hd : e1 = e2 + d) :
    Calls Tryz.prog 42 #[.agg #[.bool n1, v1, .int .i64 e1], .agg #[.bool n2, v2, .int .i64 e2]] w fun e w' => ∃ va vb, e = .returned (.tuple #[va, vb, .int .i64 e2]) ∧ Row w' va (dig (N1 * 2 ^ d)) ∧ Row w' vb (dig N2) ∧ Below w.heap.size w w' := by
  obtain ⟨ao1, c1, rfl, h11, h12⟩ := hr1.num
  obtain ⟨ao2, c2, rfl, h21, h22⟩ := hr2.num
  have k1 := fun v w hr => nshl_any v N1 d (by omega) (Nat.le_trans hM1 (by decide)) w hr
  have w1 : IntKind.i64.wrap (e1 - e2) = (d : Int) := by rw [wrapI (by omega)]; omega
  have w2 : e1 - e2 = (d : Int) := by omega
  have w3 : IntKind.i64.wrap (d : Int) = (d : Int) := wrapI (by omega)
  have dg : decide (e2 ≤ e1) = true := decide_eq_true (by omega)
  clear hd hM1 hM2 he1 he2 h11 h12 h21 h22
  refine cps fun Q hQ => ?_
  go_enter Tryz.func42, Tryz.ntmps42
  go_upto_region 2 with fail
  obtain ⟨W0, hW0⟩ : ∃ W0, W0 = ((w.alloc (.cells #[.bool n1, .slice ao1 (dlen N1) c1, .int .i64 e1] 36)).alloc (.cells #[.bool n2, .slice ao2 (dlen N2) c2, .int .i64 e2] 36)) := ⟨_, rfl⟩
  have row0 : W0.heap[w.heap.size]? = some (.cells #[.bool n1, .slice ao1 (dlen N1) c1, .int .i64 e1] 36 (0, 0)) := by rw [hW0]; exact (Below.heap_alloc _ _ _ (by simp)).trans (rownew _ _ _)
  have row1 : W0.heap[w.heap.size + 1]? = some (.cells #[.bool n2, .slice ao2 (dlen N2) c2, .int .i64 e2] 36 (0, 0)) := by rw [hW0]; exact rownew' _ _ _ _ (by simp)
  have z0 : w.heap.size < W0.heap.size := by rw [hW0]; first | (simp; done) | (simp; omega)
  have z1 : w.heap.size + 1 < W0.heap.size := by rw [hW0]; first | (simp; done) | (simp; omega)
  have hB0 : Below w.heap.size w W0 := by rw [hW0]; exact cmore (cmore (Below.refl _ _) _) _
  have hv1 := hr1.below hB0
  have hv2 := hr2.below hB0
  rw [← hW0]
  clear hW0
  have cls : ∀ W, Below W0.heap.size W0 W → W.cell? ⟨w.heap.size, 1, none⟩ = some (.slice ao1 (dlen N1) c1) ∧ W.cell? ⟨w.heap.size, 2, none⟩ = some (.int .i64 e1) ∧ W.cell? ⟨w.heap.size + 1, 1, none⟩ = some (.slice ao2 (dlen N2) c2) ∧ W.cell? ⟨w.heap.size + 1, 2, none⟩ = some (.int .i64 e2) := fun W hW => ⟨((hW.cell (p := ⟨w.heap.size, 1, none⟩) z0).trans (rowcell row0 1)), ((hW.cell (p := ⟨w.heap.size, 2, none⟩) z0).trans (rowcell row0 2)), ((hW.cell (p := ⟨w.heap.size + 1, 1, none⟩) z1).trans (rowcell row1 1)), ((hW.cell (p := ⟨w.heap.size + 1, 2, none⟩) z1).trans (rowcell row1 2))⟩
  refine wpC_region (fun W => W.cell? ⟨w.heap.size, 1, none⟩ = some (.slice ao1 (dlen N1) c1) ∧ W.cell? ⟨w.heap.size, 2, none⟩ = some (.int .i64 e1) ∧ W.cell? ⟨w.heap.size + 1, 1, none⟩ = some (.slice ao2 (dlen N2) c2) ∧ W.cell? ⟨w.heap.size + 1, 2, none⟩ = some (.int .i64 e2)) (by kernel_rfl) ?_
  refine wpC_take 0 (v := ?_) rfl (by kernel_rfl) (fun _ _ _ h => h) (by kernel_rfl) ?_ ?_; rotate_left; · (intro wC hC; obtain ⟨p1, p2, p3, p4⟩ := hC; go_simp <;> with_reducible rfl)
  refine wpC_take 1 (v := ?_) rfl (by kernel_rfl) (fun _ _ _ h => h) (by kernel_rfl) ?_ ?_; rotate_left; · (intro wC hC; obtain ⟨p1, p2, p3, p4⟩ := hC; go_simp <;> with_reducible rfl)
  refine wpC_take 2 (v := ?_) rfl (by kernel_rfl) (fun _ _ _ h => h) (by kernel_rfl) ?_ ?_; rotate_left; · (intro wC hC; obtain ⟨p1, p2, p3, p4⟩ := hC; go_simp <;> with_reducible rfl)
  refine wpC_take 3 (v := ?_) rfl (by kernel_rfl) (fun _ _ _ h => h) (by kernel_rfl) ?_ ?_; rotate_left; · (intro wC hC; obtain ⟨p1, p2, p3, p4⟩ := hC; go_simp <;> with_reducible rfl)
  refine wpC_take 4 (v := ?_) rfl (by kernel_rfl) (fun _ _ _ h => h) (by kernel_rfl) ?_ ?_; rotate_left; · (intro wC hC; obtain ⟨p1, p2, p3, p4⟩ := hC; go_simp <;> with_reducible rfl)
  refine wpC_take 5 (v := ?_) rfl (by kernel_rfl) (fun _ _ _ h => h) (by kernel_rfl) ?_ ?_; rotate_left; · (intro wC hC; obtain ⟨p1, p2, p3, p4⟩ := hC; go_simp <;> with_reducible rfl)
  refine wpC_take 6 (v := ?_) rfl (by kernel_rfl) (fun _ _ _ h => h) (by kernel_rfl) ?_ ?_; rotate_left; · (intro wC hC; obtain ⟨p1, p2, p3, p4⟩ := hC; go_simp <;> with_reducible rfl)
  refine wpC_take 8 (v := ?_) rfl (by kernel_rfl) (fun _ _ _ h => h) (by kernel_rfl) ?_ ?_; rotate_left; · (intro wC hC; obtain ⟨p1, p2, p3, p4⟩ := hC; go_simp <;> with_reducible rfl)
  refine wpC_take 9 (v := ?_) rfl (by kernel_rfl) (fun _ _ _ h => h) (by kernel_rfl) ?_ ?_; rotate_left; · (intro wC hC; obtain ⟨p1, p2, p3, p4⟩ := hC; go_simp <;> with_reducible rfl)
  refine wpC_take 10 (v := ?_) rfl (by kernel_rfl) (fun _ _ _ h => h) (by kernel_rfl) ?_ ?_; rotate_left; · (intro wC hC; obtain ⟨p1, p2, p3, p4⟩ := hC; go_simp <;> with_reducible rfl)
  refine wpC_take 11 (v := ?_) rfl (by kernel_rfl) (fun _ _ _ h => h) (by kernel_rfl) ?_ ?_; rotate_left; · (intro wC hC; obtain ⟨p1, p2, p3, p4⟩ := hC; go_simp <;> with_reducible rfl)
  have b0 := cdrew (Below.refl W0.heap.size W0)
  refine wpC_step 7 rfl (by kernel_rfl) (by kernel_rfl) (cls _ b0) (fun K hK => ?_)
  go_simp
  go_wp2_with ((go_at_call 29; go_must (refine (k1 _ _ (hv1.below b0)).mono ?_); rintro e wx ⟨v3, rfl, hr3, hb3⟩))
  try (refine hK _ _ ?_; clear hK K)
  have b1 : Below W0.heap.size W0 wx := cthen b0 hb3
  refine wpC_take 12 (v := ?_) rfl (by kernel_rfl) (fun _ _ _ h => h) (by kernel_rfl) ?_ ?_; rotate_left; · (intro wC hC; obtain ⟨p1, p2, p3, p4⟩ := hC; go_simp <;> with_reducible rfl)
  refine wpC_take 13 (v := ?_) rfl (by kernel_rfl) (fun _ _ _ h => h) (by kernel_rfl) ?_ ?_; rotate_left; · (intro wC hC; obtain ⟨p1, p2, p3, p4⟩ := hC; go_simp <;> with_reducible rfl)
  refine wpC_take 14 (v := ?_) rfl (by kernel_rfl) (fun _ _ _ h => h) (by kernel_rfl) ?_ ?_; rotate_left; · (intro wC hC; obtain ⟨p1, p2, p3, p4⟩ := hC; go_simp <;> with_reducible rfl)
  refine wpC_done (by kernel_rfl) (cls _ b1) ?_
  go_wp2
  refine bodyPost_ret (v := .tuple #[v3, .slice ao2 (dlen N2) c2, .int .i64 e2]) (by simp [results, Tryz.results42, go_sem]) rfl (hQ.out _ _ ⟨_, _, rfl, hr3, hv2.below b1, cthen hB0 b1⟩)
theorem vdown_lt (n1 : Bool) (v1 : Value) (N1 : Nat) (e1 : Int) (n2 : Bool) (v2 : Value) (N2 : Nat) (e2 : Int) (w : World) (hr1 : Row w v1 (dig N1)) (hr2 : Row w v2 (dig N2)) (hM1 : dlen N1 ≤ 549755813888) (hM2 : dlen N2 ≤ 549755813888) (he1 : -100000 ≤ e1 ∧ e1 ≤ 100000) (he2 : -100000 ≤ e2 ∧ e2 ≤ 100000) (d : Nat) (hd : e2 = e1 + d) (h0 : e1 < e2) :
    Calls Tryz.prog 42 #[.agg #[.bool n1, v1, .int .i64 e1], .agg #[.bool n2, v2, .int .i64 e2]] w fun e w' => ∃ va vb, e = .returned (.tuple #[va, vb, .int .i64 e1]) ∧ Row w' va (dig N1) ∧ Row w' vb (dig (N2 * 2 ^ d)) ∧ Below w.heap.size w w' := by
  obtain ⟨ao1, c1, rfl, h11, h12⟩ := hr1.num
  obtain ⟨ao2, c2, rfl, h21, h22⟩ := hr2.num
  have k1 := fun v w hr => nshl_any v N2 d (by omega) (Nat.le_trans hM2 (by decide)) w hr
  have w1 : IntKind.i64.wrap (e2 - e1) = (d : Int) := by rw [wrapI (by omega)]; omega
  have w2 : e2 - e1 = (d : Int) := by omega
  have w3 : IntKind.i64.wrap (d : Int) = (d : Int) := wrapI (by omega)
  have dg : decide (e2 ≤ e1) = false := decide_eq_false (by omega)
  clear hd hM1 hM2 he1 he2 h11 h12 h21 h22 h0
  refine cps fun Q hQ => ?_
  go_enter Tryz.func42, Tryz.ntmps42
  go_upto_region 3 with fail
  obtain ⟨W0, hW0⟩ : ∃ W0, W0 = ((w.alloc (.cells #[.bool n1, .slice ao1 (dlen N1) c1, .int .i64 e1] 36)).alloc (.cells #[.bool n2, .slice ao2 (dlen N2) c2, .int .i64 e2] 36)) := ⟨_, rfl⟩
  have row0 : W0.heap[w.heap.size]? = some (.cells #[.bool n1, .slice ao1 (dlen N1) c1, .int .i64 e1] 36 (0, 0)) := by rw [hW0]; exact (Below.heap_alloc _ _ _ (by simp)).trans (rownew _ _ _)
  have row1 : W0.heap[w.heap.size + 1]? = some (.cells #[.bool n2, .slice ao2 (dlen N2) c2, .int .i64 e2] 36 (0, 0)) := by rw [hW0]; exact rownew' _ _ _ _ (by simp)
  have z0 : w.heap.size < W0.heap.size := by rw [hW0]; first | (simp; done) | (simp; omega)
  have z1 : w.heap.size + 1 < W0.heap.size := by rw [hW0]; first | (simp; done) | (simp; omega)
  have hB0 : Below w.heap.size w W0 := by rw [hW0]; exact cmore (cmore (Below.refl _ _) _) _
  have hv1 := hr1.below hB0
  have hv2 := hr2.below hB0
  rw [← hW0]
  clear hW0
  have cls : ∀ W, Below W0.heap.size W0 W → W.cell? ⟨w.heap.size, 1, none⟩ = some (.slice ao1 (dlen N1) c1) ∧ W.cell? ⟨w.heap.size, 2, none⟩ = some (.int .i64 e1) ∧ W.cell? ⟨w.heap.size + 1, 1, none⟩ = some (.slice ao2 (dlen N2) c2) ∧ W.cell? ⟨w.heap.size + 1, 2, none⟩ = some (.int .i64 e2) := fun W hW => ⟨((hW.cell (p := ⟨w.heap.size, 1, none⟩) z0).trans (rowcell row0 1)), ((hW.cell (p := ⟨w.heap.size, 2, none⟩) z0).trans (rowcell row0 2)), ((hW.cell (p := ⟨w.heap.size + 1, 1, none⟩) z1).trans (rowcell row1 1)), ((hW.cell (p := ⟨w.heap.size + 1, 2, none⟩) z1).trans (rowcell row1 2))⟩
  refine wpC_region (fun W => W.cell? ⟨w.heap.size, 1, none⟩ = some (.slice ao1 (dlen N1) c1) ∧ W.cell? ⟨w.heap.size, 2, none⟩ = some (.int .i64 e1) ∧ W.cell? ⟨w.heap.size + 1, 1, none⟩ = some (.slice ao2 (dlen N2) c2) ∧ W.cell? ⟨w.heap.size + 1, 2, none⟩ = some (.int .i64 e2)) (by kernel_rfl) ?_
  refine wpC_take 0 (v := ?_) rfl (by kernel_rfl) (fun _ _ _ h => h) (by kernel_rfl) ?_ ?_; rotate_left; · (intro wC hC; obtain ⟨p1, p2, p3, p4⟩ := hC; go_simp <;> with_reducible rfl)
  refine wpC_take 1 (v := ?_) rfl (by kernel_rfl) (fun _ _ _ h => h) (by kernel_rfl) ?_ ?_; rotate_left; · (intro wC hC; obtain ⟨p1, p2, p3, p4⟩ := hC; go_simp <;> with_reducible rfl)
  refine wpC_take 2 (v := ?_) rfl (by kernel_rfl) (fun _ _ _ h => h) (by kernel_rfl) ?_ ?_; rotate_left; · (intro wC hC; obtain ⟨p1, p2, p3, p4⟩ := hC; go_simp <;> with_reducible rfl)
  refine wpC_take 3 (v := ?_) rfl (by kernel_rfl) (fun _ _ _ h => h) (by kernel_rfl) ?_ ?_; rotate_left; · (intro wC hC; obtain ⟨p1, p2, p3, p4⟩ := hC; go_simp <;> with_reducible rfl)
  refine wpC_take 4 (v := ?_) rfl (by kernel_rfl) (fun _ _ _ h => h) (by kernel_rfl) ?_ ?_; rotate_left; · (intro wC hC; obtain ⟨p1, p2, p3, p4⟩ := hC; go_simp <;> with_reducible rfl)
  refine wpC_take 5 (v := ?_) rfl (by kernel_rfl) (fun _ _ _ h => h) (by kernel_rfl) ?_ ?_; rotate_left; · (intro wC hC; obtain ⟨p1, p2, p3, p4⟩ := hC; go_simp <;> with_reducible rfl)
  refine wpC_take 6 (v := ?_) rfl (by kernel_rfl) (fun _ _ _ h => h) (by kernel_rfl) ?_ ?_; rotate_left; · (intro wC hC; obtain ⟨p1, p2, p3, p4⟩ := hC; go_simp <;> with_reducible rfl)
  refine wpC_take 7 (v := ?_) rfl (by kernel_rfl) (fun _ _ _ h => h) (by kernel_rfl) ?_ ?_; rotate_left; · (intro wC hC; obtain ⟨p1, p2, p3, p4⟩ := hC; go_simp <;> with_reducible rfl)
  refine wpC_take 8 (v := ?_) rfl (by kernel_rfl) (fun _ _ _ h => h) (by kernel_rfl) ?_ ?_; rotate_left; · (intro wC hC; obtain ⟨p1, p2, p3, p4⟩ := hC; go_simp <;> with_reducible rfl)
  refine wpC_take 10 (v := ?_) rfl (by kernel_rfl) (fun _ _ _ h => h) (by kernel_rfl) ?_ ?_; rotate_left; · (intro wC hC; obtain ⟨p1, p2, p3, p4⟩ := hC; go_simp <;> with_reducible rfl)
  refine wpC_take 11 (v := ?_) rfl (by kernel_rfl) (fun _ _ _ h => h) (by kernel_rfl) ?_ ?_; rotate_left; · (intro wC hC; obtain ⟨p1, p2, p3, p4⟩ := hC; go_simp <;> with_reducible rfl)
  have b0 := cdrew (Below.refl W0.heap.size W0)
  refine wpC_step 9 rfl (by kernel_rfl) (by kernel_rfl) (cls _ b0) (fun K hK => ?_)
  go_simp
  go_wp2_with ((go_at_call 29; go_must (refine (k1 _ _ (hv2.below b0)).mono ?_); rintro e wx ⟨v3, rfl, hr3, hb3⟩))
  try (refine hK _ _ ?_; clear hK K)
  have b1 : Below W0.heap.size W0 wx := cthen b0 hb3
  refine wpC_take 12 (v := ?_) rfl (by kernel_rfl) (fun _ _ _ h => h) (by kernel_rfl) ?_ ?_; rotate_left; · (intro wC hC; obtain ⟨p1, p2, p3, p4⟩ := hC; go_simp <;> with_reducible rfl)
  refine wpC_take 13 (v := ?_) rfl (by kernel_rfl) (fun _ _ _ h => h) (by kernel_rfl) ?_ ?_; rotate_left; · (intro wC hC; obtain ⟨p1, p2, p3, p4⟩ := hC; go_simp <;> with_reducible rfl)
  refine wpC_take 14 (v := ?_) rfl (by kernel_rfl) (fun _ _ _ h => h) (by kernel_rfl) ?_ ?_; rotate_left; · (intro wC hC; obtain ⟨p1, p2, p3, p4⟩ := hC; go_simp <;> with_reducible rfl)
  refine wpC_done (by kernel_rfl) (cls _ b1) ?_
  go_wp2
  refine bodyPost_ret (v := .tuple #[.slice ao1 (dlen N1) c1, v3, .int .i64 e1]) (by simp [results, Tryz.results42, go_sem]) rfl (hQ.out _ _ ⟨_, _, rfl, hv1.below b1, hr3, cthen hB0 b1⟩)
set_option maxHeartbeats 1000000 in
theorem vtimes_any (n1 : Bool) (v1 : Value) (N1 : Nat) (e1 : Int) (n2 : Bool) (v2 : Value) (N2 : Nat) (e2 : Int) (w : World) (hr1 : Row w v1 (dig N1)) (hr2 : Row w v2 (dig N2)) (hM1 : dlen N1 ≤ 549755813888) (hM2 : dlen N2 ≤ 549755813888) (he1 : -100000 ≤ e1 ∧ e1 ≤ 100000) (he2 : -100000 ≤ e2 ∧ e2 ≤ 100000) :
    Calls Tryz.prog 23 #[.agg #[.bool n1, v1, .int .i64 e1], .agg #[.bool n2, v2, .int .i64 e2]] w fun e w' => ∃ v, e = .returned (.agg #[.bool (xorB n1 n2), v, .int .i64 (e1 + e2)]) ∧ Row w' v (dig (N1 * N2)) ∧ Below w.heap.size w w' := by
  obtain ⟨ao1, c1, rfl, h11, h12⟩ := hr1.num
  obtain ⟨ao2, c2, rfl, h21, h22⟩ := hr2.num
  have k1 := fun va vb w ha hb => nmul_any va vb N1 N2 (Nat.le_trans hM1 (by decide)) (Nat.le_trans hM2 (by decide)) w ha hb
  have e0 : IntKind.i64.wrap (e1 + e2) = e1 + e2 := wrapI (by omega)
  obtain ⟨xb, hxb⟩ : ∃ xb, xorB n1 n2 = xb := ⟨_, rfl⟩
  have x1 : (n1 != n2) = xb := by rw [← hxb]; cases n1 <;> cases n2 <;> rfl
  have x2 : (!(n1 == n2)) = xb := by rw [← hxb]; cases n1 <;> cases n2 <;> rfl
  have x3 : (!decide (n1 = n2)) = xb := by rw [← hxb]; cases n1 <;> cases n2 <;> rfl
  rw [hxb]
  clear hxb hM1 hM2 he1 he2 h11 h12 h21 h22
  refine cps fun Q hQ => ?_
  go_enter Tryz.func23, Tryz.ntmps23
  go_upto_region 1 with fail
  obtain ⟨W0, hW0⟩ : ∃ W0, W0 = (((w.alloc (.cells #[.bool n1, .slice ao1 (dlen N1) c1, .int .i64 e1] 36)).alloc (.cells #[.bool n2, .slice ao2 (dlen N2) c2, .int .i64 e2] 36)).alloc (.cells #[.bool false, .slice none 0 0, .int .i64 0] 36)) := ⟨_, rfl⟩
  have row0 : W0.heap[w.heap.size]? = some (.cells #[.bool n1, .slice ao1 (dlen N1) c1, .int .i64 e1] 36 (0, 0)) := by rw [hW0]; exact (Below.heap_alloc _ _ _ (by simp; omega)).trans ((Below.heap_alloc _ _ _ (by simp)).trans (rownew _ _ _))
  have row1 : W0.heap[w.heap.size + 1]? = some (.cells #[.bool n2, .slice ao2 (dlen N2) c2, .int .i64 e2] 36 (0, 0)) := by rw [hW0]; exact (Below.heap_alloc _ _ _ (by simp)).trans (rownew' _ _ _ _ (by simp))
  have z0 : w.heap.size < W0.heap.size := by rw [hW0]; first | (simp; done) | (simp; omega)
  have z1 : w.heap.size + 1 < W0.heap.size := by rw [hW0]; first | (simp; done) | (simp; omega)
  have hB0 : Below w.heap.size w W0 := by rw [hW0]; exact cmore (cmore (cmore (Below.refl _ _) _) _) _
  have row2 : W0.heap[w.heap.size + 1 + 1]? = some (.cells #[.bool false, .slice none 0 0, .int .i64 0] 36 (0, 0)) := by rw [hW0]; exact rownew' _ _ _ _ (by simp)
  have z2 : w.heap.size + 1 + 1 < W0.heap.size := by rw [hW0]; simp
  have ne20 : w.heap.size + 1 + 1 ≠ w.heap.size := by omega
  have ne21 : w.heap.size + 1 + 1 ≠ w.heap.size + 1 := by omega
  have hv1 := hr1.below hB0
  have hv2 := hr2.below hB0
  rw [← hW0]
  clear hW0
  have cls : ∀ W, Below W0.heap.size W0 W → W.cell? ⟨w.heap.size, 0, none⟩ = some (.bool n1) ∧ W.cell? ⟨w.heap.size, 1, none⟩ = some (.slice ao1 (dlen N1) c1) ∧ W.cell? ⟨w.heap.size, 2, none⟩ = some (.int .i64 e1) ∧ W.cell? ⟨w.heap.size + 1, 0, none⟩ = some (.bool n2) ∧ W.cell? ⟨w.heap.size + 1, 1, none⟩ = some (.slice ao2 (dlen N2) c2) ∧ W.cell? ⟨w.heap.size + 1, 2, none⟩ = some (.int .i64 e2) := fun W hW => ⟨((hW.cell (p := ⟨w.heap.size, 0, none⟩) z0).trans (rowcell row0 0)), ((hW.cell (p := ⟨w.heap.size, 1, none⟩) z0).trans (rowcell row0 1)), ((hW.cell (p := ⟨w.heap.size, 2, none⟩) z0).trans (rowcell row0 2)), ((hW.cell (p := ⟨w.heap.size + 1, 0, none⟩) z1).trans (rowcell row1 0)), ((hW.cell (p := ⟨w.heap.size + 1, 1, none⟩) z1).trans (rowcell row1 1)), ((hW.cell (p := ⟨w.heap.size + 1, 2, none⟩) z1).trans (rowcell row1 2))⟩
  refine wpC_region (fun W => W.cell? ⟨w.heap.size, 0, none⟩ = some (.bool n1) ∧ W.cell? ⟨w.heap.size, 1, none⟩ = some (.slice ao1 (dlen N1) c1) ∧ W.cell? ⟨w.heap.size, 2, none⟩ = some (.int .i64 e1) ∧ W.cell? ⟨w.heap.size + 1, 0, none⟩ = some (.bool n2) ∧ W.cell? ⟨w.heap.size + 1, 1, none⟩ = some (.slice ao2 (dlen N2) c2) ∧ W.cell? ⟨w.heap.size + 1, 2, none⟩ = some (.int .i64 e2)) (by kernel_rfl) ?_
  refine wpC_take 0 (v := ?_) rfl (by kernel_rfl) (fun _ _ _ h => h) (by kernel_rfl) ?_ ?_; rotate_left; · (intro wC hC; obtain ⟨c0, c1, c2, c3, c4, c5⟩ := hC; go_simp <;> with_reducible rfl)
  refine wpC_take 1 (v := ?_) rfl (by kernel_rfl) (fun _ _ _ h => h) (by kernel_rfl) ?_ ?_; rotate_left; · (intro wC hC; obtain ⟨c0, c1, c2, c3, c4, c5⟩ := hC; go_simp <;> with_reducible rfl)
  refine wpC_take 2 (v := ?_) rfl (by kernel_rfl) (fun _ _ _ h => h) (by kernel_rfl) ?_ ?_; rotate_left; · (intro wC hC; obtain ⟨c0, c1, c2, c3, c4, c5⟩ := hC; go_simp <;> with_reducible rfl)
  refine wpC_take 3 (v := ?_) rfl (by kernel_rfl) (fun _ _ _ h => h) (by kernel_rfl) ?_ ?_; rotate_left; · (intro wC hC; obtain ⟨c0, c1, c2, c3, c4, c5⟩ := hC; go_simp <;> with_reducible rfl)
  refine wpC_take 4 (v := ?_) rfl (by kernel_rfl) (fun _ _ _ h => h) (by kernel_rfl) ?_ ?_; rotate_left; · (intro wC hC; obtain ⟨c0, c1, c2, c3, c4, c5⟩ := hC; go_simp <;> with_reducible rfl)
  refine wpC_take 5 (v := ?_) rfl (by kernel_rfl) (fun _ _ _ h => h) (by kernel_rfl) ?_ ?_; rotate_left; · (intro wC hC; obtain ⟨c0, c1, c2, c3, c4, c5⟩ := hC; go_simp <;> with_reducible rfl)
  refine wpC_take 6 (v := ?_) rfl (by kernel_rfl) (fun _ _ _ h => h) (by kernel_rfl) ?_ ?_; rotate_left; · (intro wC hC; obtain ⟨c0, c1, c2, c3, c4, c5⟩ := hC; go_simp <;> with_reducible rfl)
  refine wpC_take 7 (v := ?_) rfl (by kernel_rfl) (fun _ _ _ h => h) (by kernel_rfl) ?_ ?_; rotate_left; · (intro wC hC; obtain ⟨c0, c1, c2, c3, c4, c5⟩ := hC; go_simp <;> with_reducible rfl)
  refine wpC_take 8 (v := ?_) rfl (by kernel_rfl) (fun _ _ _ h => h) (by kernel_rfl) ?_ ?_; rotate_left; · (intro wC hC; obtain ⟨c0, c1, c2, c3, c4, c5⟩ := hC; go_simp <;> with_reducible rfl)
  refine wpC_take 10 (v := ?_) rfl (by kernel_rfl) (fun _ _ _ h => h) (by kernel_rfl) ?_ ?_; rotate_left; · (intro wC hC; obtain ⟨c0, c1, c2, c3, c4, c5⟩ := hC; go_simp <;> with_reducible rfl)
  refine wpC_take 11 (v := ?_) rfl (by kernel_rfl) (fun _ _ _ h => h) (by kernel_rfl) ?_ ?_; rotate_left; · (intro wC hC; obtain ⟨c0, c1, c2, c3, c4, c5⟩ := hC; go_simp <;> with_reducible rfl)
  refine wpC_take 12 (v := ?_) rfl (by kernel_rfl) (fun _ _ _ h => h) (by kernel_rfl) ?_ ?_; rotate_left; · (intro wC hC; obtain ⟨c0, c1, c2, c3, c4, c5⟩ := hC; go_simp <;> with_reducible rfl)
  refine wpC_take 13 (v := ?_) rfl (by kernel_rfl) (fun _ _ _ h => h) (by kernel_rfl) ?_ ?_; rotate_left; · (intro wC hC; obtain ⟨c0, c1, c2, c3, c4, c5⟩ := hC; go_simp <;> with_reducible rfl)
  refine wpC_take 14 (v := ?_) rfl (by kernel_rfl) (fun _ _ _ h => h) (by kernel_rfl) ?_ ?_; rotate_left; · (intro wC hC; obtain ⟨c0, c1, c2, c3, c4, c5⟩ := hC; go_simp <;> with_reducible rfl)
  have b0 := cdrew (Below.refl W0.heap.size W0)
  refine wpC_step 9 rfl (by kernel_rfl) (by kernel_rfl) (cls _ b0) (fun K hK => ?_)
  go_simp
  go_wp2_with ((go_at_call 45; go_must (refine (k1 _ _ _ (hv1.below b0) (hv2.below b0)).mono ?_); rintro e wx ⟨v3, rfl, hr3, hb3⟩))
  try (refine hK _ _ ?_; clear hK K)
  have b1 : Below W0.heap.size W0 wx := cthen b0 hb3
  obtain ⟨ao1', cc1, rfl, hcc1, hcc2⟩ := (hr3).num
  refine wpC_take 15 (v := ?_) rfl (by kernel_rfl) (fun _ _ _ h => h) (by kernel_rfl) ?_ ?_; rotate_left; · (intro wC hC; obtain ⟨c0, c1, c2, c3, c4, c5⟩ := hC; go_simp <;> with_reducible rfl)
  have RR := (b1.block (w.heap.size + 1 + 1) z2).trans row2
  have g0 := rowcell RR 0; have g1 := rowcell RR 1; have g2 := rowcell RR 2; have gf := rowfree RR; simp only [List.getElem?_toArray, List.getElem?_cons_zero, List.getElem?_cons_succ] at g0 g1 g2
  have yy : w.heap.size + 1 + 1 < wx.heap.size := Nat.lt_of_lt_of_le z2 b1.size
  refine wpC_step 16 rfl (by kernel_rfl) (by kernel_rfl) (cls _ b1) (fun K hK => ?_)
  go_simp
  try (refine hK _ _ ?_; clear hK K)
  refine wpC_done (by kernel_rfl) (⟨(far3 ne20).trans (cls _ b1).1, (far3 ne20).trans (cls _ b1).2.1, (far3 ne20).trans (cls _ b1).2.2.1, (far3 ne21).trans (cls _ b1).2.2.2.1, (far3 ne21).trans (cls _ b1).2.2.2.2.1, (far3 ne21).trans (cls _ b1).2.2.2.2.2⟩) ?_
  go_wp2
  refine bodyPost_ret (v := .agg #[.bool xb, .slice ao1' (dlen (N1 * N2)) cc1, .int .i64 (e1 + e2)]) (by simp [results, Tryz.results23, go_sem, g0, g1, g2, gf, yy]) rfl (hQ.out _ _ ⟨_, rfl, ?_, ?_⟩)
  · exact (hr3).put3 RR _ _ _
  · exact cset3 (cthen (hB0) b1) (by omega)
theorem vsize_of (n1 : Bool) (v1 : Value) (N1 : Nat) (e1 : Int) (n2 : Bool) (v2 : Value) (N2 : Nat) (e2 : Int) (w : World) (A B : Nat) (E : Int) (hr1 : Row w v1 (dig N1)) (hr2 : Row w v2 (dig N2))
    (kd : ∀ w, Row w v1 (dig N1) → Row w v2 (dig N2) → Calls Tryz.prog 42 #[.agg #[.bool n1, v1, .int .i64 e1], .agg #[.bool n2, v2, .int .i64 e2]] w fun e w' => ∃ va vb, e = .returned (.tuple #[va, vb, .int .i64 E]) ∧ Row w' va (dig A) ∧ Row w' vb (dig B) ∧ Below w.heap.size w w') :
    Calls Tryz.prog 26 #[.agg #[.bool n1, v1, .int .i64 e1], .agg #[.bool n2, v2, .int .i64 e2]] w fun e w' => e = .returned (.int .i64 (cmpN A B)) ∧ Below w.heap.size w w' := by
  obtain ⟨ao1, c1, rfl, h11, h12⟩ := hr1.num
  obtain ⟨ao2, c2, rfl, h21, h22⟩ := hr2.num
  have k2 := fun va vb w ha hb => ncmp_any va vb A B w ha hb
  generalize cmpN A B = cc at *
  have hB0 : Below w.heap.size w ((w.alloc (.cells #[.bool n1, .slice ao1 (dlen N1) c1, .int .i64 e1] 36)).alloc (.cells #[.bool n2, .slice ao2 (dlen N2) c2, .int .i64 e2] 36)) := cmore (cmore (Below.refl _ _) _) _
  have HV1 : Hid _ := hr1.below hB0
  have HV2 : Hid _ := hr2.below hB0
  clear hr1 hr2 h11 h12 h21 h22 hB0
  refine cps fun Q hQ => ?_
  go_enter Tryz.func26, Tryz.ntmps26
  go_wp2_with (first
    | (go_at_call 42; go_must (refine (kd _ HV1.out HV2.out).mono ?_); rintro e w1 ⟨va, vb, rfl, hra, hrb, hb1⟩; have HA : Hid (Row w1 va (dig A)) := hra; have HB : Hid (Row w1 vb (dig B)) := hrb; have HW : Hid (Below _ _ _) := hb1; clear hra hrb hb1)
    | (go_at_call 43; go_must (refine (k2 _ _ _ HA.out HB.out).mono ?_); rintro e w2 ⟨rfl, q, rfl⟩))
  exact hQ.out _ _ ⟨rfl, bdrewN' (cthen (cmore (cmore (Below.refl _ _) _) _) HW.out) _⟩
/-- which of two absolute values is the greater one -/
theorem vsize_any (n1 : Bool) (v1 : Value) (N1 : Nat) (e1 : Int) (n2 : Bool) (v2 : Value) (N2 : Nat) (e2 : Int) (w : World) (hr1 : Row w v1 (dig N1)) (hr2 : Row w v2 (dig N2)) (hM1 : dlen N1 ≤ 549755813888) (hM2 : dlen N2 ≤ 549755813888) (he1 : -100000 ≤ e1 ∧ e1 ≤ 100000) (he2 : -100000 ≤ e2 ∧ e2 ≤ 100000) :
    Calls Tryz.prog 26 #[.agg #[.bool n1, v1, .int .i64 e1], .agg #[.bool n2, v2, .int .i64 e2]] w fun e w' => e = .returned (.int .i64 (cmpN (N1 * 2 ^ (e1 - e2).toNat) (N2 * 2 ^ (e2 - e1).toNat))) ∧ Below w.heap.size w w' := by
  by_cases h : e2 ≤ e1
  · have hz : (e2 - e1).toNat = 0 := by omega
    rw [hz, Nat.pow_zero, Nat.mul_one]
    exact vsize_of n1 v1 N1 e1 n2 v2 N2 e2 w _ _ e2 hr1 hr2 (fun w a b => vdown_ge n1 v1 N1 e1 n2 v2 N2 e2 w a b hM1 hM2 he1 he2 _ (by omega))
  · have hz : (e1 - e2).toNat = 0 := by omega
    rw [hz, Nat.pow_zero, Nat.mul_one]
    exact vsize_of n1 v1 N1 e1 n2 v2 N2 e2 w _ _ e1 hr1 hr2 (fun w a b => vdown_lt n1 v1 N1 e1 n2 v2 N2 e2 w a b hM1 hM2 he1 he2 _ (by omega) (by omega))
set_option maxHeartbeats 1000000 in
theorem vplus_same (n1 : Bool) (v1 : Value) (N1 : Nat) (e1 : Int) (n2 : Bool) (v2 : Value) (N2 : Nat) (e2 : Int) (w : World) (A B : Nat) (E : Int) (hr1 : Row w v1 (dig N1)) (hr2 : Row w v2 (dig N2)) (hA : dlen A ≤ 549755813888) (hB : dlen B ≤ 549755813888) (hs : n1 = n2) (hAB : dlen (A + B) ≤ 1099511627776)
    (kd : ∀ w, Row w v1 (dig N1) → Row w v2 (dig N2) → Calls Tryz.prog 42 #[.agg #[.bool n1, v1, .int .i64 e1], .agg #[.bool n2, v2, .int .i64 e2]] w fun e w' => ∃ va vb, e = .returned (.tuple #[va, vb, .int .i64 E]) ∧ Row w' va (dig A) ∧ Row w' vb (dig B) ∧ Below w.heap.size w w') :
    Calls Tryz.prog 22 #[.agg #[.bool n1, v1, .int .i64 e1], .agg #[.bool n2, v2, .int .i64 e2]] w fun e w' => ∃ v, e = .returned (.agg #[.bool n1, v, .int .i64 E]) ∧ Row w' v (dig (A + B)) ∧ Below w.heap.size w w' := by
  obtain ⟨ao1, c1, rfl, h11, h12⟩ := hr1.num
  obtain ⟨ao2, c2, rfl, h21, h22⟩ := hr2.num
  have k1 := fun va vb w ha hb => nadd_any va vb A B hAB w ha hb
  have dn : (n1 == n2) = true := by rw [hs]; cases n2 <;> rfl
  clear hs
  have hB0 : Below w.heap.size w (((w.alloc (.cells #[.bool n1, .slice ao1 (dlen N1) c1, .int .i64 e1] 36)).alloc (.cells #[.bool n2, .slice ao2 (dlen N2) c2, .int .i64 e2] 36)).alloc (.cells #[.bool false, .slice none 0 0, .int .i64 0] 36)) := cmore (cmore (cmore (Below.refl _ _) _) _) _
  have HV1 : Hid _ := hr1.below hB0
  have HV2 : Hid _ := hr2.below hB0
  have HB0 : Hid _ := hB0
  clear hr1 hr2 h11 h12 h21 h22 hB0 hA hB
  refine cps fun Q hQ => ?_
  go_enter Tryz.func22, Tryz.ntmps22
  go_upto_region 3 with (first
    | (go_at_call 42; go_must (refine (kd _ HV1.out HV2.out).mono ?_); rintro e W0 ⟨va, vb, rfl, hra, hrb, hb1⟩; have HA : Hid (Row W0 va (dig A)) := hra; have HB : Hid (Row W0 vb (dig B)) := hrb; have R0 := (hb1.block w.heap.size (by first | (simp; done) | (simp; omega) | omega)).trans ((Below.heap_alloc _ _ _ (by first | (simp; done) | (simp; omega) | omega)).trans ((Below.heap_alloc _ _ _ (by first | (simp; done) | (simp; omega) | omega)).trans (rownew' _ _ _ _ (by simp)))); have R1 := (hb1.block (w.heap.size + 1) (by first | (simp; done) | (simp; omega) | omega)).trans ((Below.heap_alloc _ _ _ (by first | (simp; done) | (simp; omega) | omega)).trans (rownew' _ _ _ _ (by simp))); have R2 := (hb1.block (w.heap.size + 1 + 1) (by first | (simp; done) | (simp; omega) | omega)).trans (rownew' _ _ _ _ (by simp)); have q0 := rowcell R0 0; have q1 := rowcell R1 0; simp only [List.getElem?_toArray, List.getElem?_cons_zero, List.getElem?_cons_succ] at q0 q1; have HR0 : Hid _ := R0; have HR1 : Hid _ := R1; have HR2 : Hid _ := R2; have z0 : w.heap.size < W0.heap.size := rowlt R0; have z1 : w.heap.size + 1 < W0.heap.size := rowlt R1; have z2 : w.heap.size + 1 + 1 < W0.heap.size := rowlt R2; have HW : Hid (Below _ _ _) := cthen HB0.out hb1; clear hra hrb hb1 R0 R1 R2))
  have HA' : Hid (Row W0 va (dig A)) := HA.out
  have HB' : Hid (Row W0 vb (dig B)) := HB.out
  have row0 := HR0.out
  have row1 := HR1.out
  have row2 := HR2.out
  have HWq : Hid (Below w.heap.size w W0) := HW.out
  have ne20 : w.heap.size + 1 + 1 ≠ w.heap.size := by omega
  have ne21 : w.heap.size + 1 + 1 ≠ w.heap.size + 1 := by omega
  have cls : ∀ W, Below W0.heap.size W0 W → W.cell? ⟨w.heap.size, 0, none⟩ = some (.bool n1) := fun W hW => ((hW.cell (p := ⟨w.heap.size, 0, none⟩) z0).trans (rowcell row0 0))
  refine wpC_region (fun W => W.cell? ⟨w.heap.size, 0, none⟩ = some (.bool n1)) (by kernel_rfl) ?_
  refine wpC_take 0 (v := ?_) rfl (by kernel_rfl) (fun _ _ _ h => h) (by kernel_rfl) ?_ ?_; rotate_left; · (intro wC hC; obtain c0 := hC; go_simp <;> with_reducible rfl)
  refine wpC_take 1 (v := ?_) rfl (by kernel_rfl) (fun _ _ _ h => h) (by kernel_rfl) ?_ ?_; rotate_left; · (intro wC hC; obtain c0 := hC; go_simp <;> with_reducible rfl)
  refine wpC_take 2 (v := ?_) rfl (by kernel_rfl) (fun _ _ _ h => h) (by kernel_rfl) ?_ ?_; rotate_left; · (intro wC hC; obtain c0 := hC; go_simp <;> with_reducible rfl)
  refine wpC_take 3 (v := ?_) rfl (by kernel_rfl) (fun _ _ _ h => h) (by kernel_rfl) ?_ ?_; rotate_left; · (intro wC hC; obtain c0 := hC; go_simp <;> with_reducible rfl)
  refine wpC_take 5 (v := ?_) rfl (by kernel_rfl) (fun _ _ _ h => h) (by kernel_rfl) ?_ ?_; rotate_left; · (intro wC hC; obtain c0 := hC; go_simp <;> with_reducible rfl)
  have b0 := cdrew (Below.refl W0.heap.size W0)
  refine wpC_step 4 rfl (by kernel_rfl) (by kernel_rfl) (cls _ b0) (fun K hK => ?_)
  go_simp
  go_wp2_with ((go_at_call 30; go_must (refine (k1 _ _ _ (HA'.out.below b0) (HB'.out.below b0)).mono ?_); rintro e wx ⟨v3, rfl, hr3, hb3⟩))
  try (refine hK _ _ ?_; clear hK K)
  have b1 : Below W0.heap.size W0 wx := cthen b0 hb3
  obtain ⟨ao1', cc1, rfl, hcc1, hcc2⟩ := (hr3).num
  refine wpC_take 6 (v := ?_) rfl (by kernel_rfl) (fun _ _ _ h => h) (by kernel_rfl) ?_ ?_; rotate_left; · (intro wC hC; obtain c0 := hC; go_simp <;> with_reducible rfl)
  have RR := (b1.block (w.heap.size + 1 + 1) z2).trans row2
  have g0 := rowcell RR 0; have g1 := rowcell RR 1; have g2 := rowcell RR 2; have gf := rowfree RR; simp only [List.getElem?_toArray, List.getElem?_cons_zero, List.getElem?_cons_succ] at g0 g1 g2
  have yy : w.heap.size + 1 + 1 < wx.heap.size := Nat.lt_of_lt_of_le z2 b1.size
  refine wpC_step 7 rfl (by kernel_rfl) (by kernel_rfl) (cls _ b1) (fun K hK => ?_)
  go_simp
  try (refine hK _ _ ?_; clear hK K)
  refine wpC_done (by kernel_rfl) ((far3 ne20).trans (cls _ b1)) ?_
  go_wp2
  refine bodyPost_ret (v := .agg #[.bool n1, .slice ao1' (dlen (A + B)) cc1, .int .i64 E]) (by simp [results, Tryz.results22, go_sem, g0, g1, g2, gf, yy]) rfl (hQ.out _ _ ⟨_, rfl, ?_, ?_⟩)
  · exact (hr3).put3 RR _ _ _
  · exact cset3 (cthen (HWq.out) b1) (by omega)
set_option maxHeartbeats 1000000 in
theorem vplus_more (n1 : Bool) (v1 : Value) (N1 : Nat) (e1 : Int) (n2 : Bool) (v2 : Value) (N2 : Nat) (e2 : Int) (w : World) (A B : Nat) (E : Int) (hr1 : Row w v1 (dig N1)) (hr2 : Row w v2 (dig N2)) (hA : dlen A ≤ 549755813888) (hB : dlen B ≤ 549755813888) (hs : n1 ≠ n2) (hle : B ≤ A)
    (kd : ∀ w, Row w v1 (dig N1) → Row w v2 (dig N2) → Calls Tryz.prog 42 #[.agg #[.bool n1, v1, .int .i64 e1], .agg #[.bool n2, v2, .int .i64 e2]] w fun e w' => ∃ va vb, e = .returned (.tuple #[va, vb, .int .i64 E]) ∧ Row w' va (dig A) ∧ Row w' vb (dig B) ∧ Below w.heap.size w w') :
    Calls Tryz.prog 22 #[.agg #[.bool n1, v1, .int .i64 e1], .agg #[.bool n2, v2, .int .i64 e2]] w fun e w' => ∃ v, e = .returned (.agg #[.bool n1, v, .int .i64 E]) ∧ Row w' v (dig (A - B)) ∧ Below w.heap.size w w' := by
  obtain ⟨ao1, c1, rfl, h11, h12⟩ := hr1.num
  obtain ⟨ao2, c2, rfl, h21, h22⟩ := hr2.num
  have k1 := fun va vb w ha hb => nsub_any va vb A B hle (Nat.le_trans hA (by decide)) w ha hb
  have k2 := fun va vb w ha hb => ncmp_any va vb A B w ha hb
  have dn : (n1 == n2) = false := beq_eq_false_iff_ne.2 hs
  have dc : decide ((0 : Int) ≤ cmpN A B) = true := cmp_ge hle
  generalize cmpN A B = cc at *
  clear hs hle
  have hB0 : Below w.heap.size w (((w.alloc (.cells #[.bool n1, .slice ao1 (dlen N1) c1, .int .i64 e1] 36)).alloc (.cells #[.bool n2, .slice ao2 (dlen N2) c2, .int .i64 e2] 36)).alloc (.cells #[.bool false, .slice none 0 0, .int .i64 0] 36)) := cmore (cmore (cmore (Below.refl _ _) _) _) _
  have HV1 : Hid _ := hr1.below hB0
  have HV2 : Hid _ := hr2.below hB0
  have HB0 : Hid _ := hB0
  clear hr1 hr2 h11 h12 h21 h22 hB0 hA hB
  refine cps fun Q hQ => ?_
  go_enter Tryz.func22, Tryz.ntmps22
  go_upto_region 5 with (first
    | (go_at_call 42; go_must (refine (kd _ HV1.out HV2.out).mono ?_); rintro e W0 ⟨va, vb, rfl, hra, hrb, hb1⟩; have HA : Hid (Row W0 va (dig A)) := hra; have HB : Hid (Row W0 vb (dig B)) := hrb; have R0 := (hb1.block w.heap.size (by first | (simp; done) | (simp; omega) | omega)).trans ((Below.heap_alloc _ _ _ (by first | (simp; done) | (simp; omega) | omega)).trans ((Below.heap_alloc _ _ _ (by first | (simp; done) | (simp; omega) | omega)).trans (rownew' _ _ _ _ (by simp)))); have R1 := (hb1.block (w.heap.size + 1) (by first | (simp; done) | (simp; omega) | omega)).trans ((Below.heap_alloc _ _ _ (by first | (simp; done) | (simp; omega) | omega)).trans (rownew' _ _ _ _ (by simp))); have R2 := (hb1.block (w.heap.size + 1 + 1) (by first | (simp; done) | (simp; omega) | omega)).trans (rownew' _ _ _ _ (by simp)); have q0 := rowcell R0 0; have q1 := rowcell R1 0; simp only [List.getElem?_toArray, List.getElem?_cons_zero, List.getElem?_cons_succ] at q0 q1; have HR0 : Hid _ := R0; have HR1 : Hid _ := R1; have HR2 : Hid _ := R2; have z0 : w.heap.size < W0.heap.size := rowlt R0; have z1 : w.heap.size + 1 < W0.heap.size := rowlt R1; have z2 : w.heap.size + 1 + 1 < W0.heap.size := rowlt R2; have HW : Hid (Below _ _ _) := cthen HB0.out hb1; clear hra hrb hb1 R0 R1 R2) | (go_at_call 43; go_must (refine (k2 _ _ _ HA.out HB.out).mono ?_); rintro e wq ⟨rfl, q, hq⟩; have HQ : Hid (wq = _) := hq; have q0 : wq.cell? ⟨w.heap.size, 0, none⟩ = some (.bool n1) := (by rw [hq]; exact q0); have q1 : wq.cell? ⟨w.heap.size + 1, 0, none⟩ = some (.bool n2) := (by rw [hq]; exact q1); clear hq))
  have hqq : wq = W0.drewN q := HQ.out
  have HA' : Hid (Row wq va (dig A)) := (by show Row _ _ _; rw [hqq]; exact HA.out.below (bdrewN' (Below.refl _ _) _))
  have HB' : Hid (Row wq vb (dig B)) := (by show Row _ _ _; rw [hqq]; exact HB.out.below (bdrewN' (Below.refl _ _) _))
  have row0 := drewrow hqq HR0.out
  have row1 := drewrow hqq HR1.out
  have row2 := drewrow hqq HR2.out
  have HWq : Hid (Below w.heap.size w wq) := (by show Below _ _ _; rw [hqq]; exact bdrewN' HW.out _)
  have z0 : w.heap.size < wq.heap.size := rowlt row0
  have z1 : w.heap.size + 1 < wq.heap.size := rowlt row1
  have z2 : w.heap.size + 1 + 1 < wq.heap.size := rowlt row2
  clear hqq HQ
  have ne20 : w.heap.size + 1 + 1 ≠ w.heap.size := by omega
  have ne21 : w.heap.size + 1 + 1 ≠ w.heap.size + 1 := by omega
  have cls : ∀ W, Below wq.heap.size wq W → W.cell? ⟨w.heap.size, 0, none⟩ = some (.bool n1) := fun W hW => ((hW.cell (p := ⟨w.heap.size, 0, none⟩) z0).trans (rowcell row0 0))
  refine wpC_region (fun W => W.cell? ⟨w.heap.size, 0, none⟩ = some (.bool n1)) (by kernel_rfl) ?_
  refine wpC_take 0 (v := ?_) rfl (by kernel_rfl) (fun _ _ _ h => h) (by kernel_rfl) ?_ ?_; rotate_left; · (intro wC hC; obtain c0 := hC; go_simp <;> with_reducible rfl)
  refine wpC_take 1 (v := ?_) rfl (by kernel_rfl) (fun _ _ _ h => h) (by kernel_rfl) ?_ ?_; rotate_left; · (intro wC hC; obtain c0 := hC; go_simp <;> with_reducible rfl)
  refine wpC_take 2 (v := ?_) rfl (by kernel_rfl) (fun _ _ _ h => h) (by kernel_rfl) ?_ ?_; rotate_left; · (intro wC hC; obtain c0 := hC; go_simp <;> with_reducible rfl)
  refine wpC_take 3 (v := ?_) rfl (by kernel_rfl) (fun _ _ _ h => h) (by kernel_rfl) ?_ ?_; rotate_left; · (intro wC hC; obtain c0 := hC; go_simp <;> with_reducible rfl)
  refine wpC_take 5 (v := ?_) rfl (by kernel_rfl) (fun _ _ _ h => h) (by kernel_rfl) ?_ ?_; rotate_left; · (intro wC hC; obtain c0 := hC; go_simp <;> with_reducible rfl)
  have b0 := cdrew (Below.refl wq.heap.size wq)
  refine wpC_step 4 rfl (by kernel_rfl) (by kernel_rfl) (cls _ b0) (fun K hK => ?_)
  go_simp
  go_wp2_with ((go_at_call 44; go_must (refine (k1 _ _ _ (HA'.out.below b0) (HB'.out.below b0)).mono ?_); rintro e wx ⟨v3, rfl, hr3, hb3⟩))
  try (refine hK _ _ ?_; clear hK K)
  have b1 : Below wq.heap.size wq wx := cthen b0 hb3
  obtain ⟨ao1', cc1, rfl, hcc1, hcc2⟩ := (hr3).num
  refine wpC_take 6 (v := ?_) rfl (by kernel_rfl) (fun _ _ _ h => h) (by kernel_rfl) ?_ ?_; rotate_left; · (intro wC hC; obtain c0 := hC; go_simp <;> with_reducible rfl)
  have RR := (b1.block (w.heap.size + 1 + 1) z2).trans row2
  have g0 := rowcell RR 0; have g1 := rowcell RR 1; have g2 := rowcell RR 2; have gf := rowfree RR; simp only [List.getElem?_toArray, List.getElem?_cons_zero, List.getElem?_cons_succ] at g0 g1 g2
  have yy : w.heap.size + 1 + 1 < wx.heap.size := Nat.lt_of_lt_of_le z2 b1.size
  refine wpC_step 7 rfl (by kernel_rfl) (by kernel_rfl) (cls _ b1) (fun K hK => ?_)
  go_simp
  try (refine hK _ _ ?_; clear hK K)
  refine wpC_done (by kernel_rfl) ((far3 ne20).trans (cls _ b1)) ?_
  go_wp2
  refine bodyPost_ret (v := .agg #[.bool n1, .slice ao1' (dlen (A - B)) cc1, .int .i64 E]) (by simp [results, Tryz.results22, go_sem, g0, g1, g2, gf, yy]) rfl (hQ.out _ _ ⟨_, rfl, ?_, ?_⟩)
  · exact (hr3).put3 RR _ _ _
  · exact cset3 (cthen (HWq.out) b1) (by omega)
set_option maxHeartbeats 1000000 in
theorem vplus_less (n1 : Bool) (v1 : Value) (N1 : Nat) (e1 : Int) (n2 : Bool) (v2 : Value) (N2 : Nat) (e2 : Int) (w : World) (A B : Nat) (E : Int) (hr1 : Row w v1 (dig N1)) (hr2 : Row w v2 (dig N2)) (hA : dlen A ≤ 549755813888) (hB : dlen B ≤ 549755813888) (hs : n1 ≠ n2) (hlt : A < B)
    (kd : ∀ w, Row w v1 (dig N1) → Row w v2 (dig N2) → Calls Tryz.prog 42 #[.agg #[.bool n1, v1, .int .i64 e1], .agg #[.bool n2, v2, .int .i64 e2]] w fun e w' => ∃ va vb, e = .returned (.tuple #[va, vb, .int .i64 E]) ∧ Row w' va (dig A) ∧ Row w' vb (dig B) ∧ Below w.heap.size w w') :
    Calls Tryz.prog 22 #[.agg #[.bool n1, v1, .int .i64 e1], .agg #[.bool n2, v2, .int .i64 e2]] w fun e w' => ∃ v, e = .returned (.agg #[.bool n2, v, .int .i64 E]) ∧ Row w' v (dig (B - A)) ∧ Below w.heap.size w w' := by
  obtain ⟨ao1, c1, rfl, h11, h12⟩ := hr1.num
  obtain ⟨ao2, c2, rfl, h21, h22⟩ := hr2.num
  have hle : A ≤ B := Nat.le_of_lt hlt
  have k1 := fun va vb w ha hb => nsub_any va vb B A hle (Nat.le_trans hB (by decide)) w ha hb
  have k2 := fun va vb w ha hb => ncmp_any va vb A B w ha hb
  have dn : (n1 == n2) = false := beq_eq_false_iff_ne.2 hs
  have dc : decide ((0 : Int) ≤ cmpN A B) = false := by rw [cmpN_lt hlt]; rfl
  generalize cmpN A B = cc at *
  clear hs hle hlt
  have hB0 : Below w.heap.size w (((w.alloc (.cells #[.bool n1, .slice ao1 (dlen N1) c1, .int .i64 e1] 36)).alloc (.cells #[.bool n2, .slice ao2 (dlen N2) c2, .int .i64 e2] 36)).alloc (.cells #[.bool false, .slice none 0 0, .int .i64 0] 36)) := cmore (cmore (cmore (Below.refl _ _) _) _) _
  have HV1 : Hid _ := hr1.below hB0
  have HV2 : Hid _ := hr2.below hB0
  have HB0 : Hid _ := hB0
  clear hr1 hr2 h11 h12 h21 h22 hB0 hA hB
  refine cps fun Q hQ => ?_
  go_enter Tryz.func22, Tryz.ntmps22
  go_upto_region 6 with (first
    | (go_at_call 42; go_must (refine (kd _ HV1.out HV2.out).mono ?_); rintro e W0 ⟨va, vb, rfl, hra, hrb, hb1⟩; have HA : Hid (Row W0 va (dig A)) := hra; have HB : Hid (Row W0 vb (dig B)) := hrb; have R0 := (hb1.block w.heap.size (by first | (simp; done) | (simp; omega) | omega)).trans ((Below.heap_alloc _ _ _ (by first | (simp; done) | (simp; omega) | omega)).trans ((Below.heap_alloc _ _ _ (by first | (simp; done) | (simp; omega) | omega)).trans (rownew' _ _ _ _ (by simp)))); have R1 := (hb1.block (w.heap.size + 1) (by first | (simp; done) | (simp; omega) | omega)).trans ((Below.heap_alloc _ _ _ (by first | (simp; done) | (simp; omega) | omega)).trans (rownew' _ _ _ _ (by simp))); have R2 := (hb1.block (w.heap.size + 1 + 1) (by first | (simp; done) | (simp; omega) | omega)).trans (rownew' _ _ _ _ (by simp)); have q0 := rowcell R0 0; have q1 := rowcell R1 0; simp only [List.getElem?_toArray, List.getElem?_cons_zero, List.getElem?_cons_succ] at q0 q1; have HR0 : Hid _ := R0; have HR1 : Hid _ := R1; have HR2 : Hid _ := R2; have z0 : w.heap.size < W0.heap.size := rowlt R0; have z1 : w.heap.size + 1 < W0.heap.size := rowlt R1; have z2 : w.heap.size + 1 + 1 < W0.heap.size := rowlt R2; have HW : Hid (Below _ _ _) := cthen HB0.out hb1; clear hra hrb hb1 R0 R1 R2) | (go_at_call 43; go_must (refine (k2 _ _ _ HA.out HB.out).mono ?_); rintro e wq ⟨rfl, q, hq⟩; have HQ : Hid (wq = _) := hq; have q0 : wq.cell? ⟨w.heap.size, 0, none⟩ = some (.bool n1) := (by rw [hq]; exact q0); have q1 : wq.cell? ⟨w.heap.size + 1, 0, none⟩ = some (.bool n2) := (by rw [hq]; exact q1); clear hq))
  have hqq : wq = W0.drewN q := HQ.out
  have HA' : Hid (Row wq va (dig A)) := (by show Row _ _ _; rw [hqq]; exact HA.out.below (bdrewN' (Below.refl _ _) _))
  have HB' : Hid (Row wq vb (dig B)) := (by show Row _ _ _; rw [hqq]; exact HB.out.below (bdrewN' (Below.refl _ _) _))
  have row0 := drewrow hqq HR0.out
  have row1 := drewrow hqq HR1.out
  have row2 := drewrow hqq HR2.out
  have HWq : Hid (Below w.heap.size w wq) := (by show Below _ _ _; rw [hqq]; exact bdrewN' HW.out _)
  have z0 : w.heap.size < wq.heap.size := rowlt row0
  have z1 : w.heap.size + 1 < wq.heap.size := rowlt row1
  have z2 : w.heap.size + 1 + 1 < wq.heap.size := rowlt row2
  clear hqq HQ
  have ne20 : w.heap.size + 1 + 1 ≠ w.heap.size := by omega
  have ne21 : w.heap.size + 1 + 1 ≠ w.heap.size + 1 := by omega
  have cls : ∀ W, Below wq.heap.size wq W → W.cell? ⟨w.heap.size + 1, 0, none⟩ = some (.bool n2) := fun W hW => ((hW.cell (p := ⟨w.heap.size + 1, 0, none⟩) z1).trans (rowcell row1 0))
  refine wpC_region (fun W => W.cell? ⟨w.heap.size + 1, 0, none⟩ = some (.bool n2)) (by kernel_rfl) ?_
  refine wpC_take 0 (v := ?_) rfl (by kernel_rfl) (fun _ _ _ h => h) (by kernel_rfl) ?_ ?_; rotate_left; · (intro wC hC; obtain c0 := hC; go_simp <;> with_reducible rfl)
  refine wpC_take 1 (v := ?_) rfl (by kernel_rfl) (fun _ _ _ h => h) (by kernel_rfl) ?_ ?_; rotate_left; · (intro wC hC; obtain c0 := hC; go_simp <;> with_reducible rfl)
  refine wpC_take 2 (v := ?_) rfl (by kernel_rfl) (fun _ _ _ h => h) (by kernel_rfl) ?_ ?_; rotate_left; · (intro wC hC; obtain c0 := hC; go_simp <;> with_reducible rfl)
  refine wpC_take 3 (v := ?_) rfl (by kernel_rfl) (fun _ _ _ h => h) (by kernel_rfl) ?_ ?_; rotate_left; · (intro wC hC; obtain c0 := hC; go_simp <;> with_reducible rfl)
  refine wpC_take 5 (v := ?_) rfl (by kernel_rfl) (fun _ _ _ h => h) (by kernel_rfl) ?_ ?_; rotate_left; · (intro wC hC; obtain c0 := hC; go_simp <;> with_reducible rfl)
  have b0 := cdrew (Below.refl wq.heap.size wq)
  refine wpC_step 4 rfl (by kernel_rfl) (by kernel_rfl) (cls _ b0) (fun K hK => ?_)
  go_simp
  go_wp2_with ((go_at_call 44; go_must (refine (k1 _ _ _ (HB'.out.below b0) (HA'.out.below b0)).mono ?_); rintro e wx ⟨v3, rfl, hr3, hb3⟩))
  try (refine hK _ _ ?_; clear hK K)
  have b1 : Below wq.heap.size wq wx := cthen b0 hb3
  obtain ⟨ao1', cc1, rfl, hcc1, hcc2⟩ := (hr3).num
  refine wpC_take 6 (v := ?_) rfl (by kernel_rfl) (fun _ _ _ h => h) (by kernel_rfl) ?_ ?_; rotate_left; · (intro wC hC; obtain c0 := hC; go_simp <;> with_reducible rfl)
  have RR := (b1.block (w.heap.size + 1 + 1) z2).trans row2
  have g0 := rowcell RR 0; have g1 := rowcell RR 1; have g2 := rowcell RR 2; have gf := rowfree RR; simp only [List.getElem?_toArray, List.getElem?_cons_zero, List.getElem?_cons_succ] at g0 g1 g2
  have yy : w.heap.size + 1 + 1 < wx.heap.size := Nat.lt_of_lt_of_le z2 b1.size
  refine wpC_step 7 rfl (by kernel_rfl) (by kernel_rfl) (cls _ b1) (fun K hK => ?_)
  go_simp
  try (refine hK _ _ ?_; clear hK K)
  refine wpC_done (by kernel_rfl) ((far3 ne21).trans (cls _ b1)) ?_
  go_wp2
  refine bodyPost_ret (v := .agg #[.bool n2, .slice ao1' (dlen (B - A)) cc1, .int .i64 E]) (by simp [results, Tryz.results22, go_sem, g0, g1, g2, gf, yy]) rfl (hQ.out _ _ ⟨_, rfl, ?_, ?_⟩)
  · exact (hr3).put3 RR _ _ _
  · exact cset3 (cthen (HWq.out) b1) (by omega)
theorem vplus_of (n1 : Bool) (v1 : Value) (N1 : Nat) (e1 : Int) (n2 : Bool) (v2 : Value) (N2 : Nat) (e2 : Int) (w : World) (A B : Nat) (E : Int) (hr1 : Row w v1 (dig N1)) (hr2 : Row w v2 (dig N2)) (hA : dlen A ≤ 549755813888) (hB : dlen B ≤ 549755813888) (hAB : dlen (A + B) ≤ 1099511627776)
    (kd : ∀ w, Row w v1 (dig N1) → Row w v2 (dig N2) → Calls Tryz.prog 42 #[.agg #[.bool n1, v1, .int .i64 e1], .agg #[.bool n2, v2, .int .i64 e2]] w fun e w' => ∃ va vb, e = .returned (.tuple #[va, vb, .int .i64 E]) ∧ Row w' va (dig A) ∧ Row w' vb (dig B) ∧ Below w.heap.size w w') :
    Calls Tryz.prog 22 #[.agg #[.bool n1, v1, .int .i64 e1], .agg #[.bool n2, v2, .int .i64 e2]] w fun e w' => ∃ n v M, e = .returned (.agg #[.bool n, v, .int .i64 E]) ∧ Row w' v (dig M) ∧ sg n M = sg n1 A + sg n2 B ∧ Below w.heap.size w w' := by
  by_cases hs : n1 = n2
  · refine (vplus_same n1 v1 N1 e1 n2 v2 N2 e2 w A B E hr1 hr2 hA hB hs hAB kd).mono ?_
    rintro e w' ⟨v, rfl, h1, h2⟩
    exact ⟨n1, v, A + B, rfl, h1, by rw [← hs]; exact (sg_add n1 A B).symm, h2⟩
  · by_cases hle : B ≤ A
    · refine (vplus_more n1 v1 N1 e1 n2 v2 N2 e2 w A B E hr1 hr2 hA hB hs hle kd).mono ?_
      rintro e w' ⟨v, rfl, h1, h2⟩
      exact ⟨n1, v, A - B, rfl, h1, by rw [sg_sub _ _ _ _ hs, if_pos hle], h2⟩
    · refine (vplus_less n1 v1 N1 e1 n2 v2 N2 e2 w A B E hr1 hr2 hA hB hs (by omega) kd).mono ?_
      rintro e w' ⟨v, rfl, h1, h2⟩
      exact ⟨n2, v, B - A, rfl, h1, by rw [sg_sub _ _ _ _ hs, if_neg hle], h2⟩
end Go.Proofs.YtheliihkkoohnabGreat

namespace Go.Proofs.YtheliihkkoohnabGreat
open Go.ChangeShapes Go.WideShapes Go.ChangeAt Go.RowKit
set_option linter.unusedVariables false
set_option linter.unusedSimpArgs false
set_option maxRecDepth 100000

/-! ### what a string and a 1 behind it mean -/
set_option maxHeartbeats 4000000 in
theorem vtie_any (n q : Nat) (hn : Wd n) (hq : q < 2 ^ 64) (w : World) :
    Calls Tryz.prog 14 #[.int .i64 n, .int .u64 q] w fun e w' => ∃ v m j, e = .returned (.agg #[.bool false, v, .int .i64 (scaleL (tieT n q) - (j : Nat))]) ∧ Row w' v (dig m) ∧ j ≤ 63 ∧ m * 2 ^ (63 - j) = wordL (tieT n q) ∧ Below w.heap.size w w' := by
  have hw := wd_le hn
  have k1 := text_any q (n - 1) (by omega)
  obtain ⟨n1, hn1⟩ : ∃ x, x = n - 1 := ⟨_, rfl⟩
  have e1 : IntKind.i64.wrap ((n : Int) - 1) = (n1 : Int) := by rw [wrapI (by omega)]; omega
  rw [← hn1] at k1
  have HT : Hid (bitsOf q n1 ++ [true] = tieT n q ∧ (tieT n q).length = n1 + 1 ∧ n1 + 1 ≤ 64 ∧ 7 ≤ n1) := ⟨by rw [hn1]; rfl, by rw [tieT_length n q (by omega)]; omega, by omega, by omega⟩
  generalize tieT n q = l at *
  have hb63 : n1 ≤ 63 := by omega
  clear hn hq hw hn1
  refine cps fun Q hQ => ?_
  go_enter Tryz.func14, Tryz.ntmps14
  go_upto_block 0 with (go_at_call 27; go_must (refine (k1 _).mono ?_); rintro e w1 ⟨s0, rfl, hs0, hb1⟩; have HS0 : Hid (IsBits s0 (bitsOf q n1)) := hs0; have hsz0 := isBits_size hs0; rw [bitsOf_length] at hsz0; have HB1 : Hid (Below _ _ _) := hb1; have g0 := fun wx => run_string_add_sum (P := Tryz.prog) wx s0 ⟨#[49]⟩ (by rw [hsz0, show (⟨#[49]⟩ : ByteArray).size = 1 from rfl]; omega); obtain ⟨S, hS⟩ : ∃ S, s0 ++ (⟨#[49]⟩ : ByteArray) = S := ⟨_, rfl⟩; rw [hS] at g0; have HSS : Hid (s0 ++ (⟨#[49]⟩ : ByteArray) = S) := hS; clear hS hb1 hs0)
  have HS : Hid (IsBits S l) := by
    have := isBits_append HS0.out (show IsBits ⟨#[49]⟩ [true] from rfl)
    rw [HSS.out, HT.out.1] at this
    exact this
  have hsz : S.size = n1 + 1 := by rw [isBits_size HS.out, HT.out.2.1]
  have hn1 : 7 ≤ n1 ∧ n1 ≤ 63 := by
    obtain ⟨_, _, a, b⟩ := HT.out
    omega
  have HLN : Hid (l.length = n1 + 1) := HT.out.2.1
  clear g0 HS0 HSS hsz0 HT k1 e1 hb63
  have hs0 : (S[0]'(by omega)).toNat = 48 + (l.getD 0 false).toNat := by
    rw [isBits_get HS.out 0 (by omega)]; cases l.getD 0 false <;> rfl
  have ec := char_eq (l.getD 0 false)
  obtain ⟨o, ho⟩ : ∃ o, o = l.getD 0 false := ⟨_, rfl⟩
  rw [← ho] at hs0 ec
  have HO : Hid (o = onesL l) := ho
  have heqs : Hid (∀ k (hk : k < n1 + 1), ((((S[k]'(by omega)).toNat : Int) == ((S[0]'(by omega)).toNat : Int)) = (l.getD k false == l.getD 0 false))) := fun k hk => by
    rw [isBits_get HS.out k (by omega), isBits_get HS.out 0 (by omega)]
    cases l.getD k false <;> cases l.getD 0 false <;> rfl
  clear ho
  go_cut [6] from 18 (fun s6 wx => s6 = .int .i64 (runL l : Nat) ∧ ∃ q, wx = w1.drewN q)
  case first =>
    clear hs0 ec
    go_wp2
    go_loopw [6] (fun i wr => ∃ k q : Nat, k ≤ n1 + 1 ∧ i = .int .i64 k ∧ Hid (∀ j, j < k → l.getD j false = l.getD 0 false) ∧ wr = w1.drewN q) (fun i _ => n1 + 1 - (intOf i).toNat)
    case atStart => exact ⟨0, 0, Nat.zero_le _, rfl, fun j hj => absurd hj (by omega), rfl⟩
    case round =>
      obtain ⟨k, q, hk, rfl, hsame, rfl⟩ := hrel
      by_cases hlt : k < n1 + 1
      · have hlt' : (k : Int) < n1 + 1 := by omega
        cases hbit : (l.getD k false == l.getD 0 false) with
        | true =>
          have heq : Hid _ := heqs.out k hlt; rw [hbit] at heq
          go_wp2
          go_quiet (fail)
          have heq' := heq.out
          go_wp2
          go_roundw
          case rel => exact ⟨k + 1, _, by omega, by go_num, fun j hj => by rcases Nat.lt_succ_iff_lt_or_eq.1 hj with c | c; exact hsame.out j c; subst c; simpa using hbit, rfl⟩
          case measure => simp [intOf]; omega
        | false =>
          have heq : Hid _ := heqs.out k hlt; rw [hbit] at heq
          have hk0 : 0 < k := by rcases Nat.eq_zero_or_pos k with c | c; subst c; simp at hbit; exact c
          have hR : runL l = k := runL_of l k hk0 (by rw [HLN.out]; exact hk) hsame.out (fun _ => by simpa using hbit)
          go_wp2
          go_quiet (fail)
          have heq' := heq.out
          go_wp2
          go_meet
          case rel => exact ⟨by rw [hR], _, World.drewN_drewN _ _ _⟩
      · have hlt' : decide ((k : Int) < n1 + 1) = false := decide_eq_false (by omega)
        have hkn : k = n1 + 1 := by omega
        have hR : runL l = k := runL_of l k (by omega) (by rw [HLN.out]; exact hk) hsame.out (fun h => by rw [HLN.out] at h; omega)
        go_wp2
        go_quiet (fail)
        go_wp2
        go_meet
        case rel => exact ⟨by rw [hR], _, World.drewN_drewN _ _ _⟩
  case rest =>
    obtain ⟨rfl, q1, rfl⟩ := hcut
    have hrl := runL_le l
    rw [HLN.out] at hrl
    obtain ⟨r, hr⟩ : ∃ r, r = runL l := ⟨_, rfl⟩
    rw [← hr] at hrl
    rw [← hr]
    have HR : Hid (r = runL l) := hr
    have HU : Hid ((restL l).length = n1 + 1 - (r + 1)) := by
      show _ = _
      rw [restL_length, ← hr, HLN.out]
    have HRESTB : Hid (IsBits (S.extract (r + 1) (n1 + 1)) (restL l)) := by
      have := isBits_extract HS.out (r + 1) (n1 + 1)
      rw [List.take_of_length_le (by rw [List.length_drop, HLN.out]; exact Nat.le_refl _), hr] at this
      rw [hr]; exact this
    clear hr
    have hreg : (o = true ∧ regL l = (r : Int) - 1) ∨ (o = false ∧ regL l = -(r : Int)) := by
      unfold regL
      rw [← HO.out, ← HR.out]
      cases o
      · exact .inr ⟨rfl, by rw [if_neg (by decide)]⟩
      · exact .inl ⟨rfl, by rw [if_pos rfl]⟩
    have HREG : Hid _ := hreg
    have w0 : IntKind.i64.wrap (-(r : Int)) = -(r : Int) := wrapI (by omega)
    have w2 : IntKind.i64.wrap ((r : Int) - 1) = (r : Int) - 1 := wrapI (by omega)
    have w3 : IntKind.i64.wrap ((r : Int) + 1) = (r : Int) + 1 := wrapI (by omega)
    have w4 : wrap64 (-(r : Int)) = -(r : Int) := by unfold wrap64; omega
    clear hreg
    go_upto_if 36 with fail
    go_cut [7] from 34 (fun s7 wx => s7 = .int .i64 (regL l) ∧ wx = w1.drewN q1)
    case first =>
      rcases HREG.out with ⟨h1, hg⟩ | ⟨h1, hg⟩
      all_goals
        have HG : Hid _ := hg
        rw [h1]
        clear hg h1
        go_wp2
        go_meet
        case rel => exact ⟨by rw [HG.out], rfl⟩
    case rest =>
      obtain ⟨rfl, rfl⟩ := hcut
      obtain ⟨reg, hre⟩ : ∃ x, x = regL l := ⟨_, rfl⟩
      have HRE : Hid (reg = regL l) := hre
      have HRB : Hid (-64 ≤ reg ∧ reg ≤ 64) := by
        show _ ∧ _
        rcases HREG.out with ⟨_, h⟩ | ⟨_, h⟩ <;> rw [hre, h] <;> omega
      rw [← hre]
      clear hre hs0 ec heqs
      go_upto_if 42 with fail
      go_cut [8] from 39 (fun s8 wx => (∃ R, s8 = .string R ∧ Hid (IsBits R (restL l))) ∧ wx = w1.drewN q1)
      case first =>
        by_cases hrn : r < n1 + 1
        · have hd : decide ((r : Int) < ((n1 + 1 : Nat) : Int)) = true := decide_eq_true (by omega)
          have hd2 : decide ((r : Int) < (n1 : Int) + 1) = true := decide_eq_true (by omega)
          have r1 := slice_l (P := Tryz.prog) (s := S) Tryz.underlying9 ((r : Int) + 1) (r + 1) (by omega) (by rw [hsz]; omega)
          rw [hsz] at r1
          go_wp2
          go_meet
          case rel => exact ⟨⟨_, rfl, HRESTB.out⟩, rfl⟩
        · have hd : decide ((r : Int) < ((n1 + 1 : Nat) : Int)) = false := decide_eq_false (by omega)
          have hd2 : decide ((r : Int) < (n1 : Int) + 1) = false := decide_eq_false (by omega)
          have hnil : Hid (IsBits ⟨#[]⟩ (restL l)) := by
            have : restL l = [] := List.eq_nil_of_length_eq_zero (by rw [HU.out]; omega)
            show IsBits _ _
            rw [this]; rfl
          go_wp2
          go_meet
          case rel => exact ⟨⟨_, rfl, hnil.out⟩, rfl⟩
      case rest =>
        obtain ⟨⟨R, rfl, hR⟩, rfl⟩ := hcut
        have hRz := isBits_size hR.out
        obtain ⟨u, hu⟩ : ∃ x, x = (restL l).length := ⟨_, rfl⟩
        have HUU : Hid (u = (restL l).length) := hu
        rw [← hu] at hRz
        have hu63 : u ≤ 63 := by rw [hu, HU.out]; omega
        have hz00 : (⟨#[48, 48]⟩ : ByteArray).size = 2 := rfl
        have g3 := fun wx => run_string_add_sum (P := Tryz.prog) wx R ⟨#[48, 48]⟩ (by rw [hRz, hz00]; omega)
        have hI1 : IsBits (R ++ ⟨#[48, 48]⟩) (restL l ++ [false, false]) := isBits_append hR.out (show IsBits ⟨#[48, 48]⟩ [false, false] from rfl)
        have hXz : (R ++ (⟨#[48, 48]⟩ : ByteArray)).size = u + 2 := by rw [ByteArray.size_append, hRz, hz00]
        obtain ⟨X, hX⟩ : ∃ X, R ++ (⟨#[48, 48]⟩ : ByteArray) = X := ⟨_, rfl⟩
        rw [hX] at g3 hI1 hXz
        have HXR : Hid (R ++ (⟨#[48, 48]⟩ : ByteArray) = X) := hX
        clear hX
        have g4 := slice_h (P := Tryz.prog) (s := X) Tryz.underlying9 2 2 rfl (by omega)
        have hI3 : IsBits (X.extract 0 2) ((restL l ++ noughts 2).take 2) := by
          have := isBits_extract hI1 0 2
          exact this
        have kn := fun w => number_any (X.extract 0 2) _ hI3 (by first | (simp; done) | (simp; omega)) w
        obtain ⟨ex, hex⟩ : ∃ x, x = numOf ((restL l ++ noughts 2).take 2) := ⟨_, rfl⟩
        have hex4 : ex < 4 := by
          have := numOf_lt ((restL l ++ noughts 2).take 2)
          rw [show ((restL l ++ noughts 2).take 2).length = 2 by simp, ← hex] at this
          exact this
        rw [← hex] at kn
        have hrb := HRB.out
        obtain ⟨sc, hsc⟩ : ∃ x, x = 4 * reg + (ex : Int) := ⟨_, rfl⟩
        have HSC : Hid (sc = scaleL l) := by
          show _ = _
          rw [hsc, HRE.out, hex]; rfl
        have v1 : IntKind.i64.wrap (4 * reg) = 4 * reg := wrapI (by omega)
        have v2 : IntKind.i64.wrap (ex : Int) = (ex : Int) := wrapI (by omega)
        have v3 : IntKind.i64.wrap sc = sc := wrapI (by omega)
        have v4 := hsc.symm
        have hscb : -300 ≤ sc ∧ sc ≤ 300 := by omega
        have HI : Hid (IsBits R (restL l)) := hR.out
        clear hsc hex hR hI1 hI3 hu hrb
        go_wp2_with (go_at_call 28; go_must (refine (kn _).mono ?_); rintro e wx ⟨rfl, hwx⟩; rw [hwx]; clear hwx wx)
        have hm0 : Row ((w1.drewN q1).alloc (.cells #[.int .i64 1] 3)) (.slice (some ⟨w1.heap.size, 0, none⟩) 1 1) (dig 1) := one_lit (w1.drewN q1)
        have HBL : Hid (Below w.heap.size w ((w1.drewN q1).alloc (.cells #[.int .i64 1] 3))) := cmore (bdrewN' (cthen (cmore (Below.refl _ _) _) HB1.out) q1) _
        have RES : Hid (((w1.drewN q1).alloc (.cells #[.int .i64 1] 3)).heap[w.heap.size]? = some (.cells #[.bool false, .slice none 0 0, .int .i64 0] 36 (0, 0))) := by
          have z : w.heap.size < w1.heap.size := by have := HB1.out.size; simp at this; omega
          exact (Below.heap_alloc _ _ _ z).trans ((HB1.out.block w.heap.size (by simp)).trans (rownew _ _ _))
        generalize (w1.drewN q1).alloc (.cells #[.int .i64 1] 3) = WL at *
        generalize w1.heap.size = g1 at *
        have hN0 : Hid ((1 : Nat) = numOf (true :: ((restL l).drop 2).take (2 - 2))) := by show _ = _; rw [Nat.sub_self, List.take_zero]; decide
        clear v1 v2 v3 v4 kn g3 g4 hXz w0 w2 w3 w4
        go_loopw [10, 11, 12] (fun ev mv iv wr => ∃ (i M : Nat) (E : Int), 2 ≤ i ∧ (i ≤ u ∨ i = 2) ∧ iv = .int .i64 i ∧ ev = .int .i64 E ∧ (-400 ≤ E ∧ E ≤ 400) ∧ Hid (E = sc - ((i - 2 : Nat) : Int)) ∧ Hid (M = numOf (true :: ((restL l).drop 2).take (i - 2))) ∧ Row wr mv (dig M) ∧ Hid (Below WL.heap.size WL wr)) (fun _ _ iv _ => (u - (intOf iv)).toNat)
        case atStart => exact ⟨2, 1, sc, Nat.le_refl _, .inr rfl, rfl, rfl, by omega, by show _ = _; simp, hN0.out, hm0, Below.refl _ _⟩
        case round =>
          obtain ⟨i, M, E, hi2, hiu, rfl, rfl, hE, hEq, hMq, hrow, hbel⟩ := hrel
          have hMb : M < 2 ^ 64 := by
            rw [hMq.out]
            refine Nat.lt_of_lt_of_le (numOf_lt _) (Nat.pow_le_pow_right (by decide) ?_)
            rw [List.length_cons, List.length_take]
            omega
          by_cases hlt : i < u
          · have hd : decide ((i : Int) < (u : Int)) = true := decide_eq_true (by omega)
            have hd2 : decide (i < u) = true := decide_eq_true hlt
            obtain ⟨b, hb⟩ : ∃ b, b = (restL l).getD i false := ⟨_, rfl⟩
            have hRi : (R[i]'(by omega)).toNat = 48 + b.toNat := by
              rw [isBits_get HI.out i (by omega), hb]; cases (restL l).getD i false <;> rfl
            have eb := char_eq b
            have hnext : Hid (2 * M + b.toNat = numOf (true :: ((restL l).drop 2).take (i + 1 - 2))) := by
              show _ = _
              have hl : i - 2 < ((restL l).drop 2).length := by rw [List.length_drop, ← HUU.out]; omega
              rw [show i + 1 - 2 = (i - 2) + 1 by omega, List.take_succ_eq_append_getElem hl, ← List.cons_append, numOf_snoc, ← hMq.out, hb]
              congr 2
              rw [List.getElem_drop, List.getD_eq_getElem?_getD, List.getElem?_eq_getElem (by rw [← HUU.out]; exact hlt), Option.getD_some]
              congr 1
              omega
            have ksh := fun v w hr => nshl_any v M 1 (by decide) (Nat.le_trans (dlen_small (Nat.lt_of_lt_of_le hMb (by decide))) (by decide)) w hr
            rw [show ((1 : Nat) : Int) = 1 from rfl, Nat.pow_one] at ksh
            have kad := fun va vb w ha hb => nadd_any va vb (M * 2) 1 (Nat.le_trans (dlen_small (by omega)) (by decide)) w ha hb
            have x1 : IntKind.i64.wrap ((i : Int) + 1) = (i : Int) + 1 := wrapI (by omega)
            have x2 : IntKind.i64.wrap (E - 1) = E - 1 := wrapI (by omega)
            have HROW : Hid (Row wr _ (dig M)) := hrow
            have HEQ : Hid (E - 1 = sc - ((i + 1 - 2 : Nat) : Int)) := by
              have := hEq.out
              show _ = _
              omega
            have hEE : -400 ≤ E - 1 ∧ E - 1 ≤ 400 := by
              have h1 := hEq.out
              omega
            clear hb hMb hrow hMq hEq
            cases b
            · go_wp2_with (go_at_call 29; go_must (refine (ksh _ _ HROW.out).mono ?_); rintro e w4 ⟨v4, rfl, hr4, hb4⟩)
              go_roundw
              case measure => simp [intOf]; omega
              case rel => exact ⟨i + 1, M * 2, E - 1, by omega, .inl (by omega), by go_num, rfl, hEE, HEQ.out, by have := hnext.out; show _ = _; rw [← this]; simp; omega, hr4, cthen hbel.out hb4⟩
            · go_wp2_with (first
                | (go_at_call 29; go_must (refine (ksh _ _ HROW.out).mono ?_); rintro e w4 ⟨v4, rfl, hr4, hb4⟩; have HR4 : Hid (Row w4 v4 (dig (M * 2))) := hr4; have HB4 : Hid (Below wr.heap.size wr w4) := hb4; clear hr4 hb4)
                | (go_at_call 30; go_must (refine (kad _ _ _ (HR4.out.below (cmore (Below.refl _ _) _)) (one_lit _)).mono ?_); rintro e w5 ⟨v5, rfl, hr5, hb5⟩; have HB5 : Hid (Below w4.heap.size w4 w5) := cthen (cmore (Below.refl _ _) _) hb5; clear hb5))
              go_roundw
              case measure => simp [intOf]; omega
              case rel => exact ⟨i + 1, M * 2 + 1, E - 1, by omega, .inl (by omega), by go_num, rfl, hEE, HEQ.out, by have := hnext.out; show _ = _; rw [← this]; simp; omega, hr5, cthen (cthen hbel.out HB4.out) HB5.out⟩
          · have hd : decide ((i : Int) < (u : Int)) = false := decide_eq_false (by omega)
            have hd2 : decide (i < u) = false := decide_eq_false hlt
            have RR := (hbel.out.block w.heap.size (rowlt RES.out)).trans RES.out
            have c0 := rowcell RR 0; have c1 := rowcell RR 1; have c2 := rowcell RR 2; have cf := rowfree RR; simp only [List.getElem?_toArray, List.getElem?_cons_zero, List.getElem?_cons_succ] at c0 c1 c2
            have yy : w.heap.size < wr.heap.size := rowlt RR
            have HRR : Hid _ := RR
            obtain ⟨ao, cc, rfl, hcc1, hcc2⟩ := hrow.num
            have HROW : Hid _ := hrow
            have hj : Hid (i - 2 ≤ 63 ∧ M * 2 ^ (63 - (i - 2)) = wordL l) := by
              show _ ∧ _
              refine ⟨by omega, ?_⟩
              have hlen : ((restL l).drop 2).length = i - 2 := by rw [List.length_drop, ← HUU.out]; omega
              have hM := hMq.out
              rw [List.take_of_length_le (by omega)] at hM
              have e : ((restL l).drop 2 ++ noughts 63).take 63 = (restL l).drop 2 ++ noughts (63 - (i - 2)) := by
                rw [List.take_append, List.take_of_length_le (by omega), take_noughts _ _ (by omega), hlen]
              unfold wordL
              rw [e, hM, ← List.cons_append, numOf_append, numOf_noughts, Nat.add_zero, List.length_replicate]
            clear hMb hrow RR hMq
            go_wp2
            refine bodyPost_ret (v := .agg #[.bool false, .slice ao (dlen M) cc, .int .i64 E]) (by simp [results, Tryz.results14, go_sem, c0, c1, c2, cf, yy]) rfl (hQ.out _ _ ⟨_, M, i - 2, by rw [← HSC.out, hEq.out], ?_, hj.out.1, hj.out.2, ?_⟩)
            · exact Row.put3 (show Row wr _ (dig M) from HROW.out) HRR.out _ _ _
            · exact cset3 (cthen HBL.out hbel.out) (Nat.le_refl _)
end Go.Proofs.YtheliihkkoohnabGreat

namespace Go.Proofs.YtheliihkkoohnabGreat
set_option linter.unusedVariables false
set_option linter.unusedSimpArgs false
set_option maxRecDepth 100000

/-! ### a root beside a tie, without taking it; what verniertop's numbers are (plain mathematics) -/
theorem sq_lt_sq {a b : Nat} (h : a < b) : a * a < b * b := Nat.mul_lt_mul_of_lt_of_lt h h
theorem root_core {m H W R P K : Nat} (l1 : H * H * P ≤ m) (l2 : m < (H + 1) * (H + 1) * P) (lr : R = 0 ↔ H * H * P = m) (hR : R ≤ 1) (hK : 0 < K) (hP : 0 < P) :
    (2 * (H * K) + R < 2 * (W * K) → m < W * W * P) ∧ (2 * (H * K) + R = 2 * (W * K) → m = W * W * P) ∧ (2 * (W * K) < 2 * (H * K) + R → W * W * P < m) := by
  have hmono : ∀ x y : Nat, x ≤ y → x * K ≤ y * K := fun x y h => Nat.mul_le_mul_right _ h
  refine ⟨fun c => ?_, fun c => ?_, fun c => ?_⟩
  · have hlt : H < W := Nat.lt_of_not_le fun g => by have := hmono W H g; omega
    exact Nat.lt_of_lt_of_le l2 (Nat.mul_le_mul_right _ (Nat.mul_le_mul hlt hlt))
  · have h0 : R = 0 := by omega
    have he : H * K = W * K := by omega
    have : H = W := Nat.eq_of_mul_eq_mul_right hK he
    rw [← this]
    exact (lr.1 h0).symm
  · by_cases g : W < H
    · exact Nat.lt_of_lt_of_le (Nat.mul_lt_mul_of_pos_right (sq_lt_sq g) hP) l1
    · have hHW : H ≤ W := by omega
      have h1 := hmono H W hHW
      have h0 : R ≠ 0 := by omega
      have he : H * K = W * K := by omega
      have : H = W := Nat.eq_of_mul_eq_mul_right hK he
      rw [← this]
      exact Nat.lt_of_le_of_ne l1 (fun e => h0 (lr.2 e))
theorem four_le {B x k : Nat} (h : B ≤ 4 * x) : B ≤ x * 2 ^ (2 + 2 * k) := by
  have e : x * 2 ^ (2 + 2 * k) = 4 * x * 2 ^ (2 * k) := by rw [Nat.pow_add, show (2 : Nat) ^ 2 = 4 from rfl, ← Nat.mul_assoc, Nat.mul_comm x 4]
  rw [e]
  exact Nat.le_trans h (Nat.le_mul_of_pos_right _ (Nat.pow_pos (by decide)))
/-- over plain numbers: B is 2^142 -/
theorem root_far {m X B : Nat} (hm : B ≤ 4 * m) (hm2 : m < B) (hX : B ≤ 4 * X) (hX2 : X < B) (a c : Nat) :
    (∀ k, c = a + (2 + 2 * k) → m * 2 ^ a < X * 2 ^ c) ∧ (∀ k, a = c + (2 + 2 * k) → X * 2 ^ c < m * 2 ^ a) := by
  constructor
  · rintro k rfl
    rw [Nat.pow_add, Nat.mul_comm (2 ^ a), ← Nat.mul_assoc]
    exact Nat.mul_lt_mul_of_pos_right (Nat.lt_of_lt_of_le hm2 (four_le hX)) (Nat.pow_pos (by decide))
  · rintro k rfl
    rw [Nat.pow_add, Nat.mul_comm (2 ^ c), ← Nat.mul_assoc]
    exact Nat.mul_lt_mul_of_pos_right (Nat.lt_of_lt_of_le hX2 (four_le hm)) (Nat.pow_pos (by decide))
theorem pow_cmp' {X Y A B : Nat} (k : Nat) (h1 : X * 2 ^ k = A) (h2 : Y * 2 ^ k = B) : (A < B → X < Y) ∧ (A = B → X = Y) ∧ (B < A → Y < X) := by
  subst h1 h2
  exact ⟨(pow_cmp k).1.1, (pow_cmp k).2.1, (pow_cmp k).1.1⟩
theorem root_fin {m X R H W K a c : Nat} {h E : Int} (r1 : 2 * (H * K) + R < 2 * (W * K) → m < X) (r2 : 2 * (H * K) + R = 2 * (W * K) → m = X) (r3 : 2 * (W * K) < 2 * (H * K) + R → X < m)
    (f1 : ∀ k, c = a + (2 + 2 * k) → m * 2 ^ a < X * 2 ^ c) (f2 : ∀ k, a = c + (2 + 2 * k) → X * 2 ^ c < m * 2 ^ a) (hac : (a : Int) - c = 2 * h - 2 * E) :
    ((h < E ∨ (h = E ∧ 2 * (H * K) + R < 2 * (W * K))) → m * 2 ^ a < X * 2 ^ c) ∧ ((h = E ∧ 2 * (H * K) + R = 2 * (W * K)) → m * 2 ^ a = X * 2 ^ c) ∧ ((E < h ∨ (h = E ∧ 2 * (W * K) < 2 * (H * K) + R)) → X * 2 ^ c < m * 2 ^ a) := by
  refine ⟨fun g => ?_, fun g => ?_, fun g => ?_⟩
  · rcases g with g | ⟨g, d⟩
    · exact f1 (E - h - 1).toNat (by omega)
    · have e : c = a := by omega
      rw [e]
      exact Nat.mul_lt_mul_of_pos_right (r1 d) (Nat.pow_pos (by decide))
  · have e : c = a := by omega
    rw [e, r2 g.2]
  · rcases g with g | ⟨g, d⟩
    · exact f2 (h - E - 1).toNat (by omega)
    · have e : c = a := by omega
      rw [e]
      exact Nat.mul_lt_mul_of_pos_right (r3 d) (Nat.pow_pos (by decide))
theorem root_cmp {f W : Nat} {s E : Int} (h : WordsX f 0) (h' : WordsX W 0) (a b : Nat) (hab : (a : Int) - b = s + 63 - 2 * E) :
    (ltX (s / 2) (rtH (mR s (manX f 0))) 0 (rtR (mR s (manX f 0))) E W → f * 2 ^ a < W * W * 2 ^ b) ∧
    (eqX (s / 2) (rtH (mR s (manX f 0))) 0 (rtR (mR s (manX f 0))) E W → f * 2 ^ a = W * W * 2 ^ b) ∧
    (gtX (s / 2) (rtH (mR s (manX f 0))) 0 (rtR (mR s (manX f 0))) E W → W * W * 2 ^ b < f * 2 ^ a) := by
  obtain ⟨m1, m2⟩ := mR_size s h.mant
  obtain ⟨p, hp⟩ : ∃ p, p = (s % 2).toNat := ⟨_, rfl⟩
  have hmf : mR s (manX f 0) = f * 2 ^ (77 + p) := by
    unfold mR
    rw [manX_zero, ← hp, Nat.mul_assoc, ← Nat.pow_add]
    congr 2
    omega
  obtain ⟨c, hc⟩ : ∃ c, c = b + 63 + p := ⟨_, rfl⟩
  -- all times 2^(77 + p)
  have e1 : f * 2 ^ a * 2 ^ (77 + p) = mR s (manX f 0) * 2 ^ a := by rw [hmf]; simp only [Nat.mul_assoc, Nat.mul_left_comm, Nat.mul_comm]
  have e2 : W * W * 2 ^ b * 2 ^ (77 + p) = W * W * 2 ^ 14 * 2 ^ c := by
    rw [Nat.mul_assoc, ← Nat.pow_add, Nat.mul_assoc (W * W), ← Nat.pow_add]
    congr 2
    omega
  obtain ⟨c1, c2, c3⟩ := pow_cmp' (77 + p) e1 e2
  have hr := (rt_words m1 m2).2.2
  obtain ⟨l1, l2⟩ := rtH_ok m2
  have lr : (rtR (mR s (manX f 0))).toNat = 0 ↔ rtH (mR s (manX f 0)) * rtH (mR s (manX f 0)) * 2 ^ 14 = mR s (manX f 0) := by
    unfold rtR
    by_cases g : rtH (mR s (manX f 0)) * rtH (mR s (manX f 0)) * 2 ^ 14 = mR s (manX f 0)
    · rw [decide_eq_false (fun x => x g)]; exact ⟨fun _ => g, fun _ => rfl⟩
    · rw [decide_eq_true g]; exact ⟨fun x => absurd x (by decide), fun x => absurd x g⟩
  have hb1 : (rtR (mR s (manX f 0))).toNat ≤ 1 := by cases rtR (mR s (manX f 0)) <;> decide
  obtain ⟨r1, r2, r3⟩ := @root_core _ _ W _ (2 ^ 14) (2 ^ 64) l1 l2 lr hb1 (Nat.pow_pos (by decide)) (Nat.pow_pos (by decide))
  have t1 := h'.top
  have t2 := h'.hi64
  have hX1 : 2 ^ 142 ≤ 4 * (W * W * 2 ^ 14) := by
    have := Nat.mul_le_mul t1 t1
    generalize W * W = Y at *
    omega
  have hX2 : W * W * 2 ^ 14 < 2 ^ 142 := by
    have := Nat.mul_lt_mul_of_lt_of_lt t2 t2
    generalize W * W = Y at *
    omega
  obtain ⟨f1, f2⟩ := root_far (m := mR s (manX f 0)) (X := W * W * 2 ^ 14) (B := 2 ^ 142) (by omega) m2 hX1 hX2 a c
  obtain ⟨g1, g2, g3⟩ := root_fin (h := s / 2) (E := E) r1 r2 r3 f1 f2 (by omega)
  unfold ltX eqX gtX
  rw [manX_zero (rtH (mR s (manX f 0))), manX_zero W]
  exact ⟨fun g => c1 (g1 g), fun g => c2 (g2 g), fun g => c3 (g3 g)⟩
/-! ### a tie as m times 2^(S - j), m with j digits behind the first -/
/-- a number N / D times 2^e (of whose digits hi, lo, r tell) beside the tie m times 2^F -/
theorem tie_cmp {N D : Nat} {e S E F : Int} {hi lo : Nat} {r : Bool} {w W m j : Nat} (hL : Lies N D e S (manX hi lo) r w) (h : WordsX hi lo) (h' : WordsX W 0) (hD : 0 < D) (hw : w = 1 ∨ (w = 2 ^ 64 ∧ lo = 0))
    (hj : j ≤ 63) (hm : m * 2 ^ (63 - j) = W) (hF : F = E - j) (a b : Nat) (hab : (a : Int) - b = e - F) :
    (ltX S hi lo r E W → N * 2 ^ a < m * D * 2 ^ b) ∧ (eqX S hi lo r E W → N * 2 ^ a = m * D * 2 ^ b) ∧ (gtX S hi lo r E W → m * D * 2 ^ b < N * 2 ^ a) := by
  obtain ⟨k, hk⟩ : ∃ k, k = 63 - j + 64 := ⟨_, rfl⟩
  obtain ⟨l1, l2, l3⟩ := lies_lt (E := E) (W := W) hL h h' hD hw (a + k) b (by omega)
  have e1 : N * 2 ^ (a + k) = N * 2 ^ a * 2 ^ k := by rw [Nat.pow_add, ← Nat.mul_assoc]
  have e2 : manX W 0 * D * 2 ^ b = m * D * 2 ^ b * 2 ^ k := by
    rw [manX_zero, ← hm, hk, Nat.pow_add]
    simp only [Nat.mul_assoc, Nat.mul_left_comm, Nat.mul_comm]
  rw [e1, e2] at l1 l2 l3
  exact ⟨fun g => (pow_cmp k).1.1 (l1 g), fun g => (pow_cmp k).2.1 (l2 g), fun g => (pow_cmp k).1.1 (l3 g)⟩
/-- M times 2^E with a sign is T times 2^e -/
def Dn (T e : Int) (neg : Bool) (M : Nat) (E : Int) : Prop := ∃ j : Nat, E = e + j ∧ T = sg neg M * ((2 ^ j : Nat) : Int)
theorem Dn.plus {T T' e : Int} {n1 n2 n : Bool} {N1 N2 M : Nat} {e1 e2 E : Int} (h : Dn T e n1 N1 e1) (h' : Dn T' e n2 N2 e2) (hE : E = if e2 ≤ e1 then e2 else e1)
    (hs : sg n M = sg n1 (N1 * 2 ^ (e1 - e2).toNat) + sg n2 (N2 * 2 ^ (e2 - e1).toNat)) : Dn (T + T') e n M E := by
  obtain ⟨j1, a1, b1⟩ := h
  obtain ⟨j2, a2, b2⟩ := h'
  by_cases c : e2 ≤ e1
  · rw [if_pos c] at hE
    refine ⟨j2, by omega, ?_⟩
    rw [hs, b1, b2, show (e2 - e1).toNat = 0 by omega, Nat.pow_zero, Nat.mul_one, Int.add_mul, sg_mul, Int.mul_assoc, ← Int.natCast_mul, ← Nat.pow_add, show (e1 - e2).toNat + j2 = j1 by omega]
  · rw [if_neg c] at hE
    refine ⟨j1, by omega, ?_⟩
    rw [hs, b1, b2, show (e1 - e2).toNat = 0 by omega, Nat.pow_zero, Nat.mul_one, Int.add_mul, sg_mul n2, Int.mul_assoc, ← Int.natCast_mul, ← Nat.pow_add, show (e2 - e1).toNat + j1 = j2 by omega]
theorem Dn.times {T T' e e' : Int} {n1 n2 : Bool} {N1 N2 : Nat} {e1 e2 : Int} (h : Dn T e n1 N1 e1) (h' : Dn T' e' n2 N2 e2) : Dn (T * T') (e + e') (xorB n1 n2) (N1 * N2) (e1 + e2) := by
  obtain ⟨j1, a1, b1⟩ := h
  obtain ⟨j2, a2, b2⟩ := h'
  refine ⟨j1 + j2, by omega, ?_⟩
  rw [b1, b2, ← sg_times, Nat.pow_add, Int.natCast_mul]
  simp only [Int.mul_assoc, Int.mul_left_comm, Int.mul_comm]
theorem Dn.minus {T e : Int} {neg : Bool} {M : Nat} {E : Int} (h : Dn T e neg M E) : Dn (-T) e (!neg) M E := by
  obtain ⟨j, a, b⟩ := h
  refine ⟨j, a, ?_⟩
  rw [b, ← Int.neg_mul]
  congr 1
  unfold sg
  cases neg <;> simp
def vM (n x : Nat) : Nat := if vK n x = 1 then vF n x else 0
def vE (n x : Nat) : Int := if vK n x = 1 then vS n x - 63 else 0
theorem val_dn (n x : Nat) (hn : Wd n) (hx : x < 2 ^ 64) : Dn (valI n x) eN (vB n x) (vM n x) (vE n x) := by
  unfold vM vE valI
  by_cases h : vK n x = 1
  · obtain ⟨_, _, _, _, _, _, _, s1, s2⟩ := v_real n x hn hx h
    have hw := wd_le hn
    rw [if_pos h, if_pos h, if_pos h]
    refine ⟨(vS n x + 312).toNat, by unfold eN; omega, ?_⟩
    rw [manX_zero, sg_mul, Int.mul_assoc, ← Int.natCast_mul, ← Nat.pow_add]
    congr 3
    omega
  · rw [if_neg h, if_neg h, if_neg h]
    obtain ⟨q, hq⟩ : ∃ q : Nat, q = 375 := ⟨_, rfl⟩
    refine ⟨q, by rw [hq]; unfold eN; rfl, ?_⟩
    unfold sg
    split <;> simp
theorem val_dn2 (n x : Nat) (hn : Wd n) (hx : x < 2 ^ 64) : Dn (valI n x * ((2 ^ 375 : Nat) : Int)) (eN + eN) (vB n x) (vM n x) (vE n x) := by
  obtain ⟨j, a, b⟩ := val_dn n x hn hx
  obtain ⟨q, hq⟩ : ∃ q : Nat, q = 375 := ⟨_, rfl⟩
  refine ⟨j + q, by rw [a, hq]; unfold eN; omega, ?_⟩
  rw [b, ← hq, Int.mul_assoc, ← Int.natCast_mul, ← Nat.pow_add]
/-- what is rounded, by the number itself -/
theorem mgI_dn {n : Nat} {T e : Int} {neg : Bool} {M : Nat} {E : Int} (h : Dn T e neg M E) (h0 : M ≠ 0) : mgI n T.natAbs e false = mgI n M E false ∧ (T < 0 ↔ neg = true) ∧ T ≠ 0 := by
  obtain ⟨j, a, b⟩ := h
  have hp : 0 < 2 ^ j := Nat.pow_pos (by decide)
  have hab : T.natAbs = M * 2 ^ j := by rw [b, ← sg_mul]; exact sg_abs _ _
  have hpos : 0 < M * 2 ^ j := Nat.mul_pos (by omega) hp
  obtain ⟨q1, q2⟩ := norm_two j h0
  refine ⟨?_, ?_, by omega⟩
  · unfold mgI
    rw [hab, q1, q2, blen_two j h0, a]
    congr 2
    omega
  · rw [b, ← sg_mul]
    generalize M * 2 ^ j = X at *
    unfold sg
    cases neg
    · rw [if_neg (by decide)]; exact ⟨fun c => by omega, fun c => by cases c⟩
    · rw [if_pos rfl]; exact ⟨fun _ => rfl, fun _ => by omega⟩
theorem dn_zero {T e : Int} {neg : Bool} {M : Nat} {E : Int} (h : Dn T e neg M E) (h0 : M = 0) : T = 0 := by
  obtain ⟨j, a, b⟩ := h
  rw [b, h0]; unfold sg; split <;> simp
end Go.Proofs.YtheliihkkoohnabGreat

namespace Go.Proofs.YtheliihkkoohnabGreat
open Go.ChangeShapes Go.WideShapes Go.ChangeAt Go.RowKit
set_option linter.unusedVariables false
set_option linter.unusedSimpArgs false
set_option maxRecDepth 100000

/-! ### exact results, and how they lie beside a number -/
/-- a number that is small enough, at a place that is near enough -/
def Ok (N : Nat) (e : Int) : Prop := blen N ≤ 1300 ∧ -2000 ≤ e ∧ e ≤ 2000
theorem Ok.dl {N : Nat} {e : Int} (h : Ok N e) : dlen N ≤ 549755813888 := Nat.le_trans (dlen_le_blen N) (Nat.le_trans h.1 (by decide))
theorem shl_dl {N : Nat} {e : Int} (h : Ok N e) {d : Nat} (hd : d ≤ 4000) : dlen (N * 2 ^ d) ≤ 549755813888 := by
  refine Nat.le_trans (dlen_le_blen _) ?_
  have h1 : blen (2 ^ d) ≤ d + 1 := blen_le.2 (Nat.pow_lt_pow_right (by decide) (by omega))
  have := blen_mul' N (2 ^ d) h.1 h1
  omega
theorem add_dl {A B : Nat} (h : dlen A ≤ 549755813888) (h' : dlen B ≤ 549755813888) (hA : blen A ≤ 6000) (hB : blen B ≤ 6000) : dlen (A + B) ≤ 1099511627776 :=
  Nat.le_trans (dlen_le_blen _) (Nat.le_trans (blen_add hA hB) (by decide))
theorem shl_bl {N : Nat} {e : Int} (h : Ok N e) {d : Nat} (hd : d ≤ 4000) : blen (N * 2 ^ d) ≤ 6000 := by
  have h1 : blen (2 ^ d) ≤ d + 1 := blen_le.2 (Nat.pow_lt_pow_right (by decide) (by omega))
  have := blen_mul' N (2 ^ d) h.1 h1
  omega
theorem vplus_any (n1 : Bool) (v1 : Value) (N1 : Nat) (e1 : Int) (n2 : Bool) (v2 : Value) (N2 : Nat) (e2 : Int) (w : World) (hr1 : Row w v1 (dig N1)) (hr2 : Row w v2 (dig N2)) (o1 : Ok N1 e1) (o2 : Ok N2 e2) :
    Calls Tryz.prog 22 #[.agg #[.bool n1, v1, .int .i64 e1], .agg #[.bool n2, v2, .int .i64 e2]] w fun e w' => ∃ n v M E, e = .returned (.agg #[.bool n, v, .int .i64 E]) ∧ Row w' v (dig M) ∧ (E = if e2 ≤ e1 then e2 else e1) ∧ sg n M = sg n1 (N1 * 2 ^ (e1 - e2).toNat) + sg n2 (N2 * 2 ^ (e2 - e1).toNat) ∧ Below w.heap.size w w' := by
  have q1 := o1.2
  have q2 := o2.2
  have b1 : -100000 ≤ e1 ∧ e1 ≤ 100000 := by omega
  have b2 : -100000 ≤ e2 ∧ e2 ≤ 100000 := by omega
  by_cases h : e2 ≤ e1
  · have hz : (e2 - e1).toNat = 0 := by omega
    rw [hz, Nat.pow_zero, Nat.mul_one, if_pos h]
    refine (vplus_of n1 v1 N1 e1 n2 v2 N2 e2 w (N1 * 2 ^ (e1 - e2).toNat) N2 e2 hr1 hr2 (shl_dl o1 (by omega)) o2.dl (add_dl (shl_dl o1 (by omega)) o2.dl (shl_bl o1 (by omega)) (Nat.le_trans o2.1 (by decide))) (fun w a b => vdown_ge n1 v1 N1 e1 n2 v2 N2 e2 w a b o1.dl o2.dl b1 b2 _ (by omega))).mono ?_
    rintro e w' ⟨n, v, M, rfl, h1, h2, h3⟩
    exact ⟨n, v, M, e2, rfl, h1, rfl, h2, h3⟩
  · have hz : (e1 - e2).toNat = 0 := by omega
    rw [hz, Nat.pow_zero, Nat.mul_one, if_neg h]
    refine (vplus_of n1 v1 N1 e1 n2 v2 N2 e2 w N1 (N2 * 2 ^ (e2 - e1).toNat) e1 hr1 hr2 o1.dl (shl_dl o2 (by omega)) (add_dl o1.dl (shl_dl o2 (by omega)) (Nat.le_trans o1.1 (by decide)) (shl_bl o2 (by omega))) (fun w a b => vdown_lt n1 v1 N1 e1 n2 v2 N2 e2 w a b o1.dl o2.dl b1 b2 _ (by omega) (by omega))).mono ?_
    rintro e w' ⟨n, v, M, rfl, h1, h2, h3⟩
    exact ⟨n, v, M, e1, rfl, h1, rfl, h2, h3⟩
theorem vplus_dn (n1 : Bool) (v1 : Value) (N1 : Nat) (e1 : Int) (n2 : Bool) (v2 : Value) (N2 : Nat) (e2 : Int) (w : World) {T T' ee : Int} (hr1 : Row w v1 (dig N1)) (hr2 : Row w v2 (dig N2)) (o1 : Ok N1 e1) (o2 : Ok N2 e2) (d1 : Dn T ee n1 N1 e1) (d2 : Dn T' ee n2 N2 e2) :
    Calls Tryz.prog 22 #[.agg #[.bool n1, v1, .int .i64 e1], .agg #[.bool n2, v2, .int .i64 e2]] w fun e w' => ∃ n v M E, e = .returned (.agg #[.bool n, v, .int .i64 E]) ∧ Row w' v (dig M) ∧ Dn (T + T') ee n M E ∧ (-2000 ≤ E ∧ E ≤ 2000) ∧ Below w.heap.size w w' := by
  refine (vplus_any n1 v1 N1 e1 n2 v2 N2 e2 w hr1 hr2 o1 o2).mono ?_
  rintro e w' ⟨n, v, M, E, rfl, h1, h2, h3, h4⟩
  have q1 := o1.2
  have q2 := o2.2
  exact ⟨n, v, M, E, rfl, h1, Dn.plus d1 d2 h2 h3, by rw [h2]; split <;> omega, h4⟩
set_option maxHeartbeats 1000000 in
theorem vexact_add (n1 : Bool) (v1 : Value) (N1 : Nat) (e1 : Int) (n2 : Bool) (v2 : Value) (N2 : Nat) (e2 : Int) (n3 : Bool) (v3 : Value) (N3 : Nat) (e3 : Int) (w : World) {T T' ee : Int} (hr1 : Row w v1 (dig N1)) (hr2 : Row w v2 (dig N2)) (hr3 : Row w v3 (dig N3)) (o1 : Ok N1 e1) (o2 : Ok N2 e2) (d1 : Dn T ee n1 N1 e1) (d2 : Dn T' ee n2 N2 e2) :
    Calls Tryz.prog 9 #[.int .i64 0, .agg #[.bool n1, v1, .int .i64 e1], .agg #[.bool n2, v2, .int .i64 e2], .agg #[.bool n3, v3, .int .i64 e3]] w fun e w' => ∃ n v M E, e = .returned (.agg #[.bool n, v, .int .i64 E]) ∧ Row w' v (dig M) ∧ Dn (T + T') ee n M E ∧ (-2000 ≤ E ∧ E ≤ 2000) ∧ Below w.heap.size w w' := by
  obtain ⟨ao1, c1, rfl, h11, h12⟩ := hr1.num
  obtain ⟨ao2, c2, rfl, h21, h22⟩ := hr2.num
  obtain ⟨ao3, c3, rfl, h31, h32⟩ := hr3.num
  have k1 := fun w a b => vplus_dn n1 (.slice ao1 (dlen N1) c1) N1 e1 n2 (.slice ao2 (dlen N2) c2) N2 e2 w a b o1 o2 d1 d2
  clear o1 o2 d1 d2
  have hB0 : Below w.heap.size w ((((w.alloc (.cells #[.bool n1, .slice ao1 (dlen N1) c1, .int .i64 e1] 36)).alloc (.cells #[.bool n2, .slice ao2 (dlen N2) c2, .int .i64 e2] 36)).alloc (.cells #[.bool n3, .slice ao3 (dlen N3) c3, .int .i64 e3] 36)).alloc (.cells #[.bool false, .slice none 0 0, .int .i64 0] 36)) := cmore (cmore (cmore (cmore (Below.refl _ _) _) _) _) _
  have HV1 : Hid _ := hr1.below hB0
  have HV2 : Hid _ := hr2.below hB0
  clear hr1 hr2 hr3 h11 h12 h21 h22 h31 h32 hB0
  refine cps fun Q hQ => ?_
  go_enter Tryz.func9, Tryz.ntmps9
  go_wp2_with (go_at_call 22; go_must (refine (k1 _ HV1.out HV2.out).mono ?_); rintro e w1 ⟨n4, v4, M4, E4, rfl, hr4, hd4, hE4, hb1⟩; obtain ⟨ao4, c4, rfl, h41, h42⟩ := hr4.num; have HV4 : Hid (Row w1 _ (dig M4)) := hr4; have HD4 : Hid (Dn _ _ _ _ _) := hd4; clear hr4 hd4 h41 h42; have R1_0 := (hb1.block (w.heap.size) (by first | (simp; done) | (simp; omega) | omega)).trans ((Below.heap_alloc _ _ _ (by first | (simp; done) | (simp; omega) | omega)).trans ((Below.heap_alloc _ _ _ (by first | (simp; done) | (simp; omega) | omega)).trans ((Below.heap_alloc _ _ _ (by first | (simp; done) | (simp; omega) | omega)).trans (rownew' _ _ _ _ (by simp))))); have z1_0 : w.heap.size < w1.heap.size := Nat.lt_of_lt_of_le (by first | (simp; done) | (simp; omega) | omega) hb1.size; have HR1_0 : Hid _ := R1_0; clear R1_0; have R1_1 := (hb1.block (w.heap.size + 1) (by first | (simp; done) | (simp; omega) | omega)).trans ((Below.heap_alloc _ _ _ (by first | (simp; done) | (simp; omega) | omega)).trans ((Below.heap_alloc _ _ _ (by first | (simp; done) | (simp; omega) | omega)).trans (rownew' _ _ _ _ (by simp)))); have z1_1 : w.heap.size + 1 < w1.heap.size := Nat.lt_of_lt_of_le (by first | (simp; done) | (simp; omega) | omega) hb1.size; have HR1_1 : Hid _ := R1_1; clear R1_1; have R1_2 := (hb1.block (w.heap.size + 1 + 1) (by first | (simp; done) | (simp; omega) | omega)).trans ((Below.heap_alloc _ _ _ (by first | (simp; done) | (simp; omega) | omega)).trans (rownew' _ _ _ _ (by simp))); have z1_2 : w.heap.size + 1 + 1 < w1.heap.size := Nat.lt_of_lt_of_le (by first | (simp; done) | (simp; omega) | omega) hb1.size; have HR1_2 : Hid _ := R1_2; clear R1_2; have R1_3 := (hb1.block (w.heap.size + 1 + 1 + 1) (by first | (simp; done) | (simp; omega) | omega)).trans (rownew' _ _ _ _ (by simp)); have z1_3 : w.heap.size + 1 + 1 + 1 < w1.heap.size := Nat.lt_of_lt_of_le (by first | (simp; done) | (simp; omega) | omega) hb1.size; have c1_3_0 := rowcell R1_3 0; have c1_3_1 := rowcell R1_3 1; have c1_3_2 := rowcell R1_3 2; simp only [List.getElem?_toArray, List.getElem?_cons_zero, List.getElem?_cons_succ] at c1_3_0 c1_3_1 c1_3_2; have rf := rowfree R1_3; have HR1_3 : Hid _ := R1_3; clear R1_3; have HB1 : Hid (Below _ _ _) := hb1; clear hb1)
  refine bodyPost_ret (v := .agg #[.bool n4, .slice ao4 (dlen M4) c4, .int .i64 E4]) (by simp [results, Tryz.results9, go_sem, rf, z1_3, c1_3_0, c1_3_1, c1_3_2]) rfl (hQ.out _ _ ⟨_, _, _, _, rfl, ?_, HD4.out, hE4, ?_⟩)
  · exact Row.put3 (show Row w1 _ (dig M4) from HV4.out) HR1_3.out _ _ _
  · exact cset3 (cthen (cmore (cmore (cmore (cmore (Below.refl _ _) _) _) _) _) HB1.out) (by omega)
set_option maxHeartbeats 1000000 in
theorem vexact_sub (n1 : Bool) (v1 : Value) (N1 : Nat) (e1 : Int) (n2 : Bool) (v2 : Value) (N2 : Nat) (e2 : Int) (n3 : Bool) (v3 : Value) (N3 : Nat) (e3 : Int) (w : World) {T T' ee : Int} (hr1 : Row w v1 (dig N1)) (hr2 : Row w v2 (dig N2)) (hr3 : Row w v3 (dig N3)) (o1 : Ok N1 e1) (o2 : Ok N2 e2) (d1 : Dn T ee n1 N1 e1) (d2 : Dn T' ee n2 N2 e2) :
    Calls Tryz.prog 9 #[.int .i64 1, .agg #[.bool n1, v1, .int .i64 e1], .agg #[.bool n2, v2, .int .i64 e2], .agg #[.bool n3, v3, .int .i64 e3]] w fun e w' => ∃ n v M E, e = .returned (.agg #[.bool n, v, .int .i64 E]) ∧ Row w' v (dig M) ∧ Dn (T + -T') ee n M E ∧ (-2000 ≤ E ∧ E ≤ 2000) ∧ Below w.heap.size w w' := by
  obtain ⟨ao1, c1, rfl, h11, h12⟩ := hr1.num
  obtain ⟨ao2, c2, rfl, h21, h22⟩ := hr2.num
  obtain ⟨ao3, c3, rfl, h31, h32⟩ := hr3.num
  have k1 := fun w a b => vplus_dn n1 (.slice ao1 (dlen N1) c1) N1 e1 (!n2) (.slice ao2 (dlen N2) c2) N2 e2 w a b o1 o2 d1 d2.minus
  clear o1 o2 d1 d2
  have hB0 : Below w.heap.size w ((((w.alloc (.cells #[.bool n1, .slice ao1 (dlen N1) c1, .int .i64 e1] 36)).alloc (.cells #[.bool (!n2), .slice ao2 (dlen N2) c2, .int .i64 e2] 36)).alloc (.cells #[.bool n3, .slice ao3 (dlen N3) c3, .int .i64 e3] 36)).alloc (.cells #[.bool false, .slice none 0 0, .int .i64 0] 36)) := cmore (cmore (cmore (cmore (Below.refl _ _) _) _) _) _
  have HV1 : Hid _ := hr1.below hB0
  have HV2 : Hid _ := hr2.below hB0
  clear hr1 hr2 hr3 h11 h12 h21 h22 h31 h32 hB0
  refine cps fun Q hQ => ?_
  go_enter Tryz.func9, Tryz.ntmps9
  go_wp2_with (go_at_call 22; go_must (refine (k1 _ HV1.out HV2.out).mono ?_); rintro e w1 ⟨n4, v4, M4, E4, rfl, hr4, hd4, hE4, hb1⟩; obtain ⟨ao4, c4, rfl, h41, h42⟩ := hr4.num; have HV4 : Hid (Row w1 _ (dig M4)) := hr4; have HD4 : Hid (Dn _ _ _ _ _) := hd4; clear hr4 hd4 h41 h42; have R1_0 := (hb1.block (w.heap.size) (by first | (simp; done) | (simp; omega) | omega)).trans ((Below.heap_alloc _ _ _ (by first | (simp; done) | (simp; omega) | omega)).trans ((Below.heap_alloc _ _ _ (by first | (simp; done) | (simp; omega) | omega)).trans ((Below.heap_alloc _ _ _ (by first | (simp; done) | (simp; omega) | omega)).trans (rownew' _ _ _ _ (by simp))))); have z1_0 : w.heap.size < w1.heap.size := Nat.lt_of_lt_of_le (by first | (simp; done) | (simp; omega) | omega) hb1.size; have HR1_0 : Hid _ := R1_0; clear R1_0; have R1_1 := (hb1.block (w.heap.size + 1) (by first | (simp; done) | (simp; omega) | omega)).trans ((Below.heap_alloc _ _ _ (by first | (simp; done) | (simp; omega) | omega)).trans ((Below.heap_alloc _ _ _ (by first | (simp; done) | (simp; omega) | omega)).trans (rownew' _ _ _ _ (by simp)))); have z1_1 : w.heap.size + 1 < w1.heap.size := Nat.lt_of_lt_of_le (by first | (simp; done) | (simp; omega) | omega) hb1.size; have HR1_1 : Hid _ := R1_1; clear R1_1; have R1_2 := (hb1.block (w.heap.size + 1 + 1) (by first | (simp; done) | (simp; omega) | omega)).trans ((Below.heap_alloc _ _ _ (by first | (simp; done) | (simp; omega) | omega)).trans (rownew' _ _ _ _ (by simp))); have z1_2 : w.heap.size + 1 + 1 < w1.heap.size := Nat.lt_of_lt_of_le (by first | (simp; done) | (simp; omega) | omega) hb1.size; have HR1_2 : Hid _ := R1_2; clear R1_2; have R1_3 := (hb1.block (w.heap.size + 1 + 1 + 1) (by first | (simp; done) | (simp; omega) | omega)).trans (rownew' _ _ _ _ (by simp)); have z1_3 : w.heap.size + 1 + 1 + 1 < w1.heap.size := Nat.lt_of_lt_of_le (by first | (simp; done) | (simp; omega) | omega) hb1.size; have c1_3_0 := rowcell R1_3 0; have c1_3_1 := rowcell R1_3 1; have c1_3_2 := rowcell R1_3 2; simp only [List.getElem?_toArray, List.getElem?_cons_zero, List.getElem?_cons_succ] at c1_3_0 c1_3_1 c1_3_2; have rf := rowfree R1_3; have HR1_3 : Hid _ := R1_3; clear R1_3; have HB1 : Hid (Below _ _ _) := hb1; clear hb1)
  refine bodyPost_ret (v := .agg #[.bool n4, .slice ao4 (dlen M4) c4, .int .i64 E4]) (by simp [results, Tryz.results9, go_sem, rf, z1_3, c1_3_0, c1_3_1, c1_3_2]) rfl (hQ.out _ _ ⟨_, _, _, _, rfl, ?_, HD4.out, hE4, ?_⟩)
  · exact Row.put3 (show Row w1 _ (dig M4) from HV4.out) HR1_3.out _ _ _
  · exact cset3 (cthen (cmore (cmore (cmore (cmore (Below.refl _ _) _) _) _) _) HB1.out) (by omega)
set_option maxHeartbeats 1000000 in
theorem vexact_mul (n1 : Bool) (v1 : Value) (N1 : Nat) (e1 : Int) (n2 : Bool) (v2 : Value) (N2 : Nat) (e2 : Int) (n3 : Bool) (v3 : Value) (N3 : Nat) (e3 : Int) (w : World) {T T' ee : Int} (hr1 : Row w v1 (dig N1)) (hr2 : Row w v2 (dig N2)) (hr3 : Row w v3 (dig N3)) (o1 : Ok N1 e1) (o2 : Ok N2 e2) (q1 : -1000 ≤ e1 ∧ e1 ≤ 1000) (q2 : -1000 ≤ e2 ∧ e2 ≤ 1000) (d1 : Dn T ee n1 N1 e1) (d2 : Dn T' ee n2 N2 e2) :
    Calls Tryz.prog 9 #[.int .i64 2, .agg #[.bool n1, v1, .int .i64 e1], .agg #[.bool n2, v2, .int .i64 e2], .agg #[.bool n3, v3, .int .i64 e3]] w fun e w' => ∃ n v M E, e = .returned (.agg #[.bool n, v, .int .i64 E]) ∧ Row w' v (dig M) ∧ Dn (T * T') (ee + ee) n M E ∧ (-2000 ≤ E ∧ E ≤ 2000) ∧ Below w.heap.size w w' := by
  obtain ⟨ao1, c1, rfl, h11, h12⟩ := hr1.num
  obtain ⟨ao2, c2, rfl, h21, h22⟩ := hr2.num
  obtain ⟨ao3, c3, rfl, h31, h32⟩ := hr3.num
  have k1 : ∀ w, Row w (.slice ao1 (dlen N1) c1) (dig N1) → Row w (.slice ao2 (dlen N2) c2) (dig N2) → Calls Tryz.prog 23 #[.agg #[.bool n1, .slice ao1 (dlen N1) c1, .int .i64 e1], .agg #[.bool n2, .slice ao2 (dlen N2) c2, .int .i64 e2]] w fun e w' => ∃ n v M E, e = .returned (.agg #[.bool n, v, .int .i64 E]) ∧ Row w' v (dig M) ∧ Dn (T * T') (ee + ee) n M E ∧ (-2000 ≤ E ∧ E ≤ 2000) ∧ Below w.heap.size w w' := fun w a b => by
    refine (vtimes_any n1 _ N1 e1 n2 _ N2 e2 w a b o1.dl o2.dl (by omega) (by omega)).mono ?_
    rintro e w' ⟨v, rfl, h1, h2⟩
    exact ⟨_, v, _, _, rfl, h1, d1.times d2, by omega, h2⟩
  clear o1 o2 d1 d2 q1 q2
  have hB0 : Below w.heap.size w ((((w.alloc (.cells #[.bool n1, .slice ao1 (dlen N1) c1, .int .i64 e1] 36)).alloc (.cells #[.bool n2, .slice ao2 (dlen N2) c2, .int .i64 e2] 36)).alloc (.cells #[.bool n3, .slice ao3 (dlen N3) c3, .int .i64 e3] 36)).alloc (.cells #[.bool false, .slice none 0 0, .int .i64 0] 36)) := cmore (cmore (cmore (cmore (Below.refl _ _) _) _) _) _
  have HV1 : Hid _ := hr1.below hB0
  have HV2 : Hid _ := hr2.below hB0
  clear hr1 hr2 hr3 h11 h12 h21 h22 h31 h32 hB0
  refine cps fun Q hQ => ?_
  go_enter Tryz.func9, Tryz.ntmps9
  go_wp2_with (go_at_call 23; go_must (refine (k1 _ HV1.out HV2.out).mono ?_); rintro e w1 ⟨n4, v4, M4, E4, rfl, hr4, hd4, hE4, hb1⟩; obtain ⟨ao4, c4, rfl, h41, h42⟩ := hr4.num; have HV4 : Hid (Row w1 _ (dig M4)) := hr4; have HD4 : Hid (Dn _ _ _ _ _) := hd4; clear hr4 hd4 h41 h42; have R1_0 := (hb1.block (w.heap.size) (by first | (simp; done) | (simp; omega) | omega)).trans ((Below.heap_alloc _ _ _ (by first | (simp; done) | (simp; omega) | omega)).trans ((Below.heap_alloc _ _ _ (by first | (simp; done) | (simp; omega) | omega)).trans ((Below.heap_alloc _ _ _ (by first | (simp; done) | (simp; omega) | omega)).trans (rownew' _ _ _ _ (by simp))))); have z1_0 : w.heap.size < w1.heap.size := Nat.lt_of_lt_of_le (by first | (simp; done) | (simp; omega) | omega) hb1.size; have HR1_0 : Hid _ := R1_0; clear R1_0; have R1_1 := (hb1.block (w.heap.size + 1) (by first | (simp; done) | (simp; omega) | omega)).trans ((Below.heap_alloc _ _ _ (by first | (simp; done) | (simp; omega) | omega)).trans ((Below.heap_alloc _ _ _ (by first | (simp; done) | (simp; omega) | omega)).trans (rownew' _ _ _ _ (by simp)))); have z1_1 : w.heap.size + 1 < w1.heap.size := Nat.lt_of_lt_of_le (by first | (simp; done) | (simp; omega) | omega) hb1.size; have HR1_1 : Hid _ := R1_1; clear R1_1; have R1_2 := (hb1.block (w.heap.size + 1 + 1) (by first | (simp; done) | (simp; omega) | omega)).trans ((Below.heap_alloc _ _ _ (by first | (simp; done) | (simp; omega) | omega)).trans (rownew' _ _ _ _ (by simp))); have z1_2 : w.heap.size + 1 + 1 < w1.heap.size := Nat.lt_of_lt_of_le (by first | (simp; done) | (simp; omega) | omega) hb1.size; have HR1_2 : Hid _ := R1_2; clear R1_2; have R1_3 := (hb1.block (w.heap.size + 1 + 1 + 1) (by first | (simp; done) | (simp; omega) | omega)).trans (rownew' _ _ _ _ (by simp)); have z1_3 : w.heap.size + 1 + 1 + 1 < w1.heap.size := Nat.lt_of_lt_of_le (by first | (simp; done) | (simp; omega) | omega) hb1.size; have c1_3_0 := rowcell R1_3 0; have c1_3_1 := rowcell R1_3 1; have c1_3_2 := rowcell R1_3 2; simp only [List.getElem?_toArray, List.getElem?_cons_zero, List.getElem?_cons_succ] at c1_3_0 c1_3_1 c1_3_2; have rf := rowfree R1_3; have HR1_3 : Hid _ := R1_3; clear R1_3; have HB1 : Hid (Below _ _ _) := hb1; clear hb1)
  refine bodyPost_ret (v := .agg #[.bool n4, .slice ao4 (dlen M4) c4, .int .i64 E4]) (by simp [results, Tryz.results9, go_sem, rf, z1_3, c1_3_0, c1_3_1, c1_3_2]) rfl (hQ.out _ _ ⟨_, _, _, _, rfl, ?_, HD4.out, hE4, ?_⟩)
  · exact Row.put3 (show Row w1 _ (dig M4) from HV4.out) HR1_3.out _ _ _
  · exact cset3 (cthen (cmore (cmore (cmore (cmore (Below.refl _ _) _) _) _) _) HB1.out) (by omega)
theorem vexact_div (n1 : Bool) (v1 : Value) (N1 : Nat) (e1 : Int) (n2 : Bool) (v2 : Value) (N2 : Nat) (e2 : Int) (n3 : Bool) (v3 : Value) (N3 : Nat) (e3 : Int) (w : World) (hr1 : Row w v1 (dig N1)) (hr2 : Row w v2 (dig N2)) (hr3 : Row w v3 (dig N3)) :
    Calls Tryz.prog 9 #[.int .i64 3, .agg #[.bool n1, v1, .int .i64 e1], .agg #[.bool n2, v2, .int .i64 e2], .agg #[.bool n3, v3, .int .i64 e3]] w fun e w' => e = .returned (.agg #[.bool n1, v1, .int .i64 e1]) ∧ Row w' v1 (dig N1) ∧ Below w.heap.size w w' := by
  obtain ⟨ao1, c1, rfl, h11, h12⟩ := hr1.num
  obtain ⟨ao2, c2, rfl, h21, h22⟩ := hr2.num
  obtain ⟨ao3, c3, rfl, h31, h32⟩ := hr3.num
  have HV1 : Hid (Row w _ (dig N1)) := hr1
  clear hr1 hr2 hr3 h11 h12 h21 h22 h31 h32
  refine cps fun Q hQ => ?_
  go_enter Tryz.func9, Tryz.ntmps9
  go_wp2
  have hB : ∀ W, Below w.heap.size w W → Row W (.slice ao1 (dlen N1) c1) (dig N1) := fun W h => Row.below HV1.out h
  refine bodyPost_ret (v := .agg #[.bool n1, .slice ao1 (dlen N1) c1, .int .i64 e1]) (by simp [results, Tryz.results9, go_sem]) rfl (hQ.out _ _ ⟨rfl, hB _ ?_, ?_⟩)
  · exact cmore (cmore (cmore (cmore (Below.refl _ _) _) _) _) _
  · exact cmore (cmore (cmore (cmore (Below.refl _ _) _) _) _) _
theorem vexact_root (n1 : Bool) (v1 : Value) (N1 : Nat) (e1 : Int) (n2 : Bool) (v2 : Value) (N2 : Nat) (e2 : Int) (n3 : Bool) (v3 : Value) (N3 : Nat) (e3 : Int) (w : World) (hr1 : Row w v1 (dig N1)) (hr2 : Row w v2 (dig N2)) (hr3 : Row w v3 (dig N3)) :
    Calls Tryz.prog 9 #[.int .i64 4, .agg #[.bool n1, v1, .int .i64 e1], .agg #[.bool n2, v2, .int .i64 e2], .agg #[.bool n3, v3, .int .i64 e3]] w fun e w' => e = .returned (.agg #[.bool n1, v1, .int .i64 e1]) ∧ Row w' v1 (dig N1) ∧ Below w.heap.size w w' := by
  obtain ⟨ao1, c1, rfl, h11, h12⟩ := hr1.num
  obtain ⟨ao2, c2, rfl, h21, h22⟩ := hr2.num
  obtain ⟨ao3, c3, rfl, h31, h32⟩ := hr3.num
  have HV1 : Hid (Row w _ (dig N1)) := hr1
  clear hr1 hr2 hr3 h11 h12 h21 h22 h31 h32
  refine cps fun Q hQ => ?_
  go_enter Tryz.func9, Tryz.ntmps9
  go_wp2
  have hB : ∀ W, Below w.heap.size w W → Row W (.slice ao1 (dlen N1) c1) (dig N1) := fun W h => Row.below HV1.out h
  refine bodyPost_ret (v := .agg #[.bool n1, .slice ao1 (dlen N1) c1, .int .i64 e1]) (by simp [results, Tryz.results9, go_sem]) rfl (hQ.out _ _ ⟨rfl, hB _ ?_, ?_⟩)
  · exact cmore (cmore (cmore (cmore (Below.refl _ _) _) _) _) _
  · exact cmore (cmore (cmore (cmore (Below.refl _ _) _) _) _) _
set_option maxHeartbeats 2000000 in
theorem vexact_fma (n1 : Bool) (v1 : Value) (N1 : Nat) (e1 : Int) (n2 : Bool) (v2 : Value) (N2 : Nat) (e2 : Int) (n3 : Bool) (v3 : Value) (N3 : Nat) (e3 : Int) (w : World) {T T' T'' ee : Int} (hr1 : Row w v1 (dig N1)) (hr2 : Row w v2 (dig N2)) (hr3 : Row w v3 (dig N3)) (o1 : Ok N1 e1) (o2 : Ok N2 e2) (o3 : Ok N3 e3) (q1 : -900 ≤ e1 ∧ e1 ≤ 900) (q2 : -900 ≤ e2 ∧ e2 ≤ 900) (s1 : blen N1 ≤ 100) (s2 : blen N2 ≤ 100) (d1 : Dn T ee n1 N1 e1) (d2 : Dn T' ee n2 N2 e2) (d3 : Dn T'' (ee + ee) n3 N3 e3) :
    Calls Tryz.prog 9 #[.int .i64 5, .agg #[.bool n1, v1, .int .i64 e1], .agg #[.bool n2, v2, .int .i64 e2], .agg #[.bool n3, v3, .int .i64 e3]] w fun e w' => ∃ n v M E, e = .returned (.agg #[.bool n, v, .int .i64 E]) ∧ Row w' v (dig M) ∧ Dn (T * T' + T'') (ee + ee) n M E ∧ (-2000 ≤ E ∧ E ≤ 2000) ∧ Below w.heap.size w w' := by
  obtain ⟨ao1, c1, rfl, h11, h12⟩ := hr1.num
  obtain ⟨ao2, c2, rfl, h21, h22⟩ := hr2.num
  obtain ⟨ao3, c3, rfl, h31, h32⟩ := hr3.num
  have o4 : Ok (N1 * N2) (e1 + e2) := ⟨Nat.le_trans (blen_mul' N1 N2 s1 s2) (by decide), by omega, by omega⟩
  have k1 := fun w a b => vtimes_any n1 (.slice ao1 (dlen N1) c1) N1 e1 n2 (.slice ao2 (dlen N2) c2) N2 e2 w a b o1.dl o2.dl (by omega) (by omega)
  have k2 := fun v w a b => vplus_dn (xorB n1 n2) v (N1 * N2) (e1 + e2) n3 (.slice ao3 (dlen N3) c3) N3 e3 w a b o4 o3 (d1.times d2) d3
  generalize xorB n1 n2 = xb at *
  generalize N1 * N2 = N4 at *
  generalize e1 + e2 = e4 at *
  clear o1 o2 o3 o4 q1 q2 s1 s2 d1 d2 d3 h11 h12 h21 h22 h31 h32
  refine cps fun Q hQ => ?_
  go_enter Tryz.func9, Tryz.ntmps9
  go_upto_region 10 with fail
  obtain ⟨W0, hW0⟩ : ∃ W0, W0 = ((((w.alloc (.cells #[.bool n1, .slice ao1 (dlen N1) c1, .int .i64 e1] 36)).alloc (.cells #[.bool n2, .slice ao2 (dlen N2) c2, .int .i64 e2] 36)).alloc (.cells #[.bool n3, .slice ao3 (dlen N3) c3, .int .i64 e3] 36)).alloc (.cells #[.bool false, .slice none 0 0, .int .i64 0] 36)) := ⟨_, rfl⟩
  have row0 : W0.heap[w.heap.size]? = some (.cells #[.bool n1, .slice ao1 (dlen N1) c1, .int .i64 e1] 36 (0, 0)) := by rw [hW0]; exact (Below.heap_alloc _ _ _ (by first | (simp; done) | (simp; omega) | omega)).trans ((Below.heap_alloc _ _ _ (by first | (simp; done) | (simp; omega) | omega)).trans ((Below.heap_alloc _ _ _ (by first | (simp; done) | (simp; omega) | omega)).trans (rownew' _ _ _ _ (by simp))))
  have z0 : w.heap.size < W0.heap.size := rowlt row0
  have row1 : W0.heap[w.heap.size + 1]? = some (.cells #[.bool n2, .slice ao2 (dlen N2) c2, .int .i64 e2] 36 (0, 0)) := by rw [hW0]; exact (Below.heap_alloc _ _ _ (by first | (simp; done) | (simp; omega) | omega)).trans ((Below.heap_alloc _ _ _ (by first | (simp; done) | (simp; omega) | omega)).trans (rownew' _ _ _ _ (by simp)))
  have z1 : w.heap.size + 1 < W0.heap.size := rowlt row1
  have row2 : W0.heap[w.heap.size + 1 + 1]? = some (.cells #[.bool n3, .slice ao3 (dlen N3) c3, .int .i64 e3] 36 (0, 0)) := by rw [hW0]; exact (Below.heap_alloc _ _ _ (by first | (simp; done) | (simp; omega) | omega)).trans (rownew' _ _ _ _ (by simp))
  have z2 : w.heap.size + 1 + 1 < W0.heap.size := rowlt row2
  have row3 : W0.heap[w.heap.size + 1 + 1 + 1]? = some (.cells #[.bool false, .slice none 0 0, .int .i64 0] 36 (0, 0)) := by rw [hW0]; exact rownew' _ _ _ _ (by simp)
  have z3 : w.heap.size + 1 + 1 + 1 < W0.heap.size := rowlt row3
  have hB0 : Below w.heap.size w W0 := by rw [hW0]; exact cmore (cmore (cmore (cmore (Below.refl _ _) _) _) _) _
  have hv1 := hr1.below hB0
  have hv2 := hr2.below hB0
  have hv3 := hr3.below hB0
  rw [← hW0]
  clear hW0
  have ne30 : w.heap.size + 1 + 1 + 1 ≠ w.heap.size := by omega
  have ne31 : w.heap.size + 1 + 1 + 1 ≠ w.heap.size + 1 := by omega
  have ne32 : w.heap.size + 1 + 1 + 1 ≠ w.heap.size + 1 + 1 := by omega
  have cls : ∀ W, Below W0.heap.size W0 W → W.cell? ⟨w.heap.size, 0, none⟩ = some (.bool n1) ∧ W.cell? ⟨w.heap.size, 1, none⟩ = some (.slice ao1 (dlen N1) c1) ∧ W.cell? ⟨w.heap.size, 2, none⟩ = some (.int .i64 e1) ∧ W.cell? ⟨w.heap.size + 1, 0, none⟩ = some (.bool n2) ∧ W.cell? ⟨w.heap.size + 1, 1, none⟩ = some (.slice ao2 (dlen N2) c2) ∧ W.cell? ⟨w.heap.size + 1, 2, none⟩ = some (.int .i64 e2) ∧ W.cell? ⟨w.heap.size + 1 + 1, 0, none⟩ = some (.bool n3) ∧ W.cell? ⟨w.heap.size + 1 + 1, 1, none⟩ = some (.slice ao3 (dlen N3) c3) ∧ W.cell? ⟨w.heap.size + 1 + 1, 2, none⟩ = some (.int .i64 e3) := fun W hW => ⟨((hW.cell (p := ⟨w.heap.size, 0, none⟩) z0).trans (rowcell row0 0)), ((hW.cell (p := ⟨w.heap.size, 1, none⟩) z0).trans (rowcell row0 1)), ((hW.cell (p := ⟨w.heap.size, 2, none⟩) z0).trans (rowcell row0 2)), ((hW.cell (p := ⟨w.heap.size + 1, 0, none⟩) z1).trans (rowcell row1 0)), ((hW.cell (p := ⟨w.heap.size + 1, 1, none⟩) z1).trans (rowcell row1 1)), ((hW.cell (p := ⟨w.heap.size + 1, 2, none⟩) z1).trans (rowcell row1 2)), ((hW.cell (p := ⟨w.heap.size + 1 + 1, 0, none⟩) z2).trans (rowcell row2 0)), ((hW.cell (p := ⟨w.heap.size + 1 + 1, 1, none⟩) z2).trans (rowcell row2 1)), ((hW.cell (p := ⟨w.heap.size + 1 + 1, 2, none⟩) z2).trans (rowcell row2 2))⟩
  refine wpC_region (fun W => W.cell? ⟨w.heap.size, 0, none⟩ = some (.bool n1) ∧ W.cell? ⟨w.heap.size, 1, none⟩ = some (.slice ao1 (dlen N1) c1) ∧ W.cell? ⟨w.heap.size, 2, none⟩ = some (.int .i64 e1) ∧ W.cell? ⟨w.heap.size + 1, 0, none⟩ = some (.bool n2) ∧ W.cell? ⟨w.heap.size + 1, 1, none⟩ = some (.slice ao2 (dlen N2) c2) ∧ W.cell? ⟨w.heap.size + 1, 2, none⟩ = some (.int .i64 e2) ∧ W.cell? ⟨w.heap.size + 1 + 1, 0, none⟩ = some (.bool n3) ∧ W.cell? ⟨w.heap.size + 1 + 1, 1, none⟩ = some (.slice ao3 (dlen N3) c3) ∧ W.cell? ⟨w.heap.size + 1 + 1, 2, none⟩ = some (.int .i64 e3)) (by kernel_rfl) ?_
  refine wpC_take 0 (v := ?_) rfl (by kernel_rfl) (fun _ _ _ h => h) (by kernel_rfl) ?_ ?_; rotate_left; · (intro wC hC; obtain ⟨p0, p1, p2, p3, p4, p5, p6, p7, p8⟩ := hC; go_simp <;> with_reducible rfl)
  refine wpC_take 1 (v := ?_) rfl (by kernel_rfl) (fun _ _ _ h => h) (by kernel_rfl) ?_ ?_; rotate_left; · (intro wC hC; obtain ⟨p0, p1, p2, p3, p4, p5, p6, p7, p8⟩ := hC; go_simp <;> with_reducible rfl)
  refine wpC_take 3 (v := ?_) rfl (by kernel_rfl) (fun _ _ _ h => h) (by kernel_rfl) ?_ ?_; rotate_left; · (intro wC hC; obtain ⟨p0, p1, p2, p3, p4, p5, p6, p7, p8⟩ := hC; go_simp <;> with_reducible rfl)
  have b0 := cdrew (Below.refl W0.heap.size W0)
  refine wpC_step 2 rfl (by kernel_rfl) (by kernel_rfl) (cls _ b0) (fun K hK => ?_)
  go_simp
  go_wp2_with ((go_at_call 23; go_must (refine (k1 _ (hv1.below b0) (hv2.below b0)).mono ?_); rintro e w1 ⟨v4, rfl, hr4, hb4⟩))
  try (refine hK _ _ ?_; clear hK K)
  have b1 : Below W0.heap.size W0 w1 := cthen b0 hb4
  obtain ⟨ao4, c4, rfl, h41, h42⟩ := hr4.num
  refine wpC_step 4 rfl (by kernel_rfl) (by kernel_rfl) (cls _ b1) (fun K hK => ?_)
  go_simp
  go_wp2_with ((go_at_call 22; go_must (refine (k2 _ _ hr4 (hv3.below b1)).mono ?_); rintro e w2 ⟨n5, v5, M5, E5, rfl, hr5, hd5, hE5, hb5⟩))
  try (refine hK _ _ ?_; clear hK K)
  have b2 : Below W0.heap.size W0 w2 := cthen b1 hb5
  obtain ⟨ao5, c5, rfl, h51, h52⟩ := hr5.num
  have RR := (b2.block (w.heap.size + 1 + 1 + 1) z3).trans row3
  have g0 := rowcell RR 0; have g1 := rowcell RR 1; have g2 := rowcell RR 2; have gf := rowfree RR; simp only [List.getElem?_toArray, List.getElem?_cons_zero, List.getElem?_cons_succ] at g0 g1 g2
  have yy : w.heap.size + 1 + 1 + 1 < w2.heap.size := Nat.lt_of_lt_of_le z3 b2.size
  have HR5 : Hid (Row w2 _ (dig M5)) := hr5
  have HD5 : Hid (Dn _ _ _ _ _) := hd5
  clear hd5 h51 h52
  refine wpC_step 5 rfl (by kernel_rfl) (by kernel_rfl) (cls _ b2) (fun K hK => ?_)
  go_simp
  try (refine hK _ _ ?_; clear hK K)
  refine wpC_done (by kernel_rfl) ⟨(far3 ne30).trans (cls _ b2).1, (far3 ne30).trans (cls _ b2).2.1, (far3 ne30).trans (cls _ b2).2.2.1, (far3 ne31).trans (cls _ b2).2.2.2.1, (far3 ne31).trans (cls _ b2).2.2.2.2.1, (far3 ne31).trans (cls _ b2).2.2.2.2.2.1, (far3 ne32).trans (cls _ b2).2.2.2.2.2.2.1, (far3 ne32).trans (cls _ b2).2.2.2.2.2.2.2.1, (far3 ne32).trans (cls _ b2).2.2.2.2.2.2.2.2⟩ ?_
  go_wp2
  refine bodyPost_ret (v := .agg #[.bool n5, .slice ao5 (dlen M5) c5, .int .i64 E5]) (by simp [results, Tryz.results9, go_sem, g0, g1, g2, gf, yy]) rfl (hQ.out _ _ ⟨_, _, _, _, rfl, ?_, HD5.out, hE5, ?_⟩)
  · exact Row.put3 (show Row w2 _ (dig M5) from HR5.out) RR _ _ _
  · exact cset3 (cthen hB0 b2) (by omega)
set_option maxHeartbeats 2000000 in
theorem vbeside_div (n1 : Bool) (v1 : Value) (N1 : Nat) (e1 : Int) (n2 : Bool) (v2 : Value) (N2 : Nat) (e2 : Int) (n3 : Bool) (v3 : Value) (N3 : Nat) (e3 : Int) (w : World) (hr1 : Row w v1 (dig N1)) (hr2 : Row w v2 (dig N2)) (hr3 : Row w v3 (dig N3)) (o1 : Ok N1 e1) (o2 : Ok N2 e2) (o3 : Ok N3 e3) (q2 : -900 ≤ e2 ∧ e2 ≤ 900) (q3 : -900 ≤ e3 ∧ e3 ≤ 900) (s1 : blen N3 ≤ 100) (s2 : blen N2 ≤ 100) :
    Calls Tryz.prog 13 #[.int .i64 3, .agg #[.bool n1, v1, .int .i64 e1], .agg #[.bool n2, v2, .int .i64 e2], .agg #[.bool n3, v3, .int .i64 e3]] w fun e w' => e = .returned (.int .i64 (cmpN (N1 * 2 ^ (e1 - (e3 + e2)).toNat) ((N3 * N2) * 2 ^ ((e3 + e2) - e1).toNat))) ∧ Below w.heap.size w w' := by
  obtain ⟨ao1, c1, rfl, h11, h12⟩ := hr1.num
  obtain ⟨ao2, c2, rfl, h21, h22⟩ := hr2.num
  obtain ⟨ao3, c3, rfl, h31, h32⟩ := hr3.num
  have o4 : Ok ((N3 * N2)) (e3 + e2) := ⟨Nat.le_trans (blen_mul' _ _ s1 s2) (by decide), by omega, by omega⟩
  have q1 := o1.2
  have q4 := o4.2
  have k1 := fun w a b => vtimes_any n3 (.slice ao3 (dlen N3) c3) N3 e3 n2 (.slice ao2 (dlen N2) c2) N2 e2 w a b o3.dl o2.dl (by omega) (by omega)
  have k2 := fun n v w a b => vsize_any n1 (.slice ao1 (dlen N1) c1) N1 e1 n v ((N3 * N2)) (e3 + e2) w a b o1.dl o4.dl (by omega) (by omega)
  generalize (N3 * N2) = N4 at *
  generalize cmpN (N1 * 2 ^ (e1 - (e3 + e2)).toNat) (N4 * 2 ^ ((e3 + e2) - e1).toNat) = cc at *
  generalize e3 + e2 = e4 at *
  clear o1 o2 o3 o4 q1 q2 q3 q4 s1 s2 h11 h12 h21 h22 h31 h32
  refine cps fun Q hQ => ?_
  go_enter Tryz.func13, Tryz.ntmps13
  go_upto_region 3 with fail
  obtain ⟨W0, hW0⟩ : ∃ W0, W0 = (((w.alloc (.cells #[.bool n1, .slice ao1 (dlen N1) c1, .int .i64 e1] 36)).alloc (.cells #[.bool n2, .slice ao2 (dlen N2) c2, .int .i64 e2] 36)).alloc (.cells #[.bool n3, .slice ao3 (dlen N3) c3, .int .i64 e3] 36)) := ⟨_, rfl⟩
  have row0 : W0.heap[w.heap.size]? = some (.cells #[.bool n1, .slice ao1 (dlen N1) c1, .int .i64 e1] 36 (0, 0)) := by rw [hW0]; exact (Below.heap_alloc _ _ _ (by first | (simp; done) | (simp; omega) | omega)).trans ((Below.heap_alloc _ _ _ (by first | (simp; done) | (simp; omega) | omega)).trans (rownew' _ _ _ _ (by simp)))
  have z0 : w.heap.size < W0.heap.size := rowlt row0
  have row1 : W0.heap[w.heap.size + 1]? = some (.cells #[.bool n2, .slice ao2 (dlen N2) c2, .int .i64 e2] 36 (0, 0)) := by rw [hW0]; exact (Below.heap_alloc _ _ _ (by first | (simp; done) | (simp; omega) | omega)).trans (rownew' _ _ _ _ (by simp))
  have z1 : w.heap.size + 1 < W0.heap.size := rowlt row1
  have row2 : W0.heap[w.heap.size + 1 + 1]? = some (.cells #[.bool n3, .slice ao3 (dlen N3) c3, .int .i64 e3] 36 (0, 0)) := by rw [hW0]; exact rownew' _ _ _ _ (by simp)
  have z2 : w.heap.size + 1 + 1 < W0.heap.size := rowlt row2
  have hB0 : Below w.heap.size w W0 := by rw [hW0]; exact cmore (cmore (cmore (Below.refl _ _) _) _) _
  have hv1 := hr1.below hB0
  have hv2 := hr2.below hB0
  have hv3 := hr3.below hB0
  rw [← hW0]
  clear hW0
  have cls : ∀ W, Below W0.heap.size W0 W → W.cell? ⟨w.heap.size, 0, none⟩ = some (.bool n1) ∧ W.cell? ⟨w.heap.size, 1, none⟩ = some (.slice ao1 (dlen N1) c1) ∧ W.cell? ⟨w.heap.size, 2, none⟩ = some (.int .i64 e1) ∧ W.cell? ⟨w.heap.size + 1, 0, none⟩ = some (.bool n2) ∧ W.cell? ⟨w.heap.size + 1, 1, none⟩ = some (.slice ao2 (dlen N2) c2) ∧ W.cell? ⟨w.heap.size + 1, 2, none⟩ = some (.int .i64 e2) ∧ W.cell? ⟨w.heap.size + 1 + 1, 0, none⟩ = some (.bool n3) ∧ W.cell? ⟨w.heap.size + 1 + 1, 1, none⟩ = some (.slice ao3 (dlen N3) c3) ∧ W.cell? ⟨w.heap.size + 1 + 1, 2, none⟩ = some (.int .i64 e3) := fun W hW => ⟨((hW.cell (p := ⟨w.heap.size, 0, none⟩) z0).trans (rowcell row0 0)), ((hW.cell (p := ⟨w.heap.size, 1, none⟩) z0).trans (rowcell row0 1)), ((hW.cell (p := ⟨w.heap.size, 2, none⟩) z0).trans (rowcell row0 2)), ((hW.cell (p := ⟨w.heap.size + 1, 0, none⟩) z1).trans (rowcell row1 0)), ((hW.cell (p := ⟨w.heap.size + 1, 1, none⟩) z1).trans (rowcell row1 1)), ((hW.cell (p := ⟨w.heap.size + 1, 2, none⟩) z1).trans (rowcell row1 2)), ((hW.cell (p := ⟨w.heap.size + 1 + 1, 0, none⟩) z2).trans (rowcell row2 0)), ((hW.cell (p := ⟨w.heap.size + 1 + 1, 1, none⟩) z2).trans (rowcell row2 1)), ((hW.cell (p := ⟨w.heap.size + 1 + 1, 2, none⟩) z2).trans (rowcell row2 2))⟩
  refine wpC_region (fun W => W.cell? ⟨w.heap.size, 0, none⟩ = some (.bool n1) ∧ W.cell? ⟨w.heap.size, 1, none⟩ = some (.slice ao1 (dlen N1) c1) ∧ W.cell? ⟨w.heap.size, 2, none⟩ = some (.int .i64 e1) ∧ W.cell? ⟨w.heap.size + 1, 0, none⟩ = some (.bool n2) ∧ W.cell? ⟨w.heap.size + 1, 1, none⟩ = some (.slice ao2 (dlen N2) c2) ∧ W.cell? ⟨w.heap.size + 1, 2, none⟩ = some (.int .i64 e2) ∧ W.cell? ⟨w.heap.size + 1 + 1, 0, none⟩ = some (.bool n3) ∧ W.cell? ⟨w.heap.size + 1 + 1, 1, none⟩ = some (.slice ao3 (dlen N3) c3) ∧ W.cell? ⟨w.heap.size + 1 + 1, 2, none⟩ = some (.int .i64 e3)) (by kernel_rfl) ?_
  refine wpC_take 0 (v := ?_) rfl (by kernel_rfl) (fun _ _ _ h => h) (by kernel_rfl) ?_ ?_; rotate_left; · (intro wC hC; obtain ⟨p0, p1, p2, p3, p4, p5, p6, p7, p8⟩ := hC; go_simp <;> with_reducible rfl)
  refine wpC_take 1 (v := ?_) rfl (by kernel_rfl) (fun _ _ _ h => h) (by kernel_rfl) ?_ ?_; rotate_left; · (intro wC hC; obtain ⟨p0, p1, p2, p3, p4, p5, p6, p7, p8⟩ := hC; go_simp <;> with_reducible rfl)
  refine wpC_take 2 (v := ?_) rfl (by kernel_rfl) (fun _ _ _ h => h) (by kernel_rfl) ?_ ?_; rotate_left; · (intro wC hC; obtain ⟨p0, p1, p2, p3, p4, p5, p6, p7, p8⟩ := hC; go_simp <;> with_reducible rfl)
  have b0 := cdrew (Below.refl W0.heap.size W0)
  refine wpC_step 3 rfl (by kernel_rfl) (by kernel_rfl) (cls _ b0) (fun K hK => ?_)
  go_simp
  go_wp2_with ((go_at_call 23; go_must (refine (k1 _ (hv3.below b0) (hv2.below b0)).mono ?_); rintro e w1 ⟨v4, rfl, hr4, hb4⟩))
  try (refine hK _ _ ?_; clear hK K)
  have b1 : Below W0.heap.size W0 w1 := cthen b0 hb4
  obtain ⟨ao4, c4, rfl, h41, h42⟩ := hr4.num
  refine wpC_step 4 rfl (by kernel_rfl) (by kernel_rfl) (cls _ b1) (fun K hK => ?_)
  go_simp
  go_wp2_with ((go_at_call 26; go_must (refine (k2 _ _ _ (hv1.below b1) hr4).mono ?_); rintro e w2 ⟨rfl, hb5⟩))
  try (refine hK _ _ ?_; clear hK K)
  have b2 : Below W0.heap.size W0 w2 := cthen b1 hb5
  refine wpC_take 5 (v := ?_) rfl (by kernel_rfl) (fun _ _ _ h => h) (by kernel_rfl) ?_ ?_; rotate_left; · (intro wC hC; obtain ⟨p0, p1, p2, p3, p4, p5, p6, p7, p8⟩ := hC; go_simp <;> with_reducible rfl)
  refine wpC_done (by kernel_rfl) (cls _ b2) ?_
  have HBX : Hid (Below w.heap.size w w2) := cthen hB0 b2
  clear cls b0 b1 b2 hb4 hb5 hr4 h41 h42
  go_wp2
  exact bodyPost_ret (v := .int .i64 cc) (by simp [results, Tryz.results13, go_sem]) rfl (hQ.out _ _ ⟨rfl, HBX.out⟩)
set_option maxHeartbeats 2000000 in
theorem vbeside_root (n1 : Bool) (v1 : Value) (N1 : Nat) (e1 : Int) (n2 : Bool) (v2 : Value) (N2 : Nat) (e2 : Int) (n3 : Bool) (v3 : Value) (N3 : Nat) (e3 : Int) (w : World) (hr1 : Row w v1 (dig N1)) (hr2 : Row w v2 (dig N2)) (hr3 : Row w v3 (dig N3)) (o1 : Ok N1 e1) (o2 : Ok N2 e2) (o3 : Ok N3 e3) (q2 : -900 ≤ e2 ∧ e2 ≤ 900) (q3 : -900 ≤ e3 ∧ e3 ≤ 900) (s1 : blen N3 ≤ 100) (s2 : blen N3 ≤ 100) :
    Calls Tryz.prog 13 #[.int .i64 4, .agg #[.bool n1, v1, .int .i64 e1], .agg #[.bool n2, v2, .int .i64 e2], .agg #[.bool n3, v3, .int .i64 e3]] w fun e w' => e = .returned (.int .i64 (cmpN (N1 * 2 ^ (e1 - (e3 + e3)).toNat) ((N3 * N3) * 2 ^ ((e3 + e3) - e1).toNat))) ∧ Below w.heap.size w w' := by
  obtain ⟨ao1, c1, rfl, h11, h12⟩ := hr1.num
  obtain ⟨ao2, c2, rfl, h21, h22⟩ := hr2.num
  obtain ⟨ao3, c3, rfl, h31, h32⟩ := hr3.num
  have o4 : Ok ((N3 * N3)) (e3 + e3) := ⟨Nat.le_trans (blen_mul' _ _ s1 s2) (by decide), by omega, by omega⟩
  have q1 := o1.2
  have q4 := o4.2
  have k1 := fun w a b => vtimes_any n3 (.slice ao3 (dlen N3) c3) N3 e3 n3 (.slice ao3 (dlen N3) c3) N3 e3 w a b o3.dl o3.dl (by omega) (by omega)
  have k2 := fun n v w a b => vsize_any n1 (.slice ao1 (dlen N1) c1) N1 e1 n v ((N3 * N3)) (e3 + e3) w a b o1.dl o4.dl (by omega) (by omega)
  generalize (N3 * N3) = N4 at *
  generalize cmpN (N1 * 2 ^ (e1 - (e3 + e3)).toNat) (N4 * 2 ^ ((e3 + e3) - e1).toNat) = cc at *
  generalize e3 + e3 = e4 at *
  clear o1 o2 o3 o4 q1 q2 q3 q4 s1 s2 h11 h12 h21 h22 h31 h32
  refine cps fun Q hQ => ?_
  go_enter Tryz.func13, Tryz.ntmps13
  go_upto_region 5 with fail
  obtain ⟨W0, hW0⟩ : ∃ W0, W0 = (((w.alloc (.cells #[.bool n1, .slice ao1 (dlen N1) c1, .int .i64 e1] 36)).alloc (.cells #[.bool n2, .slice ao2 (dlen N2) c2, .int .i64 e2] 36)).alloc (.cells #[.bool n3, .slice ao3 (dlen N3) c3, .int .i64 e3] 36)) := ⟨_, rfl⟩
  have row0 : W0.heap[w.heap.size]? = some (.cells #[.bool n1, .slice ao1 (dlen N1) c1, .int .i64 e1] 36 (0, 0)) := by rw [hW0]; exact (Below.heap_alloc _ _ _ (by first | (simp; done) | (simp; omega) | omega)).trans ((Below.heap_alloc _ _ _ (by first | (simp; done) | (simp; omega) | omega)).trans (rownew' _ _ _ _ (by simp)))
  have z0 : w.heap.size < W0.heap.size := rowlt row0
  have row1 : W0.heap[w.heap.size + 1]? = some (.cells #[.bool n2, .slice ao2 (dlen N2) c2, .int .i64 e2] 36 (0, 0)) := by rw [hW0]; exact (Below.heap_alloc _ _ _ (by first | (simp; done) | (simp; omega) | omega)).trans (rownew' _ _ _ _ (by simp))
  have z1 : w.heap.size + 1 < W0.heap.size := rowlt row1
  have row2 : W0.heap[w.heap.size + 1 + 1]? = some (.cells #[.bool n3, .slice ao3 (dlen N3) c3, .int .i64 e3] 36 (0, 0)) := by rw [hW0]; exact rownew' _ _ _ _ (by simp)
  have z2 : w.heap.size + 1 + 1 < W0.heap.size := rowlt row2
  have hB0 : Below w.heap.size w W0 := by rw [hW0]; exact cmore (cmore (cmore (Below.refl _ _) _) _) _
  have hv1 := hr1.below hB0
  have hv2 := hr2.below hB0
  have hv3 := hr3.below hB0
  rw [← hW0]
  clear hW0
  have cls : ∀ W, Below W0.heap.size W0 W → W.cell? ⟨w.heap.size, 0, none⟩ = some (.bool n1) ∧ W.cell? ⟨w.heap.size, 1, none⟩ = some (.slice ao1 (dlen N1) c1) ∧ W.cell? ⟨w.heap.size, 2, none⟩ = some (.int .i64 e1) ∧ W.cell? ⟨w.heap.size + 1, 0, none⟩ = some (.bool n2) ∧ W.cell? ⟨w.heap.size + 1, 1, none⟩ = some (.slice ao2 (dlen N2) c2) ∧ W.cell? ⟨w.heap.size + 1, 2, none⟩ = some (.int .i64 e2) ∧ W.cell? ⟨w.heap.size + 1 + 1, 0, none⟩ = some (.bool n3) ∧ W.cell? ⟨w.heap.size + 1 + 1, 1, none⟩ = some (.slice ao3 (dlen N3) c3) ∧ W.cell? ⟨w.heap.size + 1 + 1, 2, none⟩ = some (.int .i64 e3) := fun W hW => ⟨((hW.cell (p := ⟨w.heap.size, 0, none⟩) z0).trans (rowcell row0 0)), ((hW.cell (p := ⟨w.heap.size, 1, none⟩) z0).trans (rowcell row0 1)), ((hW.cell (p := ⟨w.heap.size, 2, none⟩) z0).trans (rowcell row0 2)), ((hW.cell (p := ⟨w.heap.size + 1, 0, none⟩) z1).trans (rowcell row1 0)), ((hW.cell (p := ⟨w.heap.size + 1, 1, none⟩) z1).trans (rowcell row1 1)), ((hW.cell (p := ⟨w.heap.size + 1, 2, none⟩) z1).trans (rowcell row1 2)), ((hW.cell (p := ⟨w.heap.size + 1 + 1, 0, none⟩) z2).trans (rowcell row2 0)), ((hW.cell (p := ⟨w.heap.size + 1 + 1, 1, none⟩) z2).trans (rowcell row2 1)), ((hW.cell (p := ⟨w.heap.size + 1 + 1, 2, none⟩) z2).trans (rowcell row2 2))⟩
  refine wpC_region (fun W => W.cell? ⟨w.heap.size, 0, none⟩ = some (.bool n1) ∧ W.cell? ⟨w.heap.size, 1, none⟩ = some (.slice ao1 (dlen N1) c1) ∧ W.cell? ⟨w.heap.size, 2, none⟩ = some (.int .i64 e1) ∧ W.cell? ⟨w.heap.size + 1, 0, none⟩ = some (.bool n2) ∧ W.cell? ⟨w.heap.size + 1, 1, none⟩ = some (.slice ao2 (dlen N2) c2) ∧ W.cell? ⟨w.heap.size + 1, 2, none⟩ = some (.int .i64 e2) ∧ W.cell? ⟨w.heap.size + 1 + 1, 0, none⟩ = some (.bool n3) ∧ W.cell? ⟨w.heap.size + 1 + 1, 1, none⟩ = some (.slice ao3 (dlen N3) c3) ∧ W.cell? ⟨w.heap.size + 1 + 1, 2, none⟩ = some (.int .i64 e3)) (by kernel_rfl) ?_
  refine wpC_take 0 (v := ?_) rfl (by kernel_rfl) (fun _ _ _ h => h) (by kernel_rfl) ?_ ?_; rotate_left; · (intro wC hC; obtain ⟨p0, p1, p2, p3, p4, p5, p6, p7, p8⟩ := hC; go_simp <;> with_reducible rfl)
  refine wpC_take 1 (v := ?_) rfl (by kernel_rfl) (fun _ _ _ h => h) (by kernel_rfl) ?_ ?_; rotate_left; · (intro wC hC; obtain ⟨p0, p1, p2, p3, p4, p5, p6, p7, p8⟩ := hC; go_simp <;> with_reducible rfl)
  refine wpC_take 2 (v := ?_) rfl (by kernel_rfl) (fun _ _ _ h => h) (by kernel_rfl) ?_ ?_; rotate_left; · (intro wC hC; obtain ⟨p0, p1, p2, p3, p4, p5, p6, p7, p8⟩ := hC; go_simp <;> with_reducible rfl)
  have b0 := cdrew (Below.refl W0.heap.size W0)
  refine wpC_step 3 rfl (by kernel_rfl) (by kernel_rfl) (cls _ b0) (fun K hK => ?_)
  go_simp
  go_wp2_with ((go_at_call 23; go_must (refine (k1 _ (hv3.below b0) (hv3.below b0)).mono ?_); rintro e w1 ⟨v4, rfl, hr4, hb4⟩))
  try (refine hK _ _ ?_; clear hK K)
  have b1 : Below W0.heap.size W0 w1 := cthen b0 hb4
  obtain ⟨ao4, c4, rfl, h41, h42⟩ := hr4.num
  refine wpC_step 4 rfl (by kernel_rfl) (by kernel_rfl) (cls _ b1) (fun K hK => ?_)
  go_simp
  go_wp2_with ((go_at_call 26; go_must (refine (k2 _ _ _ (hv1.below b1) hr4).mono ?_); rintro e w2 ⟨rfl, hb5⟩))
  try (refine hK _ _ ?_; clear hK K)
  have b2 : Below W0.heap.size W0 w2 := cthen b1 hb5
  refine wpC_take 5 (v := ?_) rfl (by kernel_rfl) (fun _ _ _ h => h) (by kernel_rfl) ?_ ?_; rotate_left; · (intro wC hC; obtain ⟨p0, p1, p2, p3, p4, p5, p6, p7, p8⟩ := hC; go_simp <;> with_reducible rfl)
  refine wpC_done (by kernel_rfl) (cls _ b2) ?_
  have HBX : Hid (Below w.heap.size w w2) := cthen hB0 b2
  clear cls b0 b1 b2 hb4 hb5 hr4 h41 h42
  go_wp2
  exact bodyPost_ret (v := .int .i64 cc) (by simp [results, Tryz.results13, go_sem]) rfl (hQ.out _ _ ⟨rfl, HBX.out⟩)
theorem vbeside_plain (op : Int) (h3 : op ≠ 3) (h4 : op ≠ 4) (n1 : Bool) (v1 : Value) (N1 : Nat) (e1 : Int) (n2 : Bool) (v2 : Value) (N2 : Nat) (e2 : Int) (n3 : Bool) (v3 : Value) (N3 : Nat) (e3 : Int) (w : World) (hr1 : Row w v1 (dig N1)) (hr2 : Row w v2 (dig N2)) (hr3 : Row w v3 (dig N3)) (o1 : Ok N1 e1) (o2 : Ok N2 e2) (o3 : Ok N3 e3) :
    Calls Tryz.prog 13 #[.int .i64 op, .agg #[.bool n1, v1, .int .i64 e1], .agg #[.bool n2, v2, .int .i64 e2], .agg #[.bool n3, v3, .int .i64 e3]] w fun e w' => e = .returned (.int .i64 (cmpN (N1 * 2 ^ (e1 - e3).toNat) (N3 * 2 ^ (e3 - e1).toNat))) ∧ Below w.heap.size w w' := by
  obtain ⟨ao1, c1, rfl, h11, h12⟩ := hr1.num
  obtain ⟨ao2, c2, rfl, h21, h22⟩ := hr2.num
  obtain ⟨ao3, c3, rfl, h31, h32⟩ := hr3.num
  have q1 := o1.2
  have q3 := o3.2
  have k2 := fun w a b => vsize_any n1 (.slice ao1 (dlen N1) c1) N1 e1 n3 (.slice ao3 (dlen N3) c3) N3 e3 w a b o1.dl o3.dl (by omega) (by omega)
  generalize cmpN (N1 * 2 ^ (e1 - e3).toNat) (N3 * 2 ^ (e3 - e1).toNat) = cc at *
  have d3 : (op == 3) = false := beq_eq_false_iff_ne.2 h3
  have d4 : (op == 4) = false := beq_eq_false_iff_ne.2 h4
  have hB : ∀ W, Below w.heap.size w W → Row W (.slice ao1 (dlen N1) c1) (dig N1) ∧ Row W (.slice ao3 (dlen N3) c3) (dig N3) := fun W h => ⟨hr1.below h, hr3.below h⟩
  have HB : Hid _ := hB
  clear o1 o2 o3 q1 q3 h3 h4 h11 h12 h21 h22 h31 h32 hr1 hr2 hr3 hB
  refine cps fun Q hQ => ?_
  go_enter Tryz.func13, Tryz.ntmps13
  go_wp2_with (go_at_call 26; go_must (refine (k2 _ (HB.out _ (cmore (cmore (cmore (Below.refl _ _) _) _) _)).1 (HB.out _ (cmore (cmore (cmore (Below.refl _ _) _) _) _)).2).mono ?_); rintro e w2 ⟨rfl, hb2⟩)
  exact hQ.out _ _ ⟨rfl, cthen (cmore (cmore (cmore (Below.refl _ _) _) _) _) hb2⟩
end Go.Proofs.YtheliihkkoohnabGreat

namespace Go.Proofs.YtheliihkkoohnabGreat
set_option linter.unusedVariables false
set_option linter.unusedSimpArgs false
set_option maxRecDepth 100000

/-! ### on which side of its ties each result lies, as verniertop compares (plain mathematics) -/
/-- m times 2^F is the tie behind the pattern q -/
def TieF (n q m j : Nat) (F : Int) : Prop := j ≤ 63 ∧ m * 2 ^ (63 - j) = wordL (tieT n q) ∧ F = scaleL (tieT n q) - (j : Nat)
theorem TieF.bounds {n q m j : Nat} {F : Int} (hn : Wd n) (h : TieF n q m j F) : -400 ≤ F ∧ F ≤ 400 ∧ blen m ≤ 64 := by
  obtain ⟨h1, h2, h3⟩ := h
  have hw := wd_le hn
  have := scaleL_range4 (tieT n q) (by rw [tieT_length n q (by omega)]; omega)
  refine ⟨by omega, by omega, ?_⟩
  have hwd := (words_of (tieT n q)).hi64
  refine blen_le.2 (Nat.lt_of_le_of_lt ?_ hwd)
  rw [← h2]
  exact Nat.le_mul_of_pos_right _ (Nat.pow_pos (by decide))
theorem cmpN_of {A B : Nat} {c : Int} (hc : c = cmpN A B) : (A < B → c = -1) ∧ (A = B → c = 0) ∧ (B < A → c = 1) := by
  subst hc
  exact ⟨fun h => cmpN_lt h, fun h => by rw [h]; exact cmpN_eq _, fun h => cmpN_gt h⟩
/-- what near_ties says, handed through a comparison -/
theorem sides_of {n R : Nat} {s : Int} {hi lo : Nat} {r : Bool} (hn : Wd n) (h : WordsX hi lo) (hR : R = rndX n s hi lo r) (f : Nat → Int → Int)
    (hf : ∀ q m j F, TieF n q m j F → (ltX s hi lo r (scaleL (tieT n q)) (wordL (tieT n q)) → f m F = -1) ∧ (eqX s hi lo r (scaleL (tieT n q)) (wordL (tieT n q)) → f m F = 0) ∧ (gtX s hi lo r (scaleL (tieT n q)) (wordL (tieT n q)) → f m F = 1)) :
    (R < 2 ^ (n - 1) - 1 → ∀ m j F, TieF n R m j F → f m F = -1 ∨ (f m F = 0 ∧ R % 2 = 0)) ∧ (1 < R → ∀ m j F, TieF n (R - 1) m j F → f m F = 1 ∨ (f m F = 0 ∧ R % 2 = 0)) := by
  obtain ⟨u, l⟩ := near_ties n s hi lo r hn h R hR
  refine ⟨fun g m j F t => ?_, fun g m j F t => ?_⟩
  · obtain ⟨a, b, c⟩ := hf R m j F t
    rcases u g with d | ⟨d, e⟩
    · exact .inl (a d)
    · exact .inr ⟨b d, e⟩
  · obtain ⟨a, b, c⟩ := hf (R - 1) m j F t
    rcases l g with d | ⟨d, e⟩
    · exact .inl (c d)
    · exact .inr ⟨b d, e⟩
/-- a number that is told exactly -/
theorem sides_plain {n M : Nat} {E : Int} (hn : Wd n) (h0 : M ≠ 0) (hE : -2000 ≤ E ∧ E ≤ 2000) (hM : blen M ≤ 10000) :
    (mgI n M E false < 2 ^ (n - 1) - 1 → ∀ m j F, TieF n (mgI n M E false) m j F → cmpN (M * 2 ^ (E - F).toNat) (m * 2 ^ (F - E).toNat) = -1 ∨ (cmpN (M * 2 ^ (E - F).toNat) (m * 2 ^ (F - E).toNat) = 0 ∧ mgI n M E false % 2 = 0)) ∧
    (1 < mgI n M E false → ∀ m j F, TieF n (mgI n M E false - 1) m j F → cmpN (M * 2 ^ (E - F).toNat) (m * 2 ^ (F - E).toNat) = 1 ∨ (cmpN (M * 2 ^ (E - F).toNat) (m * 2 ^ (F - E).toNat) = 0 ∧ mgI n M E false % 2 = 0)) := by
  have hS : heldX (E + blen M - 1) = E + blen M - 1 := by unfold heldX; rw [if_neg (by omega), if_neg (by omega)]
  have hwd := normN_words h0
  have hman := man_norm h0
  have hl := lies_nat h0 E
  rw [← hman] at hl
  have hR : mgI n M E false = rndX n (E + blen M - 1) (normN M / 2 ^ 64 % 2 ^ 64) (normN M % 2 ^ 64) (lostN M) := by unfold mgI; rw [hS, Bool.false_or]
  refine sides_of hn hwd hR (fun m F => cmpN (M * 2 ^ (E - F).toNat) (m * 2 ^ (F - E).toNat)) (fun q m j F t => ?_)
  obtain ⟨t1, t2, t3⟩ := t
  obtain ⟨a, b, c⟩ := tie_cmp (a := (E - F).toNat) (b := (F - E).toNat) hl hwd (words_of (tieT n q)) (by decide) (.inl rfl) t1 t2 t3 (by omega)
  rw [Nat.mul_one] at a b c
  obtain ⟨x, y, z⟩ := cmpN_of (A := M * 2 ^ (E - F).toNat) (B := m * 2 ^ (F - E).toNat) rfl
  exact ⟨fun g => x (a g), fun g => y (b g), fun g => z (c g)⟩
/-- a quotient, by products -/
theorem sides_div {n a b : Nat} (hn : Wd n) (ha : a < 2 ^ 64) (hb : b < 2 ^ 64) (ka : vK n a = 1) (kb : vK n b = 1) :
    (qmag n a b < 2 ^ (n - 1) - 1 → ∀ m j F, TieF n (qmag n a b) m j F → cmpN (vF n a * 2 ^ (vS n a - 63 - (F + (vS n b - 63))).toNat) (m * vF n b * 2 ^ (F + (vS n b - 63) - (vS n a - 63)).toNat) = -1 ∨ (cmpN (vF n a * 2 ^ (vS n a - 63 - (F + (vS n b - 63))).toNat) (m * vF n b * 2 ^ (F + (vS n b - 63) - (vS n a - 63)).toNat) = 0 ∧ qmag n a b % 2 = 0)) ∧
    (1 < qmag n a b → ∀ m j F, TieF n (qmag n a b - 1) m j F → cmpN (vF n a * 2 ^ (vS n a - 63 - (F + (vS n b - 63))).toNat) (m * vF n b * 2 ^ (F + (vS n b - 63) - (vS n a - 63)).toNat) = 1 ∨ (cmpN (vF n a * 2 ^ (vS n a - 63 - (F + (vS n b - 63))).toNat) (m * vF n b * 2 ^ (F + (vS n b - 63) - (vS n a - 63)).toNat) = 0 ∧ qmag n a b % 2 = 0)) := by
  obtain ⟨_, _, _, _, _, _, wa, sa1, sa2⟩ := v_real n a hn ha ka
  obtain ⟨_, _, _, _, _, _, wb, sb1, sb2⟩ := v_real n b hn hb kb
  have hw := wd_le hn
  have hg0 : 0 < vF n b := by have := wb.top; omega
  have hl := lies_quo wa.top wb.hi64 hg0 (vS n a - vS n b - 200) _ rfl
  have hq := quo_pos wa.top wb.hi64 hg0
  have nq := normN_words hq
  have bq : blen (quoN (vF n a) (vF n b)) ≤ 264 := by
    have bnd : ∀ f g j : Nat, f < 2 ^ 64 → blen (f * 2 ^ j / g) ≤ 64 + j := fun f g j hf => by
      refine Nat.le_trans (blen_mono (Nat.div_le_self _ _)) (blen_le.2 ?_)
      rw [Nat.pow_add]
      exact Nat.mul_lt_mul_of_pos_right hf (Nat.pow_pos (by decide))
    exact bnd _ (vF n b) 200 wa.hi64
  have hS : heldX (vS n a - vS n b - 200 + blen (quoN (vF n a) (vF n b)) - 1) = vS n a - vS n b - 200 + blen (quoN (vF n a) (vF n b)) - 1 := by unfold heldX; rw [if_neg (by omega), if_neg (by omega)]
  have hR : qmag n a b = rndX n (vS n a - vS n b - 200 + blen (quoN (vF n a) (vF n b)) - 1) (normN (quoN (vF n a) (vF n b)) / 2 ^ 64 % 2 ^ 64) 0 ((quoR (vF n a) (vF n b) || lostN (quoN (vF n a) (vF n b))) || decide (normN (quoN (vF n a) (vF n b)) % 2 ^ 64 ≠ 0)) := by
    unfold qmag mgC; rw [hS]
  refine sides_of hn ⟨nq.top, nq.hi64, by decide⟩ hR (fun m F => cmpN (vF n a * 2 ^ (vS n a - 63 - (F + (vS n b - 63))).toNat) (m * vF n b * 2 ^ (F + (vS n b - 63) - (vS n a - 63)).toNat)) (fun q m j F t => ?_)
  obtain ⟨t1, t2, t3⟩ := t
  obtain ⟨x, hx⟩ : ∃ x, x = (vS n a - 63 - (F + (vS n b - 63))).toNat := ⟨_, rfl⟩
  obtain ⟨y, hy⟩ : ∃ y, y = (F + (vS n b - 63) - (vS n a - 63)).toNat := ⟨_, rfl⟩
  obtain ⟨c1, c2, c3⟩ := tie_cmp (a := x) (b := y + 200) hl ⟨nq.top, nq.hi64, by decide⟩ (words_of (tieT n q)) hg0 (.inr ⟨rfl, rfl⟩) t1 t2 t3 (by omega)
  have e1 : vF n a * 2 ^ 200 * 2 ^ x = vF n a * 2 ^ x * 2 ^ 200 := by simp only [Nat.mul_assoc, Nat.mul_left_comm, Nat.mul_comm]
  have e2 : m * vF n b * 2 ^ (y + 200) = m * vF n b * 2 ^ y * 2 ^ 200 := by rw [Nat.pow_add, ← Nat.mul_assoc]
  obtain ⟨p1, p2, p3⟩ := pow_cmp' 200 e1.symm e2.symm
  obtain ⟨u1, u2, u3⟩ := cmpN_of (A := vF n a * 2 ^ x) (B := m * vF n b * 2 ^ y) rfl
  rw [← hx, ← hy]
  exact ⟨fun g => u1 (p1 (c1 g)), fun g => u2 (p2 (c2 g)), fun g => u3 (p3 (c3 g))⟩
theorem sq_place {m j y W : Nat} (h : j ≤ 63) (hm : m * 2 ^ (63 - j) = W) : W * W * 2 ^ (y + 2 * j) = m * m * 2 ^ y * 2 ^ 126 := by
  obtain ⟨k, hk⟩ : ∃ k, k = 63 - j := ⟨_, rfl⟩
  obtain ⟨z, hz⟩ : ∃ z : Nat, z = 126 := ⟨_, rfl⟩
  have e : k + k + (y + 2 * j) = y + z := by omega
  rw [← hk] at hm
  rw [← hm, ← hz, Nat.mul_mul_mul_comm, ← Nat.pow_add, Nat.mul_assoc (m * m), ← Nat.pow_add, e, Nat.mul_assoc (m * m), ← Nat.pow_add]
/-- a root, by squares -/
theorem sides_root {n a : Nat} (hn : Wd n) (ha : a < 2 ^ 64) (ka : vK n a = 1) (R : Nat) (hR : R = mgT n (vS n a) (manX (vF n a) 0)) :
    (R < 2 ^ (n - 1) - 1 → ∀ m j F, TieF n R m j F → cmpN (vF n a * 2 ^ (vS n a - 63 - (F + F)).toNat) (m * m * 2 ^ (F + F - (vS n a - 63)).toNat) = -1 ∨ (cmpN (vF n a * 2 ^ (vS n a - 63 - (F + F)).toNat) (m * m * 2 ^ (F + F - (vS n a - 63)).toNat) = 0 ∧ R % 2 = 0)) ∧
    (1 < R → ∀ m j F, TieF n (R - 1) m j F → cmpN (vF n a * 2 ^ (vS n a - 63 - (F + F)).toNat) (m * m * 2 ^ (F + F - (vS n a - 63)).toNat) = 1 ∨ (cmpN (vF n a * 2 ^ (vS n a - 63 - (F + F)).toNat) (m * m * 2 ^ (F + F - (vS n a - 63)).toNat) = 0 ∧ R % 2 = 0)) := by
  obtain ⟨_, _, _, _, _, _, wa, sa1, sa2⟩ := v_real n a hn ha ka
  have hw := wd_le hn
  obtain ⟨m1, m2⟩ := mR_size (vS n a) wa.mant
  have hr := (rt_words m1 m2).2.2
  refine sides_of hn hr hR (fun m F => cmpN (vF n a * 2 ^ (vS n a - 63 - (F + F)).toNat) (m * m * 2 ^ (F + F - (vS n a - 63)).toNat)) (fun q m j F t => ?_)
  obtain ⟨t1, t2, t3⟩ := t
  obtain ⟨x, hx⟩ : ∃ x, x = (vS n a - 63 - (F + F)).toNat := ⟨_, rfl⟩
  obtain ⟨y, hy⟩ : ∃ y, y = (F + F - (vS n a - 63)).toNat := ⟨_, rfl⟩
  obtain ⟨c1, c2, c3⟩ := root_cmp (s := vS n a) (E := scaleL (tieT n q)) wa (words_of (tieT n q)) (x + 126) (y + 2 * j) (by omega)
  have e1 : vF n a * 2 ^ (x + 126) = vF n a * 2 ^ x * 2 ^ 126 := by rw [Nat.pow_add, ← Nat.mul_assoc]
  have e2 : wordL (tieT n q) * wordL (tieT n q) * 2 ^ (y + 2 * j) = m * m * 2 ^ y * 2 ^ 126 := by
    exact sq_place t1 t2
  obtain ⟨p1, p2, p3⟩ := pow_cmp' 126 e1.symm e2.symm
  obtain ⟨u1, u2, u3⟩ := cmpN_of (A := vF n a * 2 ^ x) (B := m * m * 2 ^ y) rfl
  rw [← hx, ← hy]
  exact ⟨fun g => u1 (p1 (c1 g)), fun g => u2 (p2 (c2 g)), fun g => u3 (p3 (c3 g))⟩
end Go.Proofs.YtheliihkkoohnabGreat

namespace Go.Proofs.YtheliihkkoohnabGreat
open Go.ChangeShapes Go.WideShapes Go.ChangeAt Go.RowKit
set_option linter.unusedVariables false
set_option linter.unusedSimpArgs false
set_option maxRecDepth 100000

/-! ### package sum: two reals held against each other, their signs apart -/
def cmpZ (x y : Int) : Int := if x < y then -1 else if y < x then 1 else 0
theorem mnan_any (x : Int) (w : World) : Calls Tryz.prog 111 #[.int .i64 x] w fun e w' => e = .returned (.bool false) ∧ w' = w := by
  refine cps fun Q hQ => ?_
  go_enter Tryz.func111, Tryz.ntmps111
  go_wp2
  exact hQ.out _ _ ⟨by simp, rfl⟩
theorem mcompare_any (x y : Int) (w : World) : Calls Tryz.prog 94 #[.int .i64 x, .int .i64 y] w fun e w' => e = .returned (.int .i64 (cmpZ x y)) ∧ w' = w := by
  refine cps fun Q hQ => ?_
  have hE : (x < y ∧ cmpZ x y = -1) ∨ (y < x ∧ cmpZ x y = 1) ∨ (x = y ∧ cmpZ x y = 0) := by
    unfold cmpZ; split
    · exact .inl ⟨by assumption, rfl⟩
    · split
      · exact .inr (.inl ⟨by assumption, rfl⟩)
      · exact .inr (.inr ⟨by omega, rfl⟩)
  rcases hE with ⟨h, hE⟩ | ⟨h, hE⟩ | ⟨rfl, hE⟩
  · have d1 : decide (x < y) = true := decide_eq_true h
    rw [hE] at hQ
    clear h hE
    go_enter Tryz.func94, Tryz.ntmps94
    go_wp2_with (go_at_call 111; refine (mnan_any _ _).mono ?_; rintro e w' ⟨rfl, hw⟩; rw [hw]; clear hw w')
    exact hQ.out _ _ ⟨rfl, rfl⟩
  · have d1 : decide (x < y) = false := decide_eq_false (by omega)
    have d2 : decide (y < x) = true := decide_eq_true h
    rw [hE] at hQ
    clear h hE
    go_enter Tryz.func94, Tryz.ntmps94
    go_wp2_with (go_at_call 111; refine (mnan_any _ _).mono ?_; rintro e w' ⟨rfl, hw⟩; rw [hw]; clear hw w')
    exact hQ.out _ _ ⟨rfl, rfl⟩
  · have d1 : decide (x < x) = false := decide_eq_false (by omega)
    rw [hE] at hQ
    clear hE
    go_enter Tryz.func94, Tryz.ntmps94
    go_wp2_with (go_at_call 111; refine (mnan_any _ _).mono ?_; rintro e w' ⟨rfl, hw⟩; rw [hw]; clear hw w')
    exact hQ.out _ _ ⟨rfl, rfl⟩
/-- below 0 just where the second is the greater -/
def cmpR2 (s : Int) (f : Nat) (s' : Int) (g : Nat) : Int := if cmpZ s s' = 0 then cmpN f g else cmpZ s s'
theorem cmpR2_lt (s : Int) (f : Nat) (s' : Int) (g : Nat) : cmpR2 s f s' g < 0 ↔ s < s' ∨ (s = s' ∧ f < g) := by
  unfold cmpR2 cmpZ cmpN
  repeat' split
  all_goals constructor <;> intro h <;> omega
set_option maxHeartbeats 2000000 in
theorem scompare_any (k : Int) (neg : Bool) (s : Int) (f : Nat) (k' : Int) (neg' : Bool) (s' : Int) (g : Nat) (w : World) :
    Calls Tryz.prog 70 #[numV k neg s f, numV k' neg' s' g] w fun e w' => e = .returned (.int .i64 (cmpR2 s f s' g)) ∧ Below w.heap.size w w' := by
  unfold cmpR2 numV at *
  refine cps fun Q hQ => ?_
  obtain ⟨x, hx⟩ : ∃ x, x = cmpZ s s' := ⟨_, rfl⟩
  obtain ⟨y, hy⟩ : ∃ x, x = cmpN f g := ⟨_, rfl⟩
  have r1 := mcompare_any s s'
  have r2 := compare_any f g
  rw [← hx] at r1 hQ
  rw [← hy] at r2 hQ
  obtain ⟨z, hz⟩ : ∃ z, z = if x = 0 then y else x := ⟨_, rfl⟩
  rw [← hz] at hQ
  have HZ : Hid (z = if x = 0 then y else x) := hz
  clear hx hy hz
  go_enter Tryz.func70, Tryz.ntmps70
  go_wp2
  refine wpC_region (fun W => W.cell? ⟨w.heap.size, 2, none⟩ = some (.int .i64 s) ∧ W.cell? ⟨w.heap.size, 3, none⟩ = some (.int .u64 f) ∧ W.cell? ⟨w.heap.size + 1, 2, none⟩ = some (.int .i64 s') ∧ W.cell? ⟨w.heap.size + 1, 3, none⟩ = some (.int .u64 g)) (by kernel_rfl) ?_
  refine wpC_take 0 (v := ?_) rfl (by kernel_rfl) (fun _ _ _ h => h) (by kernel_rfl) ?_ ?_; rotate_left; · (intro wC hC; obtain ⟨c1, c2, c3, c4⟩ := hC; go_simp <;> with_reducible rfl)
  refine wpC_take 1 (v := ?_) rfl (by kernel_rfl) (fun _ _ _ h => h) (by kernel_rfl) ?_ ?_; rotate_left; · (intro wC hC; obtain ⟨c1, c2, c3, c4⟩ := hC; go_simp <;> with_reducible rfl)
  refine wpC_take 2 (v := ?_) rfl (by kernel_rfl) (fun _ _ _ h => h) (by kernel_rfl) ?_ ?_; rotate_left; · (intro wC hC; obtain ⟨c1, c2, c3, c4⟩ := hC; go_simp <;> with_reducible rfl)
  refine wpC_take 3 (v := ?_) rfl (by kernel_rfl) (fun _ _ _ h => h) (by kernel_rfl) ?_ ?_; rotate_left; · (intro wC hC; obtain ⟨c1, c2, c3, c4⟩ := hC; go_simp <;> with_reducible rfl)
  refine wpC_take 5 (v := ?_) rfl (by kernel_rfl) (fun _ _ _ h => h) (by kernel_rfl) ?_ ?_; rotate_left; · (intro wC hC; obtain ⟨c1, c2, c3, c4⟩ := hC; go_simp <;> with_reducible rfl)
  refine wpC_take 6 (v := ?_) rfl (by kernel_rfl) (fun _ _ _ h => h) (by kernel_rfl) ?_ ?_; rotate_left; · (intro wC hC; obtain ⟨c1, c2, c3, c4⟩ := hC; go_simp <;> with_reducible rfl)
  refine wpC_take 7 (v := ?_) rfl (by kernel_rfl) (fun _ _ _ h => h) (by kernel_rfl) ?_ ?_; rotate_left; · (intro wC hC; obtain ⟨c1, c2, c3, c4⟩ := hC; go_simp <;> with_reducible rfl)
  refine wpC_take 8 (v := ?_) rfl (by kernel_rfl) (fun _ _ _ h => h) (by kernel_rfl) ?_ ?_; rotate_left; · (intro wC hC; obtain ⟨c1, c2, c3, c4⟩ := hC; go_simp <;> with_reducible rfl)
  refine wpC_step 4 rfl (by kernel_rfl) (by kernel_rfl) (by simp [go_sem]) (fun K hK => ?_)
  go_simp
  go_wp2_with ((go_at_call 94; refine (r1 _).mono ?_; rintro e w' ⟨rfl, hw⟩; rw [hw]; clear hw w'))
  try (refine hK _ _ ?_; clear hK K)
  refine wpC_step 9 rfl (by kernel_rfl) (by kernel_rfl) (by simp [go_sem]) (fun K hK => ?_)
  go_simp
  go_wp2_with ((go_at_call 95; refine (r2 _).mono ?_; rintro e w' ⟨rfl, hw⟩; rw [hw]; clear hw w'))
  try (refine hK _ _ ?_; clear hK K)
  refine wpC_step 10 rfl (by kernel_rfl) (by kernel_rfl) (by simp [go_sem]) (fun K hK => ?_)
  go_simp
  try (refine hK _ _ ?_; clear hK K)
  refine wpC_step 11 rfl (by kernel_rfl) (by kernel_rfl) (by simp [go_sem]) (fun K hK => ?_)
  go_simp
  go_wp2_with ((go_at_call 93; refine (or_any' x y z HZ.out _ _ (drew_at _ _ _ _ 0 (by simp)) (drew_at _ _ _ _ 1 (by simp))).mono ?_; rintro e w' ⟨rfl, hw⟩; rw [hw]; clear hw w'))
  try (refine hK _ _ ?_; clear hK K)
  refine wpC_step 12 rfl (by kernel_rfl) (by kernel_rfl) (by simp [go_sem]) (fun K hK => ?_)
  go_simp
  try (refine hK _ _ ?_; clear hK K)
  refine wpC_done (by kernel_rfl) (by simp [go_sem]) ?_
  go_wp2
  refine hQ.out _ _ ⟨rfl, ?_⟩
  exact (bmore (bmore (bmore (Below.refl _ _) _) _) _).drew
end Go.Proofs.YtheliihkkoohnabGreat

namespace Go.Proofs.YtheliihkkoohnabGreat
open Go.ChangeShapes Go.WideShapes Go.ChangeAt Go.RowKit
set_option linter.unusedVariables false
set_option linter.unusedSimpArgs false
set_option maxRecDepth 100000

/-! ### numbers of 256 bits, the lowest word first -/
def wdV (a b c d : Nat) : Value := .agg #[.int .u64 a, .int .u64 b, .int .u64 c, .int .u64 d]
/-- a word times 2^k, laid into four words -/
theorem splaced_at (f : Nat) (k q r h l : Nat) (u0 u1 u2 u3 : Nat) (hr : r ≤ 63) (hk : k = 64 * q + r) (hs : Tw (f * 2 ^ r) h l) (hf : f ≤ 18446744073709551615)
    (hq : (q = 0 ∧ l = u0 ∧ h = u1 ∧ u2 = 0 ∧ u3 = 0) ∨ (q = 1 ∧ u0 = 0 ∧ l = u1 ∧ h = u2 ∧ u3 = 0) ∨ (q = 2 ∧ u0 = 0 ∧ u1 = 0 ∧ l = u2 ∧ h = u3)) (w : World) :
    Calls Tryz.prog 71 #[.int .u64 f, .int .i64 k] w fun e w' => e = .returned (wdV u0 u1 u2 u3) ∧ Below w.heap.size w w' := by
  have k1 := tshl_any (a := f) (h1 := 0) (l1 := f) (c := false) r (by omega) ⟨by omega, by omega, hf⟩ ((Nat.mod_eq_of_lt hs.lt).symm ▸ hs) (by rw [decide_eq_false (by have := hs.lt; omega)])
  have m1 : Int.tmod (k : Int) 64 = (r : Int) := by rw [Int.tmod_eq_emod_of_nonneg (by omega)]; omega
  have m2 : Int.tdiv (k : Int) 64 = (q : Int) := by rw [Int.tdiv_eq_ediv_of_nonneg (by omega)]; omega
  have m3 : (k : Int) % 64 = (r : Int) := by omega
  have m4 : (k : Int) / 64 = (q : Int) := by omega
  rw [show ((0 : Nat) : Int) = 0 from rfl] at k1
  clear hs hk hf hr
  have v0 : IntKind.i64.wrap 0 = 0 := rfl
  have v1 : IntKind.i64.wrap 1 = 1 := rfl
  have v2 : IntKind.i64.wrap 2 = 2 := rfl
  have v3 : IntKind.i64.wrap 3 = 3 := rfl
  unfold wdV
  refine cps fun Q hQ => ?_
  rcases hq with ⟨rfl, rfl, rfl, rfl, rfl⟩ | ⟨rfl, rfl, rfl, rfl, rfl⟩ | ⟨rfl, rfl, rfl, rfl, rfl⟩
  all_goals
    go_enter Tryz.func71, Tryz.ntmps71
    go_wp2_with (go_at_call 96; go_must (refine (k1 _).mono ?_); rintro e w1 ⟨rfl, hb1⟩; have HB1 : Hid (Below _ _ _) := hb1; have R0 := (hb1.block w.heap.size (by simp)).trans (rownew w _ _); have HR0 : Hid _ := R0; have z1 : w.heap.size < w1.heap.size := (by have := hb1.size; simp at this; omega); clear hb1 R0)
    have y0 := rowcell (rownew' (w1.alloc (.cells #[.int .u64 h, .int .u64 l] 91)) #[.int .u64 0, .int .u64 0, .int .u64 0, .int .u64 0] 112 (w1.heap.size + 1) (by simp))
    have X0 := (Below.heap_alloc (w1.alloc (.cells #[.int .u64 h, .int .u64 l] 91)) (.cells #[.int .u64 0, .int .u64 0, .int .u64 0, .int .u64 0] 112) w1.heap.size (by simp)).trans (rownew w1 _ _)
    have x0 := rowcell X0 0
    have x1 := rowcell X0 1
    simp only [List.getElem?_toArray, List.getElem?_cons_zero, List.getElem?_cons_succ] at x0 x1
    refine wpC_region (fun W => W.cell? ⟨w1.heap.size, 0, none⟩ = some (.int .u64 h) ∧ W.cell? ⟨w1.heap.size, 1, none⟩ = some (.int .u64 l)) (by kernel_rfl) ?_
    refine wpC_take 0 (v := ?_) rfl (by kernel_rfl) (fun _ _ _ h => h) (by kernel_rfl) ?_ ?_; rotate_left; · (intro wC hC; obtain ⟨c0, c1⟩ := hC; go_simp <;> with_reducible rfl)
    refine wpC_take 1 (v := ?_) rfl (by kernel_rfl) (fun _ _ _ h => h) (by kernel_rfl) ?_ ?_; rotate_left; · (intro wC hC; obtain ⟨c0, c1⟩ := hC; go_simp <;> with_reducible rfl)
    refine wpC_take 2 (v := ?_) rfl (by kernel_rfl) (fun _ _ _ h => h) (by kernel_rfl) ?_ ?_; rotate_left; · (intro wC hC; obtain ⟨c0, c1⟩ := hC; go_simp <;> with_reducible rfl)
    refine wpC_take 3 (v := ?_) rfl (by kernel_rfl) (fun _ _ _ h => h) (by kernel_rfl) ?_ ?_; rotate_left; · (intro wC hC; obtain ⟨c0, c1⟩ := hC; go_simp <;> with_reducible rfl)
    refine wpC_take 4 (v := ?_) rfl (by kernel_rfl) (fun _ _ _ h => h) (by kernel_rfl) ?_ ?_; rotate_left; · (intro wC hC; obtain ⟨c0, c1⟩ := hC; go_simp <;> with_reducible rfl)
    refine wpC_take 5 (v := ?_) rfl (by kernel_rfl) (fun _ _ _ h => h) (by kernel_rfl) ?_ ?_; rotate_left; · (intro wC hC; obtain ⟨c0, c1⟩ := hC; go_simp <;> with_reducible rfl)
    refine wpC_take 6 (v := ?_) rfl (by kernel_rfl) (fun _ _ _ h => h) (by kernel_rfl) ?_ ?_; rotate_left; · (intro wC hC; obtain ⟨c0, c1⟩ := hC; go_simp <;> with_reducible rfl)
    refine wpC_take 7 (v := ?_) rfl (by kernel_rfl) (fun _ _ _ h => h) (by kernel_rfl) ?_ ?_; rotate_left; · (intro wC hC; obtain ⟨c0, c1⟩ := hC; go_simp <;> with_reducible rfl)
    refine wpC_take 8 (v := ?_) rfl (by kernel_rfl) (fun _ _ _ h => h) (by kernel_rfl) ?_ ?_; rotate_left; · (intro wC hC; obtain ⟨c0, c1⟩ := hC; go_simp <;> with_reducible rfl)
    refine wpC_take 9 (v := ?_) rfl (by kernel_rfl) (fun _ _ _ h => h) (by kernel_rfl) ?_ ?_; rotate_left; · (intro wC hC; obtain ⟨c0, c1⟩ := hC; go_simp <;> with_reducible rfl)
    refine wpC_step 10 rfl (by kernel_rfl) (by kernel_rfl) ⟨x0, x1⟩ (fun K hK => ?_)
    go_simp
    try (refine hK _ _ ?_; clear hK K)
    refine wpC_take 11 (v := ?_) rfl (by kernel_rfl) (fun _ _ _ h => h) (by kernel_rfl) ?_ ?_; rotate_left; · (intro wC hC; obtain ⟨c0, c1⟩ := hC; go_simp <;> with_reducible rfl)
    refine wpC_step 12 rfl (by kernel_rfl) (by kernel_rfl) (by simp [go_sem, x0, x1]) (fun K hK => ?_)
    go_simp
    try (refine hK _ _ ?_; clear hK K)
    refine wpC_done (by kernel_rfl) (by simp [go_sem, x0, x1]) ?_
    have b0 := rowcell HR0.out 0
    have b1 := rowcell HR0.out 1
    have b2 := rowcell HR0.out 2
    have b3 := rowcell HR0.out 3
    have bf := rowfree HR0.out
    have n1 : ¬ w.heap.size = w1.heap.size := by omega
    have n2 : ¬ w.heap.size = w1.heap.size + 1 := by omega
    simp only [List.getElem?_toArray, List.getElem?_cons_zero, List.getElem?_cons_succ] at b0 b1 b2 b3
    go_wp2
    refine bodyPost_ret (v := wdV _ _ _ _) (by simp [results, Tryz.results71, go_sem, b0, b1, b2, b3, z1, wdV]; done) rfl (hQ.out _ _ ⟨rfl, ?_⟩)
    refine cdrew (cmore (cmore (cset4 (cthen (cmore (Below.refl _ _) _) HB1.out) (Nat.le_refl _)) _) _)
end Go.Proofs.YtheliihkkoohnabGreat
