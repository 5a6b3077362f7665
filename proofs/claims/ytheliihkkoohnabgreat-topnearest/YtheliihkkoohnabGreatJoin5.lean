import Derived.Test.YtheliihkkoohnabGreatJoin4
import Derived.Test.YtheliihkkoohnabGreatJoin3
import Derived.Test.YtheliihkkoohnabGreatJoin2
namespace Go.Proofs.YtheliihkkoohnabGreat
open Go.ChangeShapes Go.WideShapes Go.ChangeAt Go.RowKit
set_option linter.unusedVariables false
set_option linter.unusedSimpArgs false
set_option maxRecDepth 100000

/-! ### sums and differences of 256 bits -/
theorem rowset_other {w : World} {m g : Nat} {c : Array Value} {t : TypeId} {o : Nat} {v : Value} (h : w.heap[m]? = some (.cells c t (0, 0))) (hne : m ≠ g) : (w.setCell ⟨g, o, none⟩ v).drew.heap[m]? = some (.cells c t (0, 0)) := by
  show (w.setCell ⟨g, o, none⟩ v).heap[m]? = _
  rw [heap_setCell_other w _ m _ hne]
  exact h
set_option maxHeartbeats 4000000 in
theorem splus_walk (x0 x1 x2 x3 y0 y1 y2 y3 s0 s1 s2 s3 c1 c2 c3 c4 : Nat)
    (r0 : ∀ w, (callFunc 97 #[.int .u64 x0, .int .u64 y0, .int .u64 0]).run Tryz.prog w = .ok (.value (.tuple #[.int .u64 s0, .int .u64 c1])) w)
    (r1 : ∀ w, (callFunc 97 #[.int .u64 x1, .int .u64 y1, .int .u64 c1]).run Tryz.prog w = .ok (.value (.tuple #[.int .u64 s1, .int .u64 c2])) w)
    (r2 : ∀ w, (callFunc 97 #[.int .u64 x2, .int .u64 y2, .int .u64 c2]).run Tryz.prog w = .ok (.value (.tuple #[.int .u64 s2, .int .u64 c3])) w)
    (r3 : ∀ w, (callFunc 97 #[.int .u64 x3, .int .u64 y3, .int .u64 c3]).run Tryz.prog w = .ok (.value (.tuple #[.int .u64 s3, .int .u64 c4])) w) (w : World) :
    Calls Tryz.prog 72 #[wdV x0 x1 x2 x3, wdV y0 y1 y2 y3] w fun e w' => e = .returned (wdV s0 s1 s2 s3) ∧ Below w.heap.size w w' := by
  unfold wdV
  have v0 : IntKind.i64.wrap 0 = 0 := rfl
  have v1 : IntKind.i64.wrap 1 = 1 := rfl
  have v2 : IntKind.i64.wrap 2 = 2 := rfl
  have v3 : IntKind.i64.wrap 3 = 3 := rfl
  refine cps fun Q hQ => ?_
  go_enter Tryz.func72, Tryz.ntmps72
  go_wp2
  go_loopw [6, 7, 8] (fun cv _ iv wr => Hid (Below w.heap.size w wr) ∧ wr.heap[w.heap.size]? = some (.cells #[.int .u64 x0, .int .u64 x1, .int .u64 x2, .int .u64 x3] 112 (0, 0)) ∧ wr.heap[w.heap.size + 1]? = some (.cells #[.int .u64 y0, .int .u64 y1, .int .u64 y2, .int .u64 y3] 112 (0, 0)) ∧ wr.heap[w.heap.size + 2]? = some (.cells #[.int .u64 0, .int .u64 0, .int .u64 0, .int .u64 0] 112 (0, 0)) ∧ ∃ a0 a1 a2 a3 c : Nat, wr.heap[w.heap.size + 3]? = some (.cells #[.int .u64 a0, .int .u64 a1, .int .u64 a2, .int .u64 a3] 112 (0, 0)) ∧ cv = .int .u64 c ∧ ((iv = .int .i64 0 ∧ 0 = c ∧ 0 = a0 ∧ 0 = a1 ∧ 0 = a2 ∧ 0 = a3) ∨ (iv = .int .i64 1 ∧ c1 = c ∧ s0 = a0 ∧ 0 = a1 ∧ 0 = a2 ∧ 0 = a3) ∨ (iv = .int .i64 2 ∧ c2 = c ∧ s0 = a0 ∧ s1 = a1 ∧ 0 = a2 ∧ 0 = a3) ∨ (iv = .int .i64 3 ∧ c3 = c ∧ s0 = a0 ∧ s1 = a1 ∧ s2 = a2 ∧ 0 = a3) ∨ (iv = .int .i64 4 ∧ s0 = a0 ∧ s1 = a1 ∧ s2 = a2 ∧ s3 = a3))) (fun _ _ iv _ => (4 - intOf iv).toNat)
  case atStart => exact ⟨cmore (cmore (cmore (cmore (Below.refl _ _) _) _) _) _, (Below.heap_alloc _ _ _ (by first | (simp; done) | (simp; omega))).trans ((Below.heap_alloc _ _ _ (by first | (simp; done) | (simp; omega))).trans ((Below.heap_alloc _ _ _ (by first | (simp; done) | (simp; omega))).trans (rownew' _ _ _ _ (by simp)))), (Below.heap_alloc _ _ _ (by first | (simp; done) | (simp; omega))).trans ((Below.heap_alloc _ _ _ (by first | (simp; done) | (simp; omega))).trans (rownew' _ _ _ _ (by simp))), (Below.heap_alloc _ _ _ (by first | (simp; done) | (simp; omega))).trans (rownew' _ _ _ _ (by simp)), 0, 0, 0, 0, 0, rownew' _ _ _ _ (by simp), rfl, .inl ⟨rfl, rfl, rfl, rfl, rfl, rfl⟩⟩
  case round =>
    obtain ⟨hB, hX, hY, hR, a0, a1, a2, a3, c, hS, rfl, hrel⟩ := hrel
    have HB : Hid (Below w.heap.size w wr) := hB.out
    have xx0 := rowcell hX 0
    have xx1 := rowcell hX 1
    have xx2 := rowcell hX 2
    have xx3 := rowcell hX 3
    have yy0 := rowcell hY 0
    have yy1 := rowcell hY 1
    have yy2 := rowcell hY 2
    have yy3 := rowcell hY 3
    have tt0 := rowcell hR 0
    have tt1 := rowcell hR 1
    have tt2 := rowcell hR 2
    have tt3 := rowcell hR 3
    have bb0 := rowcell hS 0
    have bb1 := rowcell hS 1
    have bb2 := rowcell hS 2
    have bb3 := rowcell hS 3
    have tf := rowfree hR
    have sf := rowfree hS
    simp only [List.getElem?_toArray, List.getElem?_cons_zero, List.getElem?_cons_succ] at xx0 xx1 xx2 xx3 yy0 yy1 yy2 yy3 tt0 tt1 tt2 tt3 bb0 bb1 bb2 bb3
    have GhX : Hid _ := hX
    have GhY : Hid _ := hY
    have GhR : Hid _ := hR
    have GhS : Hid _ := hS
    clear hX hY hR hS hB
    rcases hrel with ⟨rfl, rfl, rfl, rfl, rfl, rfl⟩ | ⟨rfl, rfl, rfl, rfl, rfl, rfl⟩ | ⟨rfl, rfl, rfl, rfl, rfl, rfl⟩ | ⟨rfl, rfl, rfl, rfl, rfl, rfl⟩ | ⟨rfl, rfl, rfl, rfl, rfl⟩
    · go_wp2
      refine wpC_region (fun W => W.cell? ⟨w.heap.size, 0, none⟩ = some (.int .u64 x0) ∧ W.cell? ⟨w.heap.size, 1, none⟩ = some (.int .u64 x1) ∧ W.cell? ⟨w.heap.size, 2, none⟩ = some (.int .u64 x2) ∧ W.cell? ⟨w.heap.size, 3, none⟩ = some (.int .u64 x3) ∧ W.cell? ⟨w.heap.size + 1, 0, none⟩ = some (.int .u64 y0) ∧ W.cell? ⟨w.heap.size + 1, 1, none⟩ = some (.int .u64 y1) ∧ W.cell? ⟨w.heap.size + 1, 2, none⟩ = some (.int .u64 y2) ∧ W.cell? ⟨w.heap.size + 1, 3, none⟩ = some (.int .u64 y3)) (by kernel_rfl) ?_
      refine wpC_take 0 (v := ?_) rfl (by kernel_rfl) (fun _ _ _ h => h) (by kernel_rfl) ?_ ?_; rotate_left; · (intro wC hC; obtain ⟨d0, d1, d2, d3, d4, d5, d6, d7⟩ := hC; go_simp <;> with_reducible rfl)
      refine wpC_take 1 (v := ?_) rfl (by kernel_rfl) (fun _ _ _ h => h) (by kernel_rfl) ?_ ?_; rotate_left; · (intro wC hC; obtain ⟨d0, d1, d2, d3, d4, d5, d6, d7⟩ := hC; go_simp <;> with_reducible rfl)
      refine wpC_take 2 (v := ?_) rfl (by kernel_rfl) (fun _ _ _ h => h) (by kernel_rfl) ?_ ?_; rotate_left; · (intro wC hC; obtain ⟨d0, d1, d2, d3, d4, d5, d6, d7⟩ := hC; go_simp <;> with_reducible rfl)
      refine wpC_take 3 (v := ?_) rfl (by kernel_rfl) (fun _ _ _ h => h) (by kernel_rfl) ?_ ?_; rotate_left; · (intro wC hC; obtain ⟨d0, d1, d2, d3, d4, d5, d6, d7⟩ := hC; go_simp <;> with_reducible rfl)
      refine wpC_take 4 (v := ?_) rfl (by kernel_rfl) (fun _ _ _ h => h) (by kernel_rfl) ?_ ?_; rotate_left; · (intro wC hC; obtain ⟨d0, d1, d2, d3, d4, d5, d6, d7⟩ := hC; go_simp <;> with_reducible rfl)
      refine wpC_take 5 (v := ?_) rfl (by kernel_rfl) (fun _ _ _ h => h) (by kernel_rfl) ?_ ?_; rotate_left; · (intro wC hC; obtain ⟨d0, d1, d2, d3, d4, d5, d6, d7⟩ := hC; go_simp <;> with_reducible rfl)
      refine wpC_take 6 (v := ?_) rfl (by kernel_rfl) (fun _ _ _ h => h) (by kernel_rfl) ?_ ?_; rotate_left; · (intro wC hC; obtain ⟨d0, d1, d2, d3, d4, d5, d6, d7⟩ := hC; go_simp <;> with_reducible rfl)
      refine wpC_take 7 (v := ?_) rfl (by kernel_rfl) (fun _ _ _ h => h) (by kernel_rfl) ?_ ?_; rotate_left; · (intro wC hC; obtain ⟨d0, d1, d2, d3, d4, d5, d6, d7⟩ := hC; go_simp <;> with_reducible rfl)
      refine wpC_take 8 (v := ?_) rfl (by kernel_rfl) (fun _ _ _ h => h) (by kernel_rfl) ?_ ?_; rotate_left; · (intro wC hC; obtain ⟨d0, d1, d2, d3, d4, d5, d6, d7⟩ := hC; go_simp <;> with_reducible rfl)
      refine wpC_take 9 (v := ?_) rfl (by kernel_rfl) (fun _ _ _ h => h) (by kernel_rfl) ?_ ?_; rotate_left; · (intro wC hC; obtain ⟨d0, d1, d2, d3, d4, d5, d6, d7⟩ := hC; go_simp <;> with_reducible rfl)
      refine wpC_take 10 (v := ?_) rfl (by kernel_rfl) (fun _ _ _ h => h) (by kernel_rfl) ?_ ?_; rotate_left; · (intro wC hC; obtain ⟨d0, d1, d2, d3, d4, d5, d6, d7⟩ := hC; go_simp <;> with_reducible rfl)
      refine wpC_take 11 (v := ?_) rfl (by kernel_rfl) (fun _ _ _ h => h) (by kernel_rfl) ?_ ?_; rotate_left; · (intro wC hC; obtain ⟨d0, d1, d2, d3, d4, d5, d6, d7⟩ := hC; go_simp <;> with_reducible rfl)
      refine wpC_take 12 (v := ?_) rfl (by kernel_rfl) (fun _ _ _ h => h) (by kernel_rfl) ?_ ?_; rotate_left; · (intro wC hC; obtain ⟨d0, d1, d2, d3, d4, d5, d6, d7⟩ := hC; go_simp <;> with_reducible rfl)
      refine wpC_step 13 rfl (by kernel_rfl) (by kernel_rfl) ⟨xx0, xx1, xx2, xx3, yy0, yy1, yy2, yy3⟩ (fun K hK => ?_)
      go_simp
      try (refine hK _ _ ?_; clear hK K)
      refine wpC_take 14 (v := ?_) rfl (by kernel_rfl) (fun _ _ _ h => h) (by kernel_rfl) ?_ ?_; rotate_left; · (intro wC hC; obtain _ := hC; go_simp <;> with_reducible rfl)
      refine wpC_done (by kernel_rfl) (by simp [go_sem, xx0, xx1, xx2, xx3, yy0, yy1, yy2, yy3]) ?_
      go_wp2
      go_roundw
      case measure => simp [intOf]
      case rel => exact ⟨cdrew (cset HB.out (by omega) _ _), (rowset_other GhX.out (by omega)), (rowset_other GhY.out (by omega)), (rowset_other GhR.out (by omega)), s0, 0, 0, 0, c1, (rowset GhS.out 0 _).trans (by simp only [List.setIfInBounds_toArray, List.set_cons_zero, List.set_cons_succ]), rfl, .inr (.inl ⟨rfl, rfl, rfl, rfl, rfl, rfl⟩)⟩
    · go_wp2
      refine wpC_region (fun W => W.cell? ⟨w.heap.size, 0, none⟩ = some (.int .u64 x0) ∧ W.cell? ⟨w.heap.size, 1, none⟩ = some (.int .u64 x1) ∧ W.cell? ⟨w.heap.size, 2, none⟩ = some (.int .u64 x2) ∧ W.cell? ⟨w.heap.size, 3, none⟩ = some (.int .u64 x3) ∧ W.cell? ⟨w.heap.size + 1, 0, none⟩ = some (.int .u64 y0) ∧ W.cell? ⟨w.heap.size + 1, 1, none⟩ = some (.int .u64 y1) ∧ W.cell? ⟨w.heap.size + 1, 2, none⟩ = some (.int .u64 y2) ∧ W.cell? ⟨w.heap.size + 1, 3, none⟩ = some (.int .u64 y3)) (by kernel_rfl) ?_
      refine wpC_take 0 (v := ?_) rfl (by kernel_rfl) (fun _ _ _ h => h) (by kernel_rfl) ?_ ?_; rotate_left; · (intro wC hC; obtain ⟨d0, d1, d2, d3, d4, d5, d6, d7⟩ := hC; go_simp <;> with_reducible rfl)
      refine wpC_take 1 (v := ?_) rfl (by kernel_rfl) (fun _ _ _ h => h) (by kernel_rfl) ?_ ?_; rotate_left; · (intro wC hC; obtain ⟨d0, d1, d2, d3, d4, d5, d6, d7⟩ := hC; go_simp <;> with_reducible rfl)
      refine wpC_take 2 (v := ?_) rfl (by kernel_rfl) (fun _ _ _ h => h) (by kernel_rfl) ?_ ?_; rotate_left; · (intro wC hC; obtain ⟨d0, d1, d2, d3, d4, d5, d6, d7⟩ := hC; go_simp <;> with_reducible rfl)
      refine wpC_take 3 (v := ?_) rfl (by kernel_rfl) (fun _ _ _ h => h) (by kernel_rfl) ?_ ?_; rotate_left; · (intro wC hC; obtain ⟨d0, d1, d2, d3, d4, d5, d6, d7⟩ := hC; go_simp <;> with_reducible rfl)
      refine wpC_take 4 (v := ?_) rfl (by kernel_rfl) (fun _ _ _ h => h) (by kernel_rfl) ?_ ?_; rotate_left; · (intro wC hC; obtain ⟨d0, d1, d2, d3, d4, d5, d6, d7⟩ := hC; go_simp <;> with_reducible rfl)
      refine wpC_take 5 (v := ?_) rfl (by kernel_rfl) (fun _ _ _ h => h) (by kernel_rfl) ?_ ?_; rotate_left; · (intro wC hC; obtain ⟨d0, d1, d2, d3, d4, d5, d6, d7⟩ := hC; go_simp <;> with_reducible rfl)
      refine wpC_take 6 (v := ?_) rfl (by kernel_rfl) (fun _ _ _ h => h) (by kernel_rfl) ?_ ?_; rotate_left; · (intro wC hC; obtain ⟨d0, d1, d2, d3, d4, d5, d6, d7⟩ := hC; go_simp <;> with_reducible rfl)
      refine wpC_take 7 (v := ?_) rfl (by kernel_rfl) (fun _ _ _ h => h) (by kernel_rfl) ?_ ?_; rotate_left; · (intro wC hC; obtain ⟨d0, d1, d2, d3, d4, d5, d6, d7⟩ := hC; go_simp <;> with_reducible rfl)
      refine wpC_take 8 (v := ?_) rfl (by kernel_rfl) (fun _ _ _ h => h) (by kernel_rfl) ?_ ?_; rotate_left; · (intro wC hC; obtain ⟨d0, d1, d2, d3, d4, d5, d6, d7⟩ := hC; go_simp <;> with_reducible rfl)
      refine wpC_take 9 (v := ?_) rfl (by kernel_rfl) (fun _ _ _ h => h) (by kernel_rfl) ?_ ?_; rotate_left; · (intro wC hC; obtain ⟨d0, d1, d2, d3, d4, d5, d6, d7⟩ := hC; go_simp <;> with_reducible rfl)
      refine wpC_take 10 (v := ?_) rfl (by kernel_rfl) (fun _ _ _ h => h) (by kernel_rfl) ?_ ?_; rotate_left; · (intro wC hC; obtain ⟨d0, d1, d2, d3, d4, d5, d6, d7⟩ := hC; go_simp <;> with_reducible rfl)
      refine wpC_take 11 (v := ?_) rfl (by kernel_rfl) (fun _ _ _ h => h) (by kernel_rfl) ?_ ?_; rotate_left; · (intro wC hC; obtain ⟨d0, d1, d2, d3, d4, d5, d6, d7⟩ := hC; go_simp <;> with_reducible rfl)
      refine wpC_take 12 (v := ?_) rfl (by kernel_rfl) (fun _ _ _ h => h) (by kernel_rfl) ?_ ?_; rotate_left; · (intro wC hC; obtain ⟨d0, d1, d2, d3, d4, d5, d6, d7⟩ := hC; go_simp <;> with_reducible rfl)
      refine wpC_step 13 rfl (by kernel_rfl) (by kernel_rfl) ⟨xx0, xx1, xx2, xx3, yy0, yy1, yy2, yy3⟩ (fun K hK => ?_)
      go_simp
      try (refine hK _ _ ?_; clear hK K)
      refine wpC_take 14 (v := ?_) rfl (by kernel_rfl) (fun _ _ _ h => h) (by kernel_rfl) ?_ ?_; rotate_left; · (intro wC hC; obtain _ := hC; go_simp <;> with_reducible rfl)
      refine wpC_done (by kernel_rfl) (by simp [go_sem, xx0, xx1, xx2, xx3, yy0, yy1, yy2, yy3]) ?_
      go_wp2
      go_roundw
      case measure => simp [intOf]
      case rel => exact ⟨cdrew (cset HB.out (by omega) _ _), (rowset_other GhX.out (by omega)), (rowset_other GhY.out (by omega)), (rowset_other GhR.out (by omega)), s0, s1, 0, 0, c2, (rowset GhS.out 1 _).trans (by simp only [List.setIfInBounds_toArray, List.set_cons_zero, List.set_cons_succ]), rfl, .inr (.inr (.inl ⟨rfl, rfl, rfl, rfl, rfl, rfl⟩))⟩
    · go_wp2
      refine wpC_region (fun W => W.cell? ⟨w.heap.size, 0, none⟩ = some (.int .u64 x0) ∧ W.cell? ⟨w.heap.size, 1, none⟩ = some (.int .u64 x1) ∧ W.cell? ⟨w.heap.size, 2, none⟩ = some (.int .u64 x2) ∧ W.cell? ⟨w.heap.size, 3, none⟩ = some (.int .u64 x3) ∧ W.cell? ⟨w.heap.size + 1, 0, none⟩ = some (.int .u64 y0) ∧ W.cell? ⟨w.heap.size + 1, 1, none⟩ = some (.int .u64 y1) ∧ W.cell? ⟨w.heap.size + 1, 2, none⟩ = some (.int .u64 y2) ∧ W.cell? ⟨w.heap.size + 1, 3, none⟩ = some (.int .u64 y3)) (by kernel_rfl) ?_
      refine wpC_take 0 (v := ?_) rfl (by kernel_rfl) (fun _ _ _ h => h) (by kernel_rfl) ?_ ?_; rotate_left; · (intro wC hC; obtain ⟨d0, d1, d2, d3, d4, d5, d6, d7⟩ := hC; go_simp <;> with_reducible rfl)
      refine wpC_take 1 (v := ?_) rfl (by kernel_rfl) (fun _ _ _ h => h) (by kernel_rfl) ?_ ?_; rotate_left; · (intro wC hC; obtain ⟨d0, d1, d2, d3, d4, d5, d6, d7⟩ := hC; go_simp <;> with_reducible rfl)
      refine wpC_take 2 (v := ?_) rfl (by kernel_rfl) (fun _ _ _ h => h) (by kernel_rfl) ?_ ?_; rotate_left; · (intro wC hC; obtain ⟨d0, d1, d2, d3, d4, d5, d6, d7⟩ := hC; go_simp <;> with_reducible rfl)
      refine wpC_take 3 (v := ?_) rfl (by kernel_rfl) (fun _ _ _ h => h) (by kernel_rfl) ?_ ?_; rotate_left; · (intro wC hC; obtain ⟨d0, d1, d2, d3, d4, d5, d6, d7⟩ := hC; go_simp <;> with_reducible rfl)
      refine wpC_take 4 (v := ?_) rfl (by kernel_rfl) (fun _ _ _ h => h) (by kernel_rfl) ?_ ?_; rotate_left; · (intro wC hC; obtain ⟨d0, d1, d2, d3, d4, d5, d6, d7⟩ := hC; go_simp <;> with_reducible rfl)
      refine wpC_take 5 (v := ?_) rfl (by kernel_rfl) (fun _ _ _ h => h) (by kernel_rfl) ?_ ?_; rotate_left; · (intro wC hC; obtain ⟨d0, d1, d2, d3, d4, d5, d6, d7⟩ := hC; go_simp <;> with_reducible rfl)
      refine wpC_take 6 (v := ?_) rfl (by kernel_rfl) (fun _ _ _ h => h) (by kernel_rfl) ?_ ?_; rotate_left; · (intro wC hC; obtain ⟨d0, d1, d2, d3, d4, d5, d6, d7⟩ := hC; go_simp <;> with_reducible rfl)
      refine wpC_take 7 (v := ?_) rfl (by kernel_rfl) (fun _ _ _ h => h) (by kernel_rfl) ?_ ?_; rotate_left; · (intro wC hC; obtain ⟨d0, d1, d2, d3, d4, d5, d6, d7⟩ := hC; go_simp <;> with_reducible rfl)
      refine wpC_take 8 (v := ?_) rfl (by kernel_rfl) (fun _ _ _ h => h) (by kernel_rfl) ?_ ?_; rotate_left; · (intro wC hC; obtain ⟨d0, d1, d2, d3, d4, d5, d6, d7⟩ := hC; go_simp <;> with_reducible rfl)
      refine wpC_take 9 (v := ?_) rfl (by kernel_rfl) (fun _ _ _ h => h) (by kernel_rfl) ?_ ?_; rotate_left; · (intro wC hC; obtain ⟨d0, d1, d2, d3, d4, d5, d6, d7⟩ := hC; go_simp <;> with_reducible rfl)
      refine wpC_take 10 (v := ?_) rfl (by kernel_rfl) (fun _ _ _ h => h) (by kernel_rfl) ?_ ?_; rotate_left; · (intro wC hC; obtain ⟨d0, d1, d2, d3, d4, d5, d6, d7⟩ := hC; go_simp <;> with_reducible rfl)
      refine wpC_take 11 (v := ?_) rfl (by kernel_rfl) (fun _ _ _ h => h) (by kernel_rfl) ?_ ?_; rotate_left; · (intro wC hC; obtain ⟨d0, d1, d2, d3, d4, d5, d6, d7⟩ := hC; go_simp <;> with_reducible rfl)
      refine wpC_take 12 (v := ?_) rfl (by kernel_rfl) (fun _ _ _ h => h) (by kernel_rfl) ?_ ?_; rotate_left; · (intro wC hC; obtain ⟨d0, d1, d2, d3, d4, d5, d6, d7⟩ := hC; go_simp <;> with_reducible rfl)
      refine wpC_step 13 rfl (by kernel_rfl) (by kernel_rfl) ⟨xx0, xx1, xx2, xx3, yy0, yy1, yy2, yy3⟩ (fun K hK => ?_)
      go_simp
      try (refine hK _ _ ?_; clear hK K)
      refine wpC_take 14 (v := ?_) rfl (by kernel_rfl) (fun _ _ _ h => h) (by kernel_rfl) ?_ ?_; rotate_left; · (intro wC hC; obtain _ := hC; go_simp <;> with_reducible rfl)
      refine wpC_done (by kernel_rfl) (by simp [go_sem, xx0, xx1, xx2, xx3, yy0, yy1, yy2, yy3]) ?_
      go_wp2
      go_roundw
      case measure => simp [intOf]
      case rel => exact ⟨cdrew (cset HB.out (by omega) _ _), (rowset_other GhX.out (by omega)), (rowset_other GhY.out (by omega)), (rowset_other GhR.out (by omega)), s0, s1, s2, 0, c3, (rowset GhS.out 2 _).trans (by simp only [List.setIfInBounds_toArray, List.set_cons_zero, List.set_cons_succ]), rfl, .inr (.inr (.inr (.inl ⟨rfl, rfl, rfl, rfl, rfl, rfl⟩)))⟩
    · go_wp2
      refine wpC_region (fun W => W.cell? ⟨w.heap.size, 0, none⟩ = some (.int .u64 x0) ∧ W.cell? ⟨w.heap.size, 1, none⟩ = some (.int .u64 x1) ∧ W.cell? ⟨w.heap.size, 2, none⟩ = some (.int .u64 x2) ∧ W.cell? ⟨w.heap.size, 3, none⟩ = some (.int .u64 x3) ∧ W.cell? ⟨w.heap.size + 1, 0, none⟩ = some (.int .u64 y0) ∧ W.cell? ⟨w.heap.size + 1, 1, none⟩ = some (.int .u64 y1) ∧ W.cell? ⟨w.heap.size + 1, 2, none⟩ = some (.int .u64 y2) ∧ W.cell? ⟨w.heap.size + 1, 3, none⟩ = some (.int .u64 y3)) (by kernel_rfl) ?_
      refine wpC_take 0 (v := ?_) rfl (by kernel_rfl) (fun _ _ _ h => h) (by kernel_rfl) ?_ ?_; rotate_left; · (intro wC hC; obtain ⟨d0, d1, d2, d3, d4, d5, d6, d7⟩ := hC; go_simp <;> with_reducible rfl)
      refine wpC_take 1 (v := ?_) rfl (by kernel_rfl) (fun _ _ _ h => h) (by kernel_rfl) ?_ ?_; rotate_left; · (intro wC hC; obtain ⟨d0, d1, d2, d3, d4, d5, d6, d7⟩ := hC; go_simp <;> with_reducible rfl)
      refine wpC_take 2 (v := ?_) rfl (by kernel_rfl) (fun _ _ _ h => h) (by kernel_rfl) ?_ ?_; rotate_left; · (intro wC hC; obtain ⟨d0, d1, d2, d3, d4, d5, d6, d7⟩ := hC; go_simp <;> with_reducible rfl)
      refine wpC_take 3 (v := ?_) rfl (by kernel_rfl) (fun _ _ _ h => h) (by kernel_rfl) ?_ ?_; rotate_left; · (intro wC hC; obtain ⟨d0, d1, d2, d3, d4, d5, d6, d7⟩ := hC; go_simp <;> with_reducible rfl)
      refine wpC_take 4 (v := ?_) rfl (by kernel_rfl) (fun _ _ _ h => h) (by kernel_rfl) ?_ ?_; rotate_left; · (intro wC hC; obtain ⟨d0, d1, d2, d3, d4, d5, d6, d7⟩ := hC; go_simp <;> with_reducible rfl)
      refine wpC_take 5 (v := ?_) rfl (by kernel_rfl) (fun _ _ _ h => h) (by kernel_rfl) ?_ ?_; rotate_left; · (intro wC hC; obtain ⟨d0, d1, d2, d3, d4, d5, d6, d7⟩ := hC; go_simp <;> with_reducible rfl)
      refine wpC_take 6 (v := ?_) rfl (by kernel_rfl) (fun _ _ _ h => h) (by kernel_rfl) ?_ ?_; rotate_left; · (intro wC hC; obtain ⟨d0, d1, d2, d3, d4, d5, d6, d7⟩ := hC; go_simp <;> with_reducible rfl)
      refine wpC_take 7 (v := ?_) rfl (by kernel_rfl) (fun _ _ _ h => h) (by kernel_rfl) ?_ ?_; rotate_left; · (intro wC hC; obtain ⟨d0, d1, d2, d3, d4, d5, d6, d7⟩ := hC; go_simp <;> with_reducible rfl)
      refine wpC_take 8 (v := ?_) rfl (by kernel_rfl) (fun _ _ _ h => h) (by kernel_rfl) ?_ ?_; rotate_left; · (intro wC hC; obtain ⟨d0, d1, d2, d3, d4, d5, d6, d7⟩ := hC; go_simp <;> with_reducible rfl)
      refine wpC_take 9 (v := ?_) rfl (by kernel_rfl) (fun _ _ _ h => h) (by kernel_rfl) ?_ ?_; rotate_left; · (intro wC hC; obtain ⟨d0, d1, d2, d3, d4, d5, d6, d7⟩ := hC; go_simp <;> with_reducible rfl)
      refine wpC_take 10 (v := ?_) rfl (by kernel_rfl) (fun _ _ _ h => h) (by kernel_rfl) ?_ ?_; rotate_left; · (intro wC hC; obtain ⟨d0, d1, d2, d3, d4, d5, d6, d7⟩ := hC; go_simp <;> with_reducible rfl)
      refine wpC_take 11 (v := ?_) rfl (by kernel_rfl) (fun _ _ _ h => h) (by kernel_rfl) ?_ ?_; rotate_left; · (intro wC hC; obtain ⟨d0, d1, d2, d3, d4, d5, d6, d7⟩ := hC; go_simp <;> with_reducible rfl)
      refine wpC_take 12 (v := ?_) rfl (by kernel_rfl) (fun _ _ _ h => h) (by kernel_rfl) ?_ ?_; rotate_left; · (intro wC hC; obtain ⟨d0, d1, d2, d3, d4, d5, d6, d7⟩ := hC; go_simp <;> with_reducible rfl)
      refine wpC_step 13 rfl (by kernel_rfl) (by kernel_rfl) ⟨xx0, xx1, xx2, xx3, yy0, yy1, yy2, yy3⟩ (fun K hK => ?_)
      go_simp
      try (refine hK _ _ ?_; clear hK K)
      refine wpC_take 14 (v := ?_) rfl (by kernel_rfl) (fun _ _ _ h => h) (by kernel_rfl) ?_ ?_; rotate_left; · (intro wC hC; obtain _ := hC; go_simp <;> with_reducible rfl)
      refine wpC_done (by kernel_rfl) (by simp [go_sem, xx0, xx1, xx2, xx3, yy0, yy1, yy2, yy3]) ?_
      go_wp2
      go_roundw
      case measure => simp [intOf]
      case rel => exact ⟨cdrew (cset HB.out (by omega) _ _), (rowset_other GhX.out (by omega)), (rowset_other GhY.out (by omega)), (rowset_other GhR.out (by omega)), s0, s1, s2, s3, c4, (rowset GhS.out 3 _).trans (by simp only [List.setIfInBounds_toArray, List.set_cons_zero, List.set_cons_succ]), rfl, .inr (.inr (.inr (.inr ⟨rfl, rfl, rfl, rfl, rfl⟩)))⟩
    · have zw : w.heap.size + 3 < wr.heap.size := rowlt GhS.out
      go_wp2
      refine bodyPost_ret (v := wdV s0 s1 s2 s3) (by simp [results, Tryz.results72, go_sem, tt0, tt1, tt2, tt3, bb0, bb1, bb2, bb3, tf, wdV]; done) rfl (hQ.out _ _ ⟨rfl, ?_⟩)
      exact cset4 HB.out (by omega)
set_option maxHeartbeats 4000000 in
theorem sminus_walk (x0 x1 x2 x3 y0 y1 y2 y3 s0 s1 s2 s3 c1 c2 c3 c4 : Nat)
    (r0 : ∀ w, (callFunc 98 #[.int .u64 x0, .int .u64 y0, .int .u64 0]).run Tryz.prog w = .ok (.value (.tuple #[.int .u64 s0, .int .u64 c1])) w)
    (r1 : ∀ w, (callFunc 98 #[.int .u64 x1, .int .u64 y1, .int .u64 c1]).run Tryz.prog w = .ok (.value (.tuple #[.int .u64 s1, .int .u64 c2])) w)
    (r2 : ∀ w, (callFunc 98 #[.int .u64 x2, .int .u64 y2, .int .u64 c2]).run Tryz.prog w = .ok (.value (.tuple #[.int .u64 s2, .int .u64 c3])) w)
    (r3 : ∀ w, (callFunc 98 #[.int .u64 x3, .int .u64 y3, .int .u64 c3]).run Tryz.prog w = .ok (.value (.tuple #[.int .u64 s3, .int .u64 c4])) w) (w : World) :
    Calls Tryz.prog 73 #[wdV x0 x1 x2 x3, wdV y0 y1 y2 y3] w fun e w' => e = .returned (wdV s0 s1 s2 s3) ∧ Below w.heap.size w w' := by
  unfold wdV
  have v0 : IntKind.i64.wrap 0 = 0 := rfl
  have v1 : IntKind.i64.wrap 1 = 1 := rfl
  have v2 : IntKind.i64.wrap 2 = 2 := rfl
  have v3 : IntKind.i64.wrap 3 = 3 := rfl
  refine cps fun Q hQ => ?_
  go_enter Tryz.func73, Tryz.ntmps73
  go_wp2
  go_loopw [6, 7, 8] (fun cv _ iv wr => Hid (Below w.heap.size w wr) ∧ wr.heap[w.heap.size]? = some (.cells #[.int .u64 x0, .int .u64 x1, .int .u64 x2, .int .u64 x3] 112 (0, 0)) ∧ wr.heap[w.heap.size + 1]? = some (.cells #[.int .u64 y0, .int .u64 y1, .int .u64 y2, .int .u64 y3] 112 (0, 0)) ∧ wr.heap[w.heap.size + 2]? = some (.cells #[.int .u64 0, .int .u64 0, .int .u64 0, .int .u64 0] 112 (0, 0)) ∧ ∃ a0 a1 a2 a3 c : Nat, wr.heap[w.heap.size + 3]? = some (.cells #[.int .u64 a0, .int .u64 a1, .int .u64 a2, .int .u64 a3] 112 (0, 0)) ∧ cv = .int .u64 c ∧ ((iv = .int .i64 0 ∧ 0 = c ∧ 0 = a0 ∧ 0 = a1 ∧ 0 = a2 ∧ 0 = a3) ∨ (iv = .int .i64 1 ∧ c1 = c ∧ s0 = a0 ∧ 0 = a1 ∧ 0 = a2 ∧ 0 = a3) ∨ (iv = .int .i64 2 ∧ c2 = c ∧ s0 = a0 ∧ s1 = a1 ∧ 0 = a2 ∧ 0 = a3) ∨ (iv = .int .i64 3 ∧ c3 = c ∧ s0 = a0 ∧ s1 = a1 ∧ s2 = a2 ∧ 0 = a3) ∨ (iv = .int .i64 4 ∧ s0 = a0 ∧ s1 = a1 ∧ s2 = a2 ∧ s3 = a3))) (fun _ _ iv _ => (4 - intOf iv).toNat)
  case atStart => exact ⟨cmore (cmore (cmore (cmore (Below.refl _ _) _) _) _) _, (Below.heap_alloc _ _ _ (by first | (simp; done) | (simp; omega))).trans ((Below.heap_alloc _ _ _ (by first | (simp; done) | (simp; omega))).trans ((Below.heap_alloc _ _ _ (by first | (simp; done) | (simp; omega))).trans (rownew' _ _ _ _ (by simp)))), (Below.heap_alloc _ _ _ (by first | (simp; done) | (simp; omega))).trans ((Below.heap_alloc _ _ _ (by first | (simp; done) | (simp; omega))).trans (rownew' _ _ _ _ (by simp))), (Below.heap_alloc _ _ _ (by first | (simp; done) | (simp; omega))).trans (rownew' _ _ _ _ (by simp)), 0, 0, 0, 0, 0, rownew' _ _ _ _ (by simp), rfl, .inl ⟨rfl, rfl, rfl, rfl, rfl, rfl⟩⟩
  case round =>
    obtain ⟨hB, hX, hY, hR, a0, a1, a2, a3, c, hS, rfl, hrel⟩ := hrel
    have HB : Hid (Below w.heap.size w wr) := hB.out
    have xx0 := rowcell hX 0
    have xx1 := rowcell hX 1
    have xx2 := rowcell hX 2
    have xx3 := rowcell hX 3
    have yy0 := rowcell hY 0
    have yy1 := rowcell hY 1
    have yy2 := rowcell hY 2
    have yy3 := rowcell hY 3
    have tt0 := rowcell hR 0
    have tt1 := rowcell hR 1
    have tt2 := rowcell hR 2
    have tt3 := rowcell hR 3
    have bb0 := rowcell hS 0
    have bb1 := rowcell hS 1
    have bb2 := rowcell hS 2
    have bb3 := rowcell hS 3
    have tf := rowfree hR
    have sf := rowfree hS
    simp only [List.getElem?_toArray, List.getElem?_cons_zero, List.getElem?_cons_succ] at xx0 xx1 xx2 xx3 yy0 yy1 yy2 yy3 tt0 tt1 tt2 tt3 bb0 bb1 bb2 bb3
    have GhX : Hid _ := hX
    have GhY : Hid _ := hY
    have GhR : Hid _ := hR
    have GhS : Hid _ := hS
    clear hX hY hR hS hB
    rcases hrel with ⟨rfl, rfl, rfl, rfl, rfl, rfl⟩ | ⟨rfl, rfl, rfl, rfl, rfl, rfl⟩ | ⟨rfl, rfl, rfl, rfl, rfl, rfl⟩ | ⟨rfl, rfl, rfl, rfl, rfl, rfl⟩ | ⟨rfl, rfl, rfl, rfl, rfl⟩
    · go_wp2
      refine wpC_region (fun W => W.cell? ⟨w.heap.size, 0, none⟩ = some (.int .u64 x0) ∧ W.cell? ⟨w.heap.size, 1, none⟩ = some (.int .u64 x1) ∧ W.cell? ⟨w.heap.size, 2, none⟩ = some (.int .u64 x2) ∧ W.cell? ⟨w.heap.size, 3, none⟩ = some (.int .u64 x3) ∧ W.cell? ⟨w.heap.size + 1, 0, none⟩ = some (.int .u64 y0) ∧ W.cell? ⟨w.heap.size + 1, 1, none⟩ = some (.int .u64 y1) ∧ W.cell? ⟨w.heap.size + 1, 2, none⟩ = some (.int .u64 y2) ∧ W.cell? ⟨w.heap.size + 1, 3, none⟩ = some (.int .u64 y3)) (by kernel_rfl) ?_
      refine wpC_take 0 (v := ?_) rfl (by kernel_rfl) (fun _ _ _ h => h) (by kernel_rfl) ?_ ?_; rotate_left; · (intro wC hC; obtain ⟨d0, d1, d2, d3, d4, d5, d6, d7⟩ := hC; go_simp <;> with_reducible rfl)
      refine wpC_take 1 (v := ?_) rfl (by kernel_rfl) (fun _ _ _ h => h) (by kernel_rfl) ?_ ?_; rotate_left; · (intro wC hC; obtain ⟨d0, d1, d2, d3, d4, d5, d6, d7⟩ := hC; go_simp <;> with_reducible rfl)
      refine wpC_take 2 (v := ?_) rfl (by kernel_rfl) (fun _ _ _ h => h) (by kernel_rfl) ?_ ?_; rotate_left; · (intro wC hC; obtain ⟨d0, d1, d2, d3, d4, d5, d6, d7⟩ := hC; go_simp <;> with_reducible rfl)
      refine wpC_take 3 (v := ?_) rfl (by kernel_rfl) (fun _ _ _ h => h) (by kernel_rfl) ?_ ?_; rotate_left; · (intro wC hC; obtain ⟨d0, d1, d2, d3, d4, d5, d6, d7⟩ := hC; go_simp <;> with_reducible rfl)
      refine wpC_take 4 (v := ?_) rfl (by kernel_rfl) (fun _ _ _ h => h) (by kernel_rfl) ?_ ?_; rotate_left; · (intro wC hC; obtain ⟨d0, d1, d2, d3, d4, d5, d6, d7⟩ := hC; go_simp <;> with_reducible rfl)
      refine wpC_take 5 (v := ?_) rfl (by kernel_rfl) (fun _ _ _ h => h) (by kernel_rfl) ?_ ?_; rotate_left; · (intro wC hC; obtain ⟨d0, d1, d2, d3, d4, d5, d6, d7⟩ := hC; go_simp <;> with_reducible rfl)
      refine wpC_take 6 (v := ?_) rfl (by kernel_rfl) (fun _ _ _ h => h) (by kernel_rfl) ?_ ?_; rotate_left; · (intro wC hC; obtain ⟨d0, d1, d2, d3, d4, d5, d6, d7⟩ := hC; go_simp <;> with_reducible rfl)
      refine wpC_take 7 (v := ?_) rfl (by kernel_rfl) (fun _ _ _ h => h) (by kernel_rfl) ?_ ?_; rotate_left; · (intro wC hC; obtain ⟨d0, d1, d2, d3, d4, d5, d6, d7⟩ := hC; go_simp <;> with_reducible rfl)
      refine wpC_take 8 (v := ?_) rfl (by kernel_rfl) (fun _ _ _ h => h) (by kernel_rfl) ?_ ?_; rotate_left; · (intro wC hC; obtain ⟨d0, d1, d2, d3, d4, d5, d6, d7⟩ := hC; go_simp <;> with_reducible rfl)
      refine wpC_take 9 (v := ?_) rfl (by kernel_rfl) (fun _ _ _ h => h) (by kernel_rfl) ?_ ?_; rotate_left; · (intro wC hC; obtain ⟨d0, d1, d2, d3, d4, d5, d6, d7⟩ := hC; go_simp <;> with_reducible rfl)
      refine wpC_take 10 (v := ?_) rfl (by kernel_rfl) (fun _ _ _ h => h) (by kernel_rfl) ?_ ?_; rotate_left; · (intro wC hC; obtain ⟨d0, d1, d2, d3, d4, d5, d6, d7⟩ := hC; go_simp <;> with_reducible rfl)
      refine wpC_take 11 (v := ?_) rfl (by kernel_rfl) (fun _ _ _ h => h) (by kernel_rfl) ?_ ?_; rotate_left; · (intro wC hC; obtain ⟨d0, d1, d2, d3, d4, d5, d6, d7⟩ := hC; go_simp <;> with_reducible rfl)
      refine wpC_take 12 (v := ?_) rfl (by kernel_rfl) (fun _ _ _ h => h) (by kernel_rfl) ?_ ?_; rotate_left; · (intro wC hC; obtain ⟨d0, d1, d2, d3, d4, d5, d6, d7⟩ := hC; go_simp <;> with_reducible rfl)
      refine wpC_step 13 rfl (by kernel_rfl) (by kernel_rfl) ⟨xx0, xx1, xx2, xx3, yy0, yy1, yy2, yy3⟩ (fun K hK => ?_)
      go_simp
      try (refine hK _ _ ?_; clear hK K)
      refine wpC_take 14 (v := ?_) rfl (by kernel_rfl) (fun _ _ _ h => h) (by kernel_rfl) ?_ ?_; rotate_left; · (intro wC hC; obtain _ := hC; go_simp <;> with_reducible rfl)
      refine wpC_done (by kernel_rfl) (by simp [go_sem, xx0, xx1, xx2, xx3, yy0, yy1, yy2, yy3]) ?_
      go_wp2
      go_roundw
      case measure => simp [intOf]
      case rel => exact ⟨cdrew (cset HB.out (by omega) _ _), (rowset_other GhX.out (by omega)), (rowset_other GhY.out (by omega)), (rowset_other GhR.out (by omega)), s0, 0, 0, 0, c1, (rowset GhS.out 0 _).trans (by simp only [List.setIfInBounds_toArray, List.set_cons_zero, List.set_cons_succ]), rfl, .inr (.inl ⟨rfl, rfl, rfl, rfl, rfl, rfl⟩)⟩
    · go_wp2
      refine wpC_region (fun W => W.cell? ⟨w.heap.size, 0, none⟩ = some (.int .u64 x0) ∧ W.cell? ⟨w.heap.size, 1, none⟩ = some (.int .u64 x1) ∧ W.cell? ⟨w.heap.size, 2, none⟩ = some (.int .u64 x2) ∧ W.cell? ⟨w.heap.size, 3, none⟩ = some (.int .u64 x3) ∧ W.cell? ⟨w.heap.size + 1, 0, none⟩ = some (.int .u64 y0) ∧ W.cell? ⟨w.heap.size + 1, 1, none⟩ = some (.int .u64 y1) ∧ W.cell? ⟨w.heap.size + 1, 2, none⟩ = some (.int .u64 y2) ∧ W.cell? ⟨w.heap.size + 1, 3, none⟩ = some (.int .u64 y3)) (by kernel_rfl) ?_
      refine wpC_take 0 (v := ?_) rfl (by kernel_rfl) (fun _ _ _ h => h) (by kernel_rfl) ?_ ?_; rotate_left; · (intro wC hC; obtain ⟨d0, d1, d2, d3, d4, d5, d6, d7⟩ := hC; go_simp <;> with_reducible rfl)
      refine wpC_take 1 (v := ?_) rfl (by kernel_rfl) (fun _ _ _ h => h) (by kernel_rfl) ?_ ?_; rotate_left; · (intro wC hC; obtain ⟨d0, d1, d2, d3, d4, d5, d6, d7⟩ := hC; go_simp <;> with_reducible rfl)
      refine wpC_take 2 (v := ?_) rfl (by kernel_rfl) (fun _ _ _ h => h) (by kernel_rfl) ?_ ?_; rotate_left; · (intro wC hC; obtain ⟨d0, d1, d2, d3, d4, d5, d6, d7⟩ := hC; go_simp <;> with_reducible rfl)
      refine wpC_take 3 (v := ?_) rfl (by kernel_rfl) (fun _ _ _ h => h) (by kernel_rfl) ?_ ?_; rotate_left; · (intro wC hC; obtain ⟨d0, d1, d2, d3, d4, d5, d6, d7⟩ := hC; go_simp <;> with_reducible rfl)
      refine wpC_take 4 (v := ?_) rfl (by kernel_rfl) (fun _ _ _ h => h) (by kernel_rfl) ?_ ?_; rotate_left; · (intro wC hC; obtain ⟨d0, d1, d2, d3, d4, d5, d6, d7⟩ := hC; go_simp <;> with_reducible rfl)
      refine wpC_take 5 (v := ?_) rfl (by kernel_rfl) (fun _ _ _ h => h) (by kernel_rfl) ?_ ?_; rotate_left; · (intro wC hC; obtain ⟨d0, d1, d2, d3, d4, d5, d6, d7⟩ := hC; go_simp <;> with_reducible rfl)
      refine wpC_take 6 (v := ?_) rfl (by kernel_rfl) (fun _ _ _ h => h) (by kernel_rfl) ?_ ?_; rotate_left; · (intro wC hC; obtain ⟨d0, d1, d2, d3, d4, d5, d6, d7⟩ := hC; go_simp <;> with_reducible rfl)
      refine wpC_take 7 (v := ?_) rfl (by kernel_rfl) (fun _ _ _ h => h) (by kernel_rfl) ?_ ?_; rotate_left; · (intro wC hC; obtain ⟨d0, d1, d2, d3, d4, d5, d6, d7⟩ := hC; go_simp <;> with_reducible rfl)
      refine wpC_take 8 (v := ?_) rfl (by kernel_rfl) (fun _ _ _ h => h) (by kernel_rfl) ?_ ?_; rotate_left; · (intro wC hC; obtain ⟨d0, d1, d2, d3, d4, d5, d6, d7⟩ := hC; go_simp <;> with_reducible rfl)
      refine wpC_take 9 (v := ?_) rfl (by kernel_rfl) (fun _ _ _ h => h) (by kernel_rfl) ?_ ?_; rotate_left; · (intro wC hC; obtain ⟨d0, d1, d2, d3, d4, d5, d6, d7⟩ := hC; go_simp <;> with_reducible rfl)
      refine wpC_take 10 (v := ?_) rfl (by kernel_rfl) (fun _ _ _ h => h) (by kernel_rfl) ?_ ?_; rotate_left; · (intro wC hC; obtain ⟨d0, d1, d2, d3, d4, d5, d6, d7⟩ := hC; go_simp <;> with_reducible rfl)
      refine wpC_take 11 (v := ?_) rfl (by kernel_rfl) (fun _ _ _ h => h) (by kernel_rfl) ?_ ?_; rotate_left; · (intro wC hC; obtain ⟨d0, d1, d2, d3, d4, d5, d6, d7⟩ := hC; go_simp <;> with_reducible rfl)
      refine wpC_take 12 (v := ?_) rfl (by kernel_rfl) (fun _ _ _ h => h) (by kernel_rfl) ?_ ?_; rotate_left; · (intro wC hC; obtain ⟨d0, d1, d2, d3, d4, d5, d6, d7⟩ := hC; go_simp <;> with_reducible rfl)
      refine wpC_step 13 rfl (by kernel_rfl) (by kernel_rfl) ⟨xx0, xx1, xx2, xx3, yy0, yy1, yy2, yy3⟩ (fun K hK => ?_)
      go_simp
      try (refine hK _ _ ?_; clear hK K)
      refine wpC_take 14 (v := ?_) rfl (by kernel_rfl) (fun _ _ _ h => h) (by kernel_rfl) ?_ ?_; rotate_left; · (intro wC hC; obtain _ := hC; go_simp <;> with_reducible rfl)
      refine wpC_done (by kernel_rfl) (by simp [go_sem, xx0, xx1, xx2, xx3, yy0, yy1, yy2, yy3]) ?_
      go_wp2
      go_roundw
      case measure => simp [intOf]
      case rel => exact ⟨cdrew (cset HB.out (by omega) _ _), (rowset_other GhX.out (by omega)), (rowset_other GhY.out (by omega)), (rowset_other GhR.out (by omega)), s0, s1, 0, 0, c2, (rowset GhS.out 1 _).trans (by simp only [List.setIfInBounds_toArray, List.set_cons_zero, List.set_cons_succ]), rfl, .inr (.inr (.inl ⟨rfl, rfl, rfl, rfl, rfl, rfl⟩))⟩
    · go_wp2
      refine wpC_region (fun W => W.cell? ⟨w.heap.size, 0, none⟩ = some (.int .u64 x0) ∧ W.cell? ⟨w.heap.size, 1, none⟩ = some (.int .u64 x1) ∧ W.cell? ⟨w.heap.size, 2, none⟩ = some (.int .u64 x2) ∧ W.cell? ⟨w.heap.size, 3, none⟩ = some (.int .u64 x3) ∧ W.cell? ⟨w.heap.size + 1, 0, none⟩ = some (.int .u64 y0) ∧ W.cell? ⟨w.heap.size + 1, 1, none⟩ = some (.int .u64 y1) ∧ W.cell? ⟨w.heap.size + 1, 2, none⟩ = some (.int .u64 y2) ∧ W.cell? ⟨w.heap.size + 1, 3, none⟩ = some (.int .u64 y3)) (by kernel_rfl) ?_
      refine wpC_take 0 (v := ?_) rfl (by kernel_rfl) (fun _ _ _ h => h) (by kernel_rfl) ?_ ?_; rotate_left; · (intro wC hC; obtain ⟨d0, d1, d2, d3, d4, d5, d6, d7⟩ := hC; go_simp <;> with_reducible rfl)
      refine wpC_take 1 (v := ?_) rfl (by kernel_rfl) (fun _ _ _ h => h) (by kernel_rfl) ?_ ?_; rotate_left; · (intro wC hC; obtain ⟨d0, d1, d2, d3, d4, d5, d6, d7⟩ := hC; go_simp <;> with_reducible rfl)
      refine wpC_take 2 (v := ?_) rfl (by kernel_rfl) (fun _ _ _ h => h) (by kernel_rfl) ?_ ?_; rotate_left; · (intro wC hC; obtain ⟨d0, d1, d2, d3, d4, d5, d6, d7⟩ := hC; go_simp <;> with_reducible rfl)
      refine wpC_take 3 (v := ?_) rfl (by kernel_rfl) (fun _ _ _ h => h) (by kernel_rfl) ?_ ?_; rotate_left; · (intro wC hC; obtain ⟨d0, d1, d2, d3, d4, d5, d6, d7⟩ := hC; go_simp <;> with_reducible rfl)
      refine wpC_take 4 (v := ?_) rfl (by kernel_rfl) (fun _ _ _ h => h) (by kernel_rfl) ?_ ?_; rotate_left; · (intro wC hC; obtain ⟨d0, d1, d2, d3, d4, d5, d6, d7⟩ := hC; go_simp <;> with_reducible rfl)
      refine wpC_take 5 (v := ?_) rfl (by kernel_rfl) (fun _ _ _ h => h) (by kernel_rfl) ?_ ?_; rotate_left; · (intro wC hC; obtain ⟨d0, d1, d2, d3, d4, d5, d6, d7⟩ := hC; go_simp <;> with_reducible rfl)
      refine wpC_take 6 (v := ?_) rfl (by kernel_rfl) (fun _ _ _ h => h) (by kernel_rfl) ?_ ?_; rotate_left; · (intro wC hC; obtain ⟨d0, d1, d2, d3, d4, d5, d6, d7⟩ := hC; go_simp <;> with_reducible rfl)
      refine wpC_take 7 (v := ?_) rfl (by kernel_rfl) (fun _ _ _ h => h) (by kernel_rfl) ?_ ?_; rotate_left; · (intro wC hC; obtain ⟨d0, d1, d2, d3, d4, d5, d6, d7⟩ := hC; go_simp <;> with_reducible rfl)
      refine wpC_take 8 (v := ?_) rfl (by kernel_rfl) (fun _ _ _ h => h) (by kernel_rfl) ?_ ?_; rotate_left; · (intro wC hC; obtain ⟨d0, d1, d2, d3, d4, d5, d6, d7⟩ := hC; go_simp <;> with_reducible rfl)
      refine wpC_take 9 (v := ?_) rfl (by kernel_rfl) (fun _ _ _ h => h) (by kernel_rfl) ?_ ?_; rotate_left; · (intro wC hC; obtain ⟨d0, d1, d2, d3, d4, d5, d6, d7⟩ := hC; go_simp <;> with_reducible rfl)
      refine wpC_take 10 (v := ?_) rfl (by kernel_rfl) (fun _ _ _ h => h) (by kernel_rfl) ?_ ?_; rotate_left; · (intro wC hC; obtain ⟨d0, d1, d2, d3, d4, d5, d6, d7⟩ := hC; go_simp <;> with_reducible rfl)
      refine wpC_take 11 (v := ?_) rfl (by kernel_rfl) (fun _ _ _ h => h) (by kernel_rfl) ?_ ?_; rotate_left; · (intro wC hC; obtain ⟨d0, d1, d2, d3, d4, d5, d6, d7⟩ := hC; go_simp <;> with_reducible rfl)
      refine wpC_take 12 (v := ?_) rfl (by kernel_rfl) (fun _ _ _ h => h) (by kernel_rfl) ?_ ?_; rotate_left; · (intro wC hC; obtain ⟨d0, d1, d2, d3, d4, d5, d6, d7⟩ := hC; go_simp <;> with_reducible rfl)
      refine wpC_step 13 rfl (by kernel_rfl) (by kernel_rfl) ⟨xx0, xx1, xx2, xx3, yy0, yy1, yy2, yy3⟩ (fun K hK => ?_)
      go_simp
      try (refine hK _ _ ?_; clear hK K)
      refine wpC_take 14 (v := ?_) rfl (by kernel_rfl) (fun _ _ _ h => h) (by kernel_rfl) ?_ ?_; rotate_left; · (intro wC hC; obtain _ := hC; go_simp <;> with_reducible rfl)
      refine wpC_done (by kernel_rfl) (by simp [go_sem, xx0, xx1, xx2, xx3, yy0, yy1, yy2, yy3]) ?_
      go_wp2
      go_roundw
      case measure => simp [intOf]
      case rel => exact ⟨cdrew (cset HB.out (by omega) _ _), (rowset_other GhX.out (by omega)), (rowset_other GhY.out (by omega)), (rowset_other GhR.out (by omega)), s0, s1, s2, 0, c3, (rowset GhS.out 2 _).trans (by simp only [List.setIfInBounds_toArray, List.set_cons_zero, List.set_cons_succ]), rfl, .inr (.inr (.inr (.inl ⟨rfl, rfl, rfl, rfl, rfl, rfl⟩)))⟩
    · go_wp2
      refine wpC_region (fun W => W.cell? ⟨w.heap.size, 0, none⟩ = some (.int .u64 x0) ∧ W.cell? ⟨w.heap.size, 1, none⟩ = some (.int .u64 x1) ∧ W.cell? ⟨w.heap.size, 2, none⟩ = some (.int .u64 x2) ∧ W.cell? ⟨w.heap.size, 3, none⟩ = some (.int .u64 x3) ∧ W.cell? ⟨w.heap.size + 1, 0, none⟩ = some (.int .u64 y0) ∧ W.cell? ⟨w.heap.size + 1, 1, none⟩ = some (.int .u64 y1) ∧ W.cell? ⟨w.heap.size + 1, 2, none⟩ = some (.int .u64 y2) ∧ W.cell? ⟨w.heap.size + 1, 3, none⟩ = some (.int .u64 y3)) (by kernel_rfl) ?_
      refine wpC_take 0 (v := ?_) rfl (by kernel_rfl) (fun _ _ _ h => h) (by kernel_rfl) ?_ ?_; rotate_left; · (intro wC hC; obtain ⟨d0, d1, d2, d3, d4, d5, d6, d7⟩ := hC; go_simp <;> with_reducible rfl)
      refine wpC_take 1 (v := ?_) rfl (by kernel_rfl) (fun _ _ _ h => h) (by kernel_rfl) ?_ ?_; rotate_left; · (intro wC hC; obtain ⟨d0, d1, d2, d3, d4, d5, d6, d7⟩ := hC; go_simp <;> with_reducible rfl)
      refine wpC_take 2 (v := ?_) rfl (by kernel_rfl) (fun _ _ _ h => h) (by kernel_rfl) ?_ ?_; rotate_left; · (intro wC hC; obtain ⟨d0, d1, d2, d3, d4, d5, d6, d7⟩ := hC; go_simp <;> with_reducible rfl)
      refine wpC_take 3 (v := ?_) rfl (by kernel_rfl) (fun _ _ _ h => h) (by kernel_rfl) ?_ ?_; rotate_left; · (intro wC hC; obtain ⟨d0, d1, d2, d3, d4, d5, d6, d7⟩ := hC; go_simp <;> with_reducible rfl)
      refine wpC_take 4 (v := ?_) rfl (by kernel_rfl) (fun _ _ _ h => h) (by kernel_rfl) ?_ ?_; rotate_left; · (intro wC hC; obtain ⟨d0, d1, d2, d3, d4, d5, d6, d7⟩ := hC; go_simp <;> with_reducible rfl)
      refine wpC_take 5 (v := ?_) rfl (by kernel_rfl) (fun _ _ _ h => h) (by kernel_rfl) ?_ ?_; rotate_left; · (intro wC hC; obtain ⟨d0, d1, d2, d3, d4, d5, d6, d7⟩ := hC; go_simp <;> with_reducible rfl)
      refine wpC_take 6 (v := ?_) rfl (by kernel_rfl) (fun _ _ _ h => h) (by kernel_rfl) ?_ ?_; rotate_left; · (intro wC hC; obtain ⟨d0, d1, d2, d3, d4, d5, d6, d7⟩ := hC; go_simp <;> with_reducible rfl)
      refine wpC_take 7 (v := ?_) rfl (by kernel_rfl) (fun _ _ _ h => h) (by kernel_rfl) ?_ ?_; rotate_left; · (intro wC hC; obtain ⟨d0, d1, d2, d3, d4, d5, d6, d7⟩ := hC; go_simp <;> with_reducible rfl)
      refine wpC_take 8 (v := ?_) rfl (by kernel_rfl) (fun _ _ _ h => h) (by kernel_rfl) ?_ ?_; rotate_left; · (intro wC hC; obtain ⟨d0, d1, d2, d3, d4, d5, d6, d7⟩ := hC; go_simp <;> with_reducible rfl)
      refine wpC_take 9 (v := ?_) rfl (by kernel_rfl) (fun _ _ _ h => h) (by kernel_rfl) ?_ ?_; rotate_left; · (intro wC hC; obtain ⟨d0, d1, d2, d3, d4, d5, d6, d7⟩ := hC; go_simp <;> with_reducible rfl)
      refine wpC_take 10 (v := ?_) rfl (by kernel_rfl) (fun _ _ _ h => h) (by kernel_rfl) ?_ ?_; rotate_left; · (intro wC hC; obtain ⟨d0, d1, d2, d3, d4, d5, d6, d7⟩ := hC; go_simp <;> with_reducible rfl)
      refine wpC_take 11 (v := ?_) rfl (by kernel_rfl) (fun _ _ _ h => h) (by kernel_rfl) ?_ ?_; rotate_left; · (intro wC hC; obtain ⟨d0, d1, d2, d3, d4, d5, d6, d7⟩ := hC; go_simp <;> with_reducible rfl)
      refine wpC_take 12 (v := ?_) rfl (by kernel_rfl) (fun _ _ _ h => h) (by kernel_rfl) ?_ ?_; rotate_left; · (intro wC hC; obtain ⟨d0, d1, d2, d3, d4, d5, d6, d7⟩ := hC; go_simp <;> with_reducible rfl)
      refine wpC_step 13 rfl (by kernel_rfl) (by kernel_rfl) ⟨xx0, xx1, xx2, xx3, yy0, yy1, yy2, yy3⟩ (fun K hK => ?_)
      go_simp
      try (refine hK _ _ ?_; clear hK K)
      refine wpC_take 14 (v := ?_) rfl (by kernel_rfl) (fun _ _ _ h => h) (by kernel_rfl) ?_ ?_; rotate_left; · (intro wC hC; obtain _ := hC; go_simp <;> with_reducible rfl)
      refine wpC_done (by kernel_rfl) (by simp [go_sem, xx0, xx1, xx2, xx3, yy0, yy1, yy2, yy3]) ?_
      go_wp2
      go_roundw
      case measure => simp [intOf]
      case rel => exact ⟨cdrew (cset HB.out (by omega) _ _), (rowset_other GhX.out (by omega)), (rowset_other GhY.out (by omega)), (rowset_other GhR.out (by omega)), s0, s1, s2, s3, c4, (rowset GhS.out 3 _).trans (by simp only [List.setIfInBounds_toArray, List.set_cons_zero, List.set_cons_succ]), rfl, .inr (.inr (.inr (.inr ⟨rfl, rfl, rfl, rfl, rfl⟩)))⟩
    · have zw : w.heap.size + 3 < wr.heap.size := rowlt GhS.out
      go_wp2
      refine bodyPost_ret (v := wdV s0 s1 s2 s3) (by simp [results, Tryz.results73, go_sem, tt0, tt1, tt2, tt3, bb0, bb1, bb2, bb3, tf, wdV]; done) rfl (hQ.out _ _ ⟨rfl, ?_⟩)
      exact cset4 HB.out (by omega)
end Go.Proofs.YtheliihkkoohnabGreat

namespace Go.Proofs.YtheliihkkoohnabGreat
open Go.ChangeShapes Go.WideShapes Go.ChangeAt Go.RowKit
set_option linter.unusedVariables false
set_option linter.unusedSimpArgs false
set_option maxRecDepth 100000

/-! ### numbers of four words (plain mathematics) -/
structure Qw (n a b c d : Nat) : Prop where
  eq : n = a + b * 18446744073709551616 + c * 340282366920938463463374607431768211456 + d * 6277101735386680763835789423207666416102355444464034512896
  h0 : a ≤ 18446744073709551615
  h1 : b ≤ 18446744073709551615
  h2 : c ≤ 18446744073709551615
  h3 : d ≤ 18446744073709551615
theorem Qw.one {n a b c d a' b' c' d' : Nat} (h : Qw n a b c d) (g : Qw n a' b' c' d') : a = a' ∧ b = b' ∧ c = c' ∧ d = d' := by
  obtain ⟨e, h0, h1, h2, h3⟩ := h
  obtain ⟨e', g0, g1, g2, g3⟩ := g
  omega
theorem qw_of {n : Nat} (h : n < 115792089237316195423570985008687907853269984665640564039457584007913129639936) :
    Qw n (n % 18446744073709551616) (n / 18446744073709551616 % 18446744073709551616) (n / 340282366920938463463374607431768211456 % 18446744073709551616) (n / 6277101735386680763835789423207666416102355444464034512896) := by
  refine ⟨by omega, by omega, by omega, by omega, by omega⟩
theorem Qw.lt {n a b c d : Nat} (h : Qw n a b c d) : n < 115792089237316195423570985008687907853269984665640564039457584007913129639936 := by
  obtain ⟨e, h0, h1, h2, h3⟩ := h
  omega
/-- a word shifted up, and what goes over -/
theorem word_up (x few G : Nat) (h : few + G = 64) : x * 2 ^ few = (x / 2 ^ G) * 18446744073709551616 + x * 2 ^ few % 18446744073709551616 := by
  have e : 18446744073709551616 = 2 ^ G * 2 ^ few := by rw [← Nat.pow_add, Nat.add_comm, h]
  have hp : 0 < 2 ^ few := Nat.pow_pos (by decide)
  have := Nat.div_add_mod (x * 2 ^ few) 18446744073709551616
  rw [show x * 2 ^ few / 18446744073709551616 = x / 2 ^ G by rw [e, Nat.mul_div_mul_right _ _ hp]] at this
  omega
theorem word_join (x y few G : Nat) (h : few + G = 64) (hy : y ≤ 18446744073709551615) :
    (x * 2 ^ few % 18446744073709551616) ||| (y / 2 ^ G) = x * 2 ^ few % 18446744073709551616 + y / 2 ^ G ∧ x * 2 ^ few % 18446744073709551616 + y / 2 ^ G ≤ 18446744073709551615 := by
  have e : 18446744073709551616 = 2 ^ G * 2 ^ few := by rw [← Nat.pow_add, Nat.add_comm, h]
  have hp : 0 < 2 ^ few := Nat.pow_pos (by decide)
  have hg : 0 < 2 ^ G := Nat.pow_pos (by decide)
  have h1 : y / 2 ^ G < 2 ^ few := Nat.div_lt_of_lt_mul (by rw [← e]; omega)
  have h2 : x * 2 ^ few % 18446744073709551616 = (x % 2 ^ G) * 2 ^ few := by rw [e, Nat.mul_mod_mul_right]
  rw [h2]
  refine ⟨by rw [← Nat.shiftLeft_eq, ← Nat.shiftLeft_add_eq_or_of_lt h1], ?_⟩
  have h3 := Nat.mod_lt x hg
  have h4 : (x % 2 ^ G + 1) * 2 ^ few ≤ 2 ^ G * 2 ^ few := Nat.mul_le_mul h3 (Nat.le_refl _)
  rw [Nat.add_mul, Nat.one_mul, ← e] at h4
  omega
/-- four words shifted up together -/
theorem qw_up {n p q r s : Nat} (few G : Nat) (h : few + G = 64) (hq : Qw n p q r s) (ht : s * 2 ^ few ≤ 18446744073709551615) :
    Qw (n * 2 ^ few) (p * 2 ^ few % 18446744073709551616) ((q * 2 ^ few % 18446744073709551616) ||| (p / 2 ^ G)) ((r * 2 ^ few % 18446744073709551616) ||| (q / 2 ^ G)) ((s * 2 ^ few % 18446744073709551616) ||| (r / 2 ^ G)) := by
  obtain ⟨e, h0, h1, h2, h3⟩ := hq
  obtain ⟨j1, k1⟩ := word_join q p few G h h0
  obtain ⟨j2, k2⟩ := word_join r q few G h h1
  obtain ⟨j3, k3⟩ := word_join s r few G h h2
  rw [j1, j2, j3]
  have u0 := word_up p few G h
  have u1 := word_up q few G h
  have u2 := word_up r few G h
  have u3 := Nat.mod_eq_of_lt (show s * 2 ^ few < 18446744073709551616 by omega)
  have en : n * 2 ^ few = p * 2 ^ few + q * 2 ^ few * 18446744073709551616 + r * 2 ^ few * 340282366920938463463374607431768211456 + s * 2 ^ few * 6277101735386680763835789423207666416102355444464034512896 := by
    rw [e, Nat.add_mul, Nat.add_mul, Nat.add_mul, Nat.mul_right_comm q, Nat.mul_right_comm r, Nat.mul_right_comm s]
  have m0 := Nat.mod_lt (p * 2 ^ few) (show 0 < 18446744073709551616 by decide)
  rw [u3] at k3 ⊢
  rw [en]
  generalize p * 2 ^ few = P at *
  generalize q * 2 ^ few = Q at *
  generalize r * 2 ^ few = R at *
  generalize s * 2 ^ few = S at *
  generalize p / 2 ^ G = p1 at *
  generalize q / 2 ^ G = q1 at *
  generalize r / 2 ^ G = r1 at *
  generalize P % 18446744073709551616 = P0 at *
  generalize Q % 18446744073709551616 = Q0 at *
  generalize R % 18446744073709551616 = R0 at *
  clear j1 j2 j3 u3 e en
  refine ⟨by omega, by omega, by omega, by omega, by omega⟩
theorem mlz_any (x : Nat) (hx : x ≤ 18446744073709551615) (w : World) :
    Calls Tryz.prog 90 #[.int .u64 x] w fun e w' => e = .returned (.int .i64 (64 - (blen x : Int))) ∧ w' = w := by
  have hl : blen x ≤ 64 := blen_le.2 (by omega)
  have k1 := fun w => len64_any x (by omega) w
  rw [bitLen_eq x hx] at k1
  generalize blen x = L at *
  refine cps fun Q hQ => ?_
  go_enter Tryz.func90, Tryz.ntmps90
  go_wp2_with (go_at_call 110; refine (k1 _).mono ?_; rintro e w' ⟨rfl, rfl⟩)
  exact hQ.out _ _ ⟨rfl, rfl⟩
/-- what the last steps reckon -/
theorem risen_facts {n p q r s : Nat} (h : Qw n p q r s) (hs : s ≠ 0) :
    ∃ few G A0 A1 A2 A3 B1 B2 B3 n0 n1 n2 n3 : Nat, few + G = 64 ∧ few ≤ 63 ∧ (64 : Int) - (blen s : Int) = (few : Int) ∧ blen n + few = 256 ∧ Qw (n * 2 ^ few) n0 n1 n2 n3 ∧
      IntKind.u64.wrap ((p : Int) * 2 ^ few) = (n0 : Int) ∧ IntKind.u64.wrap ((q : Int) * 2 ^ few) = (A1 : Int) ∧ IntKind.u64.wrap ((r : Int) * 2 ^ few) = (A2 : Int) ∧ IntKind.u64.wrap ((s : Int) * 2 ^ few) = (A3 : Int) ∧
      (p : Int) / 2 ^ G = (B1 : Int) ∧ (q : Int) / 2 ^ G = (B2 : Int) ∧ (r : Int) / 2 ^ G = (B3 : Int) ∧
      bits BinOp.or IntKind.u64 (A1 : Int) (B1 : Int) = (n1 : Int) ∧ bits BinOp.or IntKind.u64 (A2 : Int) (B2 : Int) = (n2 : Int) ∧ bits BinOp.or IntKind.u64 (A3 : Int) (B3 : Int) = (n3 : Int) := by
  have hb : 1 ≤ blen s := by rw [blen_pos hs]; omega
  have hb2 : blen s ≤ 64 := blen_le.2 (by have := h.h3; omega)
  obtain ⟨few, hf⟩ : ∃ few, few + blen s = 64 := ⟨64 - blen s, by omega⟩
  have h1 : s < 2 ^ blen s := blen_le.1 (Nat.le_refl _)
  have hp : 0 < 2 ^ few := Nat.pow_pos (by decide)
  have ht : s * 2 ^ few ≤ 18446744073709551615 := by
    have a : s * 2 ^ few < 2 ^ blen s * 2 ^ few := (Nat.mul_lt_mul_right hp).2 h1
    rw [← Nat.pow_add, Nat.add_comm, hf] at a
    omega
  have hw : ∀ x : Nat, IntKind.u64.wrap ((x : Int) * 2 ^ few) = ((x * 2 ^ few % 18446744073709551616 : Nat) : Int) := fun x => by
    have e : ((x : Int) * 2 ^ few) = ((x * 2 ^ few : Nat) : Int) := by simp
    rw [e, wrapN]
  have hd : ∀ x : Nat, (x : Int) / 2 ^ (64 - few) = ((x / 2 ^ (64 - few) : Nat) : Int) := fun x => by simp
  have hor : ∀ x y : Nat, y ≤ 18446744073709551615 → bits BinOp.or IntKind.u64 ((x * 2 ^ few % 18446744073709551616 : Nat) : Int) ((y / 2 ^ (64 - few) : Nat) : Int) = (((x * 2 ^ few % 18446744073709551616) ||| (y / 2 ^ (64 - few)) : Nat) : Int) := fun x y hy =>
    u64_or_nat _ _ (by have := Nat.mod_lt (x * 2 ^ few) (show 0 < 18446744073709551616 by decide); omega) (by have := Nat.div_le_self y (2 ^ (64 - few)); omega)
  have hbl : blen n + few = 256 := by
    have e : n / 2 ^ 192 = s := by
      obtain ⟨e, a0, a1, a2, a3⟩ := h
      rw [show (2 : Nat) ^ 192 = 6277101735386680763835789423207666416102355444464034512896 by decide]
      omega
    have := @blen_shift n 192 (by rw [e]; exact hs)
    rw [e] at this
    omega
  exact ⟨few, 64 - few, 0, _, _, _, _, _, _, _, _, _, _, by omega, by omega, by omega, hbl, qw_up few (64 - few) (by omega) h ht, hw p, hw q, hw r, hw s, hd p, hd q, hd r, hor q p h.h0, hor r q h.h1, hor s r h.h2⟩
end Go.Proofs.YtheliihkkoohnabGreat

namespace Go.Proofs.YtheliihkkoohnabGreat
open Go.ChangeShapes Go.WideShapes Go.ChangeAt Go.RowKit
set_option linter.unusedVariables false
set_option linter.unusedSimpArgs false
set_option maxRecDepth 100000

/-! ### a number shifted up till its highest bit is 1 -/
theorem row4_other {w : World} {m g : Nat} {c : Array Value} {v0 v1 v2 v3 : Value} {t : TypeId} (h : w.heap[m]? = some (.cells c t (0, 0))) (hne : m ≠ g) :
    ((((w.setCell ⟨g, 0, none⟩ v0).setCell ⟨g, 1, none⟩ v1).setCell ⟨g, 2, none⟩ v2).setCell ⟨g, 3, none⟩ v3).heap[m]? = some (.cells c t (0, 0)) := by
  rw [heap_setCell_other _ _ m _ hne, heap_setCell_other _ _ m _ hne, heap_setCell_other _ _ m _ hne, heap_setCell_other _ _ m _ hne]
  exact h
set_option maxHeartbeats 8000000 in
theorem srisen_any {n a b c d a' b' c' d' k : Nat} (h : Qw n a b c d) (hn : n ≠ 0) (hk : k + blen n = 256) (h' : Qw (n * 2 ^ k) a' b' c' d') (w : World) :
    Calls Tryz.prog 74 #[wdV a b c d] w fun e w' => e = .returned (.tuple #[wdV a' b' c' d', .int .i64 k]) ∧ Below w.heap.size w w' := by
  unfold wdV
  have HN : Hid (n ≠ 0 ∧ k + blen n = 256 ∧ Qw (n * 2 ^ k) a' b' c' d') := ⟨hn, hk, h'⟩
  have HW : Hid (Qw n a b c d) := h
  have v0 : IntKind.i64.wrap 0 = 0 := rfl
  have v1 : IntKind.i64.wrap 1 = 1 := rfl
  have v2 : IntKind.i64.wrap 2 = 2 := rfl
  have v3 : IntKind.i64.wrap 3 = 3 := rfl
  clear h hn hk h'
  refine cps fun Q hQ => ?_
  go_enter Tryz.func74, Tryz.ntmps74
  go_wp2
  go_loopw [4] (fun kv wr => Hid (Below w.heap.size w wr) ∧ wr.heap[w.heap.size + 1]? = some (.cells #[.int .u64 0, .int .u64 0, .int .u64 0, .int .u64 0] 112 (0, 0)) ∧
    ∃ p q r s j : Nat, wr.heap[w.heap.size]? = some (.cells #[.int .u64 p, .int .u64 q, .int .u64 r, .int .u64 s] 112 (0, 0)) ∧ kv = .int .i64 j ∧ j ≤ 255 ∧ Hid (Qw (n * 2 ^ j) p q r s)) (fun kv _ => (256 - intOf kv).toNat)
  case atStart => exact ⟨cmore (cmore (Below.refl _ _) _) _, rownew' _ _ _ _ (by simp), a, b, c, d, 0, (Below.heap_alloc _ _ _ (by first | (simp; done) | (simp; omega))).trans (rownew' _ _ _ _ (by simp)), rfl, Nat.zero_le _, by rw [Nat.pow_zero, Nat.mul_one]; exact HW.out⟩
  case round =>
    obtain ⟨hB, hR, p, q, r, s, j, hX, rfl, hj, hq⟩ := hrel
    have HB : Hid (Below w.heap.size w wr) := hB.out
    have xx0 := rowcell hX 0
    have xx1 := rowcell hX 1
    have xx2 := rowcell hX 2
    have xx3 := rowcell hX 3
    have xf := rowfree hX
    have tt0 := rowcell hR 0
    have tt1 := rowcell hR 1
    have tt2 := rowcell hR 2
    have tt3 := rowcell hR 3
    have tf := rowfree hR
    simp only [List.getElem?_toArray, List.getElem?_cons_zero, List.getElem?_cons_succ] at xx0 xx1 xx2 xx3 tt0 tt1 tt2 tt3
    have GX : Hid _ := hX
    have GR : Hid _ := hR
    clear hX hR hB
    by_cases h0 : s = 0
    · subst h0
      have hj2 : j ≤ 191 := by
        obtain ⟨e, a0, a1, a2, a3⟩ := hq.out
        have h1 : n * 2 ^ j < 2 ^ 192 := by rw [show (2 : Nat) ^ 192 = 6277101735386680763835789423207666416102355444464034512896 by decide]; omega
        have h2 : 2 ^ j ≤ n * 2 ^ j := Nat.le_mul_of_pos_left _ (Nat.pos_of_ne_zero HN.out.1)
        have h3 : j < 192 := (Nat.pow_lt_pow_iff_right (by decide : 1 < 2)).1 (Nat.lt_of_le_of_lt h2 h1)
        omega
      have hnew : Qw (n * 2 ^ (j + 64)) 0 p q r := by
        obtain ⟨e, a0, a1, a2, a3⟩ := hq.out
        refine ⟨?_, by omega, by omega, by omega, by omega⟩
        rw [Nat.pow_add, ← Nat.mul_assoc, e, show (2 : Nat) ^ 64 = 18446744073709551616 by decide]
        omega
      have HNew : Hid (Qw (n * 2 ^ (j + 64)) 0 p q r) := hnew
      clear hnew
      go_wp2
      go_roundw
      case measure => simp [intOf]; omega
      case rel => exact ⟨cset4 HB.out (Nat.le_refl _), row4_other GR.out (by omega), 0, p, q, r, j + 64, row4 GX.out, by go_num, by omega, HNew.out⟩
    · obtain ⟨few, G, A0, A1, A2, A3, B1, B2, B3, n0, n1, n2, n3, f1, f2, f3, f4, f5, e0, e1, e2, e3, g1, g2, g3, o1, o2, o3⟩ := risen_facts hq.out h0
      have hs0 : ((s : Int) == 0) = false := beq_eq_false_iff_ne.2 (by omega)
      have k1 := mlz_any s hq.out.h3
      rw [f3] at k1
      have fG : IntKind.i64.wrap (64 - (few : Int)) = (G : Int) := by rw [wrapI (by omega)]; omega
      have mf : min few 64 = few := by omega
      have mg : min G 64 = G := by omega
      rw [← mf] at e0 e1 e2 e3
      rw [← mg] at g1 g2 g3
      clear mf mg
      have fg0 : (0 : Int) ≤ (few : Int) := Int.natCast_nonneg _
      have fg1 : (0 : Int) ≤ (G : Int) := Int.natCast_nonneg _
      have HF : Hid (few + G = 64 ∧ few ≤ 63 ∧ blen (n * 2 ^ j) + few = 256 ∧ Qw (n * 2 ^ j * 2 ^ few) n0 n1 n2 n3) := ⟨f1, f2, f4, f5⟩
      have hsum : IntKind.i64.wrap ((j : Int) + (few : Int)) = ((j + few : Nat) : Int) := by rw [wrapI (by omega)]; omega
      clear f1 f2 f3 f4 f5 h0
      go_wp2_with (go_at_call 90; go_must (refine (k1 _).mono ?_); rintro e w' ⟨rfl, hw'⟩; rw [hw']; clear hw' w')
      obtain ⟨wo, hwo⟩ : ∃ wo : World, wo = wr := ⟨_, rfl⟩
      rw [← hwo] at HB GR
      have hB2 : Hid (Below w.heap.size wo wr) := by show Below _ _ _; rw [hwo]; exact Below.refl _ _
      have hR2 : Hid (wr.heap[w.heap.size + 1]? = some (.cells #[.int .u64 0, .int .u64 0, .int .u64 0, .int .u64 0] 112 (0, 0))) := by show _ = _; rw [← hwo]; exact GR.out
      have hX2 := GX.out
      have HJ : Hid (Qw (n * 2 ^ j) p q r s) := hq.out
      have zo : w.heap.size < wo.heap.size := by have := rowlt GR.out; omega
      clear GX xx0 xx1 xx2 xx3 tt0 tt1 tt2 tt3 xf tf hq hwo
      go_loopw [6] (fun iv wr => Hid (Below w.heap.size wo wr) ∧ ∃ y0 y1 y2 y3 : Nat, wr.heap[w.heap.size]? = some (.cells #[.int .u64 y0, .int .u64 y1, .int .u64 y2, .int .u64 y3] 112 (0, 0)) ∧ wr.heap[w.heap.size + 1]? = some (.cells #[.int .u64 0, .int .u64 0, .int .u64 0, .int .u64 0] 112 (0, 0)) ∧ ((iv = .int .i64 3 ∧ p = y0 ∧ q = y1 ∧ r = y2 ∧ s = y3) ∨ (iv = .int .i64 2 ∧ p = y0 ∧ q = y1 ∧ r = y2 ∧ n3 = y3) ∨ (iv = .int .i64 1 ∧ p = y0 ∧ q = y1 ∧ n2 = y2 ∧ n3 = y3) ∨ (iv = .int .i64 0 ∧ p = y0 ∧ n1 = y1 ∧ n2 = y2 ∧ n3 = y3))) (fun iv _ => (intOf iv).toNat)
      case atStart => exact ⟨hB2.out, p, q, r, s, hX2, hR2.out, .inl ⟨rfl, rfl, rfl, rfl, rfl⟩⟩
      case round =>
        obtain ⟨hB3, y0, y1, y2, y3, hX3, hR3, hrel⟩ := hrel
        have HB3 : Hid (Below w.heap.size wo wr) := hB3.out
        have xx0 := rowcell hX3 0
        have xx1 := rowcell hX3 1
        have xx2 := rowcell hX3 2
        have xx3 := rowcell hX3 3
        have tt0 := rowcell hR3 0
        have tt1 := rowcell hR3 1
        have tt2 := rowcell hR3 2
        have tt3 := rowcell hR3 3
        have xf := rowfree hX3
        have tf := rowfree hR3
        simp only [List.getElem?_toArray, List.getElem?_cons_zero, List.getElem?_cons_succ] at xx0 xx1 xx2 xx3 tt0 tt1 tt2 tt3
        have GX3 : Hid _ := hX3
        have GR3 : Hid _ := hR3
        clear hX3 hR3 hB3 hX2
        rcases hrel with ⟨rfl, rfl, rfl, rfl, rfl⟩ | ⟨rfl, rfl, rfl, rfl, rfl⟩ | ⟨rfl, rfl, rfl, rfl, rfl⟩ | ⟨rfl, rfl, rfl, rfl, rfl⟩
        · go_wp2
          refine wpC_region (fun W => W.cell? ⟨w.heap.size, 2, none⟩ = some (.int .u64 r)) (by kernel_rfl) ?_
          refine wpC_take 0 (v := ?_) rfl (by kernel_rfl) (fun _ _ _ h => h) (by kernel_rfl) ?_ ?_; rotate_left; · (intro wC hC; obtain d0 := hC; go_simp <;> with_reducible rfl)
          refine wpC_take 1 (v := ?_) rfl (by kernel_rfl) (fun _ _ _ h => h) (by kernel_rfl) ?_ ?_; rotate_left; · (intro wC hC; obtain d0 := hC; go_simp <;> with_reducible rfl)
          refine wpC_take 2 (v := ?_) rfl (by kernel_rfl) (fun _ _ _ h => h) (by kernel_rfl) ?_ ?_; rotate_left; · (intro wC hC; obtain d0 := hC; go_simp <;> with_reducible rfl)
          refine wpC_take 4 (v := ?_) rfl (by kernel_rfl) (fun _ _ _ h => h) (by kernel_rfl) ?_ ?_; rotate_left; · (intro wC hC; obtain d0 := hC; go_simp <;> with_reducible rfl)
          refine wpC_take 6 (v := ?_) rfl (by kernel_rfl) (fun _ _ _ h => h) (by kernel_rfl) ?_ ?_; rotate_left; · (intro wC hC; obtain d0 := hC; go_simp <;> with_reducible rfl)
          refine wpC_take 7 (v := ?_) rfl (by kernel_rfl) (fun _ _ _ h => h) (by kernel_rfl) ?_ ?_; rotate_left; · (intro wC hC; obtain d0 := hC; go_simp <;> with_reducible rfl)
          refine wpC_take 8 (v := ?_) rfl (by kernel_rfl) (fun _ _ _ h => h) (by kernel_rfl) ?_ ?_; rotate_left; · (intro wC hC; obtain d0 := hC; go_simp <;> with_reducible rfl)
          refine wpC_take 9 (v := ?_) rfl (by kernel_rfl) (fun _ _ _ h => h) (by kernel_rfl) ?_ ?_; rotate_left; · (intro wC hC; obtain d0 := hC; go_simp <;> with_reducible rfl)
          refine wpC_take 10 (v := ?_) rfl (by kernel_rfl) (fun _ _ _ h => h) (by kernel_rfl) ?_ ?_; rotate_left; · (intro wC hC; obtain d0 := hC; go_simp <;> with_reducible rfl)
          refine wpC_take 11 (v := ?_) rfl (by kernel_rfl) (fun _ _ _ h => h) (by kernel_rfl) ?_ ?_; rotate_left; · (intro wC hC; obtain d0 := hC; go_simp <;> with_reducible rfl)
          refine wpC_take 12 (v := ?_) rfl (by kernel_rfl) (fun _ _ _ h => h) (by kernel_rfl) ?_ ?_; rotate_left; · (intro wC hC; obtain d0 := hC; go_simp <;> with_reducible rfl)
          refine wpC_step 3 rfl (by kernel_rfl) (by kernel_rfl) xx2 (fun K hK => ?_)
          go_simp
          try (refine hK _ _ ?_; clear hK K)
          refine wpC_take 5 (v := ?_) rfl (by kernel_rfl) (fun _ _ _ h => h) (by kernel_rfl) ?_ ?_; rotate_left; · (intro wC hC; obtain d0 := hC; go_simp <;> with_reducible rfl)
          refine wpC_take 13 (v := ?_) rfl (by kernel_rfl) (fun _ _ _ h => h) (by kernel_rfl) ?_ ?_; rotate_left; · (intro wC hC; obtain d0 := hC; go_simp <;> with_reducible rfl)
          refine wpC_take 14 (v := ?_) rfl (by kernel_rfl) (fun _ _ _ h => h) (by kernel_rfl) ?_ ?_; rotate_left; · (intro wC hC; obtain d0 := hC; go_simp <;> with_reducible rfl)
          refine wpC_step 15 rfl (by kernel_rfl) (by kernel_rfl) xx2 (fun K hK => ?_)
          go_simp
          try (refine hK _ _ ?_; clear hK K)
          refine wpC_done (by kernel_rfl) (by simp [go_sem, xx2]) ?_
          go_wp2
          go_roundw
          case measure => simp [intOf]
          case rel => exact ⟨(HB3.out.setCell (Nat.le_refl _) _).drew, p, q, r, n3, (rowset GX3.out 3 _).trans (by simp only [List.setIfInBounds_toArray, List.set_cons_zero, List.set_cons_succ]), rowset_other GR3.out (by omega), .inr (.inl ⟨rfl, rfl, rfl, rfl, rfl⟩)⟩
        · go_wp2
          refine wpC_region (fun W => W.cell? ⟨w.heap.size, 1, none⟩ = some (.int .u64 q)) (by kernel_rfl) ?_
          refine wpC_take 0 (v := ?_) rfl (by kernel_rfl) (fun _ _ _ h => h) (by kernel_rfl) ?_ ?_; rotate_left; · (intro wC hC; obtain d0 := hC; go_simp <;> with_reducible rfl)
          refine wpC_take 1 (v := ?_) rfl (by kernel_rfl) (fun _ _ _ h => h) (by kernel_rfl) ?_ ?_; rotate_left; · (intro wC hC; obtain d0 := hC; go_simp <;> with_reducible rfl)
          refine wpC_take 2 (v := ?_) rfl (by kernel_rfl) (fun _ _ _ h => h) (by kernel_rfl) ?_ ?_; rotate_left; · (intro wC hC; obtain d0 := hC; go_simp <;> with_reducible rfl)
          refine wpC_take 4 (v := ?_) rfl (by kernel_rfl) (fun _ _ _ h => h) (by kernel_rfl) ?_ ?_; rotate_left; · (intro wC hC; obtain d0 := hC; go_simp <;> with_reducible rfl)
          refine wpC_take 6 (v := ?_) rfl (by kernel_rfl) (fun _ _ _ h => h) (by kernel_rfl) ?_ ?_; rotate_left; · (intro wC hC; obtain d0 := hC; go_simp <;> with_reducible rfl)
          refine wpC_take 7 (v := ?_) rfl (by kernel_rfl) (fun _ _ _ h => h) (by kernel_rfl) ?_ ?_; rotate_left; · (intro wC hC; obtain d0 := hC; go_simp <;> with_reducible rfl)
          refine wpC_take 8 (v := ?_) rfl (by kernel_rfl) (fun _ _ _ h => h) (by kernel_rfl) ?_ ?_; rotate_left; · (intro wC hC; obtain d0 := hC; go_simp <;> with_reducible rfl)
          refine wpC_take 9 (v := ?_) rfl (by kernel_rfl) (fun _ _ _ h => h) (by kernel_rfl) ?_ ?_; rotate_left; · (intro wC hC; obtain d0 := hC; go_simp <;> with_reducible rfl)
          refine wpC_take 10 (v := ?_) rfl (by kernel_rfl) (fun _ _ _ h => h) (by kernel_rfl) ?_ ?_; rotate_left; · (intro wC hC; obtain d0 := hC; go_simp <;> with_reducible rfl)
          refine wpC_take 11 (v := ?_) rfl (by kernel_rfl) (fun _ _ _ h => h) (by kernel_rfl) ?_ ?_; rotate_left; · (intro wC hC; obtain d0 := hC; go_simp <;> with_reducible rfl)
          refine wpC_take 12 (v := ?_) rfl (by kernel_rfl) (fun _ _ _ h => h) (by kernel_rfl) ?_ ?_; rotate_left; · (intro wC hC; obtain d0 := hC; go_simp <;> with_reducible rfl)
          refine wpC_step 3 rfl (by kernel_rfl) (by kernel_rfl) xx1 (fun K hK => ?_)
          go_simp
          try (refine hK _ _ ?_; clear hK K)
          refine wpC_take 5 (v := ?_) rfl (by kernel_rfl) (fun _ _ _ h => h) (by kernel_rfl) ?_ ?_; rotate_left; · (intro wC hC; obtain d0 := hC; go_simp <;> with_reducible rfl)
          refine wpC_take 13 (v := ?_) rfl (by kernel_rfl) (fun _ _ _ h => h) (by kernel_rfl) ?_ ?_; rotate_left; · (intro wC hC; obtain d0 := hC; go_simp <;> with_reducible rfl)
          refine wpC_take 14 (v := ?_) rfl (by kernel_rfl) (fun _ _ _ h => h) (by kernel_rfl) ?_ ?_; rotate_left; · (intro wC hC; obtain d0 := hC; go_simp <;> with_reducible rfl)
          refine wpC_step 15 rfl (by kernel_rfl) (by kernel_rfl) xx1 (fun K hK => ?_)
          go_simp
          try (refine hK _ _ ?_; clear hK K)
          refine wpC_done (by kernel_rfl) (by simp [go_sem, xx1]) ?_
          go_wp2
          go_roundw
          case measure => simp [intOf]
          case rel => exact ⟨(HB3.out.setCell (Nat.le_refl _) _).drew, p, q, n2, n3, (rowset GX3.out 2 _).trans (by simp only [List.setIfInBounds_toArray, List.set_cons_zero, List.set_cons_succ]), rowset_other GR3.out (by omega), .inr (.inr (.inl ⟨rfl, rfl, rfl, rfl, rfl⟩))⟩
        · go_wp2
          refine wpC_region (fun W => W.cell? ⟨w.heap.size, 0, none⟩ = some (.int .u64 p)) (by kernel_rfl) ?_
          refine wpC_take 0 (v := ?_) rfl (by kernel_rfl) (fun _ _ _ h => h) (by kernel_rfl) ?_ ?_; rotate_left; · (intro wC hC; obtain d0 := hC; go_simp <;> with_reducible rfl)
          refine wpC_take 1 (v := ?_) rfl (by kernel_rfl) (fun _ _ _ h => h) (by kernel_rfl) ?_ ?_; rotate_left; · (intro wC hC; obtain d0 := hC; go_simp <;> with_reducible rfl)
          refine wpC_take 2 (v := ?_) rfl (by kernel_rfl) (fun _ _ _ h => h) (by kernel_rfl) ?_ ?_; rotate_left; · (intro wC hC; obtain d0 := hC; go_simp <;> with_reducible rfl)
          refine wpC_take 4 (v := ?_) rfl (by kernel_rfl) (fun _ _ _ h => h) (by kernel_rfl) ?_ ?_; rotate_left; · (intro wC hC; obtain d0 := hC; go_simp <;> with_reducible rfl)
          refine wpC_take 6 (v := ?_) rfl (by kernel_rfl) (fun _ _ _ h => h) (by kernel_rfl) ?_ ?_; rotate_left; · (intro wC hC; obtain d0 := hC; go_simp <;> with_reducible rfl)
          refine wpC_take 7 (v := ?_) rfl (by kernel_rfl) (fun _ _ _ h => h) (by kernel_rfl) ?_ ?_; rotate_left; · (intro wC hC; obtain d0 := hC; go_simp <;> with_reducible rfl)
          refine wpC_take 8 (v := ?_) rfl (by kernel_rfl) (fun _ _ _ h => h) (by kernel_rfl) ?_ ?_; rotate_left; · (intro wC hC; obtain d0 := hC; go_simp <;> with_reducible rfl)
          refine wpC_take 9 (v := ?_) rfl (by kernel_rfl) (fun _ _ _ h => h) (by kernel_rfl) ?_ ?_; rotate_left; · (intro wC hC; obtain d0 := hC; go_simp <;> with_reducible rfl)
          refine wpC_take 10 (v := ?_) rfl (by kernel_rfl) (fun _ _ _ h => h) (by kernel_rfl) ?_ ?_; rotate_left; · (intro wC hC; obtain d0 := hC; go_simp <;> with_reducible rfl)
          refine wpC_take 11 (v := ?_) rfl (by kernel_rfl) (fun _ _ _ h => h) (by kernel_rfl) ?_ ?_; rotate_left; · (intro wC hC; obtain d0 := hC; go_simp <;> with_reducible rfl)
          refine wpC_take 12 (v := ?_) rfl (by kernel_rfl) (fun _ _ _ h => h) (by kernel_rfl) ?_ ?_; rotate_left; · (intro wC hC; obtain d0 := hC; go_simp <;> with_reducible rfl)
          refine wpC_step 3 rfl (by kernel_rfl) (by kernel_rfl) xx0 (fun K hK => ?_)
          go_simp
          try (refine hK _ _ ?_; clear hK K)
          refine wpC_take 5 (v := ?_) rfl (by kernel_rfl) (fun _ _ _ h => h) (by kernel_rfl) ?_ ?_; rotate_left; · (intro wC hC; obtain d0 := hC; go_simp <;> with_reducible rfl)
          refine wpC_take 13 (v := ?_) rfl (by kernel_rfl) (fun _ _ _ h => h) (by kernel_rfl) ?_ ?_; rotate_left; · (intro wC hC; obtain d0 := hC; go_simp <;> with_reducible rfl)
          refine wpC_take 14 (v := ?_) rfl (by kernel_rfl) (fun _ _ _ h => h) (by kernel_rfl) ?_ ?_; rotate_left; · (intro wC hC; obtain d0 := hC; go_simp <;> with_reducible rfl)
          refine wpC_step 15 rfl (by kernel_rfl) (by kernel_rfl) xx0 (fun K hK => ?_)
          go_simp
          try (refine hK _ _ ?_; clear hK K)
          refine wpC_done (by kernel_rfl) (by simp [go_sem, xx0]) ?_
          go_wp2
          go_roundw
          case measure => simp [intOf]
          case rel => exact ⟨(HB3.out.setCell (Nat.le_refl _) _).drew, p, n1, n2, n3, (rowset GX3.out 1 _).trans (by simp only [List.setIfInBounds_toArray, List.set_cons_zero, List.set_cons_succ]), rowset_other GR3.out (by omega), .inr (.inr (.inr (⟨rfl, rfl, rfl, rfl, rfl⟩)))⟩
        · obtain ⟨hn0, hkb, hqk⟩ := HN.out
          obtain ⟨h1, h2, h3, h4⟩ := HF.out
          have ek : k = j + few := by rw [blen_two j hn0] at h3; omega
          subst ek
          rw [Nat.mul_assoc, ← Nat.pow_add] at h4
          obtain ⟨rfl, rfl, rfl, rfl⟩ := hqk.one h4
          have zw : w.heap.size + 1 < wr.heap.size := rowlt GR3.out
          clear hn0 hkb hqk h1 h2 h3 h4
          go_wp2
          refine bodyPost_ret (v := .tuple #[wdV a' b' c' d', .int .i64 (j + few : Nat)]) (by simp [results, Tryz.results74, go_sem, tt0, tt1, tt2, tt3, xx1, xx2, xx3, tf, wdV]; done) rfl (hQ.out _ _ ⟨rfl, ?_⟩)
          exact cset4 ((HB.out.trans HB3.out).setCell (Nat.le_refl _) _) (by omega)
end Go.Proofs.YtheliihkkoohnabGreat

namespace Go.Proofs.YtheliihkkoohnabGreat
open Go.ChangeShapes Go.WideShapes Go.ChangeAt Go.RowKit
set_option linter.unusedVariables false
set_option linter.unusedSimpArgs false
set_option maxRecDepth 100000

/-! ### rows of five cells -/
theorem row5 {w : World} {m : Nat} {u0 u1 u2 u3 u4 v0 v1 v2 v3 v4 : Value} {t : TypeId} (h : w.heap[m]? = some (.cells #[u0, u1, u2, u3, u4] t (0, 0))) :
    (((((w.setCell ⟨m, 0, none⟩ v0).setCell ⟨m, 1, none⟩ v1).setCell ⟨m, 2, none⟩ v2).setCell ⟨m, 3, none⟩ v3).setCell ⟨m, 4, none⟩ v4).heap[m]? = some (.cells #[v0, v1, v2, v3, v4] t (0, 0)) := by
  have h := rowset h 0 v0
  simp only [List.setIfInBounds_toArray, List.set_cons_zero, List.set_cons_succ] at h
  have h := rowset h 1 v1
  simp only [List.setIfInBounds_toArray, List.set_cons_zero, List.set_cons_succ] at h
  have h := rowset h 2 v2
  simp only [List.setIfInBounds_toArray, List.set_cons_zero, List.set_cons_succ] at h
  have h := rowset h 3 v3
  simp only [List.setIfInBounds_toArray, List.set_cons_zero, List.set_cons_succ] at h
  have h := rowset h 4 v4
  simp only [List.setIfInBounds_toArray, List.set_cons_zero, List.set_cons_succ] at h
  exact h
theorem cset5 {a W : World} {m : Nat} {v0 v1 v2 v3 v4 : Value} (h : Below a.heap.size a W) (hb : a.heap.size ≤ m) :
    Below a.heap.size a (((((W.setCell ⟨m, 0, none⟩ v0).setCell ⟨m, 1, none⟩ v1).setCell ⟨m, 2, none⟩ v2).setCell ⟨m, 3, none⟩ v3).setCell ⟨m, 4, none⟩ v4) :=
  cset (cset (cset (cset (cset h hb 0 v0) hb 1 v1) hb 2 v2) hb 3 v3) hb 4 v4
theorem row5_other {w : World} {m g : Nat} {c : Array Value} {v0 v1 v2 v3 v4 : Value} {t : TypeId} (h : w.heap[m]? = some (.cells c t (0, 0))) (hne : m ≠ g) :
    (((((w.setCell ⟨g, 0, none⟩ v0).setCell ⟨g, 1, none⟩ v1).setCell ⟨g, 2, none⟩ v2).setCell ⟨g, 3, none⟩ v3).setCell ⟨g, 4, none⟩ v4).heap[m]? = some (.cells c t (0, 0)) := by
  rw [heap_setCell_other _ _ m _ hne, heap_setCell_other _ _ m _ hne, heap_setCell_other _ _ m _ hne, heap_setCell_other _ _ m _ hne, heap_setCell_other _ _ m _ hne]
  exact h
theorem rowE6 {w : World} {m : Nat} {u0 u1 u2 u3 u4 u5 v0 v1 v2 v3 v4 v5 : Value} {t : TypeId} (h : w.heap[m]? = some (.cells #[u0, u1, u2, u3, u4, u5] t (0, 0))) :
    ((((((w.setCell ⟨m, 0, none⟩ v0).setCell ⟨m, 1, none⟩ v1).setCell ⟨m, 2, none⟩ v2).setCell ⟨m, 3, none⟩ v3).setCell ⟨m, 4, none⟩ v4).setCell ⟨m, 5, none⟩ v5).heap[m]? = some (.cells #[v0, v1, v2, v3, v4, v5] t (0, 0)) := by
  have h := rowset h 0 v0
  simp only [List.setIfInBounds_toArray, List.set_cons_zero, List.set_cons_succ] at h
  have h := rowset h 1 v1
  simp only [List.setIfInBounds_toArray, List.set_cons_zero, List.set_cons_succ] at h
  have h := rowset h 2 v2
  simp only [List.setIfInBounds_toArray, List.set_cons_zero, List.set_cons_succ] at h
  have h := rowset h 3 v3
  simp only [List.setIfInBounds_toArray, List.set_cons_zero, List.set_cons_succ] at h
  have h := rowset h 4 v4
  simp only [List.setIfInBounds_toArray, List.set_cons_zero, List.set_cons_succ] at h
  have h := rowset h 5 v5
  simp only [List.setIfInBounds_toArray, List.set_cons_zero, List.set_cons_succ] at h
  exact h
theorem rowE6_other {w : World} {m g : Nat} {c : Array Value} {v0 v1 v2 v3 v4 v5 : Value} {t : TypeId} (h : w.heap[m]? = some (.cells c t (0, 0))) (hne : m ≠ g) :
    ((((((w.setCell ⟨g, 0, none⟩ v0).setCell ⟨g, 1, none⟩ v1).setCell ⟨g, 2, none⟩ v2).setCell ⟨g, 3, none⟩ v3).setCell ⟨g, 4, none⟩ v4).setCell ⟨g, 5, none⟩ v5).heap[m]? = some (.cells c t (0, 0)) := by
  rw [heap_setCell_other _ _ m _ hne, heap_setCell_other _ _ m _ hne, heap_setCell_other _ _ m _ hne, heap_setCell_other _ _ m _ hne, heap_setCell_other _ _ m _ hne, heap_setCell_other _ _ m _ hne]
  exact h
/-! ### numbers of five words (plain mathematics) -/
def w5V (a0 a1 a2 a3 a4 : Nat) : Value := .agg #[.int .u64 a0, .int .u64 a1, .int .u64 a2, .int .u64 a3, .int .u64 a4]
structure Q5 (n a0 a1 a2 a3 a4 : Nat) : Prop where
  eq : n = a0 + a1 * 18446744073709551616 + a2 * 340282366920938463463374607431768211456 + a3 * 6277101735386680763835789423207666416102355444464034512896 + a4 * 115792089237316195423570985008687907853269984665640564039457584007913129639936
  h0 : a0 ≤ 18446744073709551615
  h1 : a1 ≤ 18446744073709551615
  h2 : a2 ≤ 18446744073709551615
  h3 : a3 ≤ 18446744073709551615
  h4 : a4 ≤ 18446744073709551615
theorem Q5.one {n a0 a1 a2 a3 a4 b0 b1 b2 b3 b4 : Nat} (h : Q5 n a0 a1 a2 a3 a4) (g : Q5 n b0 b1 b2 b3 b4) : a0 = b0 ∧ a1 = b1 ∧ a2 = b2 ∧ a3 = b3 ∧ a4 = b4 := by
  obtain ⟨e, h0, h1, h2, h3, h4⟩ := h
  obtain ⟨e', g0, g1, g2, g3, g4⟩ := g
  omega
theorem q5_of {n : Nat} (h : n < 2135987035920910082395021706169552114602704522356652769947041607822219725780640550022962086936576) :
    Q5 n (n % 18446744073709551616) (n / 18446744073709551616 % 18446744073709551616) (n / 340282366920938463463374607431768211456 % 18446744073709551616) (n / 6277101735386680763835789423207666416102355444464034512896 % 18446744073709551616) (n / 115792089237316195423570985008687907853269984665640564039457584007913129639936) := by
  refine ⟨by omega, by omega, by omega, by omega, by omega, by omega⟩
theorem Q5.lt {n a0 a1 a2 a3 a4 : Nat} (h : Q5 n a0 a1 a2 a3 a4) : n < 2135987035920910082395021706169552114602704522356652769947041607822219725780640550022962086936576 := by
  obtain ⟨e, h0, h1, h2, h3, h4⟩ := h
  omega
/-- five words shifted up together -/
theorem q5_up {n p q r s u : Nat} (few G : Nat) (h : few + G = 64) (hq : Q5 n p q r s u) (ht : u * 2 ^ few ≤ 18446744073709551615) :
    Q5 (n * 2 ^ few) (p * 2 ^ few % 18446744073709551616) ((q * 2 ^ few % 18446744073709551616) ||| (p / 2 ^ G)) ((r * 2 ^ few % 18446744073709551616) ||| (q / 2 ^ G)) ((s * 2 ^ few % 18446744073709551616) ||| (r / 2 ^ G)) ((u * 2 ^ few % 18446744073709551616) ||| (s / 2 ^ G)) := by
  obtain ⟨e, h0, h1, h2, h3, h4⟩ := hq
  obtain ⟨j1, k1⟩ := word_join q p few G h h0
  obtain ⟨j2, k2⟩ := word_join r q few G h h1
  obtain ⟨j3, k3⟩ := word_join s r few G h h2
  obtain ⟨j4, k4⟩ := word_join u s few G h h3
  rw [j1, j2, j3, j4]
  have u0 := word_up p few G h
  have u1 := word_up q few G h
  have u2 := word_up r few G h
  have u3 := word_up s few G h
  have u4 := Nat.mod_eq_of_lt (show u * 2 ^ few < 18446744073709551616 by omega)
  have en : n * 2 ^ few = p * 2 ^ few + q * 2 ^ few * 18446744073709551616 + r * 2 ^ few * 340282366920938463463374607431768211456 + s * 2 ^ few * 6277101735386680763835789423207666416102355444464034512896 + u * 2 ^ few * 115792089237316195423570985008687907853269984665640564039457584007913129639936 := by
    rw [e, Nat.add_mul, Nat.add_mul, Nat.add_mul, Nat.add_mul, Nat.mul_right_comm q, Nat.mul_right_comm r, Nat.mul_right_comm s, Nat.mul_right_comm u]
  have m0 := Nat.mod_lt (p * 2 ^ few) (show 0 < 18446744073709551616 by decide)
  rw [u4] at k4 ⊢
  rw [en]
  generalize p * 2 ^ few = P at *
  generalize q * 2 ^ few = Q at *
  generalize r * 2 ^ few = R at *
  generalize s * 2 ^ few = S at *
  generalize u * 2 ^ few = U at *
  generalize p / 2 ^ G = p1 at *
  generalize q / 2 ^ G = q1 at *
  generalize r / 2 ^ G = r1 at *
  generalize s / 2 ^ G = s1 at *
  generalize P % 18446744073709551616 = P0 at *
  generalize Q % 18446744073709551616 = Q0 at *
  generalize R % 18446744073709551616 = R0 at *
  generalize S % 18446744073709551616 = S0 at *
  clear j1 j2 j3 j4 u4 e en
  refine ⟨by omega, by omega, by omega, by omega, by omega, by omega⟩
/-- what the last steps reckon -/
theorem risen5_facts {n p q r s u : Nat} (h : Q5 n p q r s u) (hs : u ≠ 0) :
    ∃ few G A1 A2 A3 A4 B1 B2 B3 B4 n0 n1 n2 n3 n4 : Nat, few + G = 64 ∧ few ≤ 63 ∧ (64 : Int) - (blen u : Int) = (few : Int) ∧ blen n + few = 320 ∧ Q5 (n * 2 ^ few) n0 n1 n2 n3 n4 ∧
      IntKind.u64.wrap ((p : Int) * 2 ^ few) = (n0 : Int) ∧ IntKind.u64.wrap ((q : Int) * 2 ^ few) = (A1 : Int) ∧ IntKind.u64.wrap ((r : Int) * 2 ^ few) = (A2 : Int) ∧ IntKind.u64.wrap ((s : Int) * 2 ^ few) = (A3 : Int) ∧ IntKind.u64.wrap ((u : Int) * 2 ^ few) = (A4 : Int) ∧
      (p : Int) / 2 ^ G = (B1 : Int) ∧ (q : Int) / 2 ^ G = (B2 : Int) ∧ (r : Int) / 2 ^ G = (B3 : Int) ∧ (s : Int) / 2 ^ G = (B4 : Int) ∧
      bits BinOp.or IntKind.u64 (A1 : Int) (B1 : Int) = (n1 : Int) ∧ bits BinOp.or IntKind.u64 (A2 : Int) (B2 : Int) = (n2 : Int) ∧ bits BinOp.or IntKind.u64 (A3 : Int) (B3 : Int) = (n3 : Int) ∧ bits BinOp.or IntKind.u64 (A4 : Int) (B4 : Int) = (n4 : Int) := by
  have hb : 1 ≤ blen u := by rw [blen_pos hs]; omega
  have hb2 : blen u ≤ 64 := blen_le.2 (by have := h.h4; omega)
  obtain ⟨few, hf⟩ : ∃ few, few + blen u = 64 := ⟨64 - blen u, by omega⟩
  have h1 : u < 2 ^ blen u := blen_le.1 (Nat.le_refl _)
  have hp : 0 < 2 ^ few := Nat.pow_pos (by decide)
  have ht : u * 2 ^ few ≤ 18446744073709551615 := by
    have a : u * 2 ^ few < 2 ^ blen u * 2 ^ few := (Nat.mul_lt_mul_right hp).2 h1
    rw [← Nat.pow_add, Nat.add_comm, hf] at a
    omega
  have hw : ∀ x : Nat, IntKind.u64.wrap ((x : Int) * 2 ^ few) = ((x * 2 ^ few % 18446744073709551616 : Nat) : Int) := fun x => by
    have e : ((x : Int) * 2 ^ few) = ((x * 2 ^ few : Nat) : Int) := by simp
    rw [e, wrapN]
  have hd : ∀ x : Nat, (x : Int) / 2 ^ (64 - few) = ((x / 2 ^ (64 - few) : Nat) : Int) := fun x => by simp
  have hor : ∀ x y : Nat, y ≤ 18446744073709551615 → bits BinOp.or IntKind.u64 ((x * 2 ^ few % 18446744073709551616 : Nat) : Int) ((y / 2 ^ (64 - few) : Nat) : Int) = (((x * 2 ^ few % 18446744073709551616) ||| (y / 2 ^ (64 - few)) : Nat) : Int) := fun x y hy =>
    u64_or_nat _ _ (by have := Nat.mod_lt (x * 2 ^ few) (show 0 < 18446744073709551616 by decide); omega) (by have := Nat.div_le_self y (2 ^ (64 - few)); omega)
  have hbl : blen n + few = 320 := by
    have e : n / 2 ^ 256 = u := by
      obtain ⟨e, a0, a1, a2, a3, a4⟩ := h
      rw [show (2 : Nat) ^ 256 = 115792089237316195423570985008687907853269984665640564039457584007913129639936 by decide]
      omega
    have := @blen_shift n 256 (by rw [e]; exact hs)
    rw [e] at this
    omega
  exact ⟨few, 64 - few, _, _, _, _, _, _, _, _, _, _, _, _, _, by omega, by omega, by omega, hbl, q5_up few (64 - few) (by omega) h ht, hw p, hw q, hw r, hw s, hw u, hd p, hd q, hd r, hd s, hor q p h.h0, hor r q h.h1, hor s r h.h2, hor u s h.h3⟩
/-- the bounds, written out -/
theorem pow320 (E : Nat) (h : E = 256 + 64) : 2 ^ E = 2135987035920910082395021706169552114602704522356652769947041607822219725780640550022962086936576 := (congrArg (fun e => 2 ^ e) h).trans ((Nat.pow_add 2 256 64).trans (by decide))
theorem pow319 (E : Nat) (h : E = 255 + 64) : 2 ^ E = 1067993517960455041197510853084776057301352261178326384973520803911109862890320275011481043468288 := (congrArg (fun e => 2 ^ e) h).trans ((Nat.pow_add 2 255 64).trans (by decide))
theorem blen320 {n : Nat} : blen n ≤ 320 ↔ n < 2135987035920910082395021706169552114602704522356652769947041607822219725780640550022962086936576 := by
  obtain ⟨E, hE⟩ : ∃ E, E = 256 + 64 := ⟨_, rfl⟩
  rw [← pow320 E hE, ← blen_le]
  omega
theorem q5_ex {n : Nat} (h : n < 2135987035920910082395021706169552114602704522356652769947041607822219725780640550022962086936576) : ∃ a0 a1 a2 a3 a4, Q5 n a0 a1 a2 a3 a4 :=
  ⟨_, _, _, _, _, q5_of h⟩
theorem q5_zero {n a0 a1 a2 a3 a4 : Nat} (h : Q5 n a0 a1 a2 a3 a4) : (decide ((a0 : Int) = 0) && decide ((a1 : Int) = 0) && decide ((a2 : Int) = 0) && decide ((a3 : Int) = 0) && decide ((a4 : Int) = 0)) = decide (n = 0) := by
  obtain ⟨e, h0, h1, h2, h3, h4⟩ := h
  rw [← Bool.decide_and, ← Bool.decide_and, ← Bool.decide_and, ← Bool.decide_and]
  refine decide_eq_decide.2 ?_
  omega
theorem or_rest3 (a b c : Nat) (ha : a ≤ 18446744073709551615) (hb : b ≤ 18446744073709551615) (hc : c ≤ 18446744073709551615) : ∃ o o2 : Nat, bits BinOp.or IntKind.u64 (c : Int) (b : Int) = (o : Int) ∧ bits BinOp.or IntKind.u64 (o : Int) (a : Int) = (o2 : Int) ∧ ((o2 : Int) != 0) = decide (a ≠ 0 ∨ b ≠ 0 ∨ c ≠ 0) := by
  have hob : c ||| b < 2 ^ 64 := Nat.or_lt_two_pow (by omega) (by omega)
  refine ⟨c ||| b, (c ||| b) ||| a, u64_or_nat c b (by omega) (by omega), u64_or_nat _ a (by omega) (by omega), ?_⟩
  have e : c ||| b ||| a = 0 ↔ (c = 0 ∧ b = 0) ∧ a = 0 := by rw [Nat.or_eq_zero_iff, Nat.or_eq_zero_iff]
  by_cases h : c ||| b ||| a = 0
  · obtain ⟨⟨rfl, rfl⟩, rfl⟩ := e.1 h
    rfl
  · rw [decide_eq_true (by
      by_cases h0 : a = 0
      · by_cases h1 : b = 0
        · exact .inr (.inr (fun c2 => h (e.2 ⟨⟨c2, h1⟩, h0⟩)))
        · exact .inr (.inl h1)
      · exact .inl h0)]
    rw [bne_iff_ne]
    omega
theorem risen5_at {n : Nat} (h : n ≠ 0) (h2 : n < 2135987035920910082395021706169552114602704522356652769947041607822219725780640550022962086936576) : ∃ k a0 a1 a2 a3 a4, k + blen n = 320 ∧ Q5 (n * 2 ^ k) a0 a1 a2 a3 a4 := by
  have hb : blen n ≤ 320 := blen320.2 h2
  obtain ⟨k, hk⟩ : ∃ k, k + blen n = 320 := ⟨320 - blen n, by omega⟩
  have e := blen_two k h
  obtain ⟨a0, a1, a2, a3, a4, hq⟩ := q5_ex (n := n * 2 ^ k) (blen320.1 (by omega))
  exact ⟨k, a0, a1, a2, a3, a4, hk, hq⟩
end Go.Proofs.YtheliihkkoohnabGreat

namespace Go.Proofs.YtheliihkkoohnabGreat
open Go.ChangeShapes Go.WideShapes Go.ChangeAt Go.RowKit
set_option linter.unusedVariables false
set_option linter.unusedSimpArgs false
set_option maxRecDepth 100000

/-! ### package fuse: digits, compare, placed -/
theorem fdigits_any (k : Int) (neg : Bool) (s : Int) (hi lo : Nat) (rest : Bool) (w : World) :
    Calls Tryz.prog 85 #[exV k neg s hi lo rest] w fun e w' => e = .returned (.agg #[.int .u64 hi, .int .u64 lo]) ∧ Below w.heap.size w w' := by
  unfold exV
  refine cps fun Q hQ => ?_
  go_enter Tryz.func85, Tryz.ntmps85
  go_wp2
  first
  | exact hQ.out _ _ ⟨rfl, cmore (Below.refl _ _) _⟩
  | (refine bodyPost_ret (v := .agg #[.int .u64 hi, .int .u64 lo]) (by simp [results, Tryz.results85, go_sem]; done) rfl (hQ.out _ _ ⟨rfl, ?_⟩); first | exact bset (bset (cmore (cmore (Below.refl _ _) _) _) (by omega) _ _) (by omega) _ _ | exact cmore (cmore (Below.refl _ _) _) _)
set_option maxHeartbeats 4000000 in
theorem fcompare_any (k : Int) (neg : Bool) (s : Int) {a hi lo : Nat} (rest : Bool) (k' : Int) (neg' : Bool) (s' : Int) {b hi' lo' : Nat} (rest' : Bool) (ha : Tw a hi lo) (hb : Tw b hi' lo') (w : World) :
    Calls Tryz.prog 83 #[exV k neg s hi lo rest, exV k' neg' s' hi' lo' rest'] w fun e w' => e = .returned (.int .i64 (cmpR2 s a s' b)) ∧ Below w.heap.size w w' := by
  have d1 := fdigits_any k neg s hi lo rest
  have d2 := fdigits_any k' neg' s' hi' lo' rest'
  unfold cmpR2 exV at *
  refine cps fun Q hQ => ?_
  obtain ⟨x, hx⟩ : ∃ x, x = cmpZ s s' := ⟨_, rfl⟩
  obtain ⟨y, hy⟩ : ∃ x, x = cmpN a b := ⟨_, rfl⟩
  have r1 := mcompare_any s s'
  have r2 := fun w => tcmp_any ha hb w
  rw [← hx] at r1 hQ
  rw [← hy] at r2 hQ
  obtain ⟨z, hz⟩ : ∃ z, z = if x = 0 then y else x := ⟨_, rfl⟩
  rw [← hz] at hQ
  have HZ : Hid (z = if x = 0 then y else x) := hz
  clear hx hy hz ha hb
  go_enter Tryz.func83, Tryz.ntmps83
  go_wp2
  have B0 : Below w.heap.size w ((w.alloc (.cells #[.int .i64 k, .bool neg, .int .i64 s, .int .u64 hi, .int .u64 lo, .bool rest] 59)).alloc (.cells #[.int .i64 k', .bool neg', .int .i64 s', .int .u64 hi', .int .u64 lo', .bool rest'] 59)) := cmore (cmore (Below.refl _ _) _) _
  have X1 := rownew' (w.alloc (.cells #[.int .i64 k, .bool neg, .int .i64 s, .int .u64 hi, .int .u64 lo, .bool rest] 59)) #[.int .i64 k', .bool neg', .int .i64 s', .int .u64 hi', .int .u64 lo', .bool rest'] 59 (w.heap.size + 1) (by simp)
  have X0 := (Below.heap_alloc (w.alloc (.cells #[.int .i64 k, .bool neg, .int .i64 s, .int .u64 hi, .int .u64 lo, .bool rest] 59)) (.cells #[.int .i64 k', .bool neg', .int .i64 s', .int .u64 hi', .int .u64 lo', .bool rest'] 59) w.heap.size (by simp)).trans (rownew w _ _)
  generalize (w.alloc (.cells #[.int .i64 k, .bool neg, .int .i64 s, .int .u64 hi, .int .u64 lo, .bool rest] 59)).alloc (.cells #[.int .i64 k', .bool neg', .int .i64 s', .int .u64 hi', .int .u64 lo', .bool rest'] 59) = W0 at *
  have y0 : w.heap.size < W0.heap.size := rowlt X0
  have y1 : w.heap.size + 1 < W0.heap.size := rowlt X1
  have cls : ∀ V, Below W0.heap.size W0 V → V.cell? ⟨w.heap.size, 0, none⟩ = some (.int .i64 k) ∧ V.cell? ⟨w.heap.size, 1, none⟩ = some (.bool neg) ∧ V.cell? ⟨w.heap.size, 2, none⟩ = some (.int .i64 s) ∧ V.cell? ⟨w.heap.size, 3, none⟩ = some (.int .u64 hi) ∧ V.cell? ⟨w.heap.size, 4, none⟩ = some (.int .u64 lo) ∧ V.cell? ⟨w.heap.size, 5, none⟩ = some (.bool rest) ∧ V.cell? ⟨w.heap.size + 1, 0, none⟩ = some (.int .i64 k') ∧ V.cell? ⟨w.heap.size + 1, 1, none⟩ = some (.bool neg') ∧ V.cell? ⟨w.heap.size + 1, 2, none⟩ = some (.int .i64 s') ∧ V.cell? ⟨w.heap.size + 1, 3, none⟩ = some (.int .u64 hi') ∧ V.cell? ⟨w.heap.size + 1, 4, none⟩ = some (.int .u64 lo') ∧ V.cell? ⟨w.heap.size + 1, 5, none⟩ = some (.bool rest') := fun V hV => by
    have q0 := (hV.block w.heap.size y0).trans X0
    have q1 := (hV.block (w.heap.size + 1) y1).trans X1
    exact ⟨rowcell q0 0, rowcell q0 1, rowcell q0 2, rowcell q0 3, rowcell q0 4, rowcell q0 5, rowcell q1 0, rowcell q1 1, rowcell q1 2, rowcell q1 3, rowcell q1 4, rowcell q1 5⟩
  have B1 : Below W0.heap.size W0 W0 := Below.refl _ _
  clear X0 X1
  refine wpC_region (fun V => V.cell? ⟨w.heap.size, 0, none⟩ = some (.int .i64 k) ∧ V.cell? ⟨w.heap.size, 1, none⟩ = some (.bool neg) ∧ V.cell? ⟨w.heap.size, 2, none⟩ = some (.int .i64 s) ∧ V.cell? ⟨w.heap.size, 3, none⟩ = some (.int .u64 hi) ∧ V.cell? ⟨w.heap.size, 4, none⟩ = some (.int .u64 lo) ∧ V.cell? ⟨w.heap.size, 5, none⟩ = some (.bool rest) ∧ V.cell? ⟨w.heap.size + 1, 0, none⟩ = some (.int .i64 k') ∧ V.cell? ⟨w.heap.size + 1, 1, none⟩ = some (.bool neg') ∧ V.cell? ⟨w.heap.size + 1, 2, none⟩ = some (.int .i64 s') ∧ V.cell? ⟨w.heap.size + 1, 3, none⟩ = some (.int .u64 hi') ∧ V.cell? ⟨w.heap.size + 1, 4, none⟩ = some (.int .u64 lo') ∧ V.cell? ⟨w.heap.size + 1, 5, none⟩ = some (.bool rest')) (by kernel_rfl) ?_
  refine wpC_take 0 (v := ?_) rfl (by kernel_rfl) (fun _ _ _ h => h) (by kernel_rfl) ?_ ?_; rotate_left; · (intro wC hC; obtain ⟨c0, c1, c2, c3, c4, c5, e0, e1, e2, e3, e4, e5⟩ := hC; go_simp <;> with_reducible rfl)
  refine wpC_take 1 (v := ?_) rfl (by kernel_rfl) (fun _ _ _ h => h) (by kernel_rfl) ?_ ?_; rotate_left; · (intro wC hC; obtain ⟨c0, c1, c2, c3, c4, c5, e0, e1, e2, e3, e4, e5⟩ := hC; go_simp <;> with_reducible rfl)
  refine wpC_take 2 (v := ?_) rfl (by kernel_rfl) (fun _ _ _ h => h) (by kernel_rfl) ?_ ?_; rotate_left; · (intro wC hC; obtain ⟨c0, c1, c2, c3, c4, c5, e0, e1, e2, e3, e4, e5⟩ := hC; go_simp <;> with_reducible rfl)
  refine wpC_take 3 (v := ?_) rfl (by kernel_rfl) (fun _ _ _ h => h) (by kernel_rfl) ?_ ?_; rotate_left; · (intro wC hC; obtain ⟨c0, c1, c2, c3, c4, c5, e0, e1, e2, e3, e4, e5⟩ := hC; go_simp <;> with_reducible rfl)
  refine wpC_take 5 (v := ?_) rfl (by kernel_rfl) (fun _ _ _ h => h) (by kernel_rfl) ?_ ?_; rotate_left; · (intro wC hC; obtain ⟨c0, c1, c2, c3, c4, c5, e0, e1, e2, e3, e4, e5⟩ := hC; go_simp <;> with_reducible rfl)
  refine wpC_take 7 (v := ?_) rfl (by kernel_rfl) (fun _ _ _ h => h) (by kernel_rfl) ?_ ?_; rotate_left; · (intro wC hC; obtain ⟨c0, c1, c2, c3, c4, c5, e0, e1, e2, e3, e4, e5⟩ := hC; go_simp <;> with_reducible rfl)
  refine wpC_step 4 rfl (by kernel_rfl) (by kernel_rfl) (cls _ (bdrew B1)) (fun K hK => ?_)
  go_simp
  go_wp2_with ((go_at_call 94; refine (r1 _).mono ?_; rintro e w' ⟨rfl, hw⟩; rw [hw]; clear hw w'))
  try (refine hK _ _ ?_; clear hK K)
  refine wpC_step 6 rfl (by kernel_rfl) (by kernel_rfl) (cls _ (bdrew B1)) (fun K hK => ?_)
  go_simp
  go_wp2_with ((go_at_call 85; refine (d1 _).mono ?_; rintro e w2 ⟨rfl, hb2⟩; have B2 := bthen (bdrew B1) hb2))
  try (refine hK _ _ ?_; clear hK K)
  refine wpC_step 8 rfl (by kernel_rfl) (by kernel_rfl) (cls _ B2) (fun K hK => ?_)
  go_simp
  go_wp2_with ((go_at_call 85; refine (d2 _).mono ?_; rintro e w3 ⟨rfl, hb3⟩; have B3 := bthen B2 hb3))
  try (refine hK _ _ ?_; clear hK K)
  refine wpC_step 9 rfl (by kernel_rfl) (by kernel_rfl) (cls _ B3) (fun K hK => ?_)
  go_simp
  go_wp2_with ((go_at_call 108; refine (r2 _).mono ?_; rintro e w4 ⟨rfl, hb4⟩; have B4 := bthen B3 hb4))
  try (refine hK _ _ ?_; clear hK K)
  refine wpC_step 10 rfl (by kernel_rfl) (by kernel_rfl) (cls _ B4) (fun K hK => ?_)
  go_simp
  try (refine hK _ _ ?_; clear hK K)
  refine wpC_step 11 rfl (by kernel_rfl) (by kernel_rfl) (cls _ (bmore B4 _)) (fun K hK => ?_)
  go_simp
  go_wp2_with ((go_at_call 93; refine (or_any' x y z HZ.out _ _ (by simp [go_sem]) (by simp [go_sem])).mono ?_; rintro e w' ⟨rfl, hw⟩; rw [hw]; clear hw w'))
  try (refine hK _ _ ?_; clear hK K)
  refine wpC_step 12 rfl (by kernel_rfl) (by kernel_rfl) (cls _ (bmore B4 _)) (fun K hK => ?_)
  go_simp
  try (refine hK _ _ ?_; clear hK K)
  refine wpC_done (by kernel_rfl) (cls _ (bmore B4 _)) ?_
  go_wp2
  exact hQ.out _ _ ⟨rfl, bthen B0 (bmore B4 _)⟩
set_option maxHeartbeats 4000000 in
theorem fplaced_at {a hi lo : Nat} (k q r h l g g' : Nat) (c c' : Bool) (u0 u1 u2 u3 u4 : Nat) (hr : r ≤ 63) (hk : k = 64 * q + r) (ha : Tw a hi lo) (hs : Tw ((a * 2 ^ r) % 340282366920938463463374607431768211456) h l) (hc : c = decide (340282366920938463463374607431768211456 ≤ a * 2 ^ r))
    (hg : Tw (a / 2 ^ (128 - r)) g' g) (hc' : c' = decide (a % 2 ^ (128 - r) ≠ 0))
    (hq : (q = 0 ∧ l = u0 ∧ h = u1 ∧ g = u2 ∧ u3 = 0 ∧ u4 = 0) ∨ (q = 1 ∧ u0 = 0 ∧ l = u1 ∧ h = u2 ∧ g = u3 ∧ u4 = 0) ∨ (q = 2 ∧ u0 = 0 ∧ u1 = 0 ∧ l = u2 ∧ h = u3 ∧ g = u4)) (w : World) :
    Calls Tryz.prog 84 #[.agg #[.int .u64 hi, .int .u64 lo], .int .i64 k] w fun e w' => e = .returned (w5V u0 u1 u2 u3 u4) ∧ Below w.heap.size w w' := by
  have k1 := fun w => tshl_any r (by omega) ha hs hc w
  have k2 := fun w => tshr_any (128 - r) (by omega) ha hg hc' w
  have m1 : Int.tmod (k : Int) 64 = (r : Int) := by rw [Int.tmod_eq_emod_of_nonneg (by omega)]; omega
  have m2 : Int.tdiv (k : Int) 64 = (q : Int) := by rw [Int.tdiv_eq_ediv_of_nonneg (by omega)]; omega
  have m3 : (k : Int) % 64 = (r : Int) := by omega
  have m4 : (k : Int) / 64 = (q : Int) := by omega
  have m5 : IntKind.i64.wrap (128 - (r : Int)) = ((128 - r : Nat) : Int) := by rw [wrapI (by omega)]; omega
  have m6 : (128 : Int) - (r : Int) = ((128 - r : Nat) : Int) := by omega
  generalize 128 - r = G at *
  clear hs hk ha hr hc hg hc'
  have v0 : IntKind.i64.wrap 0 = 0 := rfl
  have v1 : IntKind.i64.wrap 1 = 1 := rfl
  have v2 : IntKind.i64.wrap 2 = 2 := rfl
  have v3 : IntKind.i64.wrap 3 = 3 := rfl
  have v4 : IntKind.i64.wrap 4 = 4 := rfl
  unfold w5V
  refine cps fun Q hQ => ?_
  rcases hq with ⟨rfl, rfl, rfl, rfl, rfl, rfl⟩ | ⟨rfl, rfl, rfl, rfl, rfl, rfl⟩ | ⟨rfl, rfl, rfl, rfl, rfl, rfl⟩
  all_goals
    go_enter Tryz.func84, Tryz.ntmps84
    go_upto_region 5 with (first
      | (go_at_call 80; have chk := HB1; go_must (refine (k2 _).mono ?_); rintro e w2 ⟨rfl, hb2⟩; have R2_0 := (hb2.block (w.heap.size) (by first | (simp; done) | (simp; omega) | omega)).trans ((Below.heap_alloc _ _ _ (by first | (simp; done) | (simp; omega) | omega)).trans HR1_0.out); have z2_0 : w.heap.size < w2.heap.size := Nat.lt_of_lt_of_le (by first | (simp; done) | (simp; omega) | omega) hb2.size; have HR2_0 : Hid _ := R2_0; clear R2_0; have R2_1 := (hb2.block (w.heap.size + 1) (by first | (simp; done) | (simp; omega) | omega)).trans ((Below.heap_alloc _ _ _ (by first | (simp; done) | (simp; omega) | omega)).trans HR1_1.out); have z2_1 : w.heap.size + 1 < w2.heap.size := Nat.lt_of_lt_of_le (by first | (simp; done) | (simp; omega) | omega) hb2.size; have c2_1_0 := rowcell R2_1 0; have c2_1_1 := rowcell R2_1 1; have c2_1_2 := rowcell R2_1 2; have c2_1_3 := rowcell R2_1 3; have c2_1_4 := rowcell R2_1 4; simp only [List.getElem?_toArray, List.getElem?_cons_zero, List.getElem?_cons_succ] at c2_1_0 c2_1_1 c2_1_2 c2_1_3 c2_1_4; have HR2_1 : Hid _ := R2_1; clear R2_1; have R2_2 := (hb2.block (w1.heap.size) (by first | (simp; done) | (simp; omega) | omega)).trans (rownew' _ _ _ _ (by simp)); have z2_2 : w1.heap.size < w2.heap.size := Nat.lt_of_lt_of_le (by first | (simp; done) | (simp; omega) | omega) hb2.size; have c2_2_0 := rowcell R2_2 0; have c2_2_1 := rowcell R2_2 1; simp only [List.getElem?_toArray, List.getElem?_cons_zero, List.getElem?_cons_succ] at c2_2_0 c2_2_1; have HR2_2 : Hid _ := R2_2; clear R2_2; have HB2 : Hid (Below _ _ _) := hb2; clear hb2; have f1 := rowfree HR2_1.out)
      | (go_at_call 96; go_must (refine (k1 _).mono ?_); rintro e w1 ⟨rfl, hb1⟩; have R1_0 := (hb1.block (w.heap.size) (by first | (simp; done) | (simp; omega) | omega)).trans ((Below.heap_alloc _ _ _ (by first | (simp; done) | (simp; omega) | omega)).trans (rownew' _ _ _ _ (by simp))); have z1_0 : w.heap.size < w1.heap.size := Nat.lt_of_lt_of_le (by first | (simp; done) | (simp; omega) | omega) hb1.size; have c1_0_0 := rowcell R1_0 0; have c1_0_1 := rowcell R1_0 1; simp only [List.getElem?_toArray, List.getElem?_cons_zero, List.getElem?_cons_succ] at c1_0_0 c1_0_1; have HR1_0 : Hid _ := R1_0; clear R1_0; have R1_1 := (hb1.block (w.heap.size + 1) (by first | (simp; done) | (simp; omega) | omega)).trans (rownew' _ _ _ _ (by simp)); have z1_1 : w.heap.size + 1 < w1.heap.size := Nat.lt_of_lt_of_le (by first | (simp; done) | (simp; omega) | omega) hb1.size; have HR1_1 : Hid _ := R1_1; clear R1_1; have HB1 : Hid (Below _ _ _) := hb1; clear hb1))
    have y0 := rowcell (rownew' (w2.alloc (.cells #[.int .u64 g', .int .u64 g] 91)) #[.int .u64 0, .int .u64 0, .int .u64 0, .int .u64 0, .int .u64 0] 134 (w2.heap.size + 1) (by simp))
    have X0 := (Below.heap_alloc (w2.alloc (.cells #[.int .u64 g', .int .u64 g] 91)) (.cells #[.int .u64 0, .int .u64 0, .int .u64 0, .int .u64 0, .int .u64 0] 134) w2.heap.size (by simp)).trans (rownew w2 _ _)
    have X1 := (Below.heap_alloc (w2.alloc (.cells #[.int .u64 g', .int .u64 g] 91)) (.cells #[.int .u64 0, .int .u64 0, .int .u64 0, .int .u64 0, .int .u64 0] 134) w1.heap.size (by simp; omega)).trans ((Below.heap_alloc w2 (.cells #[.int .u64 g', .int .u64 g] 91) w1.heap.size z2_2).trans HR2_2.out)
    have z2_3 : w1.heap.size < w2.heap.size + 1 := by omega
    have x0 := rowcell X0 1
    have x1 := rowcell X1 0
    have x2 := rowcell X1 1
    simp only [List.getElem?_toArray, List.getElem?_cons_zero, List.getElem?_cons_succ] at x0 x1 x2
    refine wpC_region (fun W => W.cell? ⟨w2.heap.size, 1, none⟩ = some (.int .u64 g) ∧ W.cell? ⟨w1.heap.size, 0, none⟩ = some (.int .u64 h) ∧ W.cell? ⟨w1.heap.size, 1, none⟩ = some (.int .u64 l)) (by kernel_rfl) ?_
    refine wpC_take 0 (v := ?_) rfl (by kernel_rfl) (fun _ _ _ h => h) (by kernel_rfl) ?_ ?_; rotate_left; · (intro wC hC; obtain ⟨d0, d1, d2⟩ := hC; go_simp <;> with_reducible rfl)
    refine wpC_take 1 (v := ?_) rfl (by kernel_rfl) (fun _ _ _ h => h) (by kernel_rfl) ?_ ?_; rotate_left; · (intro wC hC; obtain ⟨d0, d1, d2⟩ := hC; go_simp <;> with_reducible rfl)
    refine wpC_take 2 (v := ?_) rfl (by kernel_rfl) (fun _ _ _ h => h) (by kernel_rfl) ?_ ?_; rotate_left; · (intro wC hC; obtain ⟨d0, d1, d2⟩ := hC; go_simp <;> with_reducible rfl)
    refine wpC_take 3 (v := ?_) rfl (by kernel_rfl) (fun _ _ _ h => h) (by kernel_rfl) ?_ ?_; rotate_left; · (intro wC hC; obtain ⟨d0, d1, d2⟩ := hC; go_simp <;> with_reducible rfl)
    refine wpC_take 4 (v := ?_) rfl (by kernel_rfl) (fun _ _ _ h => h) (by kernel_rfl) ?_ ?_; rotate_left; · (intro wC hC; obtain ⟨d0, d1, d2⟩ := hC; go_simp <;> with_reducible rfl)
    refine wpC_take 5 (v := ?_) rfl (by kernel_rfl) (fun _ _ _ h => h) (by kernel_rfl) ?_ ?_; rotate_left; · (intro wC hC; obtain ⟨d0, d1, d2⟩ := hC; go_simp <;> with_reducible rfl)
    refine wpC_take 6 (v := ?_) rfl (by kernel_rfl) (fun _ _ _ h => h) (by kernel_rfl) ?_ ?_; rotate_left; · (intro wC hC; obtain ⟨d0, d1, d2⟩ := hC; go_simp <;> with_reducible rfl)
    refine wpC_take 7 (v := ?_) rfl (by kernel_rfl) (fun _ _ _ h => h) (by kernel_rfl) ?_ ?_; rotate_left; · (intro wC hC; obtain ⟨d0, d1, d2⟩ := hC; go_simp <;> with_reducible rfl)
    refine wpC_take 8 (v := ?_) rfl (by kernel_rfl) (fun _ _ _ h => h) (by kernel_rfl) ?_ ?_; rotate_left; · (intro wC hC; obtain ⟨d0, d1, d2⟩ := hC; go_simp <;> with_reducible rfl)
    refine wpC_take 9 (v := ?_) rfl (by kernel_rfl) (fun _ _ _ h => h) (by kernel_rfl) ?_ ?_; rotate_left; · (intro wC hC; obtain ⟨d0, d1, d2⟩ := hC; go_simp <;> with_reducible rfl)
    refine wpC_take 10 (v := ?_) rfl (by kernel_rfl) (fun _ _ _ h => h) (by kernel_rfl) ?_ ?_; rotate_left; · (intro wC hC; obtain ⟨d0, d1, d2⟩ := hC; go_simp <;> with_reducible rfl)
    refine wpC_take 11 (v := ?_) rfl (by kernel_rfl) (fun _ _ _ h => h) (by kernel_rfl) ?_ ?_; rotate_left; · (intro wC hC; obtain ⟨d0, d1, d2⟩ := hC; go_simp <;> with_reducible rfl)
    refine wpC_step 12 rfl (by kernel_rfl) (by kernel_rfl) ⟨x0, x1, x2⟩ (fun K hK => ?_)
    go_simp
    try (refine hK _ _ ?_; clear hK K)
    refine wpC_take 13 (v := ?_) rfl (by kernel_rfl) (fun _ _ _ h => h) (by kernel_rfl) ?_ ?_; rotate_left; · (intro wC hC; obtain ⟨d0, d1, d2⟩ := hC; go_simp <;> with_reducible rfl)
    refine wpC_step 14 rfl (by kernel_rfl) (by kernel_rfl) (by simp [go_sem, x0, c2_2_0, c2_2_1, z2_2, z2_3]) (fun K hK => ?_)
    go_simp
    try (refine hK _ _ ?_; clear hK K)
    refine wpC_take 15 (v := ?_) rfl (by kernel_rfl) (fun _ _ _ h => h) (by kernel_rfl) ?_ ?_; rotate_left; · (intro wC hC; obtain ⟨d0, d1, d2⟩ := hC; go_simp <;> with_reducible rfl)
    refine wpC_step 16 rfl (by kernel_rfl) (by kernel_rfl) (by simp [go_sem, x0, c2_2_0, c2_2_1, z2_2, z2_3]) (fun K hK => ?_)
    go_simp
    try (refine hK _ _ ?_; clear hK K)
    refine wpC_done (by kernel_rfl) (by simp [go_sem, x0, c2_2_0, c2_2_1, z2_2, z2_3]) ?_
    have n1 : ¬ w.heap.size + 1 = w2.heap.size := by omega
    have z2_4 : w.heap.size + 1 < w2.heap.size + 1 := by omega
    have n2 : ¬ w.heap.size + 1 = w2.heap.size + 1 := by omega
    have n3 : ¬ w.heap.size + 1 = w1.heap.size := by omega
    go_wp2
    refine bodyPost_ret (v := w5V _ _ _ _ _) (by simp [results, Tryz.results84, go_sem, c2_1_0, c2_1_1, c2_1_2, c2_1_3, c2_1_4, f1, z2_0, z2_1, z2_4, n1, n2, n3, w5V]; done) rfl (hQ.out _ _ ⟨rfl, ?_⟩)
    refine cdrew (cmore (cmore (cset5 (cthen (cmore (cthen (cmore (cmore (Below.refl _ _) _) _) HB1.out) _) HB2.out) (by omega)) _) _)
theorem fplaced_any {a hi lo k a0 a1 a2 a3 a4 : Nat} (ha : Tw a hi lo) (hk : k ≤ 191) (h : Q5 (a * 2 ^ k) a0 a1 a2 a3 a4) (w : World) :
    Calls Tryz.prog 84 #[.agg #[.int .u64 hi, .int .u64 lo], .int .i64 k] w fun e w' => e = .returned (w5V a0 a1 a2 a3 a4) ∧ Below w.heap.size w w' := by
  obtain ⟨q, r, hr, hq, e⟩ : ∃ q r, r ≤ 63 ∧ q ≤ 2 ∧ k = 64 * q + r := ⟨k / 64, k % 64, by omega, by omega, by omega⟩
  have hal := ha.lt
  have hv : a * 2 ^ k = a * 2 ^ r * 2 ^ (64 * q) := by rw [e, Nat.mul_assoc, ← Nat.pow_add, Nat.add_comm]
  have hp : 2 ^ r * 2 ^ (128 - r) = 340282366920938463463374607431768211456 := by rw [← Nat.pow_add, show r + (128 - r) = 128 by omega]
  have hd : a / 2 ^ (128 - r) = a * 2 ^ r / 340282366920938463463374607431768211456 := by
    rw [← hp, Nat.mul_comm (2 ^ r), Nat.mul_div_mul_right _ _ (Nat.pow_pos (by decide))]
  have hr2 : 2 ^ r ≤ 9223372036854775808 := Nat.le_trans (Nat.pow_le_pow_right (by decide) hr) (by decide)
  have hlt : a * 2 ^ r < 340282366920938463463374607431768211456 * 9223372036854775808 := Nat.lt_of_lt_of_le ((Nat.mul_lt_mul_right (Nat.pow_pos (by decide))).2 hal) (Nat.mul_le_mul (Nat.le_refl _) hr2)
  obtain ⟨h1, l1, t⟩ : ∃ h l, Tw ((a * 2 ^ r) % 340282366920938463463374607431768211456) h l := ⟨_ / 18446744073709551616, _ % 18446744073709551616, ⟨(Nat.div_add_mod' _ _).symm, by omega, by omega⟩⟩
  obtain ⟨g, hg⟩ : ∃ g, g = a * 2 ^ r / 340282366920938463463374607431768211456 := ⟨_, rfl⟩
  have t2 : Tw (a / 2 ^ (128 - r)) 0 g := ⟨by rw [hd, ← hg]; omega, by decide, by omega⟩
  have ht := t
  obtain ⟨te, th, tl⟩ := t
  have hfull : a * 2 ^ r = g * 340282366920938463463374607431768211456 + h1 * 18446744073709551616 + l1 := by omega
  rw [hv, hfull] at h
  have hc : q = 0 ∨ q = 1 ∨ q = 2 := by omega
  rcases hc with rfl | rfl | rfl
  · obtain ⟨rfl, rfl, rfl, rfl, rfl⟩ := h.one (show Q5 _ l1 h1 g 0 0 from ⟨by omega, by omega, by omega, by omega, by omega, by omega⟩)
    exact fplaced_at k 0 r _ _ _ _ _ _ _ _ _ _ _ hr e ha ht rfl t2 rfl (.inl ⟨rfl, rfl, rfl, rfl, rfl, rfl⟩) w
  · obtain ⟨rfl, rfl, rfl, rfl, rfl⟩ := h.one (show Q5 _ 0 l1 h1 g 0 from ⟨by rw [show 64 * 1 = 64 from rfl, show (2 : Nat) ^ 64 = 18446744073709551616 by decide]; omega, by omega, by omega, by omega, by omega, by omega⟩)
    exact fplaced_at k 1 r _ _ _ _ _ _ _ _ _ _ _ hr e ha ht rfl t2 rfl (.inr (.inl ⟨rfl, rfl, rfl, rfl, rfl, rfl⟩)) w
  · obtain ⟨rfl, rfl, rfl, rfl, rfl⟩ := h.one (show Q5 _ 0 0 l1 h1 g from ⟨by rw [show 64 * 2 = 128 from rfl, show (2 : Nat) ^ 128 = 340282366920938463463374607431768211456 by decide]; omega, by omega, by omega, by omega, by omega, by omega⟩)
    exact fplaced_at k 2 r _ _ _ _ _ _ _ _ _ _ _ hr e ha ht rfl t2 rfl (.inr (.inr ⟨rfl, rfl, rfl, rfl, rfl, rfl⟩)) w
end Go.Proofs.YtheliihkkoohnabGreat

namespace Go.Proofs.YtheliihkkoohnabGreat
open Go.ChangeShapes Go.WideShapes Go.ChangeAt Go.RowKit
set_option linter.unusedVariables false
set_option linter.unusedSimpArgs false
set_option maxRecDepth 100000

/-! ### sums and differences of 320 bits -/
set_option maxHeartbeats 4000000 in
theorem fplus_walk (x0 x1 x2 x3 x4 y0 y1 y2 y3 y4 s0 s1 s2 s3 s4 c1 c2 c3 c4 c5 : Nat)
    (r0 : ∀ w, (callFunc 97 #[.int .u64 x0, .int .u64 y0, .int .u64 0]).run Tryz.prog w = .ok (.value (.tuple #[.int .u64 s0, .int .u64 c1])) w)
    (r1 : ∀ w, (callFunc 97 #[.int .u64 x1, .int .u64 y1, .int .u64 c1]).run Tryz.prog w = .ok (.value (.tuple #[.int .u64 s1, .int .u64 c2])) w)
    (r2 : ∀ w, (callFunc 97 #[.int .u64 x2, .int .u64 y2, .int .u64 c2]).run Tryz.prog w = .ok (.value (.tuple #[.int .u64 s2, .int .u64 c3])) w)
    (r3 : ∀ w, (callFunc 97 #[.int .u64 x3, .int .u64 y3, .int .u64 c3]).run Tryz.prog w = .ok (.value (.tuple #[.int .u64 s3, .int .u64 c4])) w)
    (r4 : ∀ w, (callFunc 97 #[.int .u64 x4, .int .u64 y4, .int .u64 c4]).run Tryz.prog w = .ok (.value (.tuple #[.int .u64 s4, .int .u64 c5])) w) (w : World) :
    Calls Tryz.prog 86 #[w5V x0 x1 x2 x3 x4, w5V y0 y1 y2 y3 y4] w fun e w' => e = .returned (w5V s0 s1 s2 s3 s4) ∧ Below w.heap.size w w' := by
  unfold w5V
  have v0 : IntKind.i64.wrap 0 = 0 := rfl
  have v1 : IntKind.i64.wrap 1 = 1 := rfl
  have v2 : IntKind.i64.wrap 2 = 2 := rfl
  have v3 : IntKind.i64.wrap 3 = 3 := rfl
  have v4 : IntKind.i64.wrap 4 = 4 := rfl
  refine cps fun Q hQ => ?_
  go_enter Tryz.func86, Tryz.ntmps86
  go_wp2
  go_loopw [6, 7, 8] (fun cv _ iv wr => Hid (Below w.heap.size w wr) ∧ wr.heap[w.heap.size]? = some (.cells #[.int .u64 x0, .int .u64 x1, .int .u64 x2, .int .u64 x3, .int .u64 x4] 134 (0, 0)) ∧ wr.heap[w.heap.size + 1]? = some (.cells #[.int .u64 y0, .int .u64 y1, .int .u64 y2, .int .u64 y3, .int .u64 y4] 134 (0, 0)) ∧ wr.heap[w.heap.size + 2]? = some (.cells #[.int .u64 0, .int .u64 0, .int .u64 0, .int .u64 0, .int .u64 0] 134 (0, 0)) ∧ ∃ a0 a1 a2 a3 a4 c : Nat, wr.heap[w.heap.size + 3]? = some (.cells #[.int .u64 a0, .int .u64 a1, .int .u64 a2, .int .u64 a3, .int .u64 a4] 134 (0, 0)) ∧ cv = .int .u64 c ∧ ((iv = .int .i64 0 ∧ 0 = c ∧ 0 = a0 ∧ 0 = a1 ∧ 0 = a2 ∧ 0 = a3 ∧ 0 = a4) ∨ (iv = .int .i64 1 ∧ c1 = c ∧ s0 = a0 ∧ 0 = a1 ∧ 0 = a2 ∧ 0 = a3 ∧ 0 = a4) ∨ (iv = .int .i64 2 ∧ c2 = c ∧ s0 = a0 ∧ s1 = a1 ∧ 0 = a2 ∧ 0 = a3 ∧ 0 = a4) ∨ (iv = .int .i64 3 ∧ c3 = c ∧ s0 = a0 ∧ s1 = a1 ∧ s2 = a2 ∧ 0 = a3 ∧ 0 = a4) ∨ (iv = .int .i64 4 ∧ c4 = c ∧ s0 = a0 ∧ s1 = a1 ∧ s2 = a2 ∧ s3 = a3 ∧ 0 = a4) ∨ (iv = .int .i64 5 ∧ s0 = a0 ∧ s1 = a1 ∧ s2 = a2 ∧ s3 = a3 ∧ s4 = a4))) (fun _ _ iv _ => (5 - intOf iv).toNat)
  case atStart => exact ⟨cmore (cmore (cmore (cmore (Below.refl _ _) _) _) _) _, (Below.heap_alloc _ _ _ (by first | (simp; done) | (simp; omega))).trans ((Below.heap_alloc _ _ _ (by first | (simp; done) | (simp; omega))).trans ((Below.heap_alloc _ _ _ (by first | (simp; done) | (simp; omega))).trans (rownew' _ _ _ _ (by simp)))), (Below.heap_alloc _ _ _ (by first | (simp; done) | (simp; omega))).trans ((Below.heap_alloc _ _ _ (by first | (simp; done) | (simp; omega))).trans (rownew' _ _ _ _ (by simp))), (Below.heap_alloc _ _ _ (by first | (simp; done) | (simp; omega))).trans (rownew' _ _ _ _ (by simp)), 0, 0, 0, 0, 0, 0, rownew' _ _ _ _ (by simp), rfl, .inl ⟨rfl, rfl, rfl, rfl, rfl, rfl, rfl⟩⟩
  case round =>
    obtain ⟨hB, hX, hY, hR, a0, a1, a2, a3, a4, c, hS, rfl, hrel⟩ := hrel
    have HB : Hid (Below w.heap.size w wr) := hB.out
    have xx0 := rowcell hX 0
    have xx1 := rowcell hX 1
    have xx2 := rowcell hX 2
    have xx3 := rowcell hX 3
    have xx4 := rowcell hX 4
    have yy0 := rowcell hY 0
    have yy1 := rowcell hY 1
    have yy2 := rowcell hY 2
    have yy3 := rowcell hY 3
    have yy4 := rowcell hY 4
    have tt0 := rowcell hR 0
    have tt1 := rowcell hR 1
    have tt2 := rowcell hR 2
    have tt3 := rowcell hR 3
    have tt4 := rowcell hR 4
    have bb0 := rowcell hS 0
    have bb1 := rowcell hS 1
    have bb2 := rowcell hS 2
    have bb3 := rowcell hS 3
    have bb4 := rowcell hS 4
    have tf := rowfree hR
    have sf := rowfree hS
    simp only [List.getElem?_toArray, List.getElem?_cons_zero, List.getElem?_cons_succ] at xx0 xx1 xx2 xx3 xx4 yy0 yy1 yy2 yy3 yy4 tt0 tt1 tt2 tt3 tt4 bb0 bb1 bb2 bb3 bb4
    have GhX : Hid _ := hX
    have GhY : Hid _ := hY
    have GhR : Hid _ := hR
    have GhS : Hid _ := hS
    clear hX hY hR hS hB
    rcases hrel with ⟨rfl, rfl, rfl, rfl, rfl, rfl, rfl⟩ | ⟨rfl, rfl, rfl, rfl, rfl, rfl, rfl⟩ | ⟨rfl, rfl, rfl, rfl, rfl, rfl, rfl⟩ | ⟨rfl, rfl, rfl, rfl, rfl, rfl, rfl⟩ | ⟨rfl, rfl, rfl, rfl, rfl, rfl, rfl⟩ | ⟨rfl, rfl, rfl, rfl, rfl, rfl⟩
    · go_wp2
      refine wpC_region (fun W => W.cell? ⟨w.heap.size, 0, none⟩ = some (.int .u64 x0) ∧ W.cell? ⟨w.heap.size, 1, none⟩ = some (.int .u64 x1) ∧ W.cell? ⟨w.heap.size, 2, none⟩ = some (.int .u64 x2) ∧ W.cell? ⟨w.heap.size, 3, none⟩ = some (.int .u64 x3) ∧ W.cell? ⟨w.heap.size, 4, none⟩ = some (.int .u64 x4) ∧ W.cell? ⟨w.heap.size + 1, 0, none⟩ = some (.int .u64 y0) ∧ W.cell? ⟨w.heap.size + 1, 1, none⟩ = some (.int .u64 y1) ∧ W.cell? ⟨w.heap.size + 1, 2, none⟩ = some (.int .u64 y2) ∧ W.cell? ⟨w.heap.size + 1, 3, none⟩ = some (.int .u64 y3) ∧ W.cell? ⟨w.heap.size + 1, 4, none⟩ = some (.int .u64 y4)) (by kernel_rfl) ?_
      refine wpC_take 0 (v := ?_) rfl (by kernel_rfl) (fun _ _ _ h => h) (by kernel_rfl) ?_ ?_; rotate_left; · (intro wC hC; obtain ⟨d0, d1, d2, d3, d4, d5, d6, d7, d8, d9⟩ := hC; go_simp <;> with_reducible rfl)
      refine wpC_take 1 (v := ?_) rfl (by kernel_rfl) (fun _ _ _ h => h) (by kernel_rfl) ?_ ?_; rotate_left; · (intro wC hC; obtain ⟨d0, d1, d2, d3, d4, d5, d6, d7, d8, d9⟩ := hC; go_simp <;> with_reducible rfl)
      refine wpC_take 2 (v := ?_) rfl (by kernel_rfl) (fun _ _ _ h => h) (by kernel_rfl) ?_ ?_; rotate_left; · (intro wC hC; obtain ⟨d0, d1, d2, d3, d4, d5, d6, d7, d8, d9⟩ := hC; go_simp <;> with_reducible rfl)
      refine wpC_take 3 (v := ?_) rfl (by kernel_rfl) (fun _ _ _ h => h) (by kernel_rfl) ?_ ?_; rotate_left; · (intro wC hC; obtain ⟨d0, d1, d2, d3, d4, d5, d6, d7, d8, d9⟩ := hC; go_simp <;> with_reducible rfl)
      refine wpC_take 4 (v := ?_) rfl (by kernel_rfl) (fun _ _ _ h => h) (by kernel_rfl) ?_ ?_; rotate_left; · (intro wC hC; obtain ⟨d0, d1, d2, d3, d4, d5, d6, d7, d8, d9⟩ := hC; go_simp <;> with_reducible rfl)
      refine wpC_take 5 (v := ?_) rfl (by kernel_rfl) (fun _ _ _ h => h) (by kernel_rfl) ?_ ?_; rotate_left; · (intro wC hC; obtain ⟨d0, d1, d2, d3, d4, d5, d6, d7, d8, d9⟩ := hC; go_simp <;> with_reducible rfl)
      refine wpC_take 6 (v := ?_) rfl (by kernel_rfl) (fun _ _ _ h => h) (by kernel_rfl) ?_ ?_; rotate_left; · (intro wC hC; obtain ⟨d0, d1, d2, d3, d4, d5, d6, d7, d8, d9⟩ := hC; go_simp <;> with_reducible rfl)
      refine wpC_take 7 (v := ?_) rfl (by kernel_rfl) (fun _ _ _ h => h) (by kernel_rfl) ?_ ?_; rotate_left; · (intro wC hC; obtain ⟨d0, d1, d2, d3, d4, d5, d6, d7, d8, d9⟩ := hC; go_simp <;> with_reducible rfl)
      refine wpC_take 8 (v := ?_) rfl (by kernel_rfl) (fun _ _ _ h => h) (by kernel_rfl) ?_ ?_; rotate_left; · (intro wC hC; obtain ⟨d0, d1, d2, d3, d4, d5, d6, d7, d8, d9⟩ := hC; go_simp <;> with_reducible rfl)
      refine wpC_take 9 (v := ?_) rfl (by kernel_rfl) (fun _ _ _ h => h) (by kernel_rfl) ?_ ?_; rotate_left; · (intro wC hC; obtain ⟨d0, d1, d2, d3, d4, d5, d6, d7, d8, d9⟩ := hC; go_simp <;> with_reducible rfl)
      refine wpC_take 10 (v := ?_) rfl (by kernel_rfl) (fun _ _ _ h => h) (by kernel_rfl) ?_ ?_; rotate_left; · (intro wC hC; obtain ⟨d0, d1, d2, d3, d4, d5, d6, d7, d8, d9⟩ := hC; go_simp <;> with_reducible rfl)
      refine wpC_take 11 (v := ?_) rfl (by kernel_rfl) (fun _ _ _ h => h) (by kernel_rfl) ?_ ?_; rotate_left; · (intro wC hC; obtain ⟨d0, d1, d2, d3, d4, d5, d6, d7, d8, d9⟩ := hC; go_simp <;> with_reducible rfl)
      refine wpC_take 12 (v := ?_) rfl (by kernel_rfl) (fun _ _ _ h => h) (by kernel_rfl) ?_ ?_; rotate_left; · (intro wC hC; obtain ⟨d0, d1, d2, d3, d4, d5, d6, d7, d8, d9⟩ := hC; go_simp <;> with_reducible rfl)
      refine wpC_step 13 rfl (by kernel_rfl) (by kernel_rfl) ⟨xx0, xx1, xx2, xx3, xx4, yy0, yy1, yy2, yy3, yy4⟩ (fun K hK => ?_)
      go_simp
      try (refine hK _ _ ?_; clear hK K)
      refine wpC_take 14 (v := ?_) rfl (by kernel_rfl) (fun _ _ _ h => h) (by kernel_rfl) ?_ ?_; rotate_left; · (intro wC hC; obtain _ := hC; go_simp <;> with_reducible rfl)
      refine wpC_done (by kernel_rfl) (by simp [go_sem, xx0, xx1, xx2, xx3, xx4, yy0, yy1, yy2, yy3, yy4]) ?_
      go_wp2
      go_roundw
      case measure => simp [intOf]
      case rel => exact ⟨cdrew (cset HB.out (by omega) _ _), (rowset_other GhX.out (by omega)), (rowset_other GhY.out (by omega)), (rowset_other GhR.out (by omega)), s0, 0, 0, 0, 0, c1, (rowset GhS.out 0 _).trans (by simp only [List.setIfInBounds_toArray, List.set_cons_zero, List.set_cons_succ]), rfl, .inr (.inl ⟨rfl, rfl, rfl, rfl, rfl, rfl, rfl⟩)⟩
    · go_wp2
      refine wpC_region (fun W => W.cell? ⟨w.heap.size, 0, none⟩ = some (.int .u64 x0) ∧ W.cell? ⟨w.heap.size, 1, none⟩ = some (.int .u64 x1) ∧ W.cell? ⟨w.heap.size, 2, none⟩ = some (.int .u64 x2) ∧ W.cell? ⟨w.heap.size, 3, none⟩ = some (.int .u64 x3) ∧ W.cell? ⟨w.heap.size, 4, none⟩ = some (.int .u64 x4) ∧ W.cell? ⟨w.heap.size + 1, 0, none⟩ = some (.int .u64 y0) ∧ W.cell? ⟨w.heap.size + 1, 1, none⟩ = some (.int .u64 y1) ∧ W.cell? ⟨w.heap.size + 1, 2, none⟩ = some (.int .u64 y2) ∧ W.cell? ⟨w.heap.size + 1, 3, none⟩ = some (.int .u64 y3) ∧ W.cell? ⟨w.heap.size + 1, 4, none⟩ = some (.int .u64 y4)) (by kernel_rfl) ?_
      refine wpC_take 0 (v := ?_) rfl (by kernel_rfl) (fun _ _ _ h => h) (by kernel_rfl) ?_ ?_; rotate_left; · (intro wC hC; obtain ⟨d0, d1, d2, d3, d4, d5, d6, d7, d8, d9⟩ := hC; go_simp <;> with_reducible rfl)
      refine wpC_take 1 (v := ?_) rfl (by kernel_rfl) (fun _ _ _ h => h) (by kernel_rfl) ?_ ?_; rotate_left; · (intro wC hC; obtain ⟨d0, d1, d2, d3, d4, d5, d6, d7, d8, d9⟩ := hC; go_simp <;> with_reducible rfl)
      refine wpC_take 2 (v := ?_) rfl (by kernel_rfl) (fun _ _ _ h => h) (by kernel_rfl) ?_ ?_; rotate_left; · (intro wC hC; obtain ⟨d0, d1, d2, d3, d4, d5, d6, d7, d8, d9⟩ := hC; go_simp <;> with_reducible rfl)
      refine wpC_take 3 (v := ?_) rfl (by kernel_rfl) (fun _ _ _ h => h) (by kernel_rfl) ?_ ?_; rotate_left; · (intro wC hC; obtain ⟨d0, d1, d2, d3, d4, d5, d6, d7, d8, d9⟩ := hC; go_simp <;> with_reducible rfl)
      refine wpC_take 4 (v := ?_) rfl (by kernel_rfl) (fun _ _ _ h => h) (by kernel_rfl) ?_ ?_; rotate_left; · (intro wC hC; obtain ⟨d0, d1, d2, d3, d4, d5, d6, d7, d8, d9⟩ := hC; go_simp <;> with_reducible rfl)
      refine wpC_take 5 (v := ?_) rfl (by kernel_rfl) (fun _ _ _ h => h) (by kernel_rfl) ?_ ?_; rotate_left; · (intro wC hC; obtain ⟨d0, d1, d2, d3, d4, d5, d6, d7, d8, d9⟩ := hC; go_simp <;> with_reducible rfl)
      refine wpC_take 6 (v := ?_) rfl (by kernel_rfl) (fun _ _ _ h => h) (by kernel_rfl) ?_ ?_; rotate_left; · (intro wC hC; obtain ⟨d0, d1, d2, d3, d4, d5, d6, d7, d8, d9⟩ := hC; go_simp <;> with_reducible rfl)
      refine wpC_take 7 (v := ?_) rfl (by kernel_rfl) (fun _ _ _ h => h) (by kernel_rfl) ?_ ?_; rotate_left; · (intro wC hC; obtain ⟨d0, d1, d2, d3, d4, d5, d6, d7, d8, d9⟩ := hC; go_simp <;> with_reducible rfl)
      refine wpC_take 8 (v := ?_) rfl (by kernel_rfl) (fun _ _ _ h => h) (by kernel_rfl) ?_ ?_; rotate_left; · (intro wC hC; obtain ⟨d0, d1, d2, d3, d4, d5, d6, d7, d8, d9⟩ := hC; go_simp <;> with_reducible rfl)
      refine wpC_take 9 (v := ?_) rfl (by kernel_rfl) (fun _ _ _ h => h) (by kernel_rfl) ?_ ?_; rotate_left; · (intro wC hC; obtain ⟨d0, d1, d2, d3, d4, d5, d6, d7, d8, d9⟩ := hC; go_simp <;> with_reducible rfl)
      refine wpC_take 10 (v := ?_) rfl (by kernel_rfl) (fun _ _ _ h => h) (by kernel_rfl) ?_ ?_; rotate_left; · (intro wC hC; obtain ⟨d0, d1, d2, d3, d4, d5, d6, d7, d8, d9⟩ := hC; go_simp <;> with_reducible rfl)
      refine wpC_take 11 (v := ?_) rfl (by kernel_rfl) (fun _ _ _ h => h) (by kernel_rfl) ?_ ?_; rotate_left; · (intro wC hC; obtain ⟨d0, d1, d2, d3, d4, d5, d6, d7, d8, d9⟩ := hC; go_simp <;> with_reducible rfl)
      refine wpC_take 12 (v := ?_) rfl (by kernel_rfl) (fun _ _ _ h => h) (by kernel_rfl) ?_ ?_; rotate_left; · (intro wC hC; obtain ⟨d0, d1, d2, d3, d4, d5, d6, d7, d8, d9⟩ := hC; go_simp <;> with_reducible rfl)
      refine wpC_step 13 rfl (by kernel_rfl) (by kernel_rfl) ⟨xx0, xx1, xx2, xx3, xx4, yy0, yy1, yy2, yy3, yy4⟩ (fun K hK => ?_)
      go_simp
      try (refine hK _ _ ?_; clear hK K)
      refine wpC_take 14 (v := ?_) rfl (by kernel_rfl) (fun _ _ _ h => h) (by kernel_rfl) ?_ ?_; rotate_left; · (intro wC hC; obtain _ := hC; go_simp <;> with_reducible rfl)
      refine wpC_done (by kernel_rfl) (by simp [go_sem, xx0, xx1, xx2, xx3, xx4, yy0, yy1, yy2, yy3, yy4]) ?_
      go_wp2
      go_roundw
      case measure => simp [intOf]
      case rel => exact ⟨cdrew (cset HB.out (by omega) _ _), (rowset_other GhX.out (by omega)), (rowset_other GhY.out (by omega)), (rowset_other GhR.out (by omega)), s0, s1, 0, 0, 0, c2, (rowset GhS.out 1 _).trans (by simp only [List.setIfInBounds_toArray, List.set_cons_zero, List.set_cons_succ]), rfl, .inr (.inr (.inl ⟨rfl, rfl, rfl, rfl, rfl, rfl, rfl⟩))⟩
    · go_wp2
      refine wpC_region (fun W => W.cell? ⟨w.heap.size, 0, none⟩ = some (.int .u64 x0) ∧ W.cell? ⟨w.heap.size, 1, none⟩ = some (.int .u64 x1) ∧ W.cell? ⟨w.heap.size, 2, none⟩ = some (.int .u64 x2) ∧ W.cell? ⟨w.heap.size, 3, none⟩ = some (.int .u64 x3) ∧ W.cell? ⟨w.heap.size, 4, none⟩ = some (.int .u64 x4) ∧ W.cell? ⟨w.heap.size + 1, 0, none⟩ = some (.int .u64 y0) ∧ W.cell? ⟨w.heap.size + 1, 1, none⟩ = some (.int .u64 y1) ∧ W.cell? ⟨w.heap.size + 1, 2, none⟩ = some (.int .u64 y2) ∧ W.cell? ⟨w.heap.size + 1, 3, none⟩ = some (.int .u64 y3) ∧ W.cell? ⟨w.heap.size + 1, 4, none⟩ = some (.int .u64 y4)) (by kernel_rfl) ?_
      refine wpC_take 0 (v := ?_) rfl (by kernel_rfl) (fun _ _ _ h => h) (by kernel_rfl) ?_ ?_; rotate_left; · (intro wC hC; obtain ⟨d0, d1, d2, d3, d4, d5, d6, d7, d8, d9⟩ := hC; go_simp <;> with_reducible rfl)
      refine wpC_take 1 (v := ?_) rfl (by kernel_rfl) (fun _ _ _ h => h) (by kernel_rfl) ?_ ?_; rotate_left; · (intro wC hC; obtain ⟨d0, d1, d2, d3, d4, d5, d6, d7, d8, d9⟩ := hC; go_simp <;> with_reducible rfl)
      refine wpC_take 2 (v := ?_) rfl (by kernel_rfl) (fun _ _ _ h => h) (by kernel_rfl) ?_ ?_; rotate_left; · (intro wC hC; obtain ⟨d0, d1, d2, d3, d4, d5, d6, d7, d8, d9⟩ := hC; go_simp <;> with_reducible rfl)
      refine wpC_take 3 (v := ?_) rfl (by kernel_rfl) (fun _ _ _ h => h) (by kernel_rfl) ?_ ?_; rotate_left; · (intro wC hC; obtain ⟨d0, d1, d2, d3, d4, d5, d6, d7, d8, d9⟩ := hC; go_simp <;> with_reducible rfl)
      refine wpC_take 4 (v := ?_) rfl (by kernel_rfl) (fun _ _ _ h => h) (by kernel_rfl) ?_ ?_; rotate_left; · (intro wC hC; obtain ⟨d0, d1, d2, d3, d4, d5, d6, d7, d8, d9⟩ := hC; go_simp <;> with_reducible rfl)
      refine wpC_take 5 (v := ?_) rfl (by kernel_rfl) (fun _ _ _ h => h) (by kernel_rfl) ?_ ?_; rotate_left; · (intro wC hC; obtain ⟨d0, d1, d2, d3, d4, d5, d6, d7, d8, d9⟩ := hC; go_simp <;> with_reducible rfl)
      refine wpC_take 6 (v := ?_) rfl (by kernel_rfl) (fun _ _ _ h => h) (by kernel_rfl) ?_ ?_; rotate_left; · (intro wC hC; obtain ⟨d0, d1, d2, d3, d4, d5, d6, d7, d8, d9⟩ := hC; go_simp <;> with_reducible rfl)
      refine wpC_take 7 (v := ?_) rfl (by kernel_rfl) (fun _ _ _ h => h) (by kernel_rfl) ?_ ?_; rotate_left; · (intro wC hC; obtain ⟨d0, d1, d2, d3, d4, d5, d6, d7, d8, d9⟩ := hC; go_simp <;> with_reducible rfl)
      refine wpC_take 8 (v := ?_) rfl (by kernel_rfl) (fun _ _ _ h => h) (by kernel_rfl) ?_ ?_; rotate_left; · (intro wC hC; obtain ⟨d0, d1, d2, d3, d4, d5, d6, d7, d8, d9⟩ := hC; go_simp <;> with_reducible rfl)
      refine wpC_take 9 (v := ?_) rfl (by kernel_rfl) (fun _ _ _ h => h) (by kernel_rfl) ?_ ?_; rotate_left; · (intro wC hC; obtain ⟨d0, d1, d2, d3, d4, d5, d6, d7, d8, d9⟩ := hC; go_simp <;> with_reducible rfl)
      refine wpC_take 10 (v := ?_) rfl (by kernel_rfl) (fun _ _ _ h => h) (by kernel_rfl) ?_ ?_; rotate_left; · (intro wC hC; obtain ⟨d0, d1, d2, d3, d4, d5, d6, d7, d8, d9⟩ := hC; go_simp <;> with_reducible rfl)
      refine wpC_take 11 (v := ?_) rfl (by kernel_rfl) (fun _ _ _ h => h) (by kernel_rfl) ?_ ?_; rotate_left; · (intro wC hC; obtain ⟨d0, d1, d2, d3, d4, d5, d6, d7, d8, d9⟩ := hC; go_simp <;> with_reducible rfl)
      refine wpC_take 12 (v := ?_) rfl (by kernel_rfl) (fun _ _ _ h => h) (by kernel_rfl) ?_ ?_; rotate_left; · (intro wC hC; obtain ⟨d0, d1, d2, d3, d4, d5, d6, d7, d8, d9⟩ := hC; go_simp <;> with_reducible rfl)
      refine wpC_step 13 rfl (by kernel_rfl) (by kernel_rfl) ⟨xx0, xx1, xx2, xx3, xx4, yy0, yy1, yy2, yy3, yy4⟩ (fun K hK => ?_)
      go_simp
      try (refine hK _ _ ?_; clear hK K)
      refine wpC_take 14 (v := ?_) rfl (by kernel_rfl) (fun _ _ _ h => h) (by kernel_rfl) ?_ ?_; rotate_left; · (intro wC hC; obtain _ := hC; go_simp <;> with_reducible rfl)
      refine wpC_done (by kernel_rfl) (by simp [go_sem, xx0, xx1, xx2, xx3, xx4, yy0, yy1, yy2, yy3, yy4]) ?_
      go_wp2
      go_roundw
      case measure => simp [intOf]
      case rel => exact ⟨cdrew (cset HB.out (by omega) _ _), (rowset_other GhX.out (by omega)), (rowset_other GhY.out (by omega)), (rowset_other GhR.out (by omega)), s0, s1, s2, 0, 0, c3, (rowset GhS.out 2 _).trans (by simp only [List.setIfInBounds_toArray, List.set_cons_zero, List.set_cons_succ]), rfl, .inr (.inr (.inr (.inl ⟨rfl, rfl, rfl, rfl, rfl, rfl, rfl⟩)))⟩
    · go_wp2
      refine wpC_region (fun W => W.cell? ⟨w.heap.size, 0, none⟩ = some (.int .u64 x0) ∧ W.cell? ⟨w.heap.size, 1, none⟩ = some (.int .u64 x1) ∧ W.cell? ⟨w.heap.size, 2, none⟩ = some (.int .u64 x2) ∧ W.cell? ⟨w.heap.size, 3, none⟩ = some (.int .u64 x3) ∧ W.cell? ⟨w.heap.size, 4, none⟩ = some (.int .u64 x4) ∧ W.cell? ⟨w.heap.size + 1, 0, none⟩ = some (.int .u64 y0) ∧ W.cell? ⟨w.heap.size + 1, 1, none⟩ = some (.int .u64 y1) ∧ W.cell? ⟨w.heap.size + 1, 2, none⟩ = some (.int .u64 y2) ∧ W.cell? ⟨w.heap.size + 1, 3, none⟩ = some (.int .u64 y3) ∧ W.cell? ⟨w.heap.size + 1, 4, none⟩ = some (.int .u64 y4)) (by kernel_rfl) ?_
      refine wpC_take 0 (v := ?_) rfl (by kernel_rfl) (fun _ _ _ h => h) (by kernel_rfl) ?_ ?_; rotate_left; · (intro wC hC; obtain ⟨d0, d1, d2, d3, d4, d5, d6, d7, d8, d9⟩ := hC; go_simp <;> with_reducible rfl)
      refine wpC_take 1 (v := ?_) rfl (by kernel_rfl) (fun _ _ _ h => h) (by kernel_rfl) ?_ ?_; rotate_left; · (intro wC hC; obtain ⟨d0, d1, d2, d3, d4, d5, d6, d7, d8, d9⟩ := hC; go_simp <;> with_reducible rfl)
      refine wpC_take 2 (v := ?_) rfl (by kernel_rfl) (fun _ _ _ h => h) (by kernel_rfl) ?_ ?_; rotate_left; · (intro wC hC; obtain ⟨d0, d1, d2, d3, d4, d5, d6, d7, d8, d9⟩ := hC; go_simp <;> with_reducible rfl)
      refine wpC_take 3 (v := ?_) rfl (by kernel_rfl) (fun _ _ _ h => h) (by kernel_rfl) ?_ ?_; rotate_left; · (intro wC hC; obtain ⟨d0, d1, d2, d3, d4, d5, d6, d7, d8, d9⟩ := hC; go_simp <;> with_reducible rfl)
      refine wpC_take 4 (v := ?_) rfl (by kernel_rfl) (fun _ _ _ h => h) (by kernel_rfl) ?_ ?_; rotate_left; · (intro wC hC; obtain ⟨d0, d1, d2, d3, d4, d5, d6, d7, d8, d9⟩ := hC; go_simp <;> with_reducible rfl)
      refine wpC_take 5 (v := ?_) rfl (by kernel_rfl) (fun _ _ _ h => h) (by kernel_rfl) ?_ ?_; rotate_left; · (intro wC hC; obtain ⟨d0, d1, d2, d3, d4, d5, d6, d7, d8, d9⟩ := hC; go_simp <;> with_reducible rfl)
      refine wpC_take 6 (v := ?_) rfl (by kernel_rfl) (fun _ _ _ h => h) (by kernel_rfl) ?_ ?_; rotate_left; · (intro wC hC; obtain ⟨d0, d1, d2, d3, d4, d5, d6, d7, d8, d9⟩ := hC; go_simp <;> with_reducible rfl)
      refine wpC_take 7 (v := ?_) rfl (by kernel_rfl) (fun _ _ _ h => h) (by kernel_rfl) ?_ ?_; rotate_left; · (intro wC hC; obtain ⟨d0, d1, d2, d3, d4, d5, d6, d7, d8, d9⟩ := hC; go_simp <;> with_reducible rfl)
      refine wpC_take 8 (v := ?_) rfl (by kernel_rfl) (fun _ _ _ h => h) (by kernel_rfl) ?_ ?_; rotate_left; · (intro wC hC; obtain ⟨d0, d1, d2, d3, d4, d5, d6, d7, d8, d9⟩ := hC; go_simp <;> with_reducible rfl)
      refine wpC_take 9 (v := ?_) rfl (by kernel_rfl) (fun _ _ _ h => h) (by kernel_rfl) ?_ ?_; rotate_left; · (intro wC hC; obtain ⟨d0, d1, d2, d3, d4, d5, d6, d7, d8, d9⟩ := hC; go_simp <;> with_reducible rfl)
      refine wpC_take 10 (v := ?_) rfl (by kernel_rfl) (fun _ _ _ h => h) (by kernel_rfl) ?_ ?_; rotate_left; · (intro wC hC; obtain ⟨d0, d1, d2, d3, d4, d5, d6, d7, d8, d9⟩ := hC; go_simp <;> with_reducible rfl)
      refine wpC_take 11 (v := ?_) rfl (by kernel_rfl) (fun _ _ _ h => h) (by kernel_rfl) ?_ ?_; rotate_left; · (intro wC hC; obtain ⟨d0, d1, d2, d3, d4, d5, d6, d7, d8, d9⟩ := hC; go_simp <;> with_reducible rfl)
      refine wpC_take 12 (v := ?_) rfl (by kernel_rfl) (fun _ _ _ h => h) (by kernel_rfl) ?_ ?_; rotate_left; · (intro wC hC; obtain ⟨d0, d1, d2, d3, d4, d5, d6, d7, d8, d9⟩ := hC; go_simp <;> with_reducible rfl)
      refine wpC_step 13 rfl (by kernel_rfl) (by kernel_rfl) ⟨xx0, xx1, xx2, xx3, xx4, yy0, yy1, yy2, yy3, yy4⟩ (fun K hK => ?_)
      go_simp
      try (refine hK _ _ ?_; clear hK K)
      refine wpC_take 14 (v := ?_) rfl (by kernel_rfl) (fun _ _ _ h => h) (by kernel_rfl) ?_ ?_; rotate_left; · (intro wC hC; obtain _ := hC; go_simp <;> with_reducible rfl)
      refine wpC_done (by kernel_rfl) (by simp [go_sem, xx0, xx1, xx2, xx3, xx4, yy0, yy1, yy2, yy3, yy4]) ?_
      go_wp2
      go_roundw
      case measure => simp [intOf]
      case rel => exact ⟨cdrew (cset HB.out (by omega) _ _), (rowset_other GhX.out (by omega)), (rowset_other GhY.out (by omega)), (rowset_other GhR.out (by omega)), s0, s1, s2, s3, 0, c4, (rowset GhS.out 3 _).trans (by simp only [List.setIfInBounds_toArray, List.set_cons_zero, List.set_cons_succ]), rfl, .inr (.inr (.inr (.inr (.inl ⟨rfl, rfl, rfl, rfl, rfl, rfl, rfl⟩))))⟩
    · go_wp2
      refine wpC_region (fun W => W.cell? ⟨w.heap.size, 0, none⟩ = some (.int .u64 x0) ∧ W.cell? ⟨w.heap.size, 1, none⟩ = some (.int .u64 x1) ∧ W.cell? ⟨w.heap.size, 2, none⟩ = some (.int .u64 x2) ∧ W.cell? ⟨w.heap.size, 3, none⟩ = some (.int .u64 x3) ∧ W.cell? ⟨w.heap.size, 4, none⟩ = some (.int .u64 x4) ∧ W.cell? ⟨w.heap.size + 1, 0, none⟩ = some (.int .u64 y0) ∧ W.cell? ⟨w.heap.size + 1, 1, none⟩ = some (.int .u64 y1) ∧ W.cell? ⟨w.heap.size + 1, 2, none⟩ = some (.int .u64 y2) ∧ W.cell? ⟨w.heap.size + 1, 3, none⟩ = some (.int .u64 y3) ∧ W.cell? ⟨w.heap.size + 1, 4, none⟩ = some (.int .u64 y4)) (by kernel_rfl) ?_
      refine wpC_take 0 (v := ?_) rfl (by kernel_rfl) (fun _ _ _ h => h) (by kernel_rfl) ?_ ?_; rotate_left; · (intro wC hC; obtain ⟨d0, d1, d2, d3, d4, d5, d6, d7, d8, d9⟩ := hC; go_simp <;> with_reducible rfl)
      refine wpC_take 1 (v := ?_) rfl (by kernel_rfl) (fun _ _ _ h => h) (by kernel_rfl) ?_ ?_; rotate_left; · (intro wC hC; obtain ⟨d0, d1, d2, d3, d4, d5, d6, d7, d8, d9⟩ := hC; go_simp <;> with_reducible rfl)
      refine wpC_take 2 (v := ?_) rfl (by kernel_rfl) (fun _ _ _ h => h) (by kernel_rfl) ?_ ?_; rotate_left; · (intro wC hC; obtain ⟨d0, d1, d2, d3, d4, d5, d6, d7, d8, d9⟩ := hC; go_simp <;> with_reducible rfl)
      refine wpC_take 3 (v := ?_) rfl (by kernel_rfl) (fun _ _ _ h => h) (by kernel_rfl) ?_ ?_; rotate_left; · (intro wC hC; obtain ⟨d0, d1, d2, d3, d4, d5, d6, d7, d8, d9⟩ := hC; go_simp <;> with_reducible rfl)
      refine wpC_take 4 (v := ?_) rfl (by kernel_rfl) (fun _ _ _ h => h) (by kernel_rfl) ?_ ?_; rotate_left; · (intro wC hC; obtain ⟨d0, d1, d2, d3, d4, d5, d6, d7, d8, d9⟩ := hC; go_simp <;> with_reducible rfl)
      refine wpC_take 5 (v := ?_) rfl (by kernel_rfl) (fun _ _ _ h => h) (by kernel_rfl) ?_ ?_; rotate_left; · (intro wC hC; obtain ⟨d0, d1, d2, d3, d4, d5, d6, d7, d8, d9⟩ := hC; go_simp <;> with_reducible rfl)
      refine wpC_take 6 (v := ?_) rfl (by kernel_rfl) (fun _ _ _ h => h) (by kernel_rfl) ?_ ?_; rotate_left; · (intro wC hC; obtain ⟨d0, d1, d2, d3, d4, d5, d6, d7, d8, d9⟩ := hC; go_simp <;> with_reducible rfl)
      refine wpC_take 7 (v := ?_) rfl (by kernel_rfl) (fun _ _ _ h => h) (by kernel_rfl) ?_ ?_; rotate_left; · (intro wC hC; obtain ⟨d0, d1, d2, d3, d4, d5, d6, d7, d8, d9⟩ := hC; go_simp <;> with_reducible rfl)
      refine wpC_take 8 (v := ?_) rfl (by kernel_rfl) (fun _ _ _ h => h) (by kernel_rfl) ?_ ?_; rotate_left; · (intro wC hC; obtain ⟨d0, d1, d2, d3, d4, d5, d6, d7, d8, d9⟩ := hC; go_simp <;> with_reducible rfl)
      refine wpC_take 9 (v := ?_) rfl (by kernel_rfl) (fun _ _ _ h => h) (by kernel_rfl) ?_ ?_; rotate_left; · (intro wC hC; obtain ⟨d0, d1, d2, d3, d4, d5, d6, d7, d8, d9⟩ := hC; go_simp <;> with_reducible rfl)
      refine wpC_take 10 (v := ?_) rfl (by kernel_rfl) (fun _ _ _ h => h) (by kernel_rfl) ?_ ?_; rotate_left; · (intro wC hC; obtain ⟨d0, d1, d2, d3, d4, d5, d6, d7, d8, d9⟩ := hC; go_simp <;> with_reducible rfl)
      refine wpC_take 11 (v := ?_) rfl (by kernel_rfl) (fun _ _ _ h => h) (by kernel_rfl) ?_ ?_; rotate_left; · (intro wC hC; obtain ⟨d0, d1, d2, d3, d4, d5, d6, d7, d8, d9⟩ := hC; go_simp <;> with_reducible rfl)
      refine wpC_take 12 (v := ?_) rfl (by kernel_rfl) (fun _ _ _ h => h) (by kernel_rfl) ?_ ?_; rotate_left; · (intro wC hC; obtain ⟨d0, d1, d2, d3, d4, d5, d6, d7, d8, d9⟩ := hC; go_simp <;> with_reducible rfl)
      refine wpC_step 13 rfl (by kernel_rfl) (by kernel_rfl) ⟨xx0, xx1, xx2, xx3, xx4, yy0, yy1, yy2, yy3, yy4⟩ (fun K hK => ?_)
      go_simp
      try (refine hK _ _ ?_; clear hK K)
      refine wpC_take 14 (v := ?_) rfl (by kernel_rfl) (fun _ _ _ h => h) (by kernel_rfl) ?_ ?_; rotate_left; · (intro wC hC; obtain _ := hC; go_simp <;> with_reducible rfl)
      refine wpC_done (by kernel_rfl) (by simp [go_sem, xx0, xx1, xx2, xx3, xx4, yy0, yy1, yy2, yy3, yy4]) ?_
      go_wp2
      go_roundw
      case measure => simp [intOf]
      case rel => exact ⟨cdrew (cset HB.out (by omega) _ _), (rowset_other GhX.out (by omega)), (rowset_other GhY.out (by omega)), (rowset_other GhR.out (by omega)), s0, s1, s2, s3, s4, c5, (rowset GhS.out 4 _).trans (by simp only [List.setIfInBounds_toArray, List.set_cons_zero, List.set_cons_succ]), rfl, .inr (.inr (.inr (.inr (.inr ⟨rfl, rfl, rfl, rfl, rfl, rfl⟩))))⟩
    · have zw : w.heap.size + 3 < wr.heap.size := rowlt GhS.out
      go_wp2
      refine bodyPost_ret (v := w5V s0 s1 s2 s3 s4) (by simp [results, Tryz.results86, go_sem, tt0, tt1, tt2, tt3, tt4, bb0, bb1, bb2, bb3, bb4, tf, w5V]; done) rfl (hQ.out _ _ ⟨rfl, ?_⟩)
      exact cset5 HB.out (by omega)
set_option maxHeartbeats 4000000 in
theorem fminus_walk (x0 x1 x2 x3 x4 y0 y1 y2 y3 y4 s0 s1 s2 s3 s4 c1 c2 c3 c4 c5 : Nat)
    (r0 : ∀ w, (callFunc 98 #[.int .u64 x0, .int .u64 y0, .int .u64 0]).run Tryz.prog w = .ok (.value (.tuple #[.int .u64 s0, .int .u64 c1])) w)
    (r1 : ∀ w, (callFunc 98 #[.int .u64 x1, .int .u64 y1, .int .u64 c1]).run Tryz.prog w = .ok (.value (.tuple #[.int .u64 s1, .int .u64 c2])) w)
    (r2 : ∀ w, (callFunc 98 #[.int .u64 x2, .int .u64 y2, .int .u64 c2]).run Tryz.prog w = .ok (.value (.tuple #[.int .u64 s2, .int .u64 c3])) w)
    (r3 : ∀ w, (callFunc 98 #[.int .u64 x3, .int .u64 y3, .int .u64 c3]).run Tryz.prog w = .ok (.value (.tuple #[.int .u64 s3, .int .u64 c4])) w)
    (r4 : ∀ w, (callFunc 98 #[.int .u64 x4, .int .u64 y4, .int .u64 c4]).run Tryz.prog w = .ok (.value (.tuple #[.int .u64 s4, .int .u64 c5])) w) (w : World) :
    Calls Tryz.prog 87 #[w5V x0 x1 x2 x3 x4, w5V y0 y1 y2 y3 y4] w fun e w' => e = .returned (w5V s0 s1 s2 s3 s4) ∧ Below w.heap.size w w' := by
  unfold w5V
  have v0 : IntKind.i64.wrap 0 = 0 := rfl
  have v1 : IntKind.i64.wrap 1 = 1 := rfl
  have v2 : IntKind.i64.wrap 2 = 2 := rfl
  have v3 : IntKind.i64.wrap 3 = 3 := rfl
  have v4 : IntKind.i64.wrap 4 = 4 := rfl
  refine cps fun Q hQ => ?_
  go_enter Tryz.func87, Tryz.ntmps87
  go_wp2
  go_loopw [6, 7, 8] (fun cv _ iv wr => Hid (Below w.heap.size w wr) ∧ wr.heap[w.heap.size]? = some (.cells #[.int .u64 x0, .int .u64 x1, .int .u64 x2, .int .u64 x3, .int .u64 x4] 134 (0, 0)) ∧ wr.heap[w.heap.size + 1]? = some (.cells #[.int .u64 y0, .int .u64 y1, .int .u64 y2, .int .u64 y3, .int .u64 y4] 134 (0, 0)) ∧ wr.heap[w.heap.size + 2]? = some (.cells #[.int .u64 0, .int .u64 0, .int .u64 0, .int .u64 0, .int .u64 0] 134 (0, 0)) ∧ ∃ a0 a1 a2 a3 a4 c : Nat, wr.heap[w.heap.size + 3]? = some (.cells #[.int .u64 a0, .int .u64 a1, .int .u64 a2, .int .u64 a3, .int .u64 a4] 134 (0, 0)) ∧ cv = .int .u64 c ∧ ((iv = .int .i64 0 ∧ 0 = c ∧ 0 = a0 ∧ 0 = a1 ∧ 0 = a2 ∧ 0 = a3 ∧ 0 = a4) ∨ (iv = .int .i64 1 ∧ c1 = c ∧ s0 = a0 ∧ 0 = a1 ∧ 0 = a2 ∧ 0 = a3 ∧ 0 = a4) ∨ (iv = .int .i64 2 ∧ c2 = c ∧ s0 = a0 ∧ s1 = a1 ∧ 0 = a2 ∧ 0 = a3 ∧ 0 = a4) ∨ (iv = .int .i64 3 ∧ c3 = c ∧ s0 = a0 ∧ s1 = a1 ∧ s2 = a2 ∧ 0 = a3 ∧ 0 = a4) ∨ (iv = .int .i64 4 ∧ c4 = c ∧ s0 = a0 ∧ s1 = a1 ∧ s2 = a2 ∧ s3 = a3 ∧ 0 = a4) ∨ (iv = .int .i64 5 ∧ s0 = a0 ∧ s1 = a1 ∧ s2 = a2 ∧ s3 = a3 ∧ s4 = a4))) (fun _ _ iv _ => (5 - intOf iv).toNat)
  case atStart => exact ⟨cmore (cmore (cmore (cmore (Below.refl _ _) _) _) _) _, (Below.heap_alloc _ _ _ (by first | (simp; done) | (simp; omega))).trans ((Below.heap_alloc _ _ _ (by first | (simp; done) | (simp; omega))).trans ((Below.heap_alloc _ _ _ (by first | (simp; done) | (simp; omega))).trans (rownew' _ _ _ _ (by simp)))), (Below.heap_alloc _ _ _ (by first | (simp; done) | (simp; omega))).trans ((Below.heap_alloc _ _ _ (by first | (simp; done) | (simp; omega))).trans (rownew' _ _ _ _ (by simp))), (Below.heap_alloc _ _ _ (by first | (simp; done) | (simp; omega))).trans (rownew' _ _ _ _ (by simp)), 0, 0, 0, 0, 0, 0, rownew' _ _ _ _ (by simp), rfl, .inl ⟨rfl, rfl, rfl, rfl, rfl, rfl, rfl⟩⟩
  case round =>
    obtain ⟨hB, hX, hY, hR, a0, a1, a2, a3, a4, c, hS, rfl, hrel⟩ := hrel
    have HB : Hid (Below w.heap.size w wr) := hB.out
    have xx0 := rowcell hX 0
    have xx1 := rowcell hX 1
    have xx2 := rowcell hX 2
    have xx3 := rowcell hX 3
    have xx4 := rowcell hX 4
    have yy0 := rowcell hY 0
    have yy1 := rowcell hY 1
    have yy2 := rowcell hY 2
    have yy3 := rowcell hY 3
    have yy4 := rowcell hY 4
    have tt0 := rowcell hR 0
    have tt1 := rowcell hR 1
    have tt2 := rowcell hR 2
    have tt3 := rowcell hR 3
    have tt4 := rowcell hR 4
    have bb0 := rowcell hS 0
    have bb1 := rowcell hS 1
    have bb2 := rowcell hS 2
    have bb3 := rowcell hS 3
    have bb4 := rowcell hS 4
    have tf := rowfree hR
    have sf := rowfree hS
    simp only [List.getElem?_toArray, List.getElem?_cons_zero, List.getElem?_cons_succ] at xx0 xx1 xx2 xx3 xx4 yy0 yy1 yy2 yy3 yy4 tt0 tt1 tt2 tt3 tt4 bb0 bb1 bb2 bb3 bb4
    have GhX : Hid _ := hX
    have GhY : Hid _ := hY
    have GhR : Hid _ := hR
    have GhS : Hid _ := hS
    clear hX hY hR hS hB
    rcases hrel with ⟨rfl, rfl, rfl, rfl, rfl, rfl, rfl⟩ | ⟨rfl, rfl, rfl, rfl, rfl, rfl, rfl⟩ | ⟨rfl, rfl, rfl, rfl, rfl, rfl, rfl⟩ | ⟨rfl, rfl, rfl, rfl, rfl, rfl, rfl⟩ | ⟨rfl, rfl, rfl, rfl, rfl, rfl, rfl⟩ | ⟨rfl, rfl, rfl, rfl, rfl, rfl⟩
    · go_wp2
      refine wpC_region (fun W => W.cell? ⟨w.heap.size, 0, none⟩ = some (.int .u64 x0) ∧ W.cell? ⟨w.heap.size, 1, none⟩ = some (.int .u64 x1) ∧ W.cell? ⟨w.heap.size, 2, none⟩ = some (.int .u64 x2) ∧ W.cell? ⟨w.heap.size, 3, none⟩ = some (.int .u64 x3) ∧ W.cell? ⟨w.heap.size, 4, none⟩ = some (.int .u64 x4) ∧ W.cell? ⟨w.heap.size + 1, 0, none⟩ = some (.int .u64 y0) ∧ W.cell? ⟨w.heap.size + 1, 1, none⟩ = some (.int .u64 y1) ∧ W.cell? ⟨w.heap.size + 1, 2, none⟩ = some (.int .u64 y2) ∧ W.cell? ⟨w.heap.size + 1, 3, none⟩ = some (.int .u64 y3) ∧ W.cell? ⟨w.heap.size + 1, 4, none⟩ = some (.int .u64 y4)) (by kernel_rfl) ?_
      refine wpC_take 0 (v := ?_) rfl (by kernel_rfl) (fun _ _ _ h => h) (by kernel_rfl) ?_ ?_; rotate_left; · (intro wC hC; obtain ⟨d0, d1, d2, d3, d4, d5, d6, d7, d8, d9⟩ := hC; go_simp <;> with_reducible rfl)
      refine wpC_take 1 (v := ?_) rfl (by kernel_rfl) (fun _ _ _ h => h) (by kernel_rfl) ?_ ?_; rotate_left; · (intro wC hC; obtain ⟨d0, d1, d2, d3, d4, d5, d6, d7, d8, d9⟩ := hC; go_simp <;> with_reducible rfl)
      refine wpC_take 2 (v := ?_) rfl (by kernel_rfl) (fun _ _ _ h => h) (by kernel_rfl) ?_ ?_; rotate_left; · (intro wC hC; obtain ⟨d0, d1, d2, d3, d4, d5, d6, d7, d8, d9⟩ := hC; go_simp <;> with_reducible rfl)
      refine wpC_take 3 (v := ?_) rfl (by kernel_rfl) (fun _ _ _ h => h) (by kernel_rfl) ?_ ?_; rotate_left; · (intro wC hC; obtain ⟨d0, d1, d2, d3, d4, d5, d6, d7, d8, d9⟩ := hC; go_simp <;> with_reducible rfl)
      refine wpC_take 4 (v := ?_) rfl (by kernel_rfl) (fun _ _ _ h => h) (by kernel_rfl) ?_ ?_; rotate_left; · (intro wC hC; obtain ⟨d0, d1, d2, d3, d4, d5, d6, d7, d8, d9⟩ := hC; go_simp <;> with_reducible rfl)
      refine wpC_take 5 (v := ?_) rfl (by kernel_rfl) (fun _ _ _ h => h) (by kernel_rfl) ?_ ?_; rotate_left; · (intro wC hC; obtain ⟨d0, d1, d2, d3, d4, d5, d6, d7, d8, d9⟩ := hC; go_simp <;> with_reducible rfl)
      refine wpC_take 6 (v := ?_) rfl (by kernel_rfl) (fun _ _ _ h => h) (by kernel_rfl) ?_ ?_; rotate_left; · (intro wC hC; obtain ⟨d0, d1, d2, d3, d4, d5, d6, d7, d8, d9⟩ := hC; go_simp <;> with_reducible rfl)
      refine wpC_take 7 (v := ?_) rfl (by kernel_rfl) (fun _ _ _ h => h) (by kernel_rfl) ?_ ?_; rotate_left; · (intro wC hC; obtain ⟨d0, d1, d2, d3, d4, d5, d6, d7, d8, d9⟩ := hC; go_simp <;> with_reducible rfl)
      refine wpC_take 8 (v := ?_) rfl (by kernel_rfl) (fun _ _ _ h => h) (by kernel_rfl) ?_ ?_; rotate_left; · (intro wC hC; obtain ⟨d0, d1, d2, d3, d4, d5, d6, d7, d8, d9⟩ := hC; go_simp <;> with_reducible rfl)
      refine wpC_take 9 (v := ?_) rfl (by kernel_rfl) (fun _ _ _ h => h) (by kernel_rfl) ?_ ?_; rotate_left; · (intro wC hC; obtain ⟨d0, d1, d2, d3, d4, d5, d6, d7, d8, d9⟩ := hC; go_simp <;> with_reducible rfl)
      refine wpC_take 10 (v := ?_) rfl (by kernel_rfl) (fun _ _ _ h => h) (by kernel_rfl) ?_ ?_; rotate_left; · (intro wC hC; obtain ⟨d0, d1, d2, d3, d4, d5, d6, d7, d8, d9⟩ := hC; go_simp <;> with_reducible rfl)
      refine wpC_take 11 (v := ?_) rfl (by kernel_rfl) (fun _ _ _ h => h) (by kernel_rfl) ?_ ?_; rotate_left; · (intro wC hC; obtain ⟨d0, d1, d2, d3, d4, d5, d6, d7, d8, d9⟩ := hC; go_simp <;> with_reducible rfl)
      refine wpC_take 12 (v := ?_) rfl (by kernel_rfl) (fun _ _ _ h => h) (by kernel_rfl) ?_ ?_; rotate_left; · (intro wC hC; obtain ⟨d0, d1, d2, d3, d4, d5, d6, d7, d8, d9⟩ := hC; go_simp <;> with_reducible rfl)
      refine wpC_step 13 rfl (by kernel_rfl) (by kernel_rfl) ⟨xx0, xx1, xx2, xx3, xx4, yy0, yy1, yy2, yy3, yy4⟩ (fun K hK => ?_)
      go_simp
      try (refine hK _ _ ?_; clear hK K)
      refine wpC_take 14 (v := ?_) rfl (by kernel_rfl) (fun _ _ _ h => h) (by kernel_rfl) ?_ ?_; rotate_left; · (intro wC hC; obtain _ := hC; go_simp <;> with_reducible rfl)
      refine wpC_done (by kernel_rfl) (by simp [go_sem, xx0, xx1, xx2, xx3, xx4, yy0, yy1, yy2, yy3, yy4]) ?_
      go_wp2
      go_roundw
      case measure => simp [intOf]
      case rel => exact ⟨cdrew (cset HB.out (by omega) _ _), (rowset_other GhX.out (by omega)), (rowset_other GhY.out (by omega)), (rowset_other GhR.out (by omega)), s0, 0, 0, 0, 0, c1, (rowset GhS.out 0 _).trans (by simp only [List.setIfInBounds_toArray, List.set_cons_zero, List.set_cons_succ]), rfl, .inr (.inl ⟨rfl, rfl, rfl, rfl, rfl, rfl, rfl⟩)⟩
    · go_wp2
      refine wpC_region (fun W => W.cell? ⟨w.heap.size, 0, none⟩ = some (.int .u64 x0) ∧ W.cell? ⟨w.heap.size, 1, none⟩ = some (.int .u64 x1) ∧ W.cell? ⟨w.heap.size, 2, none⟩ = some (.int .u64 x2) ∧ W.cell? ⟨w.heap.size, 3, none⟩ = some (.int .u64 x3) ∧ W.cell? ⟨w.heap.size, 4, none⟩ = some (.int .u64 x4) ∧ W.cell? ⟨w.heap.size + 1, 0, none⟩ = some (.int .u64 y0) ∧ W.cell? ⟨w.heap.size + 1, 1, none⟩ = some (.int .u64 y1) ∧ W.cell? ⟨w.heap.size + 1, 2, none⟩ = some (.int .u64 y2) ∧ W.cell? ⟨w.heap.size + 1, 3, none⟩ = some (.int .u64 y3) ∧ W.cell? ⟨w.heap.size + 1, 4, none⟩ = some (.int .u64 y4)) (by kernel_rfl) ?_
      refine wpC_take 0 (v := ?_) rfl (by kernel_rfl) (fun _ _ _ h => h) (by kernel_rfl) ?_ ?_; rotate_left; · (intro wC hC; obtain ⟨d0, d1, d2, d3, d4, d5, d6, d7, d8, d9⟩ := hC; go_simp <;> with_reducible rfl)
      refine wpC_take 1 (v := ?_) rfl (by kernel_rfl) (fun _ _ _ h => h) (by kernel_rfl) ?_ ?_; rotate_left; · (intro wC hC; obtain ⟨d0, d1, d2, d3, d4, d5, d6, d7, d8, d9⟩ := hC; go_simp <;> with_reducible rfl)
      refine wpC_take 2 (v := ?_) rfl (by kernel_rfl) (fun _ _ _ h => h) (by kernel_rfl) ?_ ?_; rotate_left; · (intro wC hC; obtain ⟨d0, d1, d2, d3, d4, d5, d6, d7, d8, d9⟩ := hC; go_simp <;> with_reducible rfl)
      refine wpC_take 3 (v := ?_) rfl (by kernel_rfl) (fun _ _ _ h => h) (by kernel_rfl) ?_ ?_; rotate_left; · (intro wC hC; obtain ⟨d0, d1, d2, d3, d4, d5, d6, d7, d8, d9⟩ := hC; go_simp <;> with_reducible rfl)
      refine wpC_take 4 (v := ?_) rfl (by kernel_rfl) (fun _ _ _ h => h) (by kernel_rfl) ?_ ?_; rotate_left; · (intro wC hC; obtain ⟨d0, d1, d2, d3, d4, d5, d6, d7, d8, d9⟩ := hC; go_simp <;> with_reducible rfl)
      refine wpC_take 5 (v := ?_) rfl (by kernel_rfl) (fun _ _ _ h => h) (by kernel_rfl) ?_ ?_; rotate_left; · (intro wC hC; obtain ⟨d0, d1, d2, d3, d4, d5, d6, d7, d8, d9⟩ := hC; go_simp <;> with_reducible rfl)
      refine wpC_take 6 (v := ?_) rfl (by kernel_rfl) (fun _ _ _ h => h) (by kernel_rfl) ?_ ?_; rotate_left; · (intro wC hC; obtain ⟨d0, d1, d2, d3, d4, d5, d6, d7, d8, d9⟩ := hC; go_simp <;> with_reducible rfl)
      refine wpC_take 7 (v := ?_) rfl (by kernel_rfl) (fun _ _ _ h => h) (by kernel_rfl) ?_ ?_; rotate_left; · (intro wC hC; obtain ⟨d0, d1, d2, d3, d4, d5, d6, d7, d8, d9⟩ := hC; go_simp <;> with_reducible rfl)
      refine wpC_take 8 (v := ?_) rfl (by kernel_rfl) (fun _ _ _ h => h) (by kernel_rfl) ?_ ?_; rotate_left; · (intro wC hC; obtain ⟨d0, d1, d2, d3, d4, d5, d6, d7, d8, d9⟩ := hC; go_simp <;> with_reducible rfl)
      refine wpC_take 9 (v := ?_) rfl (by kernel_rfl) (fun _ _ _ h => h) (by kernel_rfl) ?_ ?_; rotate_left; · (intro wC hC; obtain ⟨d0, d1, d2, d3, d4, d5, d6, d7, d8, d9⟩ := hC; go_simp <;> with_reducible rfl)
      refine wpC_take 10 (v := ?_) rfl (by kernel_rfl) (fun _ _ _ h => h) (by kernel_rfl) ?_ ?_; rotate_left; · (intro wC hC; obtain ⟨d0, d1, d2, d3, d4, d5, d6, d7, d8, d9⟩ := hC; go_simp <;> with_reducible rfl)
      refine wpC_take 11 (v := ?_) rfl (by kernel_rfl) (fun _ _ _ h => h) (by kernel_rfl) ?_ ?_; rotate_left; · (intro wC hC; obtain ⟨d0, d1, d2, d3, d4, d5, d6, d7, d8, d9⟩ := hC; go_simp <;> with_reducible rfl)
      refine wpC_take 12 (v := ?_) rfl (by kernel_rfl) (fun _ _ _ h => h) (by kernel_rfl) ?_ ?_; rotate_left; · (intro wC hC; obtain ⟨d0, d1, d2, d3, d4, d5, d6, d7, d8, d9⟩ := hC; go_simp <;> with_reducible rfl)
      refine wpC_step 13 rfl (by kernel_rfl) (by kernel_rfl) ⟨xx0, xx1, xx2, xx3, xx4, yy0, yy1, yy2, yy3, yy4⟩ (fun K hK => ?_)
      go_simp
      try (refine hK _ _ ?_; clear hK K)
      refine wpC_take 14 (v := ?_) rfl (by kernel_rfl) (fun _ _ _ h => h) (by kernel_rfl) ?_ ?_; rotate_left; · (intro wC hC; obtain _ := hC; go_simp <;> with_reducible rfl)
      refine wpC_done (by kernel_rfl) (by simp [go_sem, xx0, xx1, xx2, xx3, xx4, yy0, yy1, yy2, yy3, yy4]) ?_
      go_wp2
      go_roundw
      case measure => simp [intOf]
      case rel => exact ⟨cdrew (cset HB.out (by omega) _ _), (rowset_other GhX.out (by omega)), (rowset_other GhY.out (by omega)), (rowset_other GhR.out (by omega)), s0, s1, 0, 0, 0, c2, (rowset GhS.out 1 _).trans (by simp only [List.setIfInBounds_toArray, List.set_cons_zero, List.set_cons_succ]), rfl, .inr (.inr (.inl ⟨rfl, rfl, rfl, rfl, rfl, rfl, rfl⟩))⟩
    · go_wp2
      refine wpC_region (fun W => W.cell? ⟨w.heap.size, 0, none⟩ = some (.int .u64 x0) ∧ W.cell? ⟨w.heap.size, 1, none⟩ = some (.int .u64 x1) ∧ W.cell? ⟨w.heap.size, 2, none⟩ = some (.int .u64 x2) ∧ W.cell? ⟨w.heap.size, 3, none⟩ = some (.int .u64 x3) ∧ W.cell? ⟨w.heap.size, 4, none⟩ = some (.int .u64 x4) ∧ W.cell? ⟨w.heap.size + 1, 0, none⟩ = some (.int .u64 y0) ∧ W.cell? ⟨w.heap.size + 1, 1, none⟩ = some (.int .u64 y1) ∧ W.cell? ⟨w.heap.size + 1, 2, none⟩ = some (.int .u64 y2) ∧ W.cell? ⟨w.heap.size + 1, 3, none⟩ = some (.int .u64 y3) ∧ W.cell? ⟨w.heap.size + 1, 4, none⟩ = some (.int .u64 y4)) (by kernel_rfl) ?_
      refine wpC_take 0 (v := ?_) rfl (by kernel_rfl) (fun _ _ _ h => h) (by kernel_rfl) ?_ ?_; rotate_left; · (intro wC hC; obtain ⟨d0, d1, d2, d3, d4, d5, d6, d7, d8, d9⟩ := hC; go_simp <;> with_reducible rfl)
      refine wpC_take 1 (v := ?_) rfl (by kernel_rfl) (fun _ _ _ h => h) (by kernel_rfl) ?_ ?_; rotate_left; · (intro wC hC; obtain ⟨d0, d1, d2, d3, d4, d5, d6, d7, d8, d9⟩ := hC; go_simp <;> with_reducible rfl)
      refine wpC_take 2 (v := ?_) rfl (by kernel_rfl) (fun _ _ _ h => h) (by kernel_rfl) ?_ ?_; rotate_left; · (intro wC hC; obtain ⟨d0, d1, d2, d3, d4, d5, d6, d7, d8, d9⟩ := hC; go_simp <;> with_reducible rfl)
      refine wpC_take 3 (v := ?_) rfl (by kernel_rfl) (fun _ _ _ h => h) (by kernel_rfl) ?_ ?_; rotate_left; · (intro wC hC; obtain ⟨d0, d1, d2, d3, d4, d5, d6, d7, d8, d9⟩ := hC; go_simp <;> with_reducible rfl)
      refine wpC_take 4 (v := ?_) rfl (by kernel_rfl) (fun _ _ _ h => h) (by kernel_rfl) ?_ ?_; rotate_left; · (intro wC hC; obtain ⟨d0, d1, d2, d3, d4, d5, d6, d7, d8, d9⟩ := hC; go_simp <;> with_reducible rfl)
      refine wpC_take 5 (v := ?_) rfl (by kernel_rfl) (fun _ _ _ h => h) (by kernel_rfl) ?_ ?_; rotate_left; · (intro wC hC; obtain ⟨d0, d1, d2, d3, d4, d5, d6, d7, d8, d9⟩ := hC; go_simp <;> with_reducible rfl)
      refine wpC_take 6 (v := ?_) rfl (by kernel_rfl) (fun _ _ _ h => h) (by kernel_rfl) ?_ ?_; rotate_left; · (intro wC hC; obtain ⟨d0, d1, d2, d3, d4, d5, d6, d7, d8, d9⟩ := hC; go_simp <;> with_reducible rfl)
      refine wpC_take 7 (v := ?_) rfl (by kernel_rfl) (fun _ _ _ h => h) (by kernel_rfl) ?_ ?_; rotate_left; · (intro wC hC; obtain ⟨d0, d1, d2, d3, d4, d5, d6, d7, d8, d9⟩ := hC; go_simp <;> with_reducible rfl)
      refine wpC_take 8 (v := ?_) rfl (by kernel_rfl) (fun _ _ _ h => h) (by kernel_rfl) ?_ ?_; rotate_left; · (intro wC hC; obtain ⟨d0, d1, d2, d3, d4, d5, d6, d7, d8, d9⟩ := hC; go_simp <;> with_reducible rfl)
      refine wpC_take 9 (v := ?_) rfl (by kernel_rfl) (fun _ _ _ h => h) (by kernel_rfl) ?_ ?_; rotate_left; · (intro wC hC; obtain ⟨d0, d1, d2, d3, d4, d5, d6, d7, d8, d9⟩ := hC; go_simp <;> with_reducible rfl)
      refine wpC_take 10 (v := ?_) rfl (by kernel_rfl) (fun _ _ _ h => h) (by kernel_rfl) ?_ ?_; rotate_left; · (intro wC hC; obtain ⟨d0, d1, d2, d3, d4, d5, d6, d7, d8, d9⟩ := hC; go_simp <;> with_reducible rfl)
      refine wpC_take 11 (v := ?_) rfl (by kernel_rfl) (fun _ _ _ h => h) (by kernel_rfl) ?_ ?_; rotate_left; · (intro wC hC; obtain ⟨d0, d1, d2, d3, d4, d5, d6, d7, d8, d9⟩ := hC; go_simp <;> with_reducible rfl)
      refine wpC_take 12 (v := ?_) rfl (by kernel_rfl) (fun _ _ _ h => h) (by kernel_rfl) ?_ ?_; rotate_left; · (intro wC hC; obtain ⟨d0, d1, d2, d3, d4, d5, d6, d7, d8, d9⟩ := hC; go_simp <;> with_reducible rfl)
      refine wpC_step 13 rfl (by kernel_rfl) (by kernel_rfl) ⟨xx0, xx1, xx2, xx3, xx4, yy0, yy1, yy2, yy3, yy4⟩ (fun K hK => ?_)
      go_simp
      try (refine hK _ _ ?_; clear hK K)
      refine wpC_take 14 (v := ?_) rfl (by kernel_rfl) (fun _ _ _ h => h) (by kernel_rfl) ?_ ?_; rotate_left; · (intro wC hC; obtain _ := hC; go_simp <;> with_reducible rfl)
      refine wpC_done (by kernel_rfl) (by simp [go_sem, xx0, xx1, xx2, xx3, xx4, yy0, yy1, yy2, yy3, yy4]) ?_
      go_wp2
      go_roundw
      case measure => simp [intOf]
      case rel => exact ⟨cdrew (cset HB.out (by omega) _ _), (rowset_other GhX.out (by omega)), (rowset_other GhY.out (by omega)), (rowset_other GhR.out (by omega)), s0, s1, s2, 0, 0, c3, (rowset GhS.out 2 _).trans (by simp only [List.setIfInBounds_toArray, List.set_cons_zero, List.set_cons_succ]), rfl, .inr (.inr (.inr (.inl ⟨rfl, rfl, rfl, rfl, rfl, rfl, rfl⟩)))⟩
    · go_wp2
      refine wpC_region (fun W => W.cell? ⟨w.heap.size, 0, none⟩ = some (.int .u64 x0) ∧ W.cell? ⟨w.heap.size, 1, none⟩ = some (.int .u64 x1) ∧ W.cell? ⟨w.heap.size, 2, none⟩ = some (.int .u64 x2) ∧ W.cell? ⟨w.heap.size, 3, none⟩ = some (.int .u64 x3) ∧ W.cell? ⟨w.heap.size, 4, none⟩ = some (.int .u64 x4) ∧ W.cell? ⟨w.heap.size + 1, 0, none⟩ = some (.int .u64 y0) ∧ W.cell? ⟨w.heap.size + 1, 1, none⟩ = some (.int .u64 y1) ∧ W.cell? ⟨w.heap.size + 1, 2, none⟩ = some (.int .u64 y2) ∧ W.cell? ⟨w.heap.size + 1, 3, none⟩ = some (.int .u64 y3) ∧ W.cell? ⟨w.heap.size + 1, 4, none⟩ = some (.int .u64 y4)) (by kernel_rfl) ?_
      refine wpC_take 0 (v := ?_) rfl (by kernel_rfl) (fun _ _ _ h => h) (by kernel_rfl) ?_ ?_; rotate_left; · (intro wC hC; obtain ⟨d0, d1, d2, d3, d4, d5, d6, d7, d8, d9⟩ := hC; go_simp <;> with_reducible rfl)
      refine wpC_take 1 (v := ?_) rfl (by kernel_rfl) (fun _ _ _ h => h) (by kernel_rfl) ?_ ?_; rotate_left; · (intro wC hC; obtain ⟨d0, d1, d2, d3, d4, d5, d6, d7, d8, d9⟩ := hC; go_simp <;> with_reducible rfl)
      refine wpC_take 2 (v := ?_) rfl (by kernel_rfl) (fun _ _ _ h => h) (by kernel_rfl) ?_ ?_; rotate_left; · (intro wC hC; obtain ⟨d0, d1, d2, d3, d4, d5, d6, d7, d8, d9⟩ := hC; go_simp <;> with_reducible rfl)
      refine wpC_take 3 (v := ?_) rfl (by kernel_rfl) (fun _ _ _ h => h) (by kernel_rfl) ?_ ?_; rotate_left; · (intro wC hC; obtain ⟨d0, d1, d2, d3, d4, d5, d6, d7, d8, d9⟩ := hC; go_simp <;> with_reducible rfl)
      refine wpC_take 4 (v := ?_) rfl (by kernel_rfl) (fun _ _ _ h => h) (by kernel_rfl) ?_ ?_; rotate_left; · (intro wC hC; obtain ⟨d0, d1, d2, d3, d4, d5, d6, d7, d8, d9⟩ := hC; go_simp <;> with_reducible rfl)
      refine wpC_take 5 (v := ?_) rfl (by kernel_rfl) (fun _ _ _ h => h) (by kernel_rfl) ?_ ?_; rotate_left; · (intro wC hC; obtain ⟨d0, d1, d2, d3, d4, d5, d6, d7, d8, d9⟩ := hC; go_simp <;> with_reducible rfl)
      refine wpC_take 6 (v := ?_) rfl (by kernel_rfl) (fun _ _ _ h => h) (by kernel_rfl) ?_ ?_; rotate_left; · (intro wC hC; obtain ⟨d0, d1, d2, d3, d4, d5, d6, d7, d8, d9⟩ := hC; go_simp <;> with_reducible rfl)
      refine wpC_take 7 (v := ?_) rfl (by kernel_rfl) (fun _ _ _ h => h) (by kernel_rfl) ?_ ?_; rotate_left; · (intro wC hC; obtain ⟨d0, d1, d2, d3, d4, d5, d6, d7, d8, d9⟩ := hC; go_simp <;> with_reducible rfl)
      refine wpC_take 8 (v := ?_) rfl (by kernel_rfl) (fun _ _ _ h => h) (by kernel_rfl) ?_ ?_; rotate_left; · (intro wC hC; obtain ⟨d0, d1, d2, d3, d4, d5, d6, d7, d8, d9⟩ := hC; go_simp <;> with_reducible rfl)
      refine wpC_take 9 (v := ?_) rfl (by kernel_rfl) (fun _ _ _ h => h) (by kernel_rfl) ?_ ?_; rotate_left; · (intro wC hC; obtain ⟨d0, d1, d2, d3, d4, d5, d6, d7, d8, d9⟩ := hC; go_simp <;> with_reducible rfl)
      refine wpC_take 10 (v := ?_) rfl (by kernel_rfl) (fun _ _ _ h => h) (by kernel_rfl) ?_ ?_; rotate_left; · (intro wC hC; obtain ⟨d0, d1, d2, d3, d4, d5, d6, d7, d8, d9⟩ := hC; go_simp <;> with_reducible rfl)
      refine wpC_take 11 (v := ?_) rfl (by kernel_rfl) (fun _ _ _ h => h) (by kernel_rfl) ?_ ?_; rotate_left; · (intro wC hC; obtain ⟨d0, d1, d2, d3, d4, d5, d6, d7, d8, d9⟩ := hC; go_simp <;> with_reducible rfl)
      refine wpC_take 12 (v := ?_) rfl (by kernel_rfl) (fun _ _ _ h => h) (by kernel_rfl) ?_ ?_; rotate_left; · (intro wC hC; obtain ⟨d0, d1, d2, d3, d4, d5, d6, d7, d8, d9⟩ := hC; go_simp <;> with_reducible rfl)
      refine wpC_step 13 rfl (by kernel_rfl) (by kernel_rfl) ⟨xx0, xx1, xx2, xx3, xx4, yy0, yy1, yy2, yy3, yy4⟩ (fun K hK => ?_)
      go_simp
      try (refine hK _ _ ?_; clear hK K)
      refine wpC_take 14 (v := ?_) rfl (by kernel_rfl) (fun _ _ _ h => h) (by kernel_rfl) ?_ ?_; rotate_left; · (intro wC hC; obtain _ := hC; go_simp <;> with_reducible rfl)
      refine wpC_done (by kernel_rfl) (by simp [go_sem, xx0, xx1, xx2, xx3, xx4, yy0, yy1, yy2, yy3, yy4]) ?_
      go_wp2
      go_roundw
      case measure => simp [intOf]
      case rel => exact ⟨cdrew (cset HB.out (by omega) _ _), (rowset_other GhX.out (by omega)), (rowset_other GhY.out (by omega)), (rowset_other GhR.out (by omega)), s0, s1, s2, s3, 0, c4, (rowset GhS.out 3 _).trans (by simp only [List.setIfInBounds_toArray, List.set_cons_zero, List.set_cons_succ]), rfl, .inr (.inr (.inr (.inr (.inl ⟨rfl, rfl, rfl, rfl, rfl, rfl, rfl⟩))))⟩
    · go_wp2
      refine wpC_region (fun W => W.cell? ⟨w.heap.size, 0, none⟩ = some (.int .u64 x0) ∧ W.cell? ⟨w.heap.size, 1, none⟩ = some (.int .u64 x1) ∧ W.cell? ⟨w.heap.size, 2, none⟩ = some (.int .u64 x2) ∧ W.cell? ⟨w.heap.size, 3, none⟩ = some (.int .u64 x3) ∧ W.cell? ⟨w.heap.size, 4, none⟩ = some (.int .u64 x4) ∧ W.cell? ⟨w.heap.size + 1, 0, none⟩ = some (.int .u64 y0) ∧ W.cell? ⟨w.heap.size + 1, 1, none⟩ = some (.int .u64 y1) ∧ W.cell? ⟨w.heap.size + 1, 2, none⟩ = some (.int .u64 y2) ∧ W.cell? ⟨w.heap.size + 1, 3, none⟩ = some (.int .u64 y3) ∧ W.cell? ⟨w.heap.size + 1, 4, none⟩ = some (.int .u64 y4)) (by kernel_rfl) ?_
      refine wpC_take 0 (v := ?_) rfl (by kernel_rfl) (fun _ _ _ h => h) (by kernel_rfl) ?_ ?_; rotate_left; · (intro wC hC; obtain ⟨d0, d1, d2, d3, d4, d5, d6, d7, d8, d9⟩ := hC; go_simp <;> with_reducible rfl)
      refine wpC_take 1 (v := ?_) rfl (by kernel_rfl) (fun _ _ _ h => h) (by kernel_rfl) ?_ ?_; rotate_left; · (intro wC hC; obtain ⟨d0, d1, d2, d3, d4, d5, d6, d7, d8, d9⟩ := hC; go_simp <;> with_reducible rfl)
      refine wpC_take 2 (v := ?_) rfl (by kernel_rfl) (fun _ _ _ h => h) (by kernel_rfl) ?_ ?_; rotate_left; · (intro wC hC; obtain ⟨d0, d1, d2, d3, d4, d5, d6, d7, d8, d9⟩ := hC; go_simp <;> with_reducible rfl)
      refine wpC_take 3 (v := ?_) rfl (by kernel_rfl) (fun _ _ _ h => h) (by kernel_rfl) ?_ ?_; rotate_left; · (intro wC hC; obtain ⟨d0, d1, d2, d3, d4, d5, d6, d7, d8, d9⟩ := hC; go_simp <;> with_reducible rfl)
      refine wpC_take 4 (v := ?_) rfl (by kernel_rfl) (fun _ _ _ h => h) (by kernel_rfl) ?_ ?_; rotate_left; · (intro wC hC; obtain ⟨d0, d1, d2, d3, d4, d5, d6, d7, d8, d9⟩ := hC; go_simp <;> with_reducible rfl)
      refine wpC_take 5 (v := ?_) rfl (by kernel_rfl) (fun _ _ _ h => h) (by kernel_rfl) ?_ ?_; rotate_left; · (intro wC hC; obtain ⟨d0, d1, d2, d3, d4, d5, d6, d7, d8, d9⟩ := hC; go_simp <;> with_reducible rfl)
      refine wpC_take 6 (v := ?_) rfl (by kernel_rfl) (fun _ _ _ h => h) (by kernel_rfl) ?_ ?_; rotate_left; · (intro wC hC; obtain ⟨d0, d1, d2, d3, d4, d5, d6, d7, d8, d9⟩ := hC; go_simp <;> with_reducible rfl)
      refine wpC_take 7 (v := ?_) rfl (by kernel_rfl) (fun _ _ _ h => h) (by kernel_rfl) ?_ ?_; rotate_left; · (intro wC hC; obtain ⟨d0, d1, d2, d3, d4, d5, d6, d7, d8, d9⟩ := hC; go_simp <;> with_reducible rfl)
      refine wpC_take 8 (v := ?_) rfl (by kernel_rfl) (fun _ _ _ h => h) (by kernel_rfl) ?_ ?_; rotate_left; · (intro wC hC; obtain ⟨d0, d1, d2, d3, d4, d5, d6, d7, d8, d9⟩ := hC; go_simp <;> with_reducible rfl)
      refine wpC_take 9 (v := ?_) rfl (by kernel_rfl) (fun _ _ _ h => h) (by kernel_rfl) ?_ ?_; rotate_left; · (intro wC hC; obtain ⟨d0, d1, d2, d3, d4, d5, d6, d7, d8, d9⟩ := hC; go_simp <;> with_reducible rfl)
      refine wpC_take 10 (v := ?_) rfl (by kernel_rfl) (fun _ _ _ h => h) (by kernel_rfl) ?_ ?_; rotate_left; · (intro wC hC; obtain ⟨d0, d1, d2, d3, d4, d5, d6, d7, d8, d9⟩ := hC; go_simp <;> with_reducible rfl)
      refine wpC_take 11 (v := ?_) rfl (by kernel_rfl) (fun _ _ _ h => h) (by kernel_rfl) ?_ ?_; rotate_left; · (intro wC hC; obtain ⟨d0, d1, d2, d3, d4, d5, d6, d7, d8, d9⟩ := hC; go_simp <;> with_reducible rfl)
      refine wpC_take 12 (v := ?_) rfl (by kernel_rfl) (fun _ _ _ h => h) (by kernel_rfl) ?_ ?_; rotate_left; · (intro wC hC; obtain ⟨d0, d1, d2, d3, d4, d5, d6, d7, d8, d9⟩ := hC; go_simp <;> with_reducible rfl)
      refine wpC_step 13 rfl (by kernel_rfl) (by kernel_rfl) ⟨xx0, xx1, xx2, xx3, xx4, yy0, yy1, yy2, yy3, yy4⟩ (fun K hK => ?_)
      go_simp
      try (refine hK _ _ ?_; clear hK K)
      refine wpC_take 14 (v := ?_) rfl (by kernel_rfl) (fun _ _ _ h => h) (by kernel_rfl) ?_ ?_; rotate_left; · (intro wC hC; obtain _ := hC; go_simp <;> with_reducible rfl)
      refine wpC_done (by kernel_rfl) (by simp [go_sem, xx0, xx1, xx2, xx3, xx4, yy0, yy1, yy2, yy3, yy4]) ?_
      go_wp2
      go_roundw
      case measure => simp [intOf]
      case rel => exact ⟨cdrew (cset HB.out (by omega) _ _), (rowset_other GhX.out (by omega)), (rowset_other GhY.out (by omega)), (rowset_other GhR.out (by omega)), s0, s1, s2, s3, s4, c5, (rowset GhS.out 4 _).trans (by simp only [List.setIfInBounds_toArray, List.set_cons_zero, List.set_cons_succ]), rfl, .inr (.inr (.inr (.inr (.inr ⟨rfl, rfl, rfl, rfl, rfl, rfl⟩))))⟩
    · have zw : w.heap.size + 3 < wr.heap.size := rowlt GhS.out
      go_wp2
      refine bodyPost_ret (v := w5V s0 s1 s2 s3 s4) (by simp [results, Tryz.results87, go_sem, tt0, tt1, tt2, tt3, tt4, bb0, bb1, bb2, bb3, bb4, tf, w5V]; done) rfl (hQ.out _ _ ⟨rfl, ?_⟩)
      exact cset5 HB.out (by omega)
theorem fplus_any {A B x0 x1 x2 x3 x4 y0 y1 y2 y3 y4 s0 s1 s2 s3 s4 : Nat} (ha : Q5 A x0 x1 x2 x3 x4) (hb : Q5 B y0 y1 y2 y3 y4) (hs : Q5 (A + B) s0 s1 s2 s3 s4) (w : World) :
    Calls Tryz.prog 86 #[w5V x0 x1 x2 x3 x4, w5V y0 y1 y2 y3 y4] w fun e w' => e = .returned (w5V s0 s1 s2 s3 s4) ∧ Below w.heap.size w w' := by
  obtain ⟨ea, a0, a1, a2, a3, a4⟩ := ha
  obtain ⟨eb, b0, b1, b2, b3, b4⟩ := hb
  have one : ∀ x y c : Nat, x ≤ 18446744073709551615 → y ≤ 18446744073709551615 → ∃ s d : Nat, s = (x + y + c) % 18446744073709551616 ∧ d = (x + y + c) / 18446744073709551616 ∧ s ≤ 18446744073709551615 ∧ x + y + c = s + d * 18446744073709551616 := by
    intro x y c hx hy
    exact ⟨_, _, rfl, rfl, by omega, by omega⟩
  obtain ⟨t0, d1, e0, f0, m0, u0⟩ := one x0 y0 0 a0 b0
  obtain ⟨t1, d2, e1, f1, m1, u1⟩ := one x1 y1 d1 a1 b1
  obtain ⟨t2, d3, e2, f2, m2, u2⟩ := one x2 y2 d2 a2 b2
  obtain ⟨t3, d4, e3, f3, m3, u3⟩ := one x3 y3 d3 a3 b3
  obtain ⟨t4, d5, e4, f4, m4, u4⟩ := one x4 y4 d4 a4 b4
  have r0 := run_add64_at x0 y0 0 (by omega)
  have r1 := run_add64_at x1 y1 d1 (by omega)
  have r2 := run_add64_at x2 y2 d2 (by omega)
  have r3 := run_add64_at x3 y3 d3 (by omega)
  have r4 := run_add64_at x4 y4 d4 (by omega)
  rw [← e0, ← f0] at r0
  rw [← e1, ← f1] at r1
  rw [← e2, ← f2] at r2
  rw [← e3, ← f3] at r3
  rw [← e4, ← f4] at r4
  clear e0 f0 e1 f1 e2 f2 e3 f3 e4 f4 one
  have hlt := hs.lt
  have q1 : Q5 (A + B) t0 t1 t2 t3 t4 := by
    clear r0 r1 r2 r3 r4 hs a0 a1 a2 a3 a4 b0 b1 b2 b3 b4
    obtain ⟨T, hT⟩ : ∃ T, T = t0 + t1 * 18446744073709551616 + t2 * 340282366920938463463374607431768211456 + t3 * 6277101735386680763835789423207666416102355444464034512896 + t4 * 115792089237316195423570985008687907853269984665640564039457584007913129639936 := ⟨_, rfl⟩
    have key : A + B = T + d5 * 2135987035920910082395021706169552114602704522356652769947041607822219725780640550022962086936576 := by
      clear m0 m1 m2 m3 m4 hlt
      omega
    refine ⟨?_, m0, m1, m2, m3, m4⟩
    rw [← hT]
    clear hT u0 u1 u2 u3 u4 ea eb m0 m1 m2 m3 m4
    omega
  obtain ⟨rfl, rfl, rfl, rfl, rfl⟩ := hs.one q1
  exact fplus_walk x0 x1 x2 x3 x4 y0 y1 y2 y3 y4 _ _ _ _ _ d1 d2 d3 d4 d5 r0 r1 r2 r3 r4 w
theorem fminus_any {A B x0 x1 x2 x3 x4 y0 y1 y2 y3 y4 s0 s1 s2 s3 s4 : Nat} (ha : Q5 A x0 x1 x2 x3 x4) (hb : Q5 B y0 y1 y2 y3 y4) (hle : B ≤ A) (hs : Q5 (A - B) s0 s1 s2 s3 s4) (w : World) :
    Calls Tryz.prog 87 #[w5V x0 x1 x2 x3 x4, w5V y0 y1 y2 y3 y4] w fun e w' => e = .returned (w5V s0 s1 s2 s3 s4) ∧ Below w.heap.size w w' := by
  obtain ⟨ea, a0, a1, a2, a3, a4⟩ := ha
  obtain ⟨eb, b0, b1, b2, b3, b4⟩ := hb
  have one : ∀ x y c : Nat, x ≤ 18446744073709551615 → y ≤ 18446744073709551615 → c ≤ 1 → ∃ s d : Nat, s = (x + 18446744073709551616 - y - c) % 18446744073709551616 ∧ d = (if x < y + c then 1 else 0) ∧ d ≤ 1 ∧ s ≤ 18446744073709551615 ∧ x + d * 18446744073709551616 = s + y + c := by
    intro x y c hx hy hc
    refine ⟨_, _, rfl, rfl, ?_, by omega, ?_⟩
    · split <;> omega
    · split <;> omega
  obtain ⟨t0, d1, e0, f0, l1, m0, u0⟩ := one x0 y0 0 a0 b0 (by omega)
  obtain ⟨t1, d2, e1, f1, l2, m1, u1⟩ := one x1 y1 d1 a1 b1 l1
  obtain ⟨t2, d3, e2, f2, l3, m2, u2⟩ := one x2 y2 d2 a2 b2 l2
  obtain ⟨t3, d4, e3, f3, l4, m3, u3⟩ := one x3 y3 d3 a3 b3 l3
  obtain ⟨t4, d5, e4, f4, l5, m4, u4⟩ := one x4 y4 d4 a4 b4 l4
  have r0 := run_sub64_at x0 y0 0 (by omega)
  have r1 := run_sub64_at x1 y1 d1 l1
  have r2 := run_sub64_at x2 y2 d2 l2
  have r3 := run_sub64_at x3 y3 d3 l3
  have r4 := run_sub64_at x4 y4 d4 l4
  rw [← e0, ← f0] at r0
  rw [← e1, ← f1] at r1
  rw [← e2, ← f2] at r2
  rw [← e3, ← f3] at r3
  rw [← e4, ← f4] at r4
  clear e0 f0 e1 f1 e2 f2 e3 f3 e4 f4 one
  have q1 : Q5 (A - B) t0 t1 t2 t3 t4 := by
    clear r0 r1 r2 r3 r4 hs a0 a1 a2 a3 a4 b0 b1 b2 b3 b4
    obtain ⟨T, hT⟩ : ∃ T, T = t0 + t1 * 18446744073709551616 + t2 * 340282366920938463463374607431768211456 + t3 * 6277101735386680763835789423207666416102355444464034512896 + t4 * 115792089237316195423570985008687907853269984665640564039457584007913129639936 := ⟨_, rfl⟩
    have key : A + d5 * 2135987035920910082395021706169552114602704522356652769947041607822219725780640550022962086936576 = T + B := by
      clear l1 l2 l3 l4 l5 m0 m1 m2 m3 m4 hle
      omega
    have hTl : T < 2135987035920910082395021706169552114602704522356652769947041607822219725780640550022962086936576 := by
      clear key u0 u1 u2 u3 u4 ea eb
      omega
    refine ⟨?_, m0, m1, m2, m3, m4⟩
    rw [← hT]
    clear hT u0 u1 u2 u3 u4 ea eb m0 m1 m2 m3 m4
    omega
  obtain ⟨rfl, rfl, rfl, rfl, rfl⟩ := hs.one q1
  exact fminus_walk x0 x1 x2 x3 x4 y0 y1 y2 y3 y4 _ _ _ _ _ d1 d2 d3 d4 d5 r0 r1 r2 r3 r4 w
end Go.Proofs.YtheliihkkoohnabGreat
