import Derived.Test.YtheliihkkoohnabJoin3
namespace Go.Proofs.Ytheliihkkoohnab
open Go.ChangeShapes Go.WideShapes Go.ChangeAt Go.RowKit
set_option linter.unusedVariables false
set_option linter.unusedSimpArgs false
set_option maxRecDepth 100000

/-! ### sums and differences of 320 bits -/
set_option maxHeartbeats 4000000 in
theorem fplus_walk (x0 x1 x2 x3 x4 y0 y1 y2 y3 y4 s0 s1 s2 s3 s4 c1 c2 c3 c4 c5 : Nat)
    (r0 : ∀ w, (callFunc 63 #[.int .u64 x0, .int .u64 y0, .int .u64 0]).run Try.prog w = .ok (.value (.tuple #[.int .u64 s0, .int .u64 c1])) w)
    (r1 : ∀ w, (callFunc 63 #[.int .u64 x1, .int .u64 y1, .int .u64 c1]).run Try.prog w = .ok (.value (.tuple #[.int .u64 s1, .int .u64 c2])) w)
    (r2 : ∀ w, (callFunc 63 #[.int .u64 x2, .int .u64 y2, .int .u64 c2]).run Try.prog w = .ok (.value (.tuple #[.int .u64 s2, .int .u64 c3])) w)
    (r3 : ∀ w, (callFunc 63 #[.int .u64 x3, .int .u64 y3, .int .u64 c3]).run Try.prog w = .ok (.value (.tuple #[.int .u64 s3, .int .u64 c4])) w)
    (r4 : ∀ w, (callFunc 63 #[.int .u64 x4, .int .u64 y4, .int .u64 c4]).run Try.prog w = .ok (.value (.tuple #[.int .u64 s4, .int .u64 c5])) w) (w : World) :
    Calls Try.prog 43 #[w5V x0 x1 x2 x3 x4, w5V y0 y1 y2 y3 y4] w fun e w' => e = .returned (w5V s0 s1 s2 s3 s4) ∧ Below w.heap.size w w' := by
  unfold w5V
  have v0 : IntKind.i64.wrap 0 = 0 := rfl
  have v1 : IntKind.i64.wrap 1 = 1 := rfl
  have v2 : IntKind.i64.wrap 2 = 2 := rfl
  have v3 : IntKind.i64.wrap 3 = 3 := rfl
  have v4 : IntKind.i64.wrap 4 = 4 := rfl
  refine cps fun Q hQ => ?_
  go_enter Try.func43, Try.ntmps43
  go_wp2
  go_loopw [6, 7, 8] (fun cv _ iv wr => Hid (Below w.heap.size w wr) ∧ wr.heap[w.heap.size]? = some (.cells #[.int .u64 x0, .int .u64 x1, .int .u64 x2, .int .u64 x3, .int .u64 x4] 82 (0, 0)) ∧ wr.heap[w.heap.size + 1]? = some (.cells #[.int .u64 y0, .int .u64 y1, .int .u64 y2, .int .u64 y3, .int .u64 y4] 82 (0, 0)) ∧ wr.heap[w.heap.size + 2]? = some (.cells #[.int .u64 0, .int .u64 0, .int .u64 0, .int .u64 0, .int .u64 0] 82 (0, 0)) ∧ ∃ a0 a1 a2 a3 a4 c : Nat, wr.heap[w.heap.size + 3]? = some (.cells #[.int .u64 a0, .int .u64 a1, .int .u64 a2, .int .u64 a3, .int .u64 a4] 82 (0, 0)) ∧ cv = .int .u64 c ∧ ((iv = .int .i64 0 ∧ 0 = c ∧ 0 = a0 ∧ 0 = a1 ∧ 0 = a2 ∧ 0 = a3 ∧ 0 = a4) ∨ (iv = .int .i64 1 ∧ c1 = c ∧ s0 = a0 ∧ 0 = a1 ∧ 0 = a2 ∧ 0 = a3 ∧ 0 = a4) ∨ (iv = .int .i64 2 ∧ c2 = c ∧ s0 = a0 ∧ s1 = a1 ∧ 0 = a2 ∧ 0 = a3 ∧ 0 = a4) ∨ (iv = .int .i64 3 ∧ c3 = c ∧ s0 = a0 ∧ s1 = a1 ∧ s2 = a2 ∧ 0 = a3 ∧ 0 = a4) ∨ (iv = .int .i64 4 ∧ c4 = c ∧ s0 = a0 ∧ s1 = a1 ∧ s2 = a2 ∧ s3 = a3 ∧ 0 = a4) ∨ (iv = .int .i64 5 ∧ s0 = a0 ∧ s1 = a1 ∧ s2 = a2 ∧ s3 = a3 ∧ s4 = a4))) (fun _ _ iv _ => (5 - intOf iv).toNat)
  case atStart => exact ⟨cmore (cmore (cmore (cmore (Below.refl _ _) _) _) _) _, (Below.heap_alloc _ _ _ (by first | (simp; done) | (simp; omega))).trans ((Below.heap_alloc _ _ _ (by first | (simp; done) | (simp; omega))).trans ((Below.heap_alloc _ _ _ (by first | (simp; done) | (simp; omega))).trans (rownew' _ _ _ _ (by simp)))), (Below.heap_alloc _ _ _ (by first | (simp; done) | (simp; omega))).trans ((Below.heap_alloc _ _ _ (by first | (simp; done) | (simp; omega))).trans (rownew' _ _ _ _ (by simp))), (Below.heap_alloc _ _ _ (by first | (simp; done) | (simp; omega))).trans (rownew' _ _ _ _ (by simp)), 0, 0, 0, 0, 0, 0, rownew' _ _ _ _ (by simp), rfl, .inl ⟨rfl, rfl, rfl, rfl, rfl, rfl, rfl⟩⟩
  case round =>
    obtain ⟨hB, hX, hY, hR, a0, a1, a2, a3, a4, c, hS, rfl, hrel⟩ := hrel
    have HB : Hid (Below w.heap.size w wr) := hB.out
    have xx0 := rowcell hX 0
    have xx1 := rowcell hX 1
    have xx2 := rowcell hX 2
    have xx3 := rowcell hX 3
    have xx4 := rowcell hX 4
    have yy0 := rowcell hY 0
    have yy1 := rowcell hY 1
    have yy2 := rowcell hY 2
    have yy3 := rowcell hY 3
    have yy4 := rowcell hY 4
    have tt0 := rowcell hR 0
    have tt1 := rowcell hR 1
    have tt2 := rowcell hR 2
    have tt3 := rowcell hR 3
    have tt4 := rowcell hR 4
    have bb0 := rowcell hS 0
    have bb1 := rowcell hS 1
    have bb2 := rowcell hS 2
    have bb3 := rowcell hS 3
    have bb4 := rowcell hS 4
    have tf := rowfree hR
    have sf := rowfree hS
    simp only [List.getElem?_toArray, List.getElem?_cons_zero, List.getElem?_cons_succ] at xx0 xx1 xx2 xx3 xx4 yy0 yy1 yy2 yy3 yy4 tt0 tt1 tt2 tt3 tt4 bb0 bb1 bb2 bb3 bb4
    have GhX : Hid _ := hX
    have GhY : Hid _ := hY
    have GhR : Hid _ := hR
    have GhS : Hid _ := hS
    clear hX hY hR hS hB
    rcases hrel with ⟨rfl, rfl, rfl, rfl, rfl, rfl, rfl⟩ | ⟨rfl, rfl, rfl, rfl, rfl, rfl, rfl⟩ | ⟨rfl, rfl, rfl, rfl, rfl, rfl, rfl⟩ | ⟨rfl, rfl, rfl, rfl, rfl, rfl, rfl⟩ | ⟨rfl, rfl, rfl, rfl, rfl, rfl, rfl⟩ | ⟨rfl, rfl, rfl, rfl, rfl, rfl⟩
    · go_wp2
      refine wpC_region (fun W => W.cell? ⟨w.heap.size, 0, none⟩ = some (.int .u64 x0) ∧ W.cell? ⟨w.heap.size, 1, none⟩ = some (.int .u64 x1) ∧ W.cell? ⟨w.heap.size, 2, none⟩ = some (.int .u64 x2) ∧ W.cell? ⟨w.heap.size, 3, none⟩ = some (.int .u64 x3) ∧ W.cell? ⟨w.heap.size, 4, none⟩ = some (.int .u64 x4) ∧ W.cell? ⟨w.heap.size + 1, 0, none⟩ = some (.int .u64 y0) ∧ W.cell? ⟨w.heap.size + 1, 1, none⟩ = some (.int .u64 y1) ∧ W.cell? ⟨w.heap.size + 1, 2, none⟩ = some (.int .u64 y2) ∧ W.cell? ⟨w.heap.size + 1, 3, none⟩ = some (.int .u64 y3) ∧ W.cell? ⟨w.heap.size + 1, 4, none⟩ = some (.int .u64 y4)) (by kernel_rfl) ?_
      refine wpC_take 0 (v := ?_) rfl (by kernel_rfl) (fun _ _ _ h => h) (by kernel_rfl) ?_ ?_; rotate_left; · (intro wC hC; obtain ⟨d0, d1, d2, d3, d4, d5, d6, d7, d8, d9⟩ := hC; go_simp <;> with_reducible rfl)
      refine wpC_take 1 (v := ?_) rfl (by kernel_rfl) (fun _ _ _ h => h) (by kernel_rfl) ?_ ?_; rotate_left; · (intro wC hC; obtain ⟨d0, d1, d2, d3, d4, d5, d6, d7, d8, d9⟩ := hC; go_simp <;> with_reducible rfl)
      refine wpC_take 2 (v := ?_) rfl (by kernel_rfl) (fun _ _ _ h => h) (by kernel_rfl) ?_ ?_; rotate_left; · (intro wC hC; obtain ⟨d0, d1, d2, d3, d4, d5, d6, d7, d8, d9⟩ := hC; go_simp <;> with_reducible rfl)
      refine wpC_take 3 (v := ?_) rfl (by kernel_rfl) (fun _ _ _ h => h) (by kernel_rfl) ?_ ?_; rotate_left; · (intro wC hC; obtain ⟨d0, d1, d2, d3, d4, d5, d6, d7, d8, d9⟩ := hC; go_simp <;> with_reducible rfl)
      refine wpC_take 4 (v := ?_) rfl (by kernel_rfl) (fun _ _ _ h => h) (by kernel_rfl) ?_ ?_; rotate_left; · (intro wC hC; obtain ⟨d0, d1, d2, d3, d4, d5, d6, d7, d8, d9⟩ := hC; go_simp <;> with_reducible rfl)
      refine wpC_take 5 (v := ?_) rfl (by kernel_rfl) (fun _ _ _ h => h) (by kernel_rfl) ?_ ?_; rotate_left; · (intro wC hC; obtain ⟨d0, d1, d2, d3, d4, d5, d6, d7, d8, d9⟩ := hC; go_simp <;> with_reducible rfl)
      refine wpC_take 6 (v := ?_) rfl (by kernel_rfl) (fun _ _ _ h => h) (by kernel_rfl) ?_ ?_; rotate_left; · (intro wC hC; obtain ⟨d0, d1, d2, d3, d4, d5, d6, d7, d8, d9⟩ := hC; go_simp <;> with_reducible rfl)
      refine wpC_take 7 (v := ?_) rfl (by kernel_rfl) (fun _ _ _ h => h) (by kernel_rfl) ?_ ?_; rotate_left; · (intro wC hC; obtain ⟨d0, d1, d2, d3, d4, d5, d6, d7, d8, d9⟩ := hC; go_simp <;> with_reducible rfl)
      refine wpC_take 8 (v := ?_) rfl (by kernel_rfl) (fun _ _ _ h => h) (by kernel_rfl) ?_ ?_; rotate_left; · (intro wC hC; obtain ⟨d0, d1, d2, d3, d4, d5, d6, d7, d8, d9⟩ := hC; go_simp <;> with_reducible rfl)
      refine wpC_take 9 (v := ?_) rfl (by kernel_rfl) (fun _ _ _ h => h) (by kernel_rfl) ?_ ?_; rotate_left; · (intro wC hC; obtain ⟨d0, d1, d2, d3, d4, d5, d6, d7, d8, d9⟩ := hC; go_simp <;> with_reducible rfl)
      refine wpC_take 10 (v := ?_) rfl (by kernel_rfl) (fun _ _ _ h => h) (by kernel_rfl) ?_ ?_; rotate_left; · (intro wC hC; obtain ⟨d0, d1, d2, d3, d4, d5, d6, d7, d8, d9⟩ := hC; go_simp <;> with_reducible rfl)
      refine wpC_take 11 (v := ?_) rfl (by kernel_rfl) (fun _ _ _ h => h) (by kernel_rfl) ?_ ?_; rotate_left; · (intro wC hC; obtain ⟨d0, d1, d2, d3, d4, d5, d6, d7, d8, d9⟩ := hC; go_simp <;> with_reducible rfl)
      refine wpC_take 12 (v := ?_) rfl (by kernel_rfl) (fun _ _ _ h => h) (by kernel_rfl) ?_ ?_; rotate_left; · (intro wC hC; obtain ⟨d0, d1, d2, d3, d4, d5, d6, d7, d8, d9⟩ := hC; go_simp <;> with_reducible rfl)
      refine wpC_step 13 rfl (by kernel_rfl) (by kernel_rfl) ⟨xx0, xx1, xx2, xx3, xx4, yy0, yy1, yy2, yy3, yy4⟩ (fun K hK => ?_)
      go_simp
      try (refine hK _ _ ?_; clear hK K)
      refine wpC_take 14 (v := ?_) rfl (by kernel_rfl) (fun _ _ _ h => h) (by kernel_rfl) ?_ ?_; rotate_left; · (intro wC hC; obtain _ := hC; go_simp <;> with_reducible rfl)
      refine wpC_done (by kernel_rfl) (by simp [go_sem, xx0, xx1, xx2, xx3, xx4, yy0, yy1, yy2, yy3, yy4]) ?_
      go_wp2
      go_roundw
      case measure => simp [intOf]
      case rel => exact ⟨cdrew (cset HB.out (by omega) _ _), (rowset_other GhX.out (by omega)), (rowset_other GhY.out (by omega)), (rowset_other GhR.out (by omega)), s0, 0, 0, 0, 0, c1, (rowset GhS.out 0 _).trans (by simp only [List.setIfInBounds_toArray, List.set_cons_zero, List.set_cons_succ]), rfl, .inr (.inl ⟨rfl, rfl, rfl, rfl, rfl, rfl, rfl⟩)⟩
    · go_wp2
      refine wpC_region (fun W => W.cell? ⟨w.heap.size, 0, none⟩ = some (.int .u64 x0) ∧ W.cell? ⟨w.heap.size, 1, none⟩ = some (.int .u64 x1) ∧ W.cell? ⟨w.heap.size, 2, none⟩ = some (.int .u64 x2) ∧ W.cell? ⟨w.heap.size, 3, none⟩ = some (.int .u64 x3) ∧ W.cell? ⟨w.heap.size, 4, none⟩ = some (.int .u64 x4) ∧ W.cell? ⟨w.heap.size + 1, 0, none⟩ = some (.int .u64 y0) ∧ W.cell? ⟨w.heap.size + 1, 1, none⟩ = some (.int .u64 y1) ∧ W.cell? ⟨w.heap.size + 1, 2, none⟩ = some (.int .u64 y2) ∧ W.cell? ⟨w.heap.size + 1, 3, none⟩ = some (.int .u64 y3) ∧ W.cell? ⟨w.heap.size + 1, 4, none⟩ = some (.int .u64 y4)) (by kernel_rfl) ?_
      refine wpC_take 0 (v := ?_) rfl (by kernel_rfl) (fun _ _ _ h => h) (by kernel_rfl) ?_ ?_; rotate_left; · (intro wC hC; obtain ⟨d0, d1, d2, d3, d4, d5, d6, d7, d8, d9⟩ := hC; go_simp <;> with_reducible rfl)
      refine wpC_take 1 (v := ?_) rfl (by kernel_rfl) (fun _ _ _ h => h) (by kernel_rfl) ?_ ?_; rotate_left; · (intro wC hC; obtain ⟨d0, d1, d2, d3, d4, d5, d6, d7, d8, d9⟩ := hC; go_simp <;> with_reducible rfl)
      refine wpC_take 2 (v := ?_) rfl (by kernel_rfl) (fun _ _ _ h => h) (by kernel_rfl) ?_ ?_; rotate_left; · (intro wC hC; obtain ⟨d0, d1, d2, d3, d4, d5, d6, d7, d8, d9⟩ := hC; go_simp <;> with_reducible rfl)
      refine wpC_take 3 (v := ?_) rfl (by kernel_rfl) (fun _ _ _ h => h) (by kernel_rfl) ?_ ?_; rotate_left; · (intro wC hC; obtain ⟨d0, d1, d2, d3, d4, d5, d6, d7, d8, d9⟩ := hC; go_simp <;> with_reducible rfl)
      refine wpC_take 4 (v := ?_) rfl (by kernel_rfl) (fun _ _ _ h => h) (by kernel_rfl) ?_ ?_; rotate_left; · (intro wC hC; obtain ⟨d0, d1, d2, d3, d4, d5, d6, d7, d8, d9⟩ := hC; go_simp <;> with_reducible rfl)
      refine wpC_take 5 (v := ?_) rfl (by kernel_rfl) (fun _ _ _ h => h) (by kernel_rfl) ?_ ?_; rotate_left; · (intro wC hC; obtain ⟨d0, d1, d2, d3, d4, d5, d6, d7, d8, d9⟩ := hC; go_simp <;> with_reducible rfl)
      refine wpC_take 6 (v := ?_) rfl (by kernel_rfl) (fun _ _ _ h => h) (by kernel_rfl) ?_ ?_; rotate_left; · (intro wC hC; obtain ⟨d0, d1, d2, d3, d4, d5, d6, d7, d8, d9⟩ := hC; go_simp <;> with_reducible rfl)
      refine wpC_take 7 (v := ?_) rfl (by kernel_rfl) (fun _ _ _ h => h) (by kernel_rfl) ?_ ?_; rotate_left; · (intro wC hC; obtain ⟨d0, d1, d2, d3, d4, d5, d6, d7, d8, d9⟩ := hC; go_simp <;> with_reducible rfl)
      refine wpC_take 8 (v := ?_) rfl (by kernel_rfl) (fun _ _ _ h => h) (by kernel_rfl) ?_ ?_; rotate_left; · (intro wC hC; obtain ⟨d0, d1, d2, d3, d4, d5, d6, d7, d8, d9⟩ := hC; go_simp <;> with_reducible rfl)
      refine wpC_take 9 (v := ?_) rfl (by kernel_rfl) (fun _ _ _ h => h) (by kernel_rfl) ?_ ?_; rotate_left; · (intro wC hC; obtain ⟨d0, d1, d2, d3, d4, d5, d6, d7, d8, d9⟩ := hC; go_simp <;> with_reducible rfl)
      refine wpC_take 10 (v := ?_) rfl (by kernel_rfl) (fun _ _ _ h => h) (by kernel_rfl) ?_ ?_; rotate_left; · (intro wC hC; obtain ⟨d0, d1, d2, d3, d4, d5, d6, d7, d8, d9⟩ := hC; go_simp <;> with_reducible rfl)
      refine wpC_take 11 (v := ?_) rfl (by kernel_rfl) (fun _ _ _ h => h) (by kernel_rfl) ?_ ?_; rotate_left; · (intro wC hC; obtain ⟨d0, d1, d2, d3, d4, d5, d6, d7, d8, d9⟩ := hC; go_simp <;> with_reducible rfl)
      refine wpC_take 12 (v := ?_) rfl (by kernel_rfl) (fun _ _ _ h => h) (by kernel_rfl) ?_ ?_; rotate_left; · (intro wC hC; obtain ⟨d0, d1, d2, d3, d4, d5, d6, d7, d8, d9⟩ := hC; go_simp <;> with_reducible rfl)
      refine wpC_step 13 rfl (by kernel_rfl) (by kernel_rfl) ⟨xx0, xx1, xx2, xx3, xx4, yy0, yy1, yy2, yy3, yy4⟩ (fun K hK => ?_)
      go_simp
      try (refine hK _ _ ?_; clear hK K)
      refine wpC_take 14 (v := ?_) rfl (by kernel_rfl) (fun _ _ _ h => h) (by kernel_rfl) ?_ ?_; rotate_left; · (intro wC hC; obtain _ := hC; go_simp <;> with_reducible rfl)
      refine wpC_done (by kernel_rfl) (by simp [go_sem, xx0, xx1, xx2, xx3, xx4, yy0, yy1, yy2, yy3, yy4]) ?_
      go_wp2
      go_roundw
      case measure => simp [intOf]
      case rel => exact ⟨cdrew (cset HB.out (by omega) _ _), (rowset_other GhX.out (by omega)), (rowset_other GhY.out (by omega)), (rowset_other GhR.out (by omega)), s0, s1, 0, 0, 0, c2, (rowset GhS.out 1 _).trans (by simp only [List.setIfInBounds_toArray, List.set_cons_zero, List.set_cons_succ]), rfl, .inr (.inr (.inl ⟨rfl, rfl, rfl, rfl, rfl, rfl, rfl⟩))⟩
    · go_wp2
      refine wpC_region (fun W => W.cell? ⟨w.heap.size, 0, none⟩ = some (.int .u64 x0) ∧ W.cell? ⟨w.heap.size, 1, none⟩ = some (.int .u64 x1) ∧ W.cell? ⟨w.heap.size, 2, none⟩ = some (.int .u64 x2) ∧ W.cell? ⟨w.heap.size, 3, none⟩ = some (.int .u64 x3) ∧ W.cell? ⟨w.heap.size, 4, none⟩ = some (.int .u64 x4) ∧ W.cell? ⟨w.heap.size + 1, 0, none⟩ = some (.int .u64 y0) ∧ W.cell? ⟨w.heap.size + 1, 1, none⟩ = some (.int .u64 y1) ∧ W.cell? ⟨w.heap.size + 1, 2, none⟩ = some (.int .u64 y2) ∧ W.cell? ⟨w.heap.size + 1, 3, none⟩ = some (.int .u64 y3) ∧ W.cell? ⟨w.heap.size + 1, 4, none⟩ = some (.int .u64 y4)) (by kernel_rfl) ?_
      refine wpC_take 0 (v := ?_) rfl (by kernel_rfl) (fun _ _ _ h => h) (by kernel_rfl) ?_ ?_; rotate_left; · (intro wC hC; obtain ⟨d0, d1, d2, d3, d4, d5, d6, d7, d8, d9⟩ := hC; go_simp <;> with_reducible rfl)
      refine wpC_take 1 (v := ?_) rfl (by kernel_rfl) (fun _ _ _ h => h) (by kernel_rfl) ?_ ?_; rotate_left; · (intro wC hC; obtain ⟨d0, d1, d2, d3, d4, d5, d6, d7, d8, d9⟩ := hC; go_simp <;> with_reducible rfl)
      refine wpC_take 2 (v := ?_) rfl (by kernel_rfl) (fun _ _ _ h => h) (by kernel_rfl) ?_ ?_; rotate_left; · (intro wC hC; obtain ⟨d0, d1, d2, d3, d4, d5, d6, d7, d8, d9⟩ := hC; go_simp <;> with_reducible rfl)
      refine wpC_take 3 (v := ?_) rfl (by kernel_rfl) (fun _ _ _ h => h) (by kernel_rfl) ?_ ?_; rotate_left; · (intro wC hC; obtain ⟨d0, d1, d2, d3, d4, d5, d6, d7, d8, d9⟩ := hC; go_simp <;> with_reducible rfl)
      refine wpC_take 4 (v := ?_) rfl (by kernel_rfl) (fun _ _ _ h => h) (by kernel_rfl) ?_ ?_; rotate_left; · (intro wC hC; obtain ⟨d0, d1, d2, d3, d4, d5, d6, d7, d8, d9⟩ := hC; go_simp <;> with_reducible rfl)
      refine wpC_take 5 (v := ?_) rfl (by kernel_rfl) (fun _ _ _ h => h) (by kernel_rfl) ?_ ?_; rotate_left; · (intro wC hC; obtain ⟨d0, d1, d2, d3, d4, d5, d6, d7, d8, d9⟩ := hC; go_simp <;> with_reducible rfl)
      refine wpC_take 6 (v := ?_) rfl (by kernel_rfl) (fun _ _ _ h => h) (by kernel_rfl) ?_ ?_; rotate_left; · (intro wC hC; obtain ⟨d0, d1, d2, d3, d4, d5, d6, d7, d8, d9⟩ := hC; go_simp <;> with_reducible rfl)
      refine wpC_take 7 (v := ?_) rfl (by kernel_rfl) (fun _ _ _ h => h) (by kernel_rfl) ?_ ?_; rotate_left; · (intro wC hC; obtain ⟨d0, d1, d2, d3, d4, d5, d6, d7, d8, d9⟩ := hC; go_simp <;> with_reducible rfl)
      refine wpC_take 8 (v := ?_) rfl (by kernel_rfl) (fun _ _ _ h => h) (by kernel_rfl) ?_ ?_; rotate_left; · (intro wC hC; obtain ⟨d0, d1, d2, d3, d4, d5, d6, d7, d8, d9⟩ := hC; go_simp <;> with_reducible rfl)
      refine wpC_take 9 (v := ?_) rfl (by kernel_rfl) (fun _ _ _ h => h) (by kernel_rfl) ?_ ?_; rotate_left; · (intro wC hC; obtain ⟨d0, d1, d2, d3, d4, d5, d6, d7, d8, d9⟩ := hC; go_simp <;> with_reducible rfl)
      refine wpC_take 10 (v := ?_) rfl (by kernel_rfl) (fun _ _ _ h => h) (by kernel_rfl) ?_ ?_; rotate_left; · (intro wC hC; obtain ⟨d0, d1, d2, d3, d4, d5, d6, d7, d8, d9⟩ := hC; go_simp <;> with_reducible rfl)
      refine wpC_take 11 (v := ?_) rfl (by kernel_rfl) (fun _ _ _ h => h) (by kernel_rfl) ?_ ?_; rotate_left; · (intro wC hC; obtain ⟨d0, d1, d2, d3, d4, d5, d6, d7, d8, d9⟩ := hC; go_simp <;> with_reducible rfl)
      refine wpC_take 12 (v := ?_) rfl (by kernel_rfl) (fun _ _ _ h => h) (by kernel_rfl) ?_ ?_; rotate_left; · (intro wC hC; obtain ⟨d0, d1, d2, d3, d4, d5, d6, d7, d8, d9⟩ := hC; go_simp <;> with_reducible rfl)
      refine wpC_step 13 rfl (by kernel_rfl) (by kernel_rfl) ⟨xx0, xx1, xx2, xx3, xx4, yy0, yy1, yy2, yy3, yy4⟩ (fun K hK => ?_)
      go_simp
      try (refine hK _ _ ?_; clear hK K)
      refine wpC_take 14 (v := ?_) rfl (by kernel_rfl) (fun _ _ _ h => h) (by kernel_rfl) ?_ ?_; rotate_left; · (intro wC hC; obtain _ := hC; go_simp <;> with_reducible rfl)
      refine wpC_done (by kernel_rfl) (by simp [go_sem, xx0, xx1, xx2, xx3, xx4, yy0, yy1, yy2, yy3, yy4]) ?_
      go_wp2
      go_roundw
      case measure => simp [intOf]
      case rel => exact ⟨cdrew (cset HB.out (by omega) _ _), (rowset_other GhX.out (by omega)), (rowset_other GhY.out (by omega)), (rowset_other GhR.out (by omega)), s0, s1, s2, 0, 0, c3, (rowset GhS.out 2 _).trans (by simp only [List.setIfInBounds_toArray, List.set_cons_zero, List.set_cons_succ]), rfl, .inr (.inr (.inr (.inl ⟨rfl, rfl, rfl, rfl, rfl, rfl, rfl⟩)))⟩
    · go_wp2
      refine wpC_region (fun W => W.cell? ⟨w.heap.size, 0, none⟩ = some (.int .u64 x0) ∧ W.cell? ⟨w.heap.size, 1, none⟩ = some (.int .u64 x1) ∧ W.cell? ⟨w.heap.size, 2, none⟩ = some (.int .u64 x2) ∧ W.cell? ⟨w.heap.size, 3, none⟩ = some (.int .u64 x3) ∧ W.cell? ⟨w.heap.size, 4, none⟩ = some (.int .u64 x4) ∧ W.cell? ⟨w.heap.size + 1, 0, none⟩ = some (.int .u64 y0) ∧ W.cell? ⟨w.heap.size + 1, 1, none⟩ = some (.int .u64 y1) ∧ W.cell? ⟨w.heap.size + 1, 2, none⟩ = some (.int .u64 y2) ∧ W.cell? ⟨w.heap.size + 1, 3, none⟩ = some (.int .u64 y3) ∧ W.cell? ⟨w.heap.size + 1, 4, none⟩ = some (.int .u64 y4)) (by kernel_rfl) ?_
      refine wpC_take 0 (v := ?_) rfl (by kernel_rfl) (fun _ _ _ h => h) (by kernel_rfl) ?_ ?_; rotate_left; · (intro wC hC; obtain ⟨d0, d1, d2, d3, d4, d5, d6, d7, d8, d9⟩ := hC; go_simp <;> with_reducible rfl)
      refine wpC_take 1 (v := ?_) rfl (by kernel_rfl) (fun _ _ _ h => h) (by kernel_rfl) ?_ ?_; rotate_left; · (intro wC hC; obtain ⟨d0, d1, d2, d3, d4, d5, d6, d7, d8, d9⟩ := hC; go_simp <;> with_reducible rfl)
      refine wpC_take 2 (v := ?_) rfl (by kernel_rfl) (fun _ _ _ h => h) (by kernel_rfl) ?_ ?_; rotate_left; · (intro wC hC; obtain ⟨d0, d1, d2, d3, d4, d5, d6, d7, d8, d9⟩ := hC; go_simp <;> with_reducible rfl)
      refine wpC_take 3 (v := ?_) rfl (by kernel_rfl) (fun _ _ _ h => h) (by kernel_rfl) ?_ ?_; rotate_left; · (intro wC hC; obtain ⟨d0, d1, d2, d3, d4, d5, d6, d7, d8, d9⟩ := hC; go_simp <;> with_reducible rfl)
      refine wpC_take 4 (v := ?_) rfl (by kernel_rfl) (fun _ _ _ h => h) (by kernel_rfl) ?_ ?_; rotate_left; · (intro wC hC; obtain ⟨d0, d1, d2, d3, d4, d5, d6, d7, d8, d9⟩ := hC; go_simp <;> with_reducible rfl)
      refine wpC_take 5 (v := ?_) rfl (by kernel_rfl) (fun _ _ _ h => h) (by kernel_rfl) ?_ ?_; rotate_left; · (intro wC hC; obtain ⟨d0, d1, d2, d3, d4, d5, d6, d7, d8, d9⟩ := hC; go_simp <;> with_reducible rfl)
      refine wpC_take 6 (v := ?_) rfl (by kernel_rfl) (fun _ _ _ h => h) (by kernel_rfl) ?_ ?_; rotate_left; · (intro wC hC; obtain ⟨d0, d1, d2, d3, d4, d5, d6, d7, d8, d9⟩ := hC; go_simp <;> with_reducible rfl)
      refine wpC_take 7 (v := ?_) rfl (by kernel_rfl) (fun _ _ _ h => h) (by kernel_rfl) ?_ ?_; rotate_left; · (intro wC hC; obtain ⟨d0, d1, d2, d3, d4, d5, d6, d7, d8, d9⟩ := hC; go_simp <;> with_reducible rfl)
      refine wpC_take 8 (v := ?_) rfl (by kernel_rfl) (fun _ _ _ h => h) (by kernel_rfl) ?_ ?_; rotate_left; · (intro wC hC; obtain ⟨d0, d1, d2, d3, d4, d5, d6, d7, d8, d9⟩ := hC; go_simp <;> with_reducible rfl)
      refine wpC_take 9 (v := ?_) rfl (by kernel_rfl) (fun _ _ _ h => h) (by kernel_rfl) ?_ ?_; rotate_left; · (intro wC hC; obtain ⟨d0, d1, d2, d3, d4, d5, d6, d7, d8, d9⟩ := hC; go_simp <;> with_reducible rfl)
      refine wpC_take 10 (v := ?_) rfl (by kernel_rfl) (fun _ _ _ h => h) (by kernel_rfl) ?_ ?_; rotate_left; · (intro wC hC; obtain ⟨d0, d1, d2, d3, d4, d5, d6, d7, d8, d9⟩ := hC; go_simp <;> with_reducible rfl)
      refine wpC_take 11 (v := ?_) rfl (by kernel_rfl) (fun _ _ _ h => h) (by kernel_rfl) ?_ ?_; rotate_left; · (intro wC hC; obtain ⟨d0, d1, d2, d3, d4, d5, d6, d7, d8, d9⟩ := hC; go_simp <;> with_reducible rfl)
      refine wpC_take 12 (v := ?_) rfl (by kernel_rfl) (fun _ _ _ h => h) (by kernel_rfl) ?_ ?_; rotate_left; · (intro wC hC; obtain ⟨d0, d1, d2, d3, d4, d5, d6, d7, d8, d9⟩ := hC; go_simp <;> with_reducible rfl)
      refine wpC_step 13 rfl (by kernel_rfl) (by kernel_rfl) ⟨xx0, xx1, xx2, xx3, xx4, yy0, yy1, yy2, yy3, yy4⟩ (fun K hK => ?_)
      go_simp
      try (refine hK _ _ ?_; clear hK K)
      refine wpC_take 14 (v := ?_) rfl (by kernel_rfl) (fun _ _ _ h => h) (by kernel_rfl) ?_ ?_; rotate_left; · (intro wC hC; obtain _ := hC; go_simp <;> with_reducible rfl)
      refine wpC_done (by kernel_rfl) (by simp [go_sem, xx0, xx1, xx2, xx3, xx4, yy0, yy1, yy2, yy3, yy4]) ?_
      go_wp2
      go_roundw
      case measure => simp [intOf]
      case rel => exact ⟨cdrew (cset HB.out (by omega) _ _), (rowset_other GhX.out (by omega)), (rowset_other GhY.out (by omega)), (rowset_other GhR.out (by omega)), s0, s1, s2, s3, 0, c4, (rowset GhS.out 3 _).trans (by simp only [List.setIfInBounds_toArray, List.set_cons_zero, List.set_cons_succ]), rfl, .inr (.inr (.inr (.inr (.inl ⟨rfl, rfl, rfl, rfl, rfl, rfl, rfl⟩))))⟩
    · go_wp2
      refine wpC_region (fun W => W.cell? ⟨w.heap.size, 0, none⟩ = some (.int .u64 x0) ∧ W.cell? ⟨w.heap.size, 1, none⟩ = some (.int .u64 x1) ∧ W.cell? ⟨w.heap.size, 2, none⟩ = some (.int .u64 x2) ∧ W.cell? ⟨w.heap.size, 3, none⟩ = some (.int .u64 x3) ∧ W.cell? ⟨w.heap.size, 4, none⟩ = some (.int .u64 x4) ∧ W.cell? ⟨w.heap.size + 1, 0, none⟩ = some (.int .u64 y0) ∧ W.cell? ⟨w.heap.size + 1, 1, none⟩ = some (.int .u64 y1) ∧ W.cell? ⟨w.heap.size + 1, 2, none⟩ = some (.int .u64 y2) ∧ W.cell? ⟨w.heap.size + 1, 3, none⟩ = some (.int .u64 y3) ∧ W.cell? ⟨w.heap.size + 1, 4, none⟩ = some (.int .u64 y4)) (by kernel_rfl) ?_
      refine wpC_take 0 (v := ?_) rfl (by kernel_rfl) (fun _ _ _ h => h) (by kernel_rfl) ?_ ?_; rotate_left; · (intro wC hC; obtain ⟨d0, d1, d2, d3, d4, d5, d6, d7, d8, d9⟩ := hC; go_simp <;> with_reducible rfl)
      refine wpC_take 1 (v := ?_) rfl (by kernel_rfl) (fun _ _ _ h => h) (by kernel_rfl) ?_ ?_; rotate_left; · (intro wC hC; obtain ⟨d0, d1, d2, d3, d4, d5, d6, d7, d8, d9⟩ := hC; go_simp <;> with_reducible rfl)
      refine wpC_take 2 (v := ?_) rfl (by kernel_rfl) (fun _ _ _ h => h) (by kernel_rfl) ?_ ?_; rotate_left; · (intro wC hC; obtain ⟨d0, d1, d2, d3, d4, d5, d6, d7, d8, d9⟩ := hC; go_simp <;> with_reducible rfl)
      refine wpC_take 3 (v := ?_) rfl (by kernel_rfl) (fun _ _ _ h => h) (by kernel_rfl) ?_ ?_; rotate_left; · (intro wC hC; obtain ⟨d0, d1, d2, d3, d4, d5, d6, d7, d8, d9⟩ := hC; go_simp <;> with_reducible rfl)
      refine wpC_take 4 (v := ?_) rfl (by kernel_rfl) (fun _ _ _ h => h) (by kernel_rfl) ?_ ?_; rotate_left; · (intro wC hC; obtain ⟨d0, d1, d2, d3, d4, d5, d6, d7, d8, d9⟩ := hC; go_simp <;> with_reducible rfl)
      refine wpC_take 5 (v := ?_) rfl (by kernel_rfl) (fun _ _ _ h => h) (by kernel_rfl) ?_ ?_; rotate_left; · (intro wC hC; obtain ⟨d0, d1, d2, d3, d4, d5, d6, d7, d8, d9⟩ := hC; go_simp <;> with_reducible rfl)
      refine wpC_take 6 (v := ?_) rfl (by kernel_rfl) (fun _ _ _ h => h) (by kernel_rfl) ?_ ?_; rotate_left; · (intro wC hC; obtain ⟨d0, d1, d2, d3, d4, d5, d6, d7, d8, d9⟩ := hC; go_simp <;> with_reducible rfl)
      refine wpC_take 7 (v := ?_) rfl (by kernel_rfl) (fun _ _ _ h => h) (by kernel_rfl) ?_ ?_; rotate_left; · (intro wC hC; obtain ⟨d0, d1, d2, d3, d4, d5, d6, d7, d8, d9⟩ := hC; go_simp <;> with_reducible rfl)
      refine wpC_take 8 (v := ?_) rfl (by kernel_rfl) (fun _ _ _ h => h) (by kernel_rfl) ?_ ?_; rotate_left; · (intro wC hC; obtain ⟨d0, d1, d2, d3, d4, d5, d6, d7, d8, d9⟩ := hC; go_simp <;> with_reducible rfl)
      refine wpC_take 9 (v := ?_) rfl (by kernel_rfl) (fun _ _ _ h => h) (by kernel_rfl) ?_ ?_; rotate_left; · (intro wC hC; obtain ⟨d0, d1, d2, d3, d4, d5, d6, d7, d8, d9⟩ := hC; go_simp <;> with_reducible rfl)
      refine wpC_take 10 (v := ?_) rfl (by kernel_rfl) (fun _ _ _ h => h) (by kernel_rfl) ?_ ?_; rotate_left; · (intro wC hC; obtain ⟨d0, d1, d2, d3, d4, d5, d6, d7, d8, d9⟩ := hC; go_simp <;> with_reducible rfl)
      refine wpC_take 11 (v := ?_) rfl (by kernel_rfl) (fun _ _ _ h => h) (by kernel_rfl) ?_ ?_; rotate_left; · (intro wC hC; obtain ⟨d0, d1, d2, d3, d4, d5, d6, d7, d8, d9⟩ := hC; go_simp <;> with_reducible rfl)
      refine wpC_take 12 (v := ?_) rfl (by kernel_rfl) (fun _ _ _ h => h) (by kernel_rfl) ?_ ?_; rotate_left; · (intro wC hC; obtain ⟨d0, d1, d2, d3, d4, d5, d6, d7, d8, d9⟩ := hC; go_simp <;> with_reducible rfl)
      refine wpC_step 13 rfl (by kernel_rfl) (by kernel_rfl) ⟨xx0, xx1, xx2, xx3, xx4, yy0, yy1, yy2, yy3, yy4⟩ (fun K hK => ?_)
      go_simp
      try (refine hK _ _ ?_; clear hK K)
      refine wpC_take 14 (v := ?_) rfl (by kernel_rfl) (fun _ _ _ h => h) (by kernel_rfl) ?_ ?_; rotate_left; · (intro wC hC; obtain _ := hC; go_simp <;> with_reducible rfl)
      refine wpC_done (by kernel_rfl) (by simp [go_sem, xx0, xx1, xx2, xx3, xx4, yy0, yy1, yy2, yy3, yy4]) ?_
      go_wp2
      go_roundw
      case measure => simp [intOf]
      case rel => exact ⟨cdrew (cset HB.out (by omega) _ _), (rowset_other GhX.out (by omega)), (rowset_other GhY.out (by omega)), (rowset_other GhR.out (by omega)), s0, s1, s2, s3, s4, c5, (rowset GhS.out 4 _).trans (by simp only [List.setIfInBounds_toArray, List.set_cons_zero, List.set_cons_succ]), rfl, .inr (.inr (.inr (.inr (.inr ⟨rfl, rfl, rfl, rfl, rfl, rfl⟩))))⟩
    · have zw : w.heap.size + 3 < wr.heap.size := rowlt GhS.out
      go_wp2
      refine bodyPost_ret (v := w5V s0 s1 s2 s3 s4) (by simp [results, Try.results43, go_sem, tt0, tt1, tt2, tt3, tt4, bb0, bb1, bb2, bb3, bb4, tf, w5V]; done) rfl (hQ.out _ _ ⟨rfl, ?_⟩)
      exact cset5 HB.out (by omega)
set_option maxHeartbeats 4000000 in
theorem fminus_walk (x0 x1 x2 x3 x4 y0 y1 y2 y3 y4 s0 s1 s2 s3 s4 c1 c2 c3 c4 c5 : Nat)
    (r0 : ∀ w, (callFunc 64 #[.int .u64 x0, .int .u64 y0, .int .u64 0]).run Try.prog w = .ok (.value (.tuple #[.int .u64 s0, .int .u64 c1])) w)
    (r1 : ∀ w, (callFunc 64 #[.int .u64 x1, .int .u64 y1, .int .u64 c1]).run Try.prog w = .ok (.value (.tuple #[.int .u64 s1, .int .u64 c2])) w)
    (r2 : ∀ w, (callFunc 64 #[.int .u64 x2, .int .u64 y2, .int .u64 c2]).run Try.prog w = .ok (.value (.tuple #[.int .u64 s2, .int .u64 c3])) w)
    (r3 : ∀ w, (callFunc 64 #[.int .u64 x3, .int .u64 y3, .int .u64 c3]).run Try.prog w = .ok (.value (.tuple #[.int .u64 s3, .int .u64 c4])) w)
    (r4 : ∀ w, (callFunc 64 #[.int .u64 x4, .int .u64 y4, .int .u64 c4]).run Try.prog w = .ok (.value (.tuple #[.int .u64 s4, .int .u64 c5])) w) (w : World) :
    Calls Try.prog 44 #[w5V x0 x1 x2 x3 x4, w5V y0 y1 y2 y3 y4] w fun e w' => e = .returned (w5V s0 s1 s2 s3 s4) ∧ Below w.heap.size w w' := by
  unfold w5V
  have v0 : IntKind.i64.wrap 0 = 0 := rfl
  have v1 : IntKind.i64.wrap 1 = 1 := rfl
  have v2 : IntKind.i64.wrap 2 = 2 := rfl
  have v3 : IntKind.i64.wrap 3 = 3 := rfl
  have v4 : IntKind.i64.wrap 4 = 4 := rfl
  refine cps fun Q hQ => ?_
  go_enter Try.func44, Try.ntmps44
  go_wp2
  go_loopw [6, 7, 8] (fun cv _ iv wr => Hid (Below w.heap.size w wr) ∧ wr.heap[w.heap.size]? = some (.cells #[.int .u64 x0, .int .u64 x1, .int .u64 x2, .int .u64 x3, .int .u64 x4] 82 (0, 0)) ∧ wr.heap[w.heap.size + 1]? = some (.cells #[.int .u64 y0, .int .u64 y1, .int .u64 y2, .int .u64 y3, .int .u64 y4] 82 (0, 0)) ∧ wr.heap[w.heap.size + 2]? = some (.cells #[.int .u64 0, .int .u64 0, .int .u64 0, .int .u64 0, .int .u64 0] 82 (0, 0)) ∧ ∃ a0 a1 a2 a3 a4 c : Nat, wr.heap[w.heap.size + 3]? = some (.cells #[.int .u64 a0, .int .u64 a1, .int .u64 a2, .int .u64 a3, .int .u64 a4] 82 (0, 0)) ∧ cv = .int .u64 c ∧ ((iv = .int .i64 0 ∧ 0 = c ∧ 0 = a0 ∧ 0 = a1 ∧ 0 = a2 ∧ 0 = a3 ∧ 0 = a4) ∨ (iv = .int .i64 1 ∧ c1 = c ∧ s0 = a0 ∧ 0 = a1 ∧ 0 = a2 ∧ 0 = a3 ∧ 0 = a4) ∨ (iv = .int .i64 2 ∧ c2 = c ∧ s0 = a0 ∧ s1 = a1 ∧ 0 = a2 ∧ 0 = a3 ∧ 0 = a4) ∨ (iv = .int .i64 3 ∧ c3 = c ∧ s0 = a0 ∧ s1 = a1 ∧ s2 = a2 ∧ 0 = a3 ∧ 0 = a4) ∨ (iv = .int .i64 4 ∧ c4 = c ∧ s0 = a0 ∧ s1 = a1 ∧ s2 = a2 ∧ s3 = a3 ∧ 0 = a4) ∨ (iv = .int .i64 5 ∧ s0 = a0 ∧ s1 = a1 ∧ s2 = a2 ∧ s3 = a3 ∧ s4 = a4))) (fun _ _ iv _ => (5 - intOf iv).toNat)
  case atStart => exact ⟨cmore (cmore (cmore (cmore (Below.refl _ _) _) _) _) _, (Below.heap_alloc _ _ _ (by first | (simp; done) | (simp; omega))).trans ((Below.heap_alloc _ _ _ (by first | (simp; done) | (simp; omega))).trans ((Below.heap_alloc _ _ _ (by first | (simp; done) | (simp; omega))).trans (rownew' _ _ _ _ (by simp)))), (Below.heap_alloc _ _ _ (by first | (simp; done) | (simp; omega))).trans ((Below.heap_alloc _ _ _ (by first | (simp; done) | (simp; omega))).trans (rownew' _ _ _ _ (by simp))), (Below.heap_alloc _ _ _ (by first | (simp; done) | (simp; omega))).trans (rownew' _ _ _ _ (by simp)), 0, 0, 0, 0, 0, 0, rownew' _ _ _ _ (by simp), rfl, .inl ⟨rfl, rfl, rfl, rfl, rfl, rfl, rfl⟩⟩
  case round =>
    obtain ⟨hB, hX, hY, hR, a0, a1, a2, a3, a4, c, hS, rfl, hrel⟩ := hrel
    have HB : Hid (Below w.heap.size w wr) := hB.out
    have xx0 := rowcell hX 0
    have xx1 := rowcell hX 1
    have xx2 := rowcell hX 2
    have xx3 := rowcell hX 3
    have xx4 := rowcell hX 4
    have yy0 := rowcell hY 0
    have yy1 := rowcell hY 1
    have yy2 := rowcell hY 2
    have yy3 := rowcell hY 3
    have yy4 := rowcell hY 4
    have tt0 := rowcell hR 0
    have tt1 := rowcell hR 1
    have tt2 := rowcell hR 2
    have tt3 := rowcell hR 3
    have tt4 := rowcell hR 4
    have bb0 := rowcell hS 0
    have bb1 := rowcell hS 1
    have bb2 := rowcell hS 2
    have bb3 := rowcell hS 3
    have bb4 := rowcell hS 4
    have tf := rowfree hR
    have sf := rowfree hS
    simp only [List.getElem?_toArray, List.getElem?_cons_zero, List.getElem?_cons_succ] at xx0 xx1 xx2 xx3 xx4 yy0 yy1 yy2 yy3 yy4 tt0 tt1 tt2 tt3 tt4 bb0 bb1 bb2 bb3 bb4
    have GhX : Hid _ := hX
    have GhY : Hid _ := hY
    have GhR : Hid _ := hR
    have GhS : Hid _ := hS
    clear hX hY hR hS hB
    rcases hrel with ⟨rfl, rfl, rfl, rfl, rfl, rfl, rfl⟩ | ⟨rfl, rfl, rfl, rfl, rfl, rfl, rfl⟩ | ⟨rfl, rfl, rfl, rfl, rfl, rfl, rfl⟩ | ⟨rfl, rfl, rfl, rfl, rfl, rfl, rfl⟩ | ⟨rfl, rfl, rfl, rfl, rfl, rfl, rfl⟩ | ⟨rfl, rfl, rfl, rfl, rfl, rfl⟩
    · go_wp2
      refine wpC_region (fun W => W.cell? ⟨w.heap.size, 0, none⟩ = some (.int .u64 x0) ∧ W.cell? ⟨w.heap.size, 1, none⟩ = some (.int .u64 x1) ∧ W.cell? ⟨w.heap.size, 2, none⟩ = some (.int .u64 x2) ∧ W.cell? ⟨w.heap.size, 3, none⟩ = some (.int .u64 x3) ∧ W.cell? ⟨w.heap.size, 4, none⟩ = some (.int .u64 x4) ∧ W.cell? ⟨w.heap.size + 1, 0, none⟩ = some (.int .u64 y0) ∧ W.cell? ⟨w.heap.size + 1, 1, none⟩ = some (.int .u64 y1) ∧ W.cell? ⟨w.heap.size + 1, 2, none⟩ = some (.int .u64 y2) ∧ W.cell? ⟨w.heap.size + 1, 3, none⟩ = some (.int .u64 y3) ∧ W.cell? ⟨w.heap.size + 1, 4, none⟩ = some (.int .u64 y4)) (by kernel_rfl) ?_
      refine wpC_take 0 (v := ?_) rfl (by kernel_rfl) (fun _ _ _ h => h) (by kernel_rfl) ?_ ?_; rotate_left; · (intro wC hC; obtain ⟨d0, d1, d2, d3, d4, d5, d6, d7, d8, d9⟩ := hC; go_simp <;> with_reducible rfl)
      refine wpC_take 1 (v := ?_) rfl (by kernel_rfl) (fun _ _ _ h => h) (by kernel_rfl) ?_ ?_; rotate_left; · (intro wC hC; obtain ⟨d0, d1, d2, d3, d4, d5, d6, d7, d8, d9⟩ := hC; go_simp <;> with_reducible rfl)
      refine wpC_take 2 (v := ?_) rfl (by kernel_rfl) (fun _ _ _ h => h) (by kernel_rfl) ?_ ?_; rotate_left; · (intro wC hC; obtain ⟨d0, d1, d2, d3, d4, d5, d6, d7, d8, d9⟩ := hC; go_simp <;> with_reducible rfl)
      refine wpC_take 3 (v := ?_) rfl (by kernel_rfl) (fun _ _ _ h => h) (by kernel_rfl) ?_ ?_; rotate_left; · (intro wC hC; obtain ⟨d0, d1, d2, d3, d4, d5, d6, d7, d8, d9⟩ := hC; go_simp <;> with_reducible rfl)
      refine wpC_take 4 (v := ?_) rfl (by kernel_rfl) (fun _ _ _ h => h) (by kernel_rfl) ?_ ?_; rotate_left; · (intro wC hC; obtain ⟨d0, d1, d2, d3, d4, d5, d6, d7, d8, d9⟩ := hC; go_simp <;> with_reducible rfl)
      refine wpC_take 5 (v := ?_) rfl (by kernel_rfl) (fun _ _ _ h => h) (by kernel_rfl) ?_ ?_; rotate_left; · (intro wC hC; obtain ⟨d0, d1, d2, d3, d4, d5, d6, d7, d8, d9⟩ := hC; go_simp <;> with_reducible rfl)
      refine wpC_take 6 (v := ?_) rfl (by kernel_rfl) (fun _ _ _ h => h) (by kernel_rfl) ?_ ?_; rotate_left; · (intro wC hC; obtain ⟨d0, d1, d2, d3, d4, d5, d6, d7, d8, d9⟩ := hC; go_simp <;> with_reducible rfl)
      refine wpC_take 7 (v := ?_) rfl (by kernel_rfl) (fun _ _ _ h => h) (by kernel_rfl) ?_ ?_; rotate_left; · (intro wC hC; obtain ⟨d0, d1, d2, d3, d4, d5, d6, d7, d8, d9⟩ := hC; go_simp <;> with_reducible rfl)
      refine wpC_take 8 (v := ?_) rfl (by kernel_rfl) (fun _ _ _ h => h) (by kernel_rfl) ?_ ?_; rotate_left; · (intro wC hC; obtain ⟨d0, d1, d2, d3, d4, d5, d6, d7, d8, d9⟩ := hC; go_simp <;> with_reducible rfl)
      refine wpC_take 9 (v := ?_) rfl (by kernel_rfl) (fun _ _ _ h => h) (by kernel_rfl) ?_ ?_; rotate_left; · (intro wC hC; obtain ⟨d0, d1, d2, d3, d4, d5, d6, d7, d8, d9⟩ := hC; go_simp <;> with_reducible rfl)
      refine wpC_take 10 (v := ?_) rfl (by kernel_rfl) (fun _ _ _ h => h) (by kernel_rfl) ?_ ?_; rotate_left; · (intro wC hC; obtain ⟨d0, d1, d2, d3, d4, d5, d6, d7, d8, d9⟩ := hC; go_simp <;> with_reducible rfl)
      refine wpC_take 11 (v := ?_) rfl (by kernel_rfl) (fun _ _ _ h => h) (by kernel_rfl) ?_ ?_; rotate_left; · (intro wC hC; obtain ⟨d0, d1, d2, d3, d4, d5, d6, d7, d8, d9⟩ := hC; go_simp <;> with_reducible rfl)
      refine wpC_take 12 (v := ?_) rfl (by kernel_rfl) (fun _ _ _ h => h) (by kernel_rfl) ?_ ?_; rotate_left; · (intro wC hC; obtain ⟨d0, d1, d2, d3, d4, d5, d6, d7, d8, d9⟩ := hC; go_simp <;> with_reducible rfl)
      refine wpC_step 13 rfl (by kernel_rfl) (by kernel_rfl) ⟨xx0, xx1, xx2, xx3, xx4, yy0, yy1, yy2, yy3, yy4⟩ (fun K hK => ?_)
      go_simp
      try (refine hK _ _ ?_; clear hK K)
      refine wpC_take 14 (v := ?_) rfl (by kernel_rfl) (fun _ _ _ h => h) (by kernel_rfl) ?_ ?_; rotate_left; · (intro wC hC; obtain _ := hC; go_simp <;> with_reducible rfl)
      refine wpC_done (by kernel_rfl) (by simp [go_sem, xx0, xx1, xx2, xx3, xx4, yy0, yy1, yy2, yy3, yy4]) ?_
      go_wp2
      go_roundw
      case measure => simp [intOf]
      case rel => exact ⟨cdrew (cset HB.out (by omega) _ _), (rowset_other GhX.out (by omega)), (rowset_other GhY.out (by omega)), (rowset_other GhR.out (by omega)), s0, 0, 0, 0, 0, c1, (rowset GhS.out 0 _).trans (by simp only [List.setIfInBounds_toArray, List.set_cons_zero, List.set_cons_succ]), rfl, .inr (.inl ⟨rfl, rfl, rfl, rfl, rfl, rfl, rfl⟩)⟩
    · go_wp2
      refine wpC_region (fun W => W.cell? ⟨w.heap.size, 0, none⟩ = some (.int .u64 x0) ∧ W.cell? ⟨w.heap.size, 1, none⟩ = some (.int .u64 x1) ∧ W.cell? ⟨w.heap.size, 2, none⟩ = some (.int .u64 x2) ∧ W.cell? ⟨w.heap.size, 3, none⟩ = some (.int .u64 x3) ∧ W.cell? ⟨w.heap.size, 4, none⟩ = some (.int .u64 x4) ∧ W.cell? ⟨w.heap.size + 1, 0, none⟩ = some (.int .u64 y0) ∧ W.cell? ⟨w.heap.size + 1, 1, none⟩ = some (.int .u64 y1) ∧ W.cell? ⟨w.heap.size + 1, 2, none⟩ = some (.int .u64 y2) ∧ W.cell? ⟨w.heap.size + 1, 3, none⟩ = some (.int .u64 y3) ∧ W.cell? ⟨w.heap.size + 1, 4, none⟩ = some (.int .u64 y4)) (by kernel_rfl) ?_
      refine wpC_take 0 (v := ?_) rfl (by kernel_rfl) (fun _ _ _ h => h) (by kernel_rfl) ?_ ?_; rotate_left; · (intro wC hC; obtain ⟨d0, d1, d2, d3, d4, d5, d6, d7, d8, d9⟩ := hC; go_simp <;> with_reducible rfl)
      refine wpC_take 1 (v := ?_) rfl (by kernel_rfl) (fun _ _ _ h => h) (by kernel_rfl) ?_ ?_; rotate_left; · (intro wC hC; obtain ⟨d0, d1, d2, d3, d4, d5, d6, d7, d8, d9⟩ := hC; go_simp <;> with_reducible rfl)
      refine wpC_take 2 (v := ?_) rfl (by kernel_rfl) (fun _ _ _ h => h) (by kernel_rfl) ?_ ?_; rotate_left; · (intro wC hC; obtain ⟨d0, d1, d2, d3, d4, d5, d6, d7, d8, d9⟩ := hC; go_simp <;> with_reducible rfl)
      refine wpC_take 3 (v := ?_) rfl (by kernel_rfl) (fun _ _ _ h => h) (by kernel_rfl) ?_ ?_; rotate_left; · (intro wC hC; obtain ⟨d0, d1, d2, d3, d4, d5, d6, d7, d8, d9⟩ := hC; go_simp <;> with_reducible rfl)
      refine wpC_take 4 (v := ?_) rfl (by kernel_rfl) (fun _ _ _ h => h) (by kernel_rfl) ?_ ?_; rotate_left; · (intro wC hC; obtain ⟨d0, d1, d2, d3, d4, d5, d6, d7, d8, d9⟩ := hC; go_simp <;> with_reducible rfl)
      refine wpC_take 5 (v := ?_) rfl (by kernel_rfl) (fun _ _ _ h => h) (by kernel_rfl) ?_ ?_; rotate_left; · (intro wC hC; obtain ⟨d0, d1, d2, d3, d4, d5, d6, d7, d8, d9⟩ := hC; go_simp <;> with_reducible rfl)
      refine wpC_take 6 (v := ?_) rfl (by kernel_rfl) (fun _ _ _ h => h) (by kernel_rfl) ?_ ?_; rotate_left; · (intro wC hC; obtain ⟨d0, d1, d2, d3, d4, d5, d6, d7, d8, d9⟩ := hC; go_simp <;> with_reducible rfl)
      refine wpC_take 7 (v := ?_) rfl (by kernel_rfl) (fun _ _ _ h => h) (by kernel_rfl) ?_ ?_; rotate_left; · (intro wC hC; obtain ⟨d0, d1, d2, d3, d4, d5, d6, d7, d8, d9⟩ := hC; go_simp <;> with_reducible rfl)
      refine wpC_take 8 (v := ?_) rfl (by kernel_rfl) (fun _ _ _ h => h) (by kernel_rfl) ?_ ?_; rotate_left; · (intro wC hC; obtain ⟨d0, d1, d2, d3, d4, d5, d6, d7, d8, d9⟩ := hC; go_simp <;> with_reducible rfl)
      refine wpC_take 9 (v := ?_) rfl (by kernel_rfl) (fun _ _ _ h => h) (by kernel_rfl) ?_ ?_; rotate_left; · (intro wC hC; obtain ⟨d0, d1, d2, d3, d4, d5, d6, d7, d8, d9⟩ := hC; go_simp <;> with_reducible rfl)
      refine wpC_take 10 (v := ?_) rfl (by kernel_rfl) (fun _ _ _ h => h) (by kernel_rfl) ?_ ?_; rotate_left; · (intro wC hC; obtain ⟨d0, d1, d2, d3, d4, d5, d6, d7, d8, d9⟩ := hC; go_simp <;> with_reducible rfl)
      refine wpC_take 11 (v := ?_) rfl (by kernel_rfl) (fun _ _ _ h => h) (by kernel_rfl) ?_ ?_; rotate_left; · (intro wC hC; obtain ⟨d0, d1, d2, d3, d4, d5, d6, d7, d8, d9⟩ := hC; go_simp <;> with_reducible rfl)
      refine wpC_take 12 (v := ?_) rfl (by kernel_rfl) (fun _ _ _ h => h) (by kernel_rfl) ?_ ?_; rotate_left; · (intro wC hC; obtain ⟨d0, d1, d2, d3, d4, d5, d6, d7, d8, d9⟩ := hC; go_simp <;> with_reducible rfl)
      refine wpC_step 13 rfl (by kernel_rfl) (by kernel_rfl) ⟨xx0, xx1, xx2, xx3, xx4, yy0, yy1, yy2, yy3, yy4⟩ (fun K hK => ?_)
      go_simp
      try (refine hK _ _ ?_; clear hK K)
      refine wpC_take 14 (v := ?_) rfl (by kernel_rfl) (fun _ _ _ h => h) (by kernel_rfl) ?_ ?_; rotate_left; · (intro wC hC; obtain _ := hC; go_simp <;> with_reducible rfl)
      refine wpC_done (by kernel_rfl) (by simp [go_sem, xx0, xx1, xx2, xx3, xx4, yy0, yy1, yy2, yy3, yy4]) ?_
      go_wp2
      go_roundw
      case measure => simp [intOf]
      case rel => exact ⟨cdrew (cset HB.out (by omega) _ _), (rowset_other GhX.out (by omega)), (rowset_other GhY.out (by omega)), (rowset_other GhR.out (by omega)), s0, s1, 0, 0, 0, c2, (rowset GhS.out 1 _).trans (by simp only [List.setIfInBounds_toArray, List.set_cons_zero, List.set_cons_succ]), rfl, .inr (.inr (.inl ⟨rfl, rfl, rfl, rfl, rfl, rfl, rfl⟩))⟩
    · go_wp2
      refine wpC_region (fun W => W.cell? ⟨w.heap.size, 0, none⟩ = some (.int .u64 x0) ∧ W.cell? ⟨w.heap.size, 1, none⟩ = some (.int .u64 x1) ∧ W.cell? ⟨w.heap.size, 2, none⟩ = some (.int .u64 x2) ∧ W.cell? ⟨w.heap.size, 3, none⟩ = some (.int .u64 x3) ∧ W.cell? ⟨w.heap.size, 4, none⟩ = some (.int .u64 x4) ∧ W.cell? ⟨w.heap.size + 1, 0, none⟩ = some (.int .u64 y0) ∧ W.cell? ⟨w.heap.size + 1, 1, none⟩ = some (.int .u64 y1) ∧ W.cell? ⟨w.heap.size + 1, 2, none⟩ = some (.int .u64 y2) ∧ W.cell? ⟨w.heap.size + 1, 3, none⟩ = some (.int .u64 y3) ∧ W.cell? ⟨w.heap.size + 1, 4, none⟩ = some (.int .u64 y4)) (by kernel_rfl) ?_
      refine wpC_take 0 (v := ?_) rfl (by kernel_rfl) (fun _ _ _ h => h) (by kernel_rfl) ?_ ?_; rotate_left; · (intro wC hC; obtain ⟨d0, d1, d2, d3, d4, d5, d6, d7, d8, d9⟩ := hC; go_simp <;> with_reducible rfl)
      refine wpC_take 1 (v := ?_) rfl (by kernel_rfl) (fun _ _ _ h => h) (by kernel_rfl) ?_ ?_; rotate_left; · (intro wC hC; obtain ⟨d0, d1, d2, d3, d4, d5, d6, d7, d8, d9⟩ := hC; go_simp <;> with_reducible rfl)
      refine wpC_take 2 (v := ?_) rfl (by kernel_rfl) (fun _ _ _ h => h) (by kernel_rfl) ?_ ?_; rotate_left; · (intro wC hC; obtain ⟨d0, d1, d2, d3, d4, d5, d6, d7, d8, d9⟩ := hC; go_simp <;> with_reducible rfl)
      refine wpC_take 3 (v := ?_) rfl (by kernel_rfl) (fun _ _ _ h => h) (by kernel_rfl) ?_ ?_; rotate_left; · (intro wC hC; obtain ⟨d0, d1, d2, d3, d4, d5, d6, d7, d8, d9⟩ := hC; go_simp <;> with_reducible rfl)
      refine wpC_take 4 (v := ?_) rfl (by kernel_rfl) (fun _ _ _ h => h) (by kernel_rfl) ?_ ?_; rotate_left; · (intro wC hC; obtain ⟨d0, d1, d2, d3, d4, d5, d6, d7, d8, d9⟩ := hC; go_simp <;> with_reducible rfl)
      refine wpC_take 5 (v := ?_) rfl (by kernel_rfl) (fun _ _ _ h => h) (by kernel_rfl) ?_ ?_; rotate_left; · (intro wC hC; obtain ⟨d0, d1, d2, d3, d4, d5, d6, d7, d8, d9⟩ := hC; go_simp <;> with_reducible rfl)
      refine wpC_take 6 (v := ?_) rfl (by kernel_rfl) (fun _ _ _ h => h) (by kernel_rfl) ?_ ?_; rotate_left; · (intro wC hC; obtain ⟨d0, d1, d2, d3, d4, d5, d6, d7, d8, d9⟩ := hC; go_simp <;> with_reducible rfl)
      refine wpC_take 7 (v := ?_) rfl (by kernel_rfl) (fun _ _ _ h => h) (by kernel_rfl) ?_ ?_; rotate_left; · (intro wC hC; obtain ⟨d0, d1, d2, d3, d4, d5, d6, d7, d8, d9⟩ := hC; go_simp <;> with_reducible rfl)
      refine wpC_take 8 (v := ?_) rfl (by kernel_rfl) (fun _ _ _ h => h) (by kernel_rfl) ?_ ?_; rotate_left; · (intro wC hC; obtain ⟨d0, d1, d2, d3, d4, d5, d6, d7, d8, d9⟩ := hC; go_simp <;> with_reducible rfl)
      refine wpC_take 9 (v := ?_) rfl (by kernel_rfl) (fun _ _ _ h => h) (by kernel_rfl) ?_ ?_; rotate_left; · (intro wC hC; obtain ⟨d0, d1, d2, d3, d4, d5, d6, d7, d8, d9⟩ := hC; go_simp <;> with_reducible rfl)
      refine wpC_take 10 (v := ?_) rfl (by kernel_rfl) (fun _ _ _ h => h) (by kernel_rfl) ?_ ?_; rotate_left; · (intro wC hC; obtain ⟨d0, d1, d2, d3, d4, d5, d6, d7, d8, d9⟩ := hC; go_simp <;> with_reducible rfl)
      refine wpC_take 11 (v := ?_) rfl (by kernel_rfl) (fun _ _ _ h => h) (by kernel_rfl) ?_ ?_; rotate_left; · (intro wC hC; obtain ⟨d0, d1, d2, d3, d4, d5, d6, d7, d8, d9⟩ := hC; go_simp <;> with_reducible rfl)
      refine wpC_take 12 (v := ?_) rfl (by kernel_rfl) (fun _ _ _ h => h) (by kernel_rfl) ?_ ?_; rotate_left; · (intro wC hC; obtain ⟨d0, d1, d2, d3, d4, d5, d6, d7, d8, d9⟩ := hC; go_simp <;> with_reducible rfl)
      refine wpC_step 13 rfl (by kernel_rfl) (by kernel_rfl) ⟨xx0, xx1, xx2, xx3, xx4, yy0, yy1, yy2, yy3, yy4⟩ (fun K hK => ?_)
      go_simp
      try (refine hK _ _ ?_; clear hK K)
      refine wpC_take 14 (v := ?_) rfl (by kernel_rfl) (fun _ _ _ h => h) (by kernel_rfl) ?_ ?_; rotate_left; · (intro wC hC; obtain _ := hC; go_simp <;> with_reducible rfl)
      refine wpC_done (by kernel_rfl) (by simp [go_sem, xx0, xx1, xx2, xx3, xx4, yy0, yy1, yy2, yy3, yy4]) ?_
      go_wp2
      go_roundw
      case measure => simp [intOf]
      case rel => exact ⟨cdrew (cset HB.out (by omega) _ _), (rowset_other GhX.out (by omega)), (rowset_other GhY.out (by omega)), (rowset_other GhR.out (by omega)), s0, s1, s2, 0, 0, c3, (rowset GhS.out 2 _).trans (by simp only [List.setIfInBounds_toArray, List.set_cons_zero, List.set_cons_succ]), rfl, .inr (.inr (.inr (.inl ⟨rfl, rfl, rfl, rfl, rfl, rfl, rfl⟩)))⟩
    · go_wp2
      refine wpC_region (fun W => W.cell? ⟨w.heap.size, 0, none⟩ = some (.int .u64 x0) ∧ W.cell? ⟨w.heap.size, 1, none⟩ = some (.int .u64 x1) ∧ W.cell? ⟨w.heap.size, 2, none⟩ = some (.int .u64 x2) ∧ W.cell? ⟨w.heap.size, 3, none⟩ = some (.int .u64 x3) ∧ W.cell? ⟨w.heap.size, 4, none⟩ = some (.int .u64 x4) ∧ W.cell? ⟨w.heap.size + 1, 0, none⟩ = some (.int .u64 y0) ∧ W.cell? ⟨w.heap.size + 1, 1, none⟩ = some (.int .u64 y1) ∧ W.cell? ⟨w.heap.size + 1, 2, none⟩ = some (.int .u64 y2) ∧ W.cell? ⟨w.heap.size + 1, 3, none⟩ = some (.int .u64 y3) ∧ W.cell? ⟨w.heap.size + 1, 4, none⟩ = some (.int .u64 y4)) (by kernel_rfl) ?_
      refine wpC_take 0 (v := ?_) rfl (by kernel_rfl) (fun _ _ _ h => h) (by kernel_rfl) ?_ ?_; rotate_left; · (intro wC hC; obtain ⟨d0, d1, d2, d3, d4, d5, d6, d7, d8, d9⟩ := hC; go_simp <;> with_reducible rfl)
      refine wpC_take 1 (v := ?_) rfl (by kernel_rfl) (fun _ _ _ h => h) (by kernel_rfl) ?_ ?_; rotate_left; · (intro wC hC; obtain ⟨d0, d1, d2, d3, d4, d5, d6, d7, d8, d9⟩ := hC; go_simp <;> with_reducible rfl)
      refine wpC_take 2 (v := ?_) rfl (by kernel_rfl) (fun _ _ _ h => h) (by kernel_rfl) ?_ ?_; rotate_left; · (intro wC hC; obtain ⟨d0, d1, d2, d3, d4, d5, d6, d7, d8, d9⟩ := hC; go_simp <;> with_reducible rfl)
      refine wpC_take 3 (v := ?_) rfl (by kernel_rfl) (fun _ _ _ h => h) (by kernel_rfl) ?_ ?_; rotate_left; · (intro wC hC; obtain ⟨d0, d1, d2, d3, d4, d5, d6, d7, d8, d9⟩ := hC; go_simp <;> with_reducible rfl)
      refine wpC_take 4 (v := ?_) rfl (by kernel_rfl) (fun _ _ _ h => h) (by kernel_rfl) ?_ ?_; rotate_left; · (intro wC hC; obtain ⟨d0, d1, d2, d3, d4, d5, d6, d7, d8, d9⟩ := hC; go_simp <;> with_reducible rfl)
      refine wpC_take 5 (v := ?_) rfl (by kernel_rfl) (fun _ _ _ h => h) (by kernel_rfl) ?_ ?_; rotate_left; · (intro wC hC; obtain ⟨d0, d1, d2, d3, d4, d5, d6, d7, d8, d9⟩ := hC; go_simp <;> with_reducible rfl)
      refine wpC_take 6 (v := ?_) rfl (by kernel_rfl) (fun _ _ _ h => h) (by kernel_rfl) ?_ ?_; rotate_left; · (intro wC hC; obtain ⟨d0, d1, d2, d3, d4, d5, d6, d7, d8, d9⟩ := hC; go_simp <;> with_reducible rfl)
      refine wpC_take 7 (v := ?_) rfl (by kernel_rfl) (fun _ _ _ h => h) (by kernel_rfl) ?_ ?_; rotate_left; · (intro wC hC; obtain ⟨d0, d1, d2, d3, d4, d5, d6, d7, d8, d9⟩ := hC; go_simp <;> with_reducible rfl)
      refine wpC_take 8 (v := ?_) rfl (by kernel_rfl) (fun _ _ _ h => h) (by kernel_rfl) ?_ ?_; rotate_left; · (intro wC hC; obtain ⟨d0, d1, d2, d3, d4, d5, d6, d7, d8, d9⟩ := hC; go_simp <;> with_reducible rfl)
      refine wpC_take 9 (v := ?_) rfl (by kernel_rfl) (fun _ _ _ h => h) (by kernel_rfl) ?_ ?_; rotate_left; · (intro wC hC; obtain ⟨d0, d1, d2, d3, d4, d5, d6, d7, d8, d9⟩ := hC; go_simp <;> with_reducible rfl)
      refine wpC_take 10 (v := ?_) rfl (by kernel_rfl) (fun _ _ _ h => h) (by kernel_rfl) ?_ ?_; rotate_left; · (intro wC hC; obtain ⟨d0, d1, d2, d3, d4, d5, d6, d7, d8, d9⟩ := hC; go_simp <;> with_reducible rfl)
      refine wpC_take 11 (v := ?_) rfl (by kernel_rfl) (fun _ _ _ h => h) (by kernel_rfl) ?_ ?_; rotate_left; · (intro wC hC; obtain ⟨d0, d1, d2, d3, d4, d5, d6, d7, d8, d9⟩ := hC; go_simp <;> with_reducible rfl)
      refine wpC_take 12 (v := ?_) rfl (by kernel_rfl) (fun _ _ _ h => h) (by kernel_rfl) ?_ ?_; rotate_left; · (intro wC hC; obtain ⟨d0, d1, d2, d3, d4, d5, d6, d7, d8, d9⟩ := hC; go_simp <;> with_reducible rfl)
      refine wpC_step 13 rfl (by kernel_rfl) (by kernel_rfl) ⟨xx0, xx1, xx2, xx3, xx4, yy0, yy1, yy2, yy3, yy4⟩ (fun K hK => ?_)
      go_simp
      try (refine hK _ _ ?_; clear hK K)
      refine wpC_take 14 (v := ?_) rfl (by kernel_rfl) (fun _ _ _ h => h) (by kernel_rfl) ?_ ?_; rotate_left; · (intro wC hC; obtain _ := hC; go_simp <;> with_reducible rfl)
      refine wpC_done (by kernel_rfl) (by simp [go_sem, xx0, xx1, xx2, xx3, xx4, yy0, yy1, yy2, yy3, yy4]) ?_
      go_wp2
      go_roundw
      case measure => simp [intOf]
      case rel => exact ⟨cdrew (cset HB.out (by omega) _ _), (rowset_other GhX.out (by omega)), (rowset_other GhY.out (by omega)), (rowset_other GhR.out (by omega)), s0, s1, s2, s3, 0, c4, (rowset GhS.out 3 _).trans (by simp only [List.setIfInBounds_toArray, List.set_cons_zero, List.set_cons_succ]), rfl, .inr (.inr (.inr (.inr (.inl ⟨rfl, rfl, rfl, rfl, rfl, rfl, rfl⟩))))⟩
    · go_wp2
      refine wpC_region (fun W => W.cell? ⟨w.heap.size, 0, none⟩ = some (.int .u64 x0) ∧ W.cell? ⟨w.heap.size, 1, none⟩ = some (.int .u64 x1) ∧ W.cell? ⟨w.heap.size, 2, none⟩ = some (.int .u64 x2) ∧ W.cell? ⟨w.heap.size, 3, none⟩ = some (.int .u64 x3) ∧ W.cell? ⟨w.heap.size, 4, none⟩ = some (.int .u64 x4) ∧ W.cell? ⟨w.heap.size + 1, 0, none⟩ = some (.int .u64 y0) ∧ W.cell? ⟨w.heap.size + 1, 1, none⟩ = some (.int .u64 y1) ∧ W.cell? ⟨w.heap.size + 1, 2, none⟩ = some (.int .u64 y2) ∧ W.cell? ⟨w.heap.size + 1, 3, none⟩ = some (.int .u64 y3) ∧ W.cell? ⟨w.heap.size + 1, 4, none⟩ = some (.int .u64 y4)) (by kernel_rfl) ?_
      refine wpC_take 0 (v := ?_) rfl (by kernel_rfl) (fun _ _ _ h => h) (by kernel_rfl) ?_ ?_; rotate_left; · (intro wC hC; obtain ⟨d0, d1, d2, d3, d4, d5, d6, d7, d8, d9⟩ := hC; go_simp <;> with_reducible rfl)
      refine wpC_take 1 (v := ?_) rfl (by kernel_rfl) (fun _ _ _ h => h) (by kernel_rfl) ?_ ?_; rotate_left; · (intro wC hC; obtain ⟨d0, d1, d2, d3, d4, d5, d6, d7, d8, d9⟩ := hC; go_simp <;> with_reducible rfl)
      refine wpC_take 2 (v := ?_) rfl (by kernel_rfl) (fun _ _ _ h => h) (by kernel_rfl) ?_ ?_; rotate_left; · (intro wC hC; obtain ⟨d0, d1, d2, d3, d4, d5, d6, d7, d8, d9⟩ := hC; go_simp <;> with_reducible rfl)
      refine wpC_take 3 (v := ?_) rfl (by kernel_rfl) (fun _ _ _ h => h) (by kernel_rfl) ?_ ?_; rotate_left; · (intro wC hC; obtain ⟨d0, d1, d2, d3, d4, d5, d6, d7, d8, d9⟩ := hC; go_simp <;> with_reducible rfl)
      refine wpC_take 4 (v := ?_) rfl (by kernel_rfl) (fun _ _ _ h => h) (by kernel_rfl) ?_ ?_; rotate_left; · (intro wC hC; obtain ⟨d0, d1, d2, d3, d4, d5, d6, d7, d8, d9⟩ := hC; go_simp <;> with_reducible rfl)
      refine wpC_take 5 (v := ?_) rfl (by kernel_rfl) (fun _ _ _ h => h) (by kernel_rfl) ?_ ?_; rotate_left; · (intro wC hC; obtain ⟨d0, d1, d2, d3, d4, d5, d6, d7, d8, d9⟩ := hC; go_simp <;> with_reducible rfl)
      refine wpC_take 6 (v := ?_) rfl (by kernel_rfl) (fun _ _ _ h => h) (by kernel_rfl) ?_ ?_; rotate_left; · (intro wC hC; obtain ⟨d0, d1, d2, d3, d4, d5, d6, d7, d8, d9⟩ := hC; go_simp <;> with_reducible rfl)
      refine wpC_take 7 (v := ?_) rfl (by kernel_rfl) (fun _ _ _ h => h) (by kernel_rfl) ?_ ?_; rotate_left; · (intro wC hC; obtain ⟨d0, d1, d2, d3, d4, d5, d6, d7, d8, d9⟩ := hC; go_simp <;> with_reducible rfl)
      refine wpC_take 8 (v := ?_) rfl (by kernel_rfl) (fun _ _ _ h => h) (by kernel_rfl) ?_ ?_; rotate_left; · (intro wC hC; obtain ⟨d0, d1, d2, d3, d4, d5, d6, d7, d8, d9⟩ := hC; go_simp <;> with_reducible rfl)
      refine wpC_take 9 (v := ?_) rfl (by kernel_rfl) (fun _ _ _ h => h) (by kernel_rfl) ?_ ?_; rotate_left; · (intro wC hC; obtain ⟨d0, d1, d2, d3, d4, d5, d6, d7, d8, d9⟩ := hC; go_simp <;> with_reducible rfl)
      refine wpC_take 10 (v := ?_) rfl (by kernel_rfl) (fun _ _ _ h => h) (by kernel_rfl) ?_ ?_; rotate_left; · (intro wC hC; obtain ⟨d0, d1, d2, d3, d4, d5, d6, d7, d8, d9⟩ := hC; go_simp <;> with_reducible rfl)
      refine wpC_take 11 (v := ?_) rfl (by kernel_rfl) (fun _ _ _ h => h) (by kernel_rfl) ?_ ?_; rotate_left; · (intro wC hC; obtain ⟨d0, d1, d2, d3, d4, d5, d6, d7, d8, d9⟩ := hC; go_simp <;> with_reducible rfl)
      refine wpC_take 12 (v := ?_) rfl (by kernel_rfl) (fun _ _ _ h => h) (by kernel_rfl) ?_ ?_; rotate_left; · (intro wC hC; obtain ⟨d0, d1, d2, d3, d4, d5, d6, d7, d8, d9⟩ := hC; go_simp <;> with_reducible rfl)
      refine wpC_step 13 rfl (by kernel_rfl) (by kernel_rfl) ⟨xx0, xx1, xx2, xx3, xx4, yy0, yy1, yy2, yy3, yy4⟩ (fun K hK => ?_)
      go_simp
      try (refine hK _ _ ?_; clear hK K)
      refine wpC_take 14 (v := ?_) rfl (by kernel_rfl) (fun _ _ _ h => h) (by kernel_rfl) ?_ ?_; rotate_left; · (intro wC hC; obtain _ := hC; go_simp <;> with_reducible rfl)
      refine wpC_done (by kernel_rfl) (by simp [go_sem, xx0, xx1, xx2, xx3, xx4, yy0, yy1, yy2, yy3, yy4]) ?_
      go_wp2
      go_roundw
      case measure => simp [intOf]
      case rel => exact ⟨cdrew (cset HB.out (by omega) _ _), (rowset_other GhX.out (by omega)), (rowset_other GhY.out (by omega)), (rowset_other GhR.out (by omega)), s0, s1, s2, s3, s4, c5, (rowset GhS.out 4 _).trans (by simp only [List.setIfInBounds_toArray, List.set_cons_zero, List.set_cons_succ]), rfl, .inr (.inr (.inr (.inr (.inr ⟨rfl, rfl, rfl, rfl, rfl, rfl⟩))))⟩
    · have zw : w.heap.size + 3 < wr.heap.size := rowlt GhS.out
      go_wp2
      refine bodyPost_ret (v := w5V s0 s1 s2 s3 s4) (by simp [results, Try.results44, go_sem, tt0, tt1, tt2, tt3, tt4, bb0, bb1, bb2, bb3, bb4, tf, w5V]; done) rfl (hQ.out _ _ ⟨rfl, ?_⟩)
      exact cset5 HB.out (by omega)
theorem fplus_any {A B x0 x1 x2 x3 x4 y0 y1 y2 y3 y4 s0 s1 s2 s3 s4 : Nat} (ha : Q5 A x0 x1 x2 x3 x4) (hb : Q5 B y0 y1 y2 y3 y4) (hs : Q5 (A + B) s0 s1 s2 s3 s4) (w : World) :
    Calls Try.prog 43 #[w5V x0 x1 x2 x3 x4, w5V y0 y1 y2 y3 y4] w fun e w' => e = .returned (w5V s0 s1 s2 s3 s4) ∧ Below w.heap.size w w' := by
  obtain ⟨ea, a0, a1, a2, a3, a4⟩ := ha
  obtain ⟨eb, b0, b1, b2, b3, b4⟩ := hb
  have one : ∀ x y c : Nat, x ≤ 18446744073709551615 → y ≤ 18446744073709551615 → ∃ s d : Nat, s = (x + y + c) % 18446744073709551616 ∧ d = (x + y + c) / 18446744073709551616 ∧ s ≤ 18446744073709551615 ∧ x + y + c = s + d * 18446744073709551616 := by
    intro x y c hx hy
    exact ⟨_, _, rfl, rfl, by omega, by omega⟩
  obtain ⟨t0, d1, e0, f0, m0, u0⟩ := one x0 y0 0 a0 b0
  obtain ⟨t1, d2, e1, f1, m1, u1⟩ := one x1 y1 d1 a1 b1
  obtain ⟨t2, d3, e2, f2, m2, u2⟩ := one x2 y2 d2 a2 b2
  obtain ⟨t3, d4, e3, f3, m3, u3⟩ := one x3 y3 d3 a3 b3
  obtain ⟨t4, d5, e4, f4, m4, u4⟩ := one x4 y4 d4 a4 b4
  have r0 := run_add64_at x0 y0 0 (by omega)
  have r1 := run_add64_at x1 y1 d1 (by omega)
  have r2 := run_add64_at x2 y2 d2 (by omega)
  have r3 := run_add64_at x3 y3 d3 (by omega)
  have r4 := run_add64_at x4 y4 d4 (by omega)
  rw [← e0, ← f0] at r0
  rw [← e1, ← f1] at r1
  rw [← e2, ← f2] at r2
  rw [← e3, ← f3] at r3
  rw [← e4, ← f4] at r4
  clear e0 f0 e1 f1 e2 f2 e3 f3 e4 f4 one
  have hlt := hs.lt
  have q1 : Q5 (A + B) t0 t1 t2 t3 t4 := by
    clear r0 r1 r2 r3 r4 hs a0 a1 a2 a3 a4 b0 b1 b2 b3 b4
    obtain ⟨T, hT⟩ : ∃ T, T = t0 + t1 * 18446744073709551616 + t2 * 340282366920938463463374607431768211456 + t3 * 6277101735386680763835789423207666416102355444464034512896 + t4 * 115792089237316195423570985008687907853269984665640564039457584007913129639936 := ⟨_, rfl⟩
    have key : A + B = T + d5 * 2135987035920910082395021706169552114602704522356652769947041607822219725780640550022962086936576 := by
      clear m0 m1 m2 m3 m4 hlt
      omega
    refine ⟨?_, m0, m1, m2, m3, m4⟩
    rw [← hT]
    clear hT u0 u1 u2 u3 u4 ea eb m0 m1 m2 m3 m4
    omega
  obtain ⟨rfl, rfl, rfl, rfl, rfl⟩ := hs.one q1
  exact fplus_walk x0 x1 x2 x3 x4 y0 y1 y2 y3 y4 _ _ _ _ _ d1 d2 d3 d4 d5 r0 r1 r2 r3 r4 w
theorem fminus_any {A B x0 x1 x2 x3 x4 y0 y1 y2 y3 y4 s0 s1 s2 s3 s4 : Nat} (ha : Q5 A x0 x1 x2 x3 x4) (hb : Q5 B y0 y1 y2 y3 y4) (hle : B ≤ A) (hs : Q5 (A - B) s0 s1 s2 s3 s4) (w : World) :
    Calls Try.prog 44 #[w5V x0 x1 x2 x3 x4, w5V y0 y1 y2 y3 y4] w fun e w' => e = .returned (w5V s0 s1 s2 s3 s4) ∧ Below w.heap.size w w' := by
  obtain ⟨ea, a0, a1, a2, a3, a4⟩ := ha
  obtain ⟨eb, b0, b1, b2, b3, b4⟩ := hb
  have one : ∀ x y c : Nat, x ≤ 18446744073709551615 → y ≤ 18446744073709551615 → c ≤ 1 → ∃ s d : Nat, s = (x + 18446744073709551616 - y - c) % 18446744073709551616 ∧ d = (if x < y + c then 1 else 0) ∧ d ≤ 1 ∧ s ≤ 18446744073709551615 ∧ x + d * 18446744073709551616 = s + y + c := by
    intro x y c hx hy hc
    refine ⟨_, _, rfl, rfl, ?_, by omega, ?_⟩
    · split <;> omega
    · split <;> omega
  obtain ⟨t0, d1, e0, f0, l1, m0, u0⟩ := one x0 y0 0 a0 b0 (by omega)
  obtain ⟨t1, d2, e1, f1, l2, m1, u1⟩ := one x1 y1 d1 a1 b1 l1
  obtain ⟨t2, d3, e2, f2, l3, m2, u2⟩ := one x2 y2 d2 a2 b2 l2
  obtain ⟨t3, d4, e3, f3, l4, m3, u3⟩ := one x3 y3 d3 a3 b3 l3
  obtain ⟨t4, d5, e4, f4, l5, m4, u4⟩ := one x4 y4 d4 a4 b4 l4
  have r0 := run_sub64_at x0 y0 0 (by omega)
  have r1 := run_sub64_at x1 y1 d1 l1
  have r2 := run_sub64_at x2 y2 d2 l2
  have r3 := run_sub64_at x3 y3 d3 l3
  have r4 := run_sub64_at x4 y4 d4 l4
  rw [← e0, ← f0] at r0
  rw [← e1, ← f1] at r1
  rw [← e2, ← f2] at r2
  rw [← e3, ← f3] at r3
  rw [← e4, ← f4] at r4
  clear e0 f0 e1 f1 e2 f2 e3 f3 e4 f4 one
  have q1 : Q5 (A - B) t0 t1 t2 t3 t4 := by
    clear r0 r1 r2 r3 r4 hs a0 a1 a2 a3 a4 b0 b1 b2 b3 b4
    obtain ⟨T, hT⟩ : ∃ T, T = t0 + t1 * 18446744073709551616 + t2 * 340282366920938463463374607431768211456 + t3 * 6277101735386680763835789423207666416102355444464034512896 + t4 * 115792089237316195423570985008687907853269984665640564039457584007913129639936 := ⟨_, rfl⟩
    have key : A + d5 * 2135987035920910082395021706169552114602704522356652769947041607822219725780640550022962086936576 = T + B := by
      clear l1 l2 l3 l4 l5 m0 m1 m2 m3 m4 hle
      omega
    have hTl : T < 2135987035920910082395021706169552114602704522356652769947041607822219725780640550022962086936576 := by
      clear key u0 u1 u2 u3 u4 ea eb
      omega
    refine ⟨?_, m0, m1, m2, m3, m4⟩
    rw [← hT]
    clear hT u0 u1 u2 u3 u4 ea eb m0 m1 m2 m3 m4
    omega
  obtain ⟨rfl, rfl, rfl, rfl, rfl⟩ := hs.one q1
  exact fminus_walk x0 x1 x2 x3 x4 y0 y1 y2 y3 y4 _ _ _ _ _ d1 d2 d3 d4 d5 r0 r1 r2 r3 r4 w
end Go.Proofs.Ytheliihkkoohnab

namespace Go.Proofs.Ytheliihkkoohnab
open Go.ChangeShapes Go.WideShapes Go.ChangeAt Go.RowKit
set_option linter.unusedVariables false
set_option linter.unusedSimpArgs false
set_option maxRecDepth 100000

/-! ### a number shifted up till its highest bit is 1 -/
set_option maxHeartbeats 8000000 in
theorem frisen_any {n a b c d f a' b' c' d' f' k : Nat} (h : Q5 n a b c d f) (hn : n ≠ 0) (hk : k + blen n = 320) (h' : Q5 (n * 2 ^ k) a' b' c' d' f') (w : World) :
    Calls Try.prog 45 #[w5V a b c d f] w fun e w' => e = .returned (.tuple #[w5V a' b' c' d' f', .int .i64 k]) ∧ Below w.heap.size w w' := by
  unfold w5V
  have HN : Hid (n ≠ 0 ∧ k + blen n = 320 ∧ Q5 (n * 2 ^ k) a' b' c' d' f') := ⟨hn, hk, h'⟩
  have HW : Hid (Q5 n a b c d f) := h
  have v0 : IntKind.i64.wrap 0 = 0 := rfl
  have v1 : IntKind.i64.wrap 1 = 1 := rfl
  have v2 : IntKind.i64.wrap 2 = 2 := rfl
  have v3 : IntKind.i64.wrap 3 = 3 := rfl
  have v4 : IntKind.i64.wrap 4 = 4 := rfl
  clear h hn hk h'
  refine cps fun Q hQ => ?_
  go_enter Try.func45, Try.ntmps45
  go_wp2
  go_loopw [4] (fun kv wr => Hid (Below w.heap.size w wr) ∧ wr.heap[w.heap.size + 1]? = some (.cells #[.int .u64 0, .int .u64 0, .int .u64 0, .int .u64 0, .int .u64 0] 82 (0, 0)) ∧
    ∃ p q r s u j : Nat, wr.heap[w.heap.size]? = some (.cells #[.int .u64 p, .int .u64 q, .int .u64 r, .int .u64 s, .int .u64 u] 82 (0, 0)) ∧ kv = .int .i64 j ∧ j ≤ 319 ∧ Hid (Q5 (n * 2 ^ j) p q r s u)) (fun kv _ => (320 - intOf kv).toNat)
  case atStart => exact ⟨cmore (cmore (Below.refl _ _) _) _, rownew' _ _ _ _ (by simp), a, b, c, d, f, 0, (Below.heap_alloc _ _ _ (by first | (simp; done) | (simp; omega))).trans (rownew' _ _ _ _ (by simp)), rfl, Nat.zero_le _, by rw [Nat.pow_zero, Nat.mul_one]; exact HW.out⟩
  case round =>
    obtain ⟨hB, hR, p, q, r, s, u, j, hX, rfl, hj, hq⟩ := hrel
    have HB : Hid (Below w.heap.size w wr) := hB.out
    have xx0 := rowcell hX 0
    have xx1 := rowcell hX 1
    have xx2 := rowcell hX 2
    have xx3 := rowcell hX 3
    have xx4 := rowcell hX 4
    have xf := rowfree hX
    have tt0 := rowcell hR 0
    have tt1 := rowcell hR 1
    have tt2 := rowcell hR 2
    have tt3 := rowcell hR 3
    have tt4 := rowcell hR 4
    have tf := rowfree hR
    simp only [List.getElem?_toArray, List.getElem?_cons_zero, List.getElem?_cons_succ] at xx0 xx1 xx2 xx3 xx4 tt0 tt1 tt2 tt3 tt4
    have GX : Hid _ := hX
    have GR : Hid _ := hR
    clear hX hR hB
    by_cases h0 : u = 0
    · subst h0
      have hj2 : j ≤ 255 := by
        obtain ⟨e, a0, a1, a2, a3, a4⟩ := hq.out
        have h1 : n * 2 ^ j < 2 ^ 256 := by rw [show (2 : Nat) ^ 256 = 115792089237316195423570985008687907853269984665640564039457584007913129639936 by decide]; omega
        have h2 : 2 ^ j ≤ n * 2 ^ j := Nat.le_mul_of_pos_left _ (Nat.pos_of_ne_zero HN.out.1)
        have h3 : j < 256 := (Nat.pow_lt_pow_iff_right (by decide : 1 < 2)).1 (Nat.lt_of_le_of_lt h2 h1)
        omega
      have hnew : Q5 (n * 2 ^ (j + 64)) 0 p q r s := by
        obtain ⟨e, a0, a1, a2, a3, a4⟩ := hq.out
        refine ⟨?_, by omega, by omega, by omega, by omega, by omega⟩
        rw [Nat.pow_add, ← Nat.mul_assoc, e, show (2 : Nat) ^ 64 = 18446744073709551616 by decide]
        omega
      have HNew : Hid (Q5 (n * 2 ^ (j + 64)) 0 p q r s) := hnew
      clear hnew
      go_wp2
      go_roundw
      case measure => simp [intOf]; omega
      case rel => exact ⟨cset5 HB.out (Nat.le_refl _), row5_other GR.out (by omega), 0, p, q, r, s, j + 64, row5 GX.out, by go_num, by omega, HNew.out⟩
    · obtain ⟨few, G, A1, A2, A3, A4, B1, B2, B3, B4, n0, n1, n2, n3, n4, f1, f2, f3, f4, f5, e0, e1, e2, e3, e4, g1, g2, g3, g4, o1, o2, o3, o4⟩ := risen5_facts hq.out h0
      have hs0 : ((u : Int) == 0) = false := beq_eq_false_iff_ne.2 (by omega)
      have k1 := mlz_any u hq.out.h4
      rw [f3] at k1
      have fG : IntKind.i64.wrap (64 - (few : Int)) = (G : Int) := by rw [wrapI (by omega)]; omega
      have mf : min few 64 = few := by omega
      have mg : min G 64 = G := by omega
      rw [← mf] at e0 e1 e2 e3 e4
      rw [← mg] at g1 g2 g3 g4
      clear mf mg
      have fg0 : (0 : Int) ≤ (few : Int) := Int.natCast_nonneg _
      have fg1 : (0 : Int) ≤ (G : Int) := Int.natCast_nonneg _
      have HF : Hid (few + G = 64 ∧ few ≤ 63 ∧ blen (n * 2 ^ j) + few = 320 ∧ Q5 (n * 2 ^ j * 2 ^ few) n0 n1 n2 n3 n4) := ⟨f1, f2, f4, f5⟩
      have hsum : IntKind.i64.wrap ((j : Int) + (few : Int)) = ((j + few : Nat) : Int) := by rw [wrapI (by omega)]; omega
      clear f1 f2 f3 f4 f5 h0
      go_wp2_with (go_at_call 56; go_must (refine (k1 _).mono ?_); rintro e w' ⟨rfl, hw'⟩; rw [hw']; clear hw' w')
      obtain ⟨wo, hwo⟩ : ∃ wo : World, wo = wr := ⟨_, rfl⟩
      rw [← hwo] at HB GR
      have hB2 : Hid (Below w.heap.size wo wr) := by show Below _ _ _; rw [hwo]; exact Below.refl _ _
      have hR2 : Hid (wr.heap[w.heap.size + 1]? = some (.cells #[.int .u64 0, .int .u64 0, .int .u64 0, .int .u64 0, .int .u64 0] 82 (0, 0))) := by show _ = _; rw [← hwo]; exact GR.out
      have hX2 := GX.out
      have HJ : Hid (Q5 (n * 2 ^ j) p q r s u) := hq.out
      have zo : w.heap.size < wo.heap.size := by have := rowlt GR.out; omega
      clear GX xx0 xx1 xx2 xx3 xx4 tt0 tt1 tt2 tt3 tt4 xf tf hq hwo
      go_loopw [6] (fun iv wr => Hid (Below w.heap.size wo wr) ∧ ∃ y0 y1 y2 y3 y4 : Nat, wr.heap[w.heap.size]? = some (.cells #[.int .u64 y0, .int .u64 y1, .int .u64 y2, .int .u64 y3, .int .u64 y4] 82 (0, 0)) ∧ wr.heap[w.heap.size + 1]? = some (.cells #[.int .u64 0, .int .u64 0, .int .u64 0, .int .u64 0, .int .u64 0] 82 (0, 0)) ∧ ((iv = .int .i64 4 ∧ p = y0 ∧ q = y1 ∧ r = y2 ∧ s = y3 ∧ u = y4) ∨ (iv = .int .i64 3 ∧ p = y0 ∧ q = y1 ∧ r = y2 ∧ s = y3 ∧ n4 = y4) ∨ (iv = .int .i64 2 ∧ p = y0 ∧ q = y1 ∧ r = y2 ∧ n3 = y3 ∧ n4 = y4) ∨ (iv = .int .i64 1 ∧ p = y0 ∧ q = y1 ∧ n2 = y2 ∧ n3 = y3 ∧ n4 = y4) ∨ (iv = .int .i64 0 ∧ p = y0 ∧ n1 = y1 ∧ n2 = y2 ∧ n3 = y3 ∧ n4 = y4))) (fun iv _ => (intOf iv).toNat)
      case atStart => exact ⟨hB2.out, p, q, r, s, u, hX2, hR2.out, .inl ⟨rfl, rfl, rfl, rfl, rfl, rfl⟩⟩
      case round =>
        obtain ⟨hB3, y0, y1, y2, y3, y4, hX3, hR3, hrel⟩ := hrel
        have HB3 : Hid (Below w.heap.size wo wr) := hB3.out
        have xx0 := rowcell hX3 0
        have xx1 := rowcell hX3 1
        have xx2 := rowcell hX3 2
        have xx3 := rowcell hX3 3
        have xx4 := rowcell hX3 4
        have tt0 := rowcell hR3 0
        have tt1 := rowcell hR3 1
        have tt2 := rowcell hR3 2
        have tt3 := rowcell hR3 3
        have tt4 := rowcell hR3 4
        have xf := rowfree hX3
        have tf := rowfree hR3
        simp only [List.getElem?_toArray, List.getElem?_cons_zero, List.getElem?_cons_succ] at xx0 xx1 xx2 xx3 xx4 tt0 tt1 tt2 tt3 tt4
        have GX3 : Hid _ := hX3
        have GR3 : Hid _ := hR3
        clear hX3 hR3 hB3 hX2
        rcases hrel with ⟨rfl, rfl, rfl, rfl, rfl, rfl⟩ | ⟨rfl, rfl, rfl, rfl, rfl, rfl⟩ | ⟨rfl, rfl, rfl, rfl, rfl, rfl⟩ | ⟨rfl, rfl, rfl, rfl, rfl, rfl⟩ | ⟨rfl, rfl, rfl, rfl, rfl, rfl⟩
        · go_wp2
          refine wpC_region (fun W => W.cell? ⟨w.heap.size, 3, none⟩ = some (.int .u64 s)) (by kernel_rfl) ?_
          refine wpC_take 0 (v := ?_) rfl (by kernel_rfl) (fun _ _ _ h => h) (by kernel_rfl) ?_ ?_; rotate_left; · (intro wC hC; obtain d0 := hC; go_simp <;> with_reducible rfl)
          refine wpC_take 1 (v := ?_) rfl (by kernel_rfl) (fun _ _ _ h => h) (by kernel_rfl) ?_ ?_; rotate_left; · (intro wC hC; obtain d0 := hC; go_simp <;> with_reducible rfl)
          refine wpC_take 2 (v := ?_) rfl (by kernel_rfl) (fun _ _ _ h => h) (by kernel_rfl) ?_ ?_; rotate_left; · (intro wC hC; obtain d0 := hC; go_simp <;> with_reducible rfl)
          refine wpC_take 4 (v := ?_) rfl (by kernel_rfl) (fun _ _ _ h => h) (by kernel_rfl) ?_ ?_; rotate_left; · (intro wC hC; obtain d0 := hC; go_simp <;> with_reducible rfl)
          refine wpC_take 6 (v := ?_) rfl (by kernel_rfl) (fun _ _ _ h => h) (by kernel_rfl) ?_ ?_; rotate_left; · (intro wC hC; obtain d0 := hC; go_simp <;> with_reducible rfl)
          refine wpC_take 7 (v := ?_) rfl (by kernel_rfl) (fun _ _ _ h => h) (by kernel_rfl) ?_ ?_; rotate_left; · (intro wC hC; obtain d0 := hC; go_simp <;> with_reducible rfl)
          refine wpC_take 8 (v := ?_) rfl (by kernel_rfl) (fun _ _ _ h => h) (by kernel_rfl) ?_ ?_; rotate_left; · (intro wC hC; obtain d0 := hC; go_simp <;> with_reducible rfl)
          refine wpC_take 9 (v := ?_) rfl (by kernel_rfl) (fun _ _ _ h => h) (by kernel_rfl) ?_ ?_; rotate_left; · (intro wC hC; obtain d0 := hC; go_simp <;> with_reducible rfl)
          refine wpC_take 10 (v := ?_) rfl (by kernel_rfl) (fun _ _ _ h => h) (by kernel_rfl) ?_ ?_; rotate_left; · (intro wC hC; obtain d0 := hC; go_simp <;> with_reducible rfl)
          refine wpC_take 11 (v := ?_) rfl (by kernel_rfl) (fun _ _ _ h => h) (by kernel_rfl) ?_ ?_; rotate_left; · (intro wC hC; obtain d0 := hC; go_simp <;> with_reducible rfl)
          refine wpC_take 12 (v := ?_) rfl (by kernel_rfl) (fun _ _ _ h => h) (by kernel_rfl) ?_ ?_; rotate_left; · (intro wC hC; obtain d0 := hC; go_simp <;> with_reducible rfl)
          refine wpC_step 3 rfl (by kernel_rfl) (by kernel_rfl) xx3 (fun K hK => ?_)
          go_simp
          try (refine hK _ _ ?_; clear hK K)
          refine wpC_take 5 (v := ?_) rfl (by kernel_rfl) (fun _ _ _ h => h) (by kernel_rfl) ?_ ?_; rotate_left; · (intro wC hC; obtain d0 := hC; go_simp <;> with_reducible rfl)
          refine wpC_take 13 (v := ?_) rfl (by kernel_rfl) (fun _ _ _ h => h) (by kernel_rfl) ?_ ?_; rotate_left; · (intro wC hC; obtain d0 := hC; go_simp <;> with_reducible rfl)
          refine wpC_take 14 (v := ?_) rfl (by kernel_rfl) (fun _ _ _ h => h) (by kernel_rfl) ?_ ?_; rotate_left; · (intro wC hC; obtain d0 := hC; go_simp <;> with_reducible rfl)
          refine wpC_step 15 rfl (by kernel_rfl) (by kernel_rfl) xx3 (fun K hK => ?_)
          go_simp
          try (refine hK _ _ ?_; clear hK K)
          refine wpC_done (by kernel_rfl) (by simp [go_sem, xx3]) ?_
          go_wp2
          go_roundw
          case measure => simp [intOf]
          case rel => exact ⟨(HB3.out.setCell (Nat.le_refl _) _).drew, p, q, r, s, n4, (rowset GX3.out 4 _).trans (by simp only [List.setIfInBounds_toArray, List.set_cons_zero, List.set_cons_succ]), rowset_other GR3.out (by omega), .inr (.inl ⟨rfl, rfl, rfl, rfl, rfl, rfl⟩)⟩
        · go_wp2
          refine wpC_region (fun W => W.cell? ⟨w.heap.size, 2, none⟩ = some (.int .u64 r)) (by kernel_rfl) ?_
          refine wpC_take 0 (v := ?_) rfl (by kernel_rfl) (fun _ _ _ h => h) (by kernel_rfl) ?_ ?_; rotate_left; · (intro wC hC; obtain d0 := hC; go_simp <;> with_reducible rfl)
          refine wpC_take 1 (v := ?_) rfl (by kernel_rfl) (fun _ _ _ h => h) (by kernel_rfl) ?_ ?_; rotate_left; · (intro wC hC; obtain d0 := hC; go_simp <;> with_reducible rfl)
          refine wpC_take 2 (v := ?_) rfl (by kernel_rfl) (fun _ _ _ h => h) (by kernel_rfl) ?_ ?_; rotate_left; · (intro wC hC; obtain d0 := hC; go_simp <;> with_reducible rfl)
          refine wpC_take 4 (v := ?_) rfl (by kernel_rfl) (fun _ _ _ h => h) (by kernel_rfl) ?_ ?_; rotate_left; · (intro wC hC; obtain d0 := hC; go_simp <;> with_reducible rfl)
          refine wpC_take 6 (v := ?_) rfl (by kernel_rfl) (fun _ _ _ h => h) (by kernel_rfl) ?_ ?_; rotate_left; · (intro wC hC; obtain d0 := hC; go_simp <;> with_reducible rfl)
          refine wpC_take 7 (v := ?_) rfl (by kernel_rfl) (fun _ _ _ h => h) (by kernel_rfl) ?_ ?_; rotate_left; · (intro wC hC; obtain d0 := hC; go_simp <;> with_reducible rfl)
          refine wpC_take 8 (v := ?_) rfl (by kernel_rfl) (fun _ _ _ h => h) (by kernel_rfl) ?_ ?_; rotate_left; · (intro wC hC; obtain d0 := hC; go_simp <;> with_reducible rfl)
          refine wpC_take 9 (v := ?_) rfl (by kernel_rfl) (fun _ _ _ h => h) (by kernel_rfl) ?_ ?_; rotate_left; · (intro wC hC; obtain d0 := hC; go_simp <;> with_reducible rfl)
          refine wpC_take 10 (v := ?_) rfl (by kernel_rfl) (fun _ _ _ h => h) (by kernel_rfl) ?_ ?_; rotate_left; · (intro wC hC; obtain d0 := hC; go_simp <;> with_reducible rfl)
          refine wpC_take 11 (v := ?_) rfl (by kernel_rfl) (fun _ _ _ h => h) (by kernel_rfl) ?_ ?_; rotate_left; · (intro wC hC; obtain d0 := hC; go_simp <;> with_reducible rfl)
          refine wpC_take 12 (v := ?_) rfl (by kernel_rfl) (fun _ _ _ h => h) (by kernel_rfl) ?_ ?_; rotate_left; · (intro wC hC; obtain d0 := hC; go_simp <;> with_reducible rfl)
          refine wpC_step 3 rfl (by kernel_rfl) (by kernel_rfl) xx2 (fun K hK => ?_)
          go_simp
          try (refine hK _ _ ?_; clear hK K)
          refine wpC_take 5 (v := ?_) rfl (by kernel_rfl) (fun _ _ _ h => h) (by kernel_rfl) ?_ ?_; rotate_left; · (intro wC hC; obtain d0 := hC; go_simp <;> with_reducible rfl)
          refine wpC_take 13 (v := ?_) rfl (by kernel_rfl) (fun _ _ _ h => h) (by kernel_rfl) ?_ ?_; rotate_left; · (intro wC hC; obtain d0 := hC; go_simp <;> with_reducible rfl)
          refine wpC_take 14 (v := ?_) rfl (by kernel_rfl) (fun _ _ _ h => h) (by kernel_rfl) ?_ ?_; rotate_left; · (intro wC hC; obtain d0 := hC; go_simp <;> with_reducible rfl)
          refine wpC_step 15 rfl (by kernel_rfl) (by kernel_rfl) xx2 (fun K hK => ?_)
          go_simp
          try (refine hK _ _ ?_; clear hK K)
          refine wpC_done (by kernel_rfl) (by simp [go_sem, xx2]) ?_
          go_wp2
          go_roundw
          case measure => simp [intOf]
          case rel => exact ⟨(HB3.out.setCell (Nat.le_refl _) _).drew, p, q, r, n3, n4, (rowset GX3.out 3 _).trans (by simp only [List.setIfInBounds_toArray, List.set_cons_zero, List.set_cons_succ]), rowset_other GR3.out (by omega), .inr (.inr (.inl ⟨rfl, rfl, rfl, rfl, rfl, rfl⟩))⟩
        · go_wp2
          refine wpC_region (fun W => W.cell? ⟨w.heap.size, 1, none⟩ = some (.int .u64 q)) (by kernel_rfl) ?_
          refine wpC_take 0 (v := ?_) rfl (by kernel_rfl) (fun _ _ _ h => h) (by kernel_rfl) ?_ ?_; rotate_left; · (intro wC hC; obtain d0 := hC; go_simp <;> with_reducible rfl)
          refine wpC_take 1 (v := ?_) rfl (by kernel_rfl) (fun _ _ _ h => h) (by kernel_rfl) ?_ ?_; rotate_left; · (intro wC hC; obtain d0 := hC; go_simp <;> with_reducible rfl)
          refine wpC_take 2 (v := ?_) rfl (by kernel_rfl) (fun _ _ _ h => h) (by kernel_rfl) ?_ ?_; rotate_left; · (intro wC hC; obtain d0 := hC; go_simp <;> with_reducible rfl)
          refine wpC_take 4 (v := ?_) rfl (by kernel_rfl) (fun _ _ _ h => h) (by kernel_rfl) ?_ ?_; rotate_left; · (intro wC hC; obtain d0 := hC; go_simp <;> with_reducible rfl)
          refine wpC_take 6 (v := ?_) rfl (by kernel_rfl) (fun _ _ _ h => h) (by kernel_rfl) ?_ ?_; rotate_left; · (intro wC hC; obtain d0 := hC; go_simp <;> with_reducible rfl)
          refine wpC_take 7 (v := ?_) rfl (by kernel_rfl) (fun _ _ _ h => h) (by kernel_rfl) ?_ ?_; rotate_left; · (intro wC hC; obtain d0 := hC; go_simp <;> with_reducible rfl)
          refine wpC_take 8 (v := ?_) rfl (by kernel_rfl) (fun _ _ _ h => h) (by kernel_rfl) ?_ ?_; rotate_left; · (intro wC hC; obtain d0 := hC; go_simp <;> with_reducible rfl)
          refine wpC_take 9 (v := ?_) rfl (by kernel_rfl) (fun _ _ _ h => h) (by kernel_rfl) ?_ ?_; rotate_left; · (intro wC hC; obtain d0 := hC; go_simp <;> with_reducible rfl)
          refine wpC_take 10 (v := ?_) rfl (by kernel_rfl) (fun _ _ _ h => h) (by kernel_rfl) ?_ ?_; rotate_left; · (intro wC hC; obtain d0 := hC; go_simp <;> with_reducible rfl)
          refine wpC_take 11 (v := ?_) rfl (by kernel_rfl) (fun _ _ _ h => h) (by kernel_rfl) ?_ ?_; rotate_left; · (intro wC hC; obtain d0 := hC; go_simp <;> with_reducible rfl)
          refine wpC_take 12 (v := ?_) rfl (by kernel_rfl) (fun _ _ _ h => h) (by kernel_rfl) ?_ ?_; rotate_left; · (intro wC hC; obtain d0 := hC; go_simp <;> with_reducible rfl)
          refine wpC_step 3 rfl (by kernel_rfl) (by kernel_rfl) xx1 (fun K hK => ?_)
          go_simp
          try (refine hK _ _ ?_; clear hK K)
          refine wpC_take 5 (v := ?_) rfl (by kernel_rfl) (fun _ _ _ h => h) (by kernel_rfl) ?_ ?_; rotate_left; · (intro wC hC; obtain d0 := hC; go_simp <;> with_reducible rfl)
          refine wpC_take 13 (v := ?_) rfl (by kernel_rfl) (fun _ _ _ h => h) (by kernel_rfl) ?_ ?_; rotate_left; · (intro wC hC; obtain d0 := hC; go_simp <;> with_reducible rfl)
          refine wpC_take 14 (v := ?_) rfl (by kernel_rfl) (fun _ _ _ h => h) (by kernel_rfl) ?_ ?_; rotate_left; · (intro wC hC; obtain d0 := hC; go_simp <;> with_reducible rfl)
          refine wpC_step 15 rfl (by kernel_rfl) (by kernel_rfl) xx1 (fun K hK => ?_)
          go_simp
          try (refine hK _ _ ?_; clear hK K)
          refine wpC_done (by kernel_rfl) (by simp [go_sem, xx1]) ?_
          go_wp2
          go_roundw
          case measure => simp [intOf]
          case rel => exact ⟨(HB3.out.setCell (Nat.le_refl _) _).drew, p, q, n2, n3, n4, (rowset GX3.out 2 _).trans (by simp only [List.setIfInBounds_toArray, List.set_cons_zero, List.set_cons_succ]), rowset_other GR3.out (by omega), .inr (.inr (.inr (.inl ⟨rfl, rfl, rfl, rfl, rfl, rfl⟩)))⟩
        · go_wp2
          refine wpC_region (fun W => W.cell? ⟨w.heap.size, 0, none⟩ = some (.int .u64 p)) (by kernel_rfl) ?_
          refine wpC_take 0 (v := ?_) rfl (by kernel_rfl) (fun _ _ _ h => h) (by kernel_rfl) ?_ ?_; rotate_left; · (intro wC hC; obtain d0 := hC; go_simp <;> with_reducible rfl)
          refine wpC_take 1 (v := ?_) rfl (by kernel_rfl) (fun _ _ _ h => h) (by kernel_rfl) ?_ ?_; rotate_left; · (intro wC hC; obtain d0 := hC; go_simp <;> with_reducible rfl)
          refine wpC_take 2 (v := ?_) rfl (by kernel_rfl) (fun _ _ _ h => h) (by kernel_rfl) ?_ ?_; rotate_left; · (intro wC hC; obtain d0 := hC; go_simp <;> with_reducible rfl)
          refine wpC_take 4 (v := ?_) rfl (by kernel_rfl) (fun _ _ _ h => h) (by kernel_rfl) ?_ ?_; rotate_left; · (intro wC hC; obtain d0 := hC; go_simp <;> with_reducible rfl)
          refine wpC_take 6 (v := ?_) rfl (by kernel_rfl) (fun _ _ _ h => h) (by kernel_rfl) ?_ ?_; rotate_left; · (intro wC hC; obtain d0 := hC; go_simp <;> with_reducible rfl)
          refine wpC_take 7 (v := ?_) rfl (by kernel_rfl) (fun _ _ _ h => h) (by kernel_rfl) ?_ ?_; rotate_left; · (intro wC hC; obtain d0 := hC; go_simp <;> with_reducible rfl)
          refine wpC_take 8 (v := ?_) rfl (by kernel_rfl) (fun _ _ _ h => h) (by kernel_rfl) ?_ ?_; rotate_left; · (intro wC hC; obtain d0 := hC; go_simp <;> with_reducible rfl)
          refine wpC_take 9 (v := ?_) rfl (by kernel_rfl) (fun _ _ _ h => h) (by kernel_rfl) ?_ ?_; rotate_left; · (intro wC hC; obtain d0 := hC; go_simp <;> with_reducible rfl)
          refine wpC_take 10 (v := ?_) rfl (by kernel_rfl) (fun _ _ _ h => h) (by kernel_rfl) ?_ ?_; rotate_left; · (intro wC hC; obtain d0 := hC; go_simp <;> with_reducible rfl)
          refine wpC_take 11 (v := ?_) rfl (by kernel_rfl) (fun _ _ _ h => h) (by kernel_rfl) ?_ ?_; rotate_left; · (intro wC hC; obtain d0 := hC; go_simp <;> with_reducible rfl)
          refine wpC_take 12 (v := ?_) rfl (by kernel_rfl) (fun _ _ _ h => h) (by kernel_rfl) ?_ ?_; rotate_left; · (intro wC hC; obtain d0 := hC; go_simp <;> with_reducible rfl)
          refine wpC_step 3 rfl (by kernel_rfl) (by kernel_rfl) xx0 (fun K hK => ?_)
          go_simp
          try (refine hK _ _ ?_; clear hK K)
          refine wpC_take 5 (v := ?_) rfl (by kernel_rfl) (fun _ _ _ h => h) (by kernel_rfl) ?_ ?_; rotate_left; · (intro wC hC; obtain d0 := hC; go_simp <;> with_reducible rfl)
          refine wpC_take 13 (v := ?_) rfl (by kernel_rfl) (fun _ _ _ h => h) (by kernel_rfl) ?_ ?_; rotate_left; · (intro wC hC; obtain d0 := hC; go_simp <;> with_reducible rfl)
          refine wpC_take 14 (v := ?_) rfl (by kernel_rfl) (fun _ _ _ h => h) (by kernel_rfl) ?_ ?_; rotate_left; · (intro wC hC; obtain d0 := hC; go_simp <;> with_reducible rfl)
          refine wpC_step 15 rfl (by kernel_rfl) (by kernel_rfl) xx0 (fun K hK => ?_)
          go_simp
          try (refine hK _ _ ?_; clear hK K)
          refine wpC_done (by kernel_rfl) (by simp [go_sem, xx0]) ?_
          go_wp2
          go_roundw
          case measure => simp [intOf]
          case rel => exact ⟨(HB3.out.setCell (Nat.le_refl _) _).drew, p, n1, n2, n3, n4, (rowset GX3.out 1 _).trans (by simp only [List.setIfInBounds_toArray, List.set_cons_zero, List.set_cons_succ]), rowset_other GR3.out (by omega), .inr (.inr (.inr (.inr (⟨rfl, rfl, rfl, rfl, rfl, rfl⟩))))⟩
        · obtain ⟨hn0, hkb, hqk⟩ := HN.out
          obtain ⟨h1, h2, h3, h4⟩ := HF.out
          have ek : k = j + few := by rw [blen_two j hn0] at h3; omega
          subst ek
          rw [Nat.mul_assoc, ← Nat.pow_add] at h4
          obtain ⟨rfl, rfl, rfl, rfl, rfl⟩ := hqk.one h4
          have zw : w.heap.size + 1 < wr.heap.size := rowlt GR3.out
          clear hn0 hkb hqk h1 h2 h3 h4
          go_wp2
          refine bodyPost_ret (v := .tuple #[w5V a' b' c' d' f', .int .i64 (j + few : Nat)]) (by simp [results, Try.results45, go_sem, tt0, tt1, tt2, tt3, tt4, xx1, xx2, xx3, xx4, tf, w5V]; done) rfl (hQ.out _ _ ⟨rfl, ?_⟩)
          exact cset5 ((HB.out.trans HB3.out).setCell (Nat.le_refl _) _) (by omega)
end Go.Proofs.Ytheliihkkoohnab
