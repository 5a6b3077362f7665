import Derived.Test.YtajlgpamcpgalaaRndF
namespace Go.Proofs.Ytajlgpamcpgalaa
open Go.ChangeShapes Go.WideShapes Go.ChangeAt Go.RowKit
set_option linter.unusedVariables false
set_option linter.unusedSimpArgs false
set_option maxRecDepth 100000

/-! ### the document's Of -/
theorem of7_bad (k : Int) (neg : Bool) (s : Int) (f : Nat) (hs : soundN k neg s f = false) (w : World) :
    Calls Try.prog 14 #[numV k neg s f] w fun e w' => e = .returned (.tuple #[exV 0 false 0 0 0 false, .int .i64 1]) ∧ Below w.heap.size w w' := by
  have k2 := sound6_any k neg s f
  rw [hs] at k2
  unfold numV exV at *
  clear hs
  refine cps fun Q hQ => ?_
  go_enter Try.func14, Try.ntmps14
  go_wp2_with (go_at_call 32; refine (k2 _).mono ?_; rintro e w2 ⟨rfl, hb2⟩; have RX := (hb2.block w.heap.size (by simp; omega)).trans ((Below.heap_alloc (w.alloc _) _ _ (by simp)).trans (rownew w _ _)); have RR := (hb2.block (w.heap.size + 1) (by simp)).trans (rownew' _ _ _ _ (by simp)); have x0 := rowcell RX 0; have x1 := rowcell RX 1; have x2 := rowcell RX 2; have x3 := rowcell RX 3; have xf := rowfree RX; simp only [List.getElem?_toArray, List.getElem?_cons_zero, List.getElem?_cons_succ] at x0 x1 x2 x3; have r0 := rowcell RR 0; have r1 := rowcell RR 1; have r2 := rowcell RR 2; have r3 := rowcell RR 3; have r4 := rowcell RR 4; have r5 := rowcell RR 5; have rf := rowfree RR; simp only [List.getElem?_toArray, List.getElem?_cons_zero, List.getElem?_cons_succ] at r0 r1 r2 r3 r4 r5; have HB2 : Hid (Below _ _ _) := cthen (cmore (cmore (Below.refl _ _) _) _) hb2; clear hb2 RX RR)
  refine bodyPost_ret (v := .tuple #[.agg #[.int .i64 0, .bool false, .int .i64 0, .int .u64 0, .int .u64 0, .bool false], .int .i64 1]) (by simp [results, Try.results14, go_sem, r0, r1, r2, r3, r4, r5]) rfl (hQ.out _ _ ⟨rfl, ?_⟩)
  have hle : w.heap.size ≤ w.heap.size + 1 := by omega
  exact cset (cset (cset (cset (cset (cset HB2.out hle _ _) hle _ _) hle _ _) hle _ _) hle _ _) hle _ _
theorem of7_ok (k : Int) (neg : Bool) (s : Int) (f : Nat) (hs : soundN k neg s f = true) (w : World) :
    Calls Try.prog 14 #[numV k neg s f] w fun e w' => e = .returned (.tuple #[exV k neg s f 0 false, .int .i64 0]) ∧ Below w.heap.size w w' := by
  have k2 := sound6_any k neg s f
  rw [hs] at k2
  unfold numV exV at *
  clear hs
  refine cps fun Q hQ => ?_
  go_enter Try.func14, Try.ntmps14
  go_wp2_with (go_at_call 32; refine (k2 _).mono ?_; rintro e w2 ⟨rfl, hb2⟩; have RX := (hb2.block w.heap.size (by simp; omega)).trans ((Below.heap_alloc (w.alloc _) _ _ (by simp)).trans (rownew w _ _)); have RR := (hb2.block (w.heap.size + 1) (by simp)).trans (rownew' _ _ _ _ (by simp)); have x0 := rowcell RX 0; have x1 := rowcell RX 1; have x2 := rowcell RX 2; have x3 := rowcell RX 3; have xf := rowfree RX; simp only [List.getElem?_toArray, List.getElem?_cons_zero, List.getElem?_cons_succ] at x0 x1 x2 x3; have r0 := rowcell RR 0; have r1 := rowcell RR 1; have r2 := rowcell RR 2; have r3 := rowcell RR 3; have r4 := rowcell RR 4; have r5 := rowcell RR 5; have rf := rowfree RR; simp only [List.getElem?_toArray, List.getElem?_cons_zero, List.getElem?_cons_succ] at r0 r1 r2 r3 r4 r5; have HB2 : Hid (Below _ _ _) := cthen (cmore (cmore (Below.refl _ _) _) _) hb2; clear hb2 RX RR)
  refine bodyPost_ret (v := .tuple #[.agg #[.int .i64 k, .bool neg, .int .i64 s, .int .u64 f, .int .u64 0, .bool false], .int .i64 0]) (by simp [results, Try.results14, go_sem, r0, r1, r2, r3, r4, r5]) rfl (hQ.out _ _ ⟨rfl, ?_⟩)
  have hle : w.heap.size ≤ w.heap.size + 1 := by omega
  exact cset (cset (cset (cset (cset (cset HB2.out hle _ _) hle _ _) hle _ _) hle _ _) hle _ _) hle _ _
end Go.Proofs.Ytajlgpamcpgalaa
