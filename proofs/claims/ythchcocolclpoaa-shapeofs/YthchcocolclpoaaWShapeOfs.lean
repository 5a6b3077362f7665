import Derived.Test.YthchcocolclpoaaShapeC
import Derived.ArgAppend
import Derived.Deep.AppendLies
import Derived.Laws.OwnMore
namespace Go.Proofs.Ythchcocolclpoaa
open Go.ChangeShapes Go.WideShapes Go.ChangeAt Go.RowKit
set_option linter.unusedVariables false
set_option linter.unusedSimpArgs false
set_option maxRecDepth 100000

theorem infoI64 : (Try.prog.info? 3).map (fun i => (i.zero, i.size, i.bytes)) = some (some (.int .i64 0), 1, 8) := by kernel_rfl
def ws : List Value := [.int .i64 8, .int .i64 16, .int .i64 32, .int .i64 64]
def ws5 (i : Nat) : List Value := (List.range 4).map fun j => if j < i then .int .i64 (-5) else ws.getD j (.int .i64 0)
theorem ws5_step (i : Nat) (h : i < 4) : (ws5 i).set i (.int .i64 (-5)) = ws5 (i + 1) := by
  have : i = 0 ∨ i = 1 ∨ i = 2 ∨ i = 3 := by omega
  rcases this with rfl | rfl | rfl | rfl <;> rfl
theorem widths_own (w : World) (base : Nat) (hb : base ≤ w.heap.size) : (w.alloc (.cells #[.int .i64 8, .int .i64 16, .int .i64 32, .int .i64 64] 3)).ownsRow base 3 1 (.slice (some ⟨w.heap.size, 0, none⟩) 4 4) 4 ws :=
  World.ownsRow_lit w #[.int .i64 8, .int .i64 16, .int .i64 32, .int .i64 64] 4 hb (by decide) rfl
set_option maxHeartbeats 4000000 in
/-- behind the two answers: the lists -/
theorem shapeOfs_walk (n : Int) (wn : (Lit.int .i64 n).wf = true) (w : World) :
    Calls Try.prog 3 #[.int .i64 n] w fun e w' => e = .returned (.bool true) ∧ Below w.heap.size w w' := by
  obtain ⟨i0, hi, hz0, hz1, hz2⟩ := info_parts infoI64
  obtain ⟨sv, c, k, he, k1, k2, k3⟩ : ∃ (sv : Value) (c : Int) (e : Value), (∃ x0 x1 x2 x3 x4, sv = .agg #[.int .i64 x0, .int .u64 x1, .int .u64 x2, .int .u64 x3, .int .i64 x4]) ∧
      (∀ w, Calls Try.prog 6 #[.int .i64 n] w fun e' w' => e' = .returned (.tuple #[sv, e]) ∧ Below w.heap.size w w') ∧
      (∀ w, Calls Try.prog 7 #[.int .i64 n] w fun e' w' => e' = .returned (.tuple #[sv, .int .i64 c]) ∧ Below w.heap.size w w') ∧
      (∀ w, Calls Try.prog 9 #[e] w fun e' w' => e' = .returned (.int .i64 c) ∧ w' = w) := by
    cases hb : isW n
    · exact ⟨shp0, 2, _, ⟨_, _, _, _, _, rfl⟩, fun w => of_no n hb w, fun w => rof_no n hb w, fun w => code_any 2 w⟩
    · obtain ⟨m, rfl, hm⟩ := isW_yes hb
      exact ⟨shp m _, 0, _, ⟨_, _, _, _, _, rfl⟩, fun w => of_ok m hm w, fun w => rof_ok m hm w, fun w => code_nil w⟩
  obtain ⟨x0, x1, x2, x3, x4, rfl⟩ := he
  clear wn
  refine cps fun Q hQ => ?_
  go_enter Try.func3, Try.ntmps3
  go_wp2_with (first
    | (go_at_call 5; refine (sup_any _).mono ?_; rintro e w1 ⟨rfl, hb1⟩)
    | (go_at_call 6; refine (k1 _).mono ?_; rintro e w2 ⟨rfl, hb2⟩)
    | (go_at_call 7; refine (k2 _).mono ?_; rintro e w3 ⟨rfl, hb3⟩; have hc3 := fun b o h => hb3.cell (p := ⟨b, o, none⟩) h; have z3 := hb3.size; simp at z3; have y3 : w2.heap.size < w3.heap.size := z3; have y3' : w2.heap.size ≠ w3.heap.size := (by omega))
    | (go_at_call 8; refine (widths_any _).mono ?_; rintro e w4 ⟨rfl, rfl⟩)
    | (go_at_call 9; refine (k3 _).mono ?_; rintro e w' ⟨rfl, hw⟩; rw [hw]; clear hw w'))
  have hbel : Below w.heap.size w ((w3.alloc (.cells #[.int .i64 x0, .int .u64 x1, .int .u64 x2, .int .u64 x3, .int .i64 x4] 25)).alloc (.cells #[.int .i64 8, .int .i64 16, .int .i64 32, .int .i64 64] 3)) := bmoreS (bmoreS (bthenS (bmoreS (bthenS hb1 hb2) _) hb3) _) _
  have hown := widths_own (w3.alloc (.cells #[.int .i64 x0, .int .u64 x1, .int .u64 x2, .int .u64 x3, .int .i64 x4] 25)) w.heap.size (by have := (bmoreS (bthenS (bmoreS (bthenS hb1 hb2) (.cells #[.int .i64 x0, .int .u64 x1, .int .u64 x2, .int .u64 x3, .int .i64 x4] 25)) hb3) (.cells #[.int .i64 x0, .int .u64 x1, .int .u64 x2, .int .u64 x3, .int .i64 x4] 25)).size; exact this)
  rw [show (w3.alloc (.cells #[.int .i64 x0, .int .u64 x1, .int .u64 x2, .int .u64 x3, .int .i64 x4] 25)).heap.size = w3.heap.size + 1 by simp] at hown
  have hgw : w.heap.size ≤ w3.heap.size + 1 := by have := (bthenS (bmoreS (bthenS hb1 hb2) (.cells #[.int .i64 x0, .int .u64 x1, .int .u64 x2, .int .u64 x3, .int .i64 x4] 25)) hb3).size; omega
  generalize w3.heap.size + 1 = g at *
  generalize ((w3.alloc (.cells #[.int .i64 x0, .int .u64 x1, .int .u64 x2, .int .u64 x3, .int .i64 x4] 25)).alloc (.cells #[.int .i64 8, .int .i64 16, .int .i64 32, .int .i64 64] 3)) = W0 at *
  have HB : Hid (Below w.heap.size w W0) := hbel
  have HO : Hid (W0.ownsRow w.heap.size 3 1 (.slice (some ⟨g, 0, none⟩) 4 4) 4 (ws5 0)) := hown
  clear hbel hown hb1 hb2 hb3 hc3 z3 y3 y3' k1 k2 k3
  go_loopw [9] (fun iv wr => ∃ i : Nat, i ≤ 4 ∧ iv = .int .i64 i ∧ Hid (wr.ownsRow w.heap.size 3 1 (.slice (some ⟨g, 0, none⟩) 4 4) 4 (ws5 i)) ∧ Hid (Below w.heap.size w wr)) (fun iv _ => 4 - (intOf iv).toNat)
  case atStart => exact ⟨0, by decide, rfl, HO.out, HB.out⟩
  case round =>
    obtain ⟨i, hi4, rfl, ho, hbel⟩ := hrel
    by_cases hlt : i < 4
    · have hfz := ho.out.frozenAt i
      have hcl : (wr.cell? ⟨g, i, none⟩).isSome = true := by
        rw [ho.out.cellAt i (by omega), ws5]
        simp [hlt]
      obtain ⟨u, hcl⟩ := Option.isSome_iff_exists.1 hcl
      have hst := (ho.out.stored i (.int .i64 (-5))).1
      rw [ws5_step i hlt] at hst
      have HST : Hid ((wr.setCell ⟨g, i, none⟩ (.int .i64 (-5))).ownsRow w.heap.size 3 1 (.slice (some ⟨g, 0, none⟩) 4 4) 4 (ws5 (i + 1))) := hst
      clear hst ho
      go_wp2
      go_roundw
      case rel => exact ⟨i + 1, by omega, by go_num, HST.out, bsetS hbel.out hgw _ _⟩
      case measure => simp [intOf]; omega
    · have hi5 : i = 4 := by omega
      subst hi5
      have ho' := ho.out
      have HOW : Hid (wr.ownsRow w.heap.size 3 1 (.slice (some ⟨g, 0, none⟩) 4 4) 4 [.int .i64 (-5), .int .i64 (-5), .int .i64 (-5), .int .i64 (-5)]) := ho'
      have hgl : g < wr.heap.size := (ho'.lt g rfl).2
      clear ho ho'
      have hm0 := widths_own wr w.heap.size hbel.out.size
      have hl1 := (HOW.out.alloc (.cells #[.int .i64 8, .int .i64 16, .int .i64 32, .int .i64 64] 3)).alloc (.cells #[.int .i64 (-6)] 3)
      have hm1 := hm0.alloc (.cells #[.int .i64 (-6)] 3)
      have hn1 := World.ownsRow_lit (base := w.heap.size) (e := 3) (size := 1) (wr.alloc (.cells #[.int .i64 8, .int .i64 16, .int .i64 32, .int .i64 64] 3)) #[.int .i64 (-6)] 1 (by have := hbel.out.size; simp; omega) (by decide) rfl
      have e1 : (wr.alloc (.cells #[.int .i64 8, .int .i64 16, .int .i64 32, .int .i64 64] 3)).heap.size = wr.heap.size + 1 := by simp
      rw [e1] at hn1
      have hc0 := hn1.cells rfl
      have hc1 := hl1.cells rfl
      have HM1 : Hid (World.ownsRow _ _ _ _ _ _ _) := hm1
      have HL1 : Hid (World.ownsRow _ _ _ _ _ _ _) := hl1
      have HC1 : Hid (∀ j u, [Value.int .i64 (-5), .int .i64 (-5), .int .i64 (-5), .int .i64 (-5)][j]? = some u → _) := hc1
      have HC0 : Hid (∀ j u, [Value.int .i64 (-6)][j]? = some u → _) := hc0
      clear hm0 hm1 hl1 hn1 hc0 hc1 e1
      go_wp2_with (first
        | (go_at_call 8; refine (widths_any _).mono ?_; rintro e w4 ⟨rfl, rfl⟩)
        | (at_builtin; go_must (refine wpList_append_grows _ rfl _ _ 32 rfl 3 i0 (.int .i64 0) 1 8 Try.underlying32 hi hz0 hz1 hz2 rfl (by decide) (some ⟨g, 0, none⟩) 4 4 [.int .i64 (-5), .int .i64 (-5), .int .i64 (-5), .int .i64 (-5)] rfl (fun h => by cases h) rfl (fun b hb => by cases hb; exact HC1.out) ⟨wr.heap.size + 1, 0, none⟩ 1 1 [.int .i64 (-6)] rfl rfl HC0.out (by intro u hu; simp at hu; subst hu; rfl) (by decide) (by decide) (by decide) ?_; intro v' w5 hown5 hg5; obtain ⟨g', cap', rfl, _, _⟩ := hown5.form (by decide); have hm5 := HM1.out.kept hg5 (.inr (by simp [Value.ownBlock])); have hl5 := HL1.out.kept hg5 (.inr (by simp [Value.ownBlock])); have c4 : w5.cell? ⟨g', 4, none⟩ = some (.int .i64 (-6)) := hown5.cellAt 4 (by decide); have l0 : w5.cell? ⟨g, 0, none⟩ = some (.int .i64 (-5)) := hl5.cellAt 0 (by decide); have m0 : w5.cell? ⟨wr.heap.size, 0, none⟩ = some (.int .i64 8) := hm5.cellAt 0 (by decide); have m1 : w5.cell? ⟨wr.heap.size, 1, none⟩ = some (.int .i64 16) := hm5.cellAt 1 (by decide); have m2 : w5.cell? ⟨wr.heap.size, 2, none⟩ = some (.int .i64 32) := hm5.cellAt 2 (by decide); have m3 : w5.cell? ⟨wr.heap.size, 3, none⟩ = some (.int .i64 64) := hm5.cellAt 3 (by decide); have HG5 : Hid (World.grownBy _ _ _) := hg5; clear hg5 hm5 hl5 hown5)))
      have hb5 : Below w.heap.size w w5 := (bmoreS (bmoreS hbel.out _) _).trans ⟨HG5.out.os, HG5.out.tape, HG5.out.output, HG5.out.size, fun k hk => HG5.out.block k (by have := hbel.out.size; simp; omega) (by simp)⟩
      exact hQ.out _ _ ⟨rfl, hb5⟩
end Go.Proofs.Ythchcocolclpoaa
