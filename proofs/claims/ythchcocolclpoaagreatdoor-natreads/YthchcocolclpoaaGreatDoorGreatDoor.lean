import Derived.Test.YthchcocolclpoaaGreatDoorAllDoor
namespace Go.Proofs.YthchcocolclpoaaGreatDoor
open Go.ChangeShapes Go.WideShapes Go.RowKit
set_option linter.unusedVariables false
set_option maxRecDepth 100000

/-! ### and the listed variable errors.errorType: the handle of the type error -/
theorem gHandle : Tryz.prog.globalNamed "errors.errorType" = some 0 := by kernel_rfl
theorem tHandle : (Tryz.prog.cutTypes.find? (·.1 == "internal/reflectlite.rtype")).map (·.2) = some 109 := by kernel_rfl
theorem nTypes : Tryz.prog.types.size = 192 := by kernel_rfl
theorem oneError : ((List.range 192).filter fun t => Tryz.prog.rowNamed t [101, 114, 114, 111, 114]) = [26] := by kernel_rfl
def great : List (String × DataW Unit) := [("math/bits.deBruijn32tab", Rows.laid_math_bits_deBruijn32tab), ("math/bits.deBruijn64tab", Rows.laid_math_bits_deBruijn64tab), ("internal/strconv.uint64pow10", Rows.laid_internal_strconv_uint64pow10), ("unicode/utf8.acceptRanges", Rows.laid_unicode_utf8_acceptRanges), ("errors.errorType", Rows.laid_errors_errorType), ("strconv.ErrRange", Rows.laid_strconv_ErrRange), ("strconv.ErrSyntax", Rows.laid_strconv_ErrSyntax), ("unicode/utf8.first", Rows.laid_unicode_utf8_first)]
def lesser : List (String × DataW Unit) := [("math/bits.deBruijn32tab", Rows.laid_math_bits_deBruijn32tab), ("math/bits.deBruijn64tab", Rows.laid_math_bits_deBruijn64tab), ("internal/strconv.uint64pow10", Rows.laid_internal_strconv_uint64pow10), ("unicode/utf8.acceptRanges", Rows.laid_unicode_utf8_acceptRanges), ("strconv.ErrRange", Rows.laid_strconv_ErrRange), ("strconv.ErrSyntax", Rows.laid_strconv_ErrSyntax), ("unicode/utf8.first", Rows.laid_unicode_utf8_first)]
theorem great_none : (great.filter fun x => x.2.handleName?.isNone) = lesser := by kernel_rfl
theorem great_some : (great.filter fun x => x.2.handleName?.isSome) = [("errors.errorType", Rows.laid_errors_errorType)] := by kernel_rfl
theorem handle_cell {W : World} (h : laidMetH Tryz.prog great W) : W.cell? ⟨0, 0, none⟩ = some (.iface 109 (.agg #[.pointer (some ⟨11, 26, none⟩)])) := by
  have h' : laidMet Tryz.prog (great.filter fun x => x.2.handleName?.isNone) W ∧ handlesMet Tryz.prog (great.filter fun x => x.2.handleName?.isSome) W := h
  rw [great_none, great_some] at h'
  obtain ⟨name, u, ty, e1, e2, e3, e4, e5⟩ := h'.2 _ (List.mem_singleton.2 rfl)
  have en : name = [101, 114, 114, 111, 114] := (Option.some.inj e1).symm
  subst en
  obtain rfl := Option.some.inj (tHandle.symm.trans e2)
  have hm : ty ∈ (List.range 192).filter fun t => Tryz.prog.rowNamed t [101, 114, 114, 111, 114] := List.mem_filter.2 ⟨List.mem_range.2 (by rw [← nTypes]; exact e3), e4⟩
  rw [oneError] at hm
  obtain rfl := List.mem_singleton.1 hm
  have hh : typeHandle Tryz.prog 26 = .pointer (some ⟨11, 26, none⟩) := by kernel_rfl
  rw [hh] at e5
  simpa using World.var?_cell gHandle e5 0
/-- a world in which all are laid -/
def laidGreat (w : World) : World :=
  { laidAll w with heap := (laidAll w).heap.modify 0 (withCells [.iface 109 (.agg #[.pointer (some ⟨11, 26, none⟩)])]) }
theorem laid_lesser (os : Os) (args : Array Value) : laidMet Tryz.prog lesser ((laidGreat (World.holding Tryz.prog os ⟨#[], #[], []⟩)).forCall (fun _ _ => 0) ⟨#[], args, []⟩).memory :=
  laidMet_of_run' 8 (by kernel_rfl) (by kernel_rfl)
theorem laid_met_great (os : Os) (args : Array Value) : laidMetH Tryz.prog great ((laidGreat (World.holding Tryz.prog os ⟨#[], #[], []⟩)).forCall (fun _ _ => 0) ⟨#[], args, []⟩).memory :=
  laidMetH_of_parts (by rw [great_none]; exact laid_lesser os args) (by rw [great_some]; kernel_rfl)
end Go.Proofs.YthchcocolclpoaaGreatDoor
