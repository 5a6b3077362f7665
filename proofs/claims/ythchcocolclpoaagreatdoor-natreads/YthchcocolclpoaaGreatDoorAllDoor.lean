import Derived.Test.YthchcocolclpoaaGreatDoorUtf8Door
import Derived.Deep.DeepWitnessRowRef
namespace Go.Proofs.YthchcocolclpoaaGreatDoor
open Go.ChangeShapes Go.WideShapes Go.RowKit
set_option linter.unusedVariables false
set_option maxRecDepth 100000

/-! ### the listed variables: five tables, strconv's two errors -/
def sentB : DataW Unit → ByteArray
  | .iface _ (.ptr (.agg [.lit (.string l)])) => ⟨l.toArray⟩
  | _ => ⟨#[]⟩
def laidTabs (w : World) : World :=
  { w with heap := ((w.heap.modify 8 (withCells (flatRow (Rows.laid_internal_strconv_uint64pow10 (H := Unit))))).modify 9 (withCells (flatRow (Rows.laid_math_bits_deBruijn32tab (H := Unit))))).modify 10 (withCells (flatRow (Rows.laid_math_bits_deBruijn64tab (H := Unit)))) }
def laidErrs (w : World) : World :=
  { w with heap := (((w.heap.push (.cells #[.string (sentB Rows.laid_strconv_ErrRange)] 143 (0, 0))).push (.cells #[.string (sentB Rows.laid_strconv_ErrSyntax)] 143 (0, 0))).modify 4 (withCells [.iface 141 (.pointer (some ⟨w.heap.size, 0, none⟩))])).modify 3 (withCells [.iface 141 (.pointer (some ⟨w.heap.size + 1, 0, none⟩))]) }
def laidAll (w : World) : World := laidErrs (laidTabs (laidIn w))
theorem laid_met_all (os : Os) (args : Array Value) : laidMet Tryz.prog [("math/bits.deBruijn32tab", Rows.laid_math_bits_deBruijn32tab), ("math/bits.deBruijn64tab", Rows.laid_math_bits_deBruijn64tab), ("internal/strconv.uint64pow10", Rows.laid_internal_strconv_uint64pow10), ("unicode/utf8.acceptRanges", Rows.laid_unicode_utf8_acceptRanges), ("strconv.ErrRange", Rows.laid_strconv_ErrRange), ("strconv.ErrSyntax", Rows.laid_strconv_ErrSyntax), ("unicode/utf8.first", Rows.laid_unicode_utf8_first)] ((laidAll (World.holding Tryz.prog os ⟨#[], #[], []⟩)).forCall (fun _ _ => 0) ⟨#[], args, []⟩).memory :=
  laidMet_of_run' 8 (by kernel_rfl) (by kernel_rfl)
theorem all_vars (os : Os) (args : Array Value) : ((laidAll (World.holding Tryz.prog os ⟨#[], #[], []⟩)).forCall (fun _ _ => 0) ⟨#[], args, []⟩).variablesRefB Tryz.prog = true := by kernel_rfl
end Go.Proofs.YthchcocolclpoaaGreatDoor
