import Derived.Test.YtckmmdmimlhmoaaDoorRows
import Derived.Test.YtckmmdmimlhmoaaDoorCards
import Derived.Test.YtckmmdmimlhmoaaDoorTie
import Derived.WalkKit
import Derived.ProofKit
import Derived.RowKitTokens
import Derived.LaidLaws
import Derived.LaidHandle
import Derived.Stop.Joined
import Derived.Deep.DeepHandedRow
namespace Go.Proofs.YtckmmdmimlhmoaaDoor
open Go.ChangeShapes Go.WideShapes Go.RowKit
set_option linter.unusedVariables false
set_option maxRecDepth 100000

/-! ### the listed variables: utf8's two tables -/
def flatLit : DataW Unit → Value
  | .lit (.int k n) => .int k n
  | _ => .bool false
def flatRow : DataW Unit → List Value
  | .agg l => l.map flatLit
  | _ => []
def flatRows : DataW Unit → List Value
  | .agg l => l.flatMap flatRow
  | _ => []
def tabAccept : List Value := flatRows (Rows.laid_unicode_utf8_acceptRanges (H := Unit))
def tabFirst : List Value := flatRow Rows.laid_unicode_utf8_first
def withCells (vs : List Value) : Obj → Obj
  | .cells _ t frozen => .cells vs.toArray t frozen
  | o => o
/-- a world with both laid in it -/
def laidIn (w : World) : World :=
  { w with heap := (w.heap.modify 3 (withCells tabAccept)).modify 2 (withCells tabFirst) }
theorem laid_met (os : Os) (args : Array Value) : laidMet Tryd.prog [("unicode/utf8.acceptRanges", Rows.laid_unicode_utf8_acceptRanges), ("unicode/utf8.first", Rows.laid_unicode_utf8_first)] ((laidIn (World.holding Tryd.prog os ⟨#[], #[], []⟩)).forCall (fun _ _ => 0) ⟨#[], args, []⟩).memory :=
  laidMet_of_run' 8 (by kernel_rfl) (by kernel_rfl)
end Go.Proofs.YtckmmdmimlhmoaaDoor
