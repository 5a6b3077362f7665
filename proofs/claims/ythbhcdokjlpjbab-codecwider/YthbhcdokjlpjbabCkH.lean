import Derived.Test.YthbhcdokjlpjbabCkG
import Derived.Test.YthbhcdokjlpjbabShapeC
namespace Go.Proofs.Ythbhcdokjlpjbab
open Go.ChangeShapes Go.WideShapes Go.ChangeAt Go.RowKit
set_option linter.unusedVariables false
set_option linter.unusedSimpArgs false
set_option maxRecDepth 100000

/-! ### Join -/
end Go.Proofs.Ythbhcdokjlpjbab
