import Derived.Test.YthbhcdokjlpjbabKit
import Derived.Test.YthbhcdokjlpjbabRows
import Derived.Lib.IfaceEq
namespace Go.Proofs.Ythbhcdokjlpjbab
open Go.ChangeShapes Go.WideShapes Go.ChangeAt Go.RowKit

/-! ### which of api's Codes an error is -/
def codeOf (c : Int) : Int := if 1 ≤ c ∧ c ≤ 24 then c else -1
end Go.Proofs.Ythbhcdokjlpjbab
