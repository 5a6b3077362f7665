import Derived.Test.YtajlgpamcpgalaaCkG
import Derived.Test.YtajlgpamcpgalaaShapeC
namespace Go.Proofs.Ytajlgpamcpgalaa
open Go.ChangeShapes Go.WideShapes Go.ChangeAt Go.RowKit
set_option linter.unusedVariables false
set_option linter.unusedSimpArgs false
set_option maxRecDepth 100000

/-! ### Join -/
end Go.Proofs.Ytajlgpamcpgalaa
