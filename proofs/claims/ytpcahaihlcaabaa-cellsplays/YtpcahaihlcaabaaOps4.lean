/-
  Zero and Copy.
-/
import Derived.Test.YtpcahaihlcaabaaOps3
namespace Go.Proofs.Ytpcahaihlcaabaa
open Go.ChangeShapes Go.WideShapes Go.ChangeAt Go.RowKit
set_option linter.unusedVariables false
set_option maxRecDepth 20000

/-! Copy. -/
end Go.Proofs.Ytpcahaihlcaabaa
