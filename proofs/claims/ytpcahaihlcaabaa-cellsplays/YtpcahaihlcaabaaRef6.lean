/-
  The document's Copy.
-/
import Derived.Test.YtpcahaihlcaabaaRef5
namespace Go.Proofs.Ytpcahaihlcaabaa
open Go.ChangeShapes Go.WideShapes Go.ChangeAt Go.RowKit
set_option linter.unusedVariables false
set_option maxRecDepth 20000

end Go.Proofs.Ytpcahaihlcaabaa
