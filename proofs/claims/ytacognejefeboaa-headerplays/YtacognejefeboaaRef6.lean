/-
  The document's Copy.
-/
import Derived.Test.YtacognejefeboaaRef5
namespace Go.Proofs.Ytacognejefeboaa
open Go.ChangeShapes Go.WideShapes Go.ChangeAt Go.RowKit
set_option linter.unusedVariables false
set_option maxRecDepth 20000

end Go.Proofs.Ytacognejefeboaa
