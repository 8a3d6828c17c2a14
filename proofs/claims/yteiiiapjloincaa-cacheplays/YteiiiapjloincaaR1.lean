/-
  What each of the document's answers for layer 1 comes to.
-/
import Derived.Test.YteiiiapjloincaaBase
import Derived.Test.YteiiiapjloincaaM1
namespace Go.Proofs.Yteiiiapjloincaa
open Go.ChangeShapes Go.WideShapes Go.ChangeAt Go.RowKit
set_option linter.unusedVariables false

end Go.Proofs.Yteiiiapjloincaa
