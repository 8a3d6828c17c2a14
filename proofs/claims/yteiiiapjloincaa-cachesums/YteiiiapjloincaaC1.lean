/-
  What each function of package bits comes to.
-/
import Derived.Test.YteiiiapjloincaaBase
import Derived.Test.YteiiiapjloincaaM1
namespace Go.Proofs.Yteiiiapjloincaa
open Go.ChangeShapes Go.WideShapes Go.ChangeAt Go.RowKit
set_option linter.unusedVariables false

end Go.Proofs.Yteiiiapjloincaa
