/-
  What each of the document's answers for layer 1 comes to.
-/
import Derived.Test.YtmboibipabkhaaaGreatKxK0
namespace Go.Proofs.YtmboibipabkhaaaGreat
open Go.ChangeShapes Go.WideShapes Go.ChangeAt Go.RowKit
set_option linter.unusedVariables false
end Go.Proofs.YtmboibipabkhaaaGreat
