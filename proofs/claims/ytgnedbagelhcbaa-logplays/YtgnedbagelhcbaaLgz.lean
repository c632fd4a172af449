/-
  Proved here: what a log that isn't there answers, and a scan of a disk that isn't.
-/
import Derived.Test.YtgnedbagelhcbaaLgc
namespace Go.Proofs.Ytgnedbagelhcbaa
open Go.ChangeShapes Go.WideShapes Go.ChangeAt Go.RowKit
set_option linter.unusedVariables false
set_option linter.unusedSimpArgs false
set_option maxRecDepth 20000
end Go.Proofs.Ytgnedbagelhcbaa
