/-
  Proved here: ring.Join: the stream that chunks hold, from the one with a number on.
-/
import Derived.Test.YtgnedbagelhcbaaJe
namespace Go.Proofs.Ytgnedbagelhcbaa
open Go.ChangeShapes Go.WideShapes Go.ChangeAt Go.RowKit Go.Lib
set_option linter.unusedVariables false
set_option linter.unusedSimpArgs false
set_option maxRecDepth 20000
end Go.Proofs.Ytgnedbagelhcbaa
