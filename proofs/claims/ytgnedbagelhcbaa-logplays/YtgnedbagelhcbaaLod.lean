/-
  Proved here: opened: a log over what lies on the disk, and its texts.
-/
import Derived.Test.YtgnedbagelhcbaaLnw
import Derived.Test.YtgnedbagelhcbaaLth
namespace Go.Proofs.Ytgnedbagelhcbaa
open Go.ChangeShapes Go.WideShapes Go.ChangeAt Go.RowKit
set_option linter.unusedVariables false
set_option linter.unusedSimpArgs false
set_option maxRecDepth 20000
def opB (cs : List Ck.O) : Int := if (joinR 0 cs).sts.length = 0 then 1 else joinB 0 cs
def opS (cs : List Ck.O) : ByteArray := strOfNums (joinR 0 cs).str
end Go.Proofs.Ytgnedbagelhcbaa
