/-
  Proved here: the starts that begin ahead of a place, and the number behind the last of them (ring.Keep).
-/
import Derived.Test.YtgnedbagelhcbaaJe
namespace Go.Proofs.Ytgnedbagelhcbaa.St
open Go.ChangeShapes Go.WideShapes Go.ChangeAt Go.RowKit
set_option linter.unusedVariables false
set_option linter.unusedSimpArgs false
set_option maxRecDepth 20000
def ahead (os : List O) (e : Int) (k : Nat) : Prop := ∀ i o, i < k → os[i]? = some o → o.off < e
end Go.Proofs.Ytgnedbagelhcbaa.St
