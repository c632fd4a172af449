/-
  Plain facts: a log that is trimmed behind each of its texts.
-/
import Derived.Test.YtgnedbagelhcbaaLth
import Derived.Test.YtgnedbagelhcbaaLgaw
namespace Go.Proofs.Ytgnedbagelhcbaa
open Go.ChangeShapes Go.WideShapes Go.ChangeAt Go.RowKit
set_option linter.unusedVariables false
set_option linter.unusedSimpArgs false
set_option maxRecDepth 20000
theorem one_in : (0 : Int) ≤ 1 ∧ (1 : Int) ≤ 4294967295 := by decide
theorem ex_all (F : ByteArray) : F.extract 0 F.size = F := by
  apply ByteArray.ext
  simp [ByteArray.data_extract]
theorem ex_join (F : ByteArray) (k : Nat) (h : k ≤ F.size) : F.extract 0 k ++ F.extract k F.size = F := by
  apply ByteArray.ext
  simp [ByteArray.data_extract]
  try (have : k ≤ F.data.size := h; rw [Nat.min_eq_left this]; simp)
end Go.Proofs.Ytgnedbagelhcbaa
