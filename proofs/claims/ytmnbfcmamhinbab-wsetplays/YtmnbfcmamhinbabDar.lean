/-
  Plain facts on the types that delta's texts use, in this seat.
-/
import Derived.Test.YtmnbfcmamhinbabArr
namespace Go.Proofs.Ytmnbfcmamhinbab.Dl
open Go.ChangeShapes Go.WideShapes Go.ChangeAt Go.RowKit
theorem zero42 (w : World) : (zeroValue 42).run Try.prog w = .ok (.agg (bs (zs 64))) w := (zero_of_info (P := Try.prog) (t := 42) (v := .agg (bs (zs 64))) (n := 64) (by kernel_rfl)).1 w
theorem zero84 (w : World) : (zeroValue 84).run Try.prog w = .ok (.agg (bl fs)) w := (zero_of_info (P := Try.prog) (t := 84) (v := .agg (bl fs)) (n := 64) (by kernel_rfl)).1 w
theorem size5 : (Try.prog.info? 5).map (·.size) = some 1 := by kernel_rfl
theorem size42 : (Try.prog.info? 42).map (·.size) = some 64 := by kernel_rfl
theorem size84 : (Try.prog.info? 84).map (·.size) = some 64 := by kernel_rfl
theorem cells5 : Try.prog.cellsOf 5 = 1 := by kernel_rfl
end Go.Proofs.Ytmnbfcmamhinbab.Dl
