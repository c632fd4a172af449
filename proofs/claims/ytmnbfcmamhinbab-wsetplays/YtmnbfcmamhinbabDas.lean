/-
  Plain facts on two more types that delta's texts use, in this seat.
-/
import Derived.Test.YtmnbfcmamhinbabDth
namespace Go.Proofs.Ytmnbfcmamhinbab.Dl
open Go.ChangeShapes Go.WideShapes Go.ChangeAt Go.RowKit
theorem zero41 (w : World) : (zeroValue 41).run Try.prog w = .ok (.agg (bs (zs 64))) w := (zero_of_info (P := Try.prog) (t := 41) (v := .agg (bs (zs 64))) (n := 64) (by kernel_rfl)).1 w
theorem zero79 (w : World) : (zeroValue 79).run Try.prog w = .ok (.agg (bl fs)) w := (zero_of_info (P := Try.prog) (t := 79) (v := .agg (bl fs)) (n := 64) (by kernel_rfl)).1 w
theorem size41 : (Try.prog.info? 41).map (·.size) = some 64 := by kernel_rfl
theorem size79 : (Try.prog.info? 79).map (·.size) = some 64 := by kernel_rfl
end Go.Proofs.Ytmnbfcmamhinbab.Dl
