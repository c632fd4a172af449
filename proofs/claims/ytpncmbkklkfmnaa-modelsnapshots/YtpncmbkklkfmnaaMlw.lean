/-
  Proved here: what all of the model's statements use in their walks.
-/
import Derived.Test.YtpncmbkklkfmnaaMth
namespace Go.Proofs.Ytpncmbkklkfmnaa
open Go.ChangeShapes Go.WideShapes Go.ChangeAt Go.RowKit
open Go.Deep Go.Maps
set_option linter.unusedVariables false
set_option linter.unusedSimpArgs false
theorem zero35 (w : World) : (zeroValue 35).run Try.prog w = .ok (.agg #[.int .u8 0, .int .u64 0, .int .u16 0, .int .i64 0, .string ⟨#[]⟩]) w := (zero_of_info (P := Try.prog) (t := 35) (v := .agg #[.int .u8 0, .int .u64 0, .int .u16 0, .int .i64 0, .string ⟨#[]⟩]) (n := 5) (by kernel_rfl)).1 w
theorem Cal.one (c : Cal) : c.arr.all (·.oneCell') = true := by simp [Cal.arr, Value.oneCell']
theorem Cal.size (c : Cal) : c.arr.size = 5 := rfl
theorem Cal.cells_arr (c : Cal) : c.cells.toArray = c.arr := rfl
theorem cR_ok {n k : Int} (h : 0 ≤ n ∧ n ≤ 1000000) (h2 : 0 ≤ k ∧ k ≤ 65535) : (cR n k).Ok := ⟨by show (0 : Int) ≤ 1 ∧ (1 : Int) ≤ 255; decide, by show 0 ≤ n ∧ n ≤ _; omega, h2, by show (-9223372036854775808 : Int) ≤ 0 ∧ (0 : Int) ≤ 9223372036854775807; decide⟩
theorem cW_ok {n k : Int} (t : ByteArray) (h : 0 ≤ n ∧ n ≤ 1000000) (h2 : 0 ≤ k ∧ k ≤ 65535) : (cW n k t).Ok := ⟨by show (0 : Int) ≤ 2 ∧ (2 : Int) ≤ 255; decide, by show 0 ≤ n ∧ n ≤ _; omega, h2, by show (-9223372036854775808 : Int) ≤ 0 ∧ (0 : Int) ≤ 9223372036854775807; decide⟩
theorem cE_ok {d n : Int} (hd : d = 3 ∨ d = 4) (h : 0 ≤ n ∧ n ≤ 1000000) : (cE d n).Ok := ⟨by show 0 ≤ d ∧ d ≤ 255; omega, by show 0 ≤ n ∧ n ≤ _; omega, by show (0 : Int) ≤ 0 ∧ (0 : Int) ≤ 65535; decide, by show (-9223372036854775808 : Int) ≤ 0 ∧ (0 : Int) ≤ 9223372036854775807; decide⟩
theorem cell_old {w w' : World} {B : Nat} {p : Addr} {u : Value} (h : w.cell? p = some u) (hb : Below B w w') (hp : p.block < B) : w'.cell? p = some u := by
  rw [← h]; exact World.cell?_of_block (hb.block _ hp)
end Go.Proofs.Ytpncmbkklkfmnaa
