/-
  Proved here: what all of the model's statements use in their walks.
-/
import Derived.Test.YtpncmbkklkfmnaaMth
namespace Go.Proofs.Ytpncmbkklkfmnaa
open Go.ChangeShapes Go.WideShapes Go.ChangeAt Go.RowKit
open Go.Deep Go.Maps
set_option linter.unusedVariables false
set_option linter.unusedSimpArgs false
theorem zero35 (w : World) : (zeroValue 35).run Try.prog w = .ok (.agg #[.int .u8 0, .int .u64 0, .int .u16 0, .int .i64 0, .string ⟨#[]⟩]) w := (zero_of_info (P := Try.prog) (t := 35) (v := .agg #[.int .u8 0, .int .u64 0, .int .u16 0, .int .i64 0, .string ⟨#[]⟩]) (n := 5) (by kernel_rfl)).1 w
theorem Cal.one (c : Cal) : c.arr.all (·.oneCell') = true := by simp [Cal.arr, Value.oneCell']
theorem Cal.size (c : Cal) : c.arr.size = 5 := rfl
theorem Cal.cells_arr (c : Cal) : c.cells.toArray = c.arr := rfl
theorem cR_ok {n k : Int} (h : 0 ≤ n ∧ n ≤ 1000000) (h2 : 0 ≤ k ∧ k ≤ 65535) : (cR n k).Ok := ⟨by show (0 : Int) ≤ 1 ∧ (1 : Int) ≤ 255; decide, by show 0 ≤ n ∧ n ≤ _; omega, h2, by show (-9223372036854775808 : Int) ≤ 0 ∧ (0 : Int) ≤ 9223372036854775807; decide⟩
theorem cW_ok {n k : Int} (t : ByteArray) (h : 0 ≤ n ∧ n ≤ 1000000) (h2 : 0 ≤ k ∧ k ≤ 65535) : (cW n k t).Ok := ⟨by show (0 : Int) ≤ 2 ∧ (2 : Int) ≤ 255; decide, by show 0 ≤ n ∧ n ≤ _; omega, h2, by show (-9223372036854775808 : Int) ≤ 0 ∧ (0 : Int) ≤ 9223372036854775807; decide⟩
theorem cE_ok {d n : Int} (hd : d = 3 ∨ d = 4) (h : 0 ≤ n ∧ n ≤ 1000000) : (cE d n).Ok := ⟨by show 0 ≤ d ∧ d ≤ 255; omega, by show 0 ≤ n ∧ n ≤ _; omega, by show (0 : Int) ≤ 0 ∧ (0 : Int) ≤ 65535; decide, by show (-9223372036854775808 : Int) ≤ 0 ∧ (0 : Int) ≤ 9223372036854775807; decide⟩
theorem load_any_g {P : Program} {ops : Array Oper} {rest : List Oper} {op : Oper} {a : Act} {w : World} {Q : Exit → Act → World → Prop} (hgd : Region.wanted op (yielded ops a.tmps) = true) (ty : TypeId) (x : Operand) (ho : op.op = .load ty x)
    (p : Addr) (hx : a.eval x = .pointer (some p)) (cs : List Value) (d : TypeDesc) (hc : ∀ j v, cs[j]? = some v → w.cell? (p.add j) = some v)
    (hu : P.underlying ty = some d) (hd : d.isRow = true) (hi : (P.info? ty).map (·.size) = some cs.length)
    (h : wpList P ops Q rest (a.put op.dst (.agg cs.toArray)) w) : wpList P ops Q (op :: rest) a w := by
  refine BigFrame.wpList_want hgd fun K hK => ?_
  have hl : (loadCells p cs.length).run P w = .ok cs.toArray w := run_loadCells_list (P := P) w p cs hc
  have hrun : (loadVar ty p).run P w = .ok (.agg cs.toArray) w := by
    cases hq : P.info? ty with
    | none => simp [hq] at hi
    | some i =>
      have hs : i.size = cs.length := by simpa [hq] using hi
      have hagg : (isAgg ty).run P w = .ok true w := by
        unfold isAgg
        rw [Sem.run_bind, run_underlying hu w]
        cases d <;> simp_all
      simp [loadVar, Sem.run_bind, hagg, sizeOf, typeInfo, hq, hs, hl]
  unfold Oper.wp execOp
  simp only [ho, hx, Instr.loadAt, Instr.sureAddr, Sem.run_bind, Sem.run_pure, Result.andThen_ok, hrun]
  exact hK _ _ h
theorem rbody_cells {W : World} {X : Nat} {R : Rep} {A : Array Value} (e : R.arr = A) (r : Row W X A 40) : ∀ j u, (R.body.map (Value.int .u8))[j]? = some u → W.cell? ((⟨X, 3, none⟩ : Addr).add j) = some u := fun j u h => by
  rw [Addr.add_mid]
  refine row_at r (3 + j) _ ?_
  rw [← e]
  unfold Rep.arr Rep.cells
  rw [List.getElem?_toArray, Nat.add_comm]
  exact h
theorem vbody_cells {W : World} {X : Nat} {R : Ver} {A : Array Value} (e : R.arr = A) (r : Row W X A 44) : ∀ j u, (R.body.map (Value.int .u8))[j]? = some u → W.cell? ((⟨X, 1, none⟩ : Addr).add j) = some u := fun j u h => by
  rw [Addr.add_mid]
  refine row_at r (1 + j) _ ?_
  rw [← e]
  unfold Ver.arr Ver.cells
  rw [List.getElem?_toArray, Nat.add_comm]
  exact h
theorem cell_old {w w' : World} {B : Nat} {p : Addr} {u : Value} (h : w.cell? p = some u) (hb : Below B w w') (hp : p.block < B) : w'.cell? p = some u := by
  rw [← h]; exact World.cell?_of_block (hb.block _ hp)
end Go.Proofs.Ytpncmbkklkfmnaa
