/-
  Plain facts on pages and records that lie in blocks while calls go on.
-/
import Derived.Test.YtddhjkgefninbaaOpn
namespace Go.Proofs.Ytddhjkgefninbaa
open Go.ChangeShapes Go.WideShapes Go.ChangeAt Go.RowKit
set_option linter.unusedVariables false
set_option linter.unusedSimpArgs false
set_option maxRecDepth 20000

theorem yields_st {P : Program} {ops : Array Oper} {S : World → Prop} {o : Oper} {a : Act} (hw : Region.wanted o (yielded ops a.tmps) = true) (ty : TypeId) (x : Operand) (ho : o.op = .load ty x)
    (g : Nat) (hx : a.eval x = .pointer (some ⟨g, 0, none⟩)) (t : TypeId) (cs : Array Value) (hg : ∀ w, S w → Row w g cs t) {d : TypeDesc}
    (hu : P.underlying ty = some d) (hd : (match d with | .struct _ | .array _ _ => true | _ => false) = true) (hi : (P.info? ty).map (·.size) = some cs.size) : YieldsIf P ops S o (.agg cs) a := by
  refine Or.inl ⟨hw, fun w hS => ?_⟩
  unfold execOp
  simp only [ho, hx, Instr.loadAt, Instr.sureAddr, Sem.run_bind, Sem.run_pure, Result.andThen_ok, run_loadVar_row w g t ty cs (0, 0) _ (hg w hS) hu hd hi]
/-- The two arguments where they lie. -/
structure Bx (w wr : World) (lsn : Int) (v : Value) (o : O) : Prop where
  u : Row wr w.heap.size #[.int .u64 lsn, v] 33
  o : Row wr (w.heap.size + 1) o.arr 50
  b : Below w.heap.size w wr
theorem Bx.down {w wr wr' : World} {lsn : Int} {v : Value} {o : O} (h : Bx w wr lsn v o) (hb : Below wr.heap.size wr wr') : Bx w wr' lsn v o := ⟨h.u.below hb h.u.lt, h.o.below hb h.o.lt, h.b.trans (hb.mono h.b.size)⟩
theorem Bx.setRow {w wr : World} {lsn : Int} {v : Value} {o : O} (h : Bx w wr lsn v o) (g : Nat) (hg : w.heap.size + 2 ≤ g) (cs : Array Value) : Bx w (wr.setRow g cs) lsn v o := ⟨h.u.other (by omega) _, h.o.other (by omega) _, below_setRow h.b (by omega) _⟩
/-- A page that lies in a block, with records of its own. -/
structure Pg (w wr : World) (P : Nat) (lsn : Int) (v : Value) (os : List O) : Prop where
  row : Row wr P #[.int .u64 lsn, v] 33
  own : Own wr (w.heap.size + 2) v os
  hi : w.heap.size + 2 ≤ P
theorem Pg.down {w wr wr' : World} {P : Nat} {lsn : Int} {v : Value} {os : List O} (h : Pg w wr P lsn v os) (hb : Below wr.heap.size wr wr') : Pg w wr' P lsn v os := ⟨h.row.below hb h.row.lt, h.own.keep hb, h.hi⟩
theorem Own.rowOther {w : World} {base : Nat} {v : Value} {os : List O} (h : Own w base v os) {j : Nat} {cs : Array Value} (hj : Row w j cs 33) (cs' : Array Value) : Own (w.setRow j cs') base v os := by
  obtain ⟨h1, h2⟩ := h
  refine ⟨h1, ?_⟩
  rcases h2 with h2 | ⟨g, cap, cur, rfl, hb', hc, rest⟩
  · exact Or.inl h2
  · refine Or.inr ⟨g, cap, cur, rfl, hb', ?_, rest⟩
    rw [setRow_other w j g cs' (fun q => by subst q; unfold Row at hj; rw [hj] at hc; cases hc)]
    exact hc
/-- All that SlotBack's last statement reads. -/
structure Sb (w wr : World) (lsn : Int) (v : Value) (o : O) (P : Nat) (v2 : Value) (os2 : List O) (R : Nat) (Q : Nat) (v5 : Value) (os : List O) : Prop where
  x : Bx w wr lsn v o
  p : Pg w wr P lsn v2 os2
  r : Row wr R o.arr 50
  q : Pg w wr Q lsn v5 os
theorem Sb.down {w wr wr' : World} {lsn : Int} {v : Value} {o : O} {P : Nat} {v2 : Value} {os2 : List O} {R Q : Nat} {v5 : Value} {os : List O} (h : Sb w wr lsn v o P v2 os2 R Q v5 os) (hb : Below wr.heap.size wr wr') : Sb w wr' lsn v o P v2 os2 R Q v5 os := ⟨h.x.down hb, h.p.down hb, h.r.below hb h.r.lt, h.q.down hb⟩
theorem spare_small {os : List O} {o : O} (h : addE os o = 0) : spareAt os ≤ 15 ∧ os.length ≤ 15 ∧ (added os o).length ≤ 15 := by
  obtain ⟨hf, hm⟩ := addE_ok h
  unfold fit at hf
  simp only [Bool.and_eq_true] at hf
  have h1 := (may_small hf.1.1).1
  have h2 := spare_le os
  exact ⟨by omega, h1, (may_small hm).1⟩
end Go.Proofs.Ytddhjkgefninbaa
