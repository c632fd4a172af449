/-
  Plain facts on a page that is handed in with a mark in its spare room, and on calls that came in.
-/
import Derived.Test.YtomlbkdagaldoabKeep
namespace Go.Proofs.Ytomlbkdagaldoab
open Go.ChangeShapes Go.WideShapes Go.ChangeAt Go.RowKit
set_option linter.unusedVariables false
set_option linter.unusedSimpArgs false

theorem load_mid_g {P : Program} {ops : Array Oper} {rest : List Oper} {op : Oper} {a : Act} {w : World} {Q : Exit → Act → World → Prop} (hgd : Region.wanted op (yielded ops a.tmps) = true) (ty : TypeId) (x : Operand) (ho : op.op = .load ty x)
    (b o : Nat) (hx : a.eval x = .pointer (some ⟨b, o, none⟩)) (cs : List Value) (d : TypeDesc) (hc : w.rangeAt b o cs)
    (hu : P.underlying ty = some d) (hd : d.isRow = true) (hi : (P.info? ty).map (·.size) = some cs.length)
    (h : wpList P ops Q rest (a.put op.dst (.agg cs.toArray)) w) : wpList P ops Q (op :: rest) a w :=
  BigFrame.wpList_want hgd fun _ hK => wp_load_mid ty x ho b o hx cs d hc hu hd hi (hK _ _ h)
/-- A call of the statements, as cells. -/
def opArr (kd : Int) (s : Nat) (o : O) : Array Value := #[.int .i64 kd, .int .u8 (s : Int), .bool o.live, .int .u16 o.page, .int .u32 o.ts, .int .u16 o.np, .int .u8 o.ns, .string o.delta]
def p77 : O := ⟨false, 0, 77, 0, 0, ByteArray.empty⟩
/-- The arguments, and what is answered, where they lie. -/
structure Ko (w wr : World) (lsn : Int) (v : Value) (kd : Int) (s : Nat) (o : O) (lx : Int) (vx : Value) : Prop where
  u : Row wr w.heap.size #[.int .u64 lsn, v] 25
  p : Row wr (w.heap.size + 1) (opArr kd s o) 48
  x : Row wr (w.heap.size + 2) #[.int .u64 lx, vx] 25
  b : Below w.heap.size w wr
theorem Ko.down {w wr wr' : World} {lsn : Int} {v : Value} {kd : Int} {s : Nat} {o : O} {lx : Int} {vx : Value} (h : Ko w wr lsn v kd s o lx vx) (hb : Below wr.heap.size wr wr') : Ko w wr' lsn v kd s o lx vx := ⟨h.u.below hb h.u.lt, h.p.below hb h.p.lt, h.x.below hb h.x.lt, h.b.trans (hb.mono h.b.size)⟩
theorem Ko.set {w wr : World} {lsn : Int} {v : Value} {kd : Int} {s : Nat} {o : O} {lx : Int} {vx : Value} (h : Ko w wr lsn v kd s o lx vx) (l2 : Int) (v2 : Value) : Ko w (wr.setRow (w.heap.size + 2) #[.int .u64 l2, v2]) lsn v kd s o l2 v2 := ⟨h.u.other (by omega) _, h.p.other (by omega) _, h.x.set _, below_setRow h.b (by omega) _⟩
theorem Ko.grown {w wr wr' : World} {lsn : Int} {v : Value} {kd : Int} {s : Nat} {o : O} {lx : Int} {vx : Value} {row : Option Nat} (h : Ko w wr lsn v kd s o lx vx) (gr : wr.grownBy wr' row) (hr : ∀ g, row = some g → w.heap.size + 3 ≤ g) : Ko w wr' lsn v kd s o lx vx :=
  ⟨h.u.grown gr (fun q => by have := hr _ q; omega), h.p.grown gr (fun q => by have := hr _ q; omega), h.x.grown gr (fun q => by have := hr _ q; omega), h.b.grown gr h.b.size (fun k hk => by have := hr _ hk; omega)⟩
theorem Ko.setCell {w wr : World} {lsn : Int} {v : Value} {kd : Int} {s : Nat} {o : O} {lx : Int} {vx : Value} (h : Ko w wr lsn v kd s o lx vx) (N j : Nat) (hN : w.heap.size + 3 ≤ N) (x : Value) : Ko w (wr.setCell ⟨N, j, none⟩ x) lsn v kd s o lx vx :=
  ⟨row_setCell_other h.u (by omega) _ _, row_setCell_other h.p (by omega) _ _, row_setCell_other h.x (by omega) _ _, h.b.setCell (p := ⟨N, j, none⟩) (by show w.heap.size ≤ N; omega) _⟩
/-- The page that is handed in, with a mark in its spare room. -/
structure In (w wr : World) (N : Nat) (lsn : Int) (g n cap : Nat) (os : List O) : Prop where
  row : Row wr N #[.int .u64 lsn, .slice (some ⟨g, 0, none⟩) n cap] 25
  own : Own wr (w.heap.size + 3) (.slice (some ⟨g, 0, none⟩) (n + 1) cap) (os ++ [p77])
  len : os.length = n
  hi : w.heap.size + 3 ≤ N
theorem In.down {w wr wr' : World} {N : Nat} {lsn : Int} {g n cap : Nat} {os : List O} (h : In w wr N lsn g n cap os) (hb : Below wr.heap.size wr wr') : In w wr' N lsn g n cap os := ⟨h.row.below hb h.row.lt, h.own.keep hb, h.len, h.hi⟩
theorem In.olds {w wr : World} {N : Nat} {lsn : Int} {g n cap : Nat} {os : List O} (h : In w wr N lsn g n cap os) : Olds wr (.slice (some ⟨g, 0, none⟩) n cap) os := by
  have := (h.own.cut n (by simp [h.len])).olds
  rwa [List.take_left' h.len] at this
theorem In.cap {w wr : World} {N : Nat} {lsn : Int} {g n cap : Nat} {os : List O} (h : In w wr N lsn g n cap os) : n + 1 ≤ cap := by
  rcases h.own.2 with ⟨q, _⟩ | ⟨g', c', cur, q, _, _, hle, _⟩
  · cases q
  · injection q with _ _ q3
    rw [q3]; simpa [h.len] using hle
theorem In.mark {w wr : World} {N : Nat} {lsn : Int} {g n cap : Nat} {os : List O} (h : In w wr N lsn g n cap os) : wr.cell? ⟨g, n * 6 + 2, none⟩ = some (.int .u32 77) := by
  have := World.ownsRow.cells h.own (g := g) rfl (n * 6 + 2) (.int .u32 77) (by rw [flat_at (os ++ [p77]) n 2 p77 (by rw [List.getElem?_append_right (by rw [h.len]; exact Nat.le_refl _), h.len]; simp) (by omega)]; rfl)
  rwa [Addr.add_mid, Nat.zero_add] at this
theorem In.set {w wr : World} {N : Nat} {lsn : Int} {g n cap : Nat} {os : List O} {cs : Array Value} (h : In w wr N lsn g n cap os) (hx : Row wr (w.heap.size + 2) cs 25) (cs' : Array Value) : In w (wr.setRow (w.heap.size + 2) cs') N lsn g n cap os := ⟨h.row.other (by have := h.hi; omega) _, h.own.rowOther hx _, h.len, h.hi⟩
theorem Own.snocP {w : World} {base : Nat} {v : Value} {os : List O} (h : Own w base v os) (ty : TypeId) (X : Nat) (p : O) (hX : Row w X p.arr 31) (hb : base ≤ w.heap.size) (hn : os.length ≤ 1000) :
    ∃ v' w', (Builtin.append_ #[23, 23] ty #[v, .slice (some ⟨X, 0, none⟩) 1 1]).run Try.prog w = .ok v' w' ∧ Own w' base v' (os ++ [p]) ∧ w.grownBy w' v.ownBlock := by
  obtain ⟨i, hi, hz, hs, hby⟩ := info_parts info31
  obtain ⟨v', w', hr, h2, h3, h4, h5⟩ := run_append_own_at (P := Try.prog) w base 23 ty 31 i _ 6 32 Try.underlying23 hi hz hs hby rfl (by decide) v os.length (flat os) h ⟨X, 0, none⟩ 1 1 p.cells rfl (fun j u hj => by rw [Addr.add_mid, Nat.zero_add, cell_of_row w X j _ _ _ hX, ← hj]; show p.cells.toArray[j]? = _; rw [List.getElem?_toArray]) (fun u hu => flat_one [p] u (by simpa [flat] using hu)) (by unfold maxLen; omega) (by omega) hb
  refine ⟨v', w', hr, ?_, h3⟩
  unfold Own
  rw [flat_append, List.length_append]
  exact h2
theorem size48 : (Try.prog.info? 48).map (·.size) = some 8 := by kernel_rfl
theorem cells48 : Try.prog.cellsOf 48 = 8 := by kernel_rfl
theorem cells3 : Try.prog.cellsOf 3 = 1 := by kernel_rfl
section
open Go.Deep
variable {H : Type} {enc : TypeId × Value → H}
theorem open_opv {w : World} {base : Nat} {v : Value} {d : DataW H} {p : List MemPlace} (hv : Value.okWide Try.prog w .any base 48 v) (h : DataW.Trod enc Try.prog w 0 (fun _ => true) true 48 v d p) (hs : (d.weights Try.prog 48).all (· ≤ reachBytes) = true) :
    ∃ (kd : Int) (s : Nat) (o : O), v = .agg (opArr kd s o) ∧ s < 256 := by
  obtain ⟨cs, rfl, hsz⟩ := okWide_struct Try.underlying48 hv
  obtain ⟨fuel, hf⟩ := h
  have hc : ∃ (kd : Int) (s : Nat) (o : O), cs.toList = .int .i64 kd :: .int .u8 (s : Int) :: o.cells ∧ s < 256 := by
    have hf' : DataW.trod enc Try.prog w 0 (fun _ => true) true fuel 48 cs.toList = some (d, p) := hf
    generalize cs.toList = l at hf'
    cases fuel with
    | zero => simp [DataW.trod] at hf'
    | succ n =>
      unfold DataW.trod at hf'
      rw [Try.underlying48] at hf'
      simp only [cells48] at hf'
      by_cases hl : l.length = 8
      · match l, hl with
        | [c0, c1, c2, c3, c4, c5, c6, c7], _ =>
          simp [List.mapM_cons, cells3, cells5, cells31] at hf'
          cases t0 : DataW.trod enc Try.prog w 0 (fun _ => true) true n 3 [c0] with
          | none => simp [t0] at hf'
          | some x0 =>
          cases t1 : DataW.trod enc Try.prog w 0 (fun _ => true) true n 5 [c1] with
          | none => simp [t0, t1] at hf'
          | some x1 =>
          cases t2 : DataW.trod enc Try.prog w 0 (fun _ => true) true n 31 [c2, c3, c4, c5, c6, c7] with
          | none => simp [t0, t1, t2] at hf'
          | some x2 =>
          obtain ⟨k0, e0, _⟩ := DataW.trod_int Try.underlying3 t0
          obtain ⟨k1, e1, _, w1⟩ := DataW.trod_int Try.underlying5 t1
          obtain ⟨o, ho⟩ := open_old t2
          have hb := bounds_u8 w1
          simp at e0 e1
          refine ⟨k0, k1.toNat, o, ?_, by omega⟩
          rw [e0, e1, ← ho, Int.toNat_of_nonneg hb.1]
      · simp [hl] at hf'
  obtain ⟨kd, s, o, h1, h2⟩ := hc
  refine ⟨kd, s, o, ?_, h2⟩
  show Value.agg cs = Value.agg (Value.int .i64 kd :: .int .u8 (s : Int) :: o.cells).toArray
  rw [← h1]
end
end Go.Proofs.Ytomlbkdagaldoab
