/-
  The document's machine as it lies in memory: all calls that were done, in order; what is told of it, as plain functions.
-/
import Derived.Test.YtpncmbkklkfmnaaMri
namespace Go.Proofs.Ytpncmbkklkfmnaa
open Go.ChangeShapes Go.WideShapes Go.ChangeAt Go.RowKit
open Go.Deep Go.Maps
set_option linter.unusedVariables false
set_option linter.unusedSimpArgs false
set_option maxRecDepth 20000


/-- A call that was done, and what was answered. -/
structure Dn where
  c : Cal
  r : Rep
def Dn.cells (d : Dn) : List Value := d.c.cells ++ d.r.cells
def Dn.arr (d : Dn) : Array Value := d.cells.toArray
structure Dn.Ok (d : Dn) : Prop where
  c : d.c.Ok
  len : d.r.body.length = 64
theorem Dn.cells_length {d : Dn} (h : d.Ok) : d.cells.length = 72 := by simp [Dn.cells, Cal.cells, Rep.cells, h.len]
theorem Dn.arr_size {d : Dn} (h : d.Ok) : d.arr.size = 72 := by simp [Dn.arr, Dn.cells_length h]
theorem Dn.one (d : Dn) : d.arr.all (·.oneCell') = true := by simp [Dn.arr, Dn.cells, Cal.cells, Rep.cells, Value.oneCell']
def flatD (ds : List Dn) : List Value := ds.flatMap Dn.cells
theorem flatD_append (a b : List Dn) : flatD (a ++ b) = flatD a ++ flatD b := List.flatMap_append
theorem flatD_at : ∀ {ds : List Dn} (hl : ∀ d ∈ ds, d.Ok) (i j : Nat) (d : Dn), ds[i]? = some d → j < 72 → (flatD ds)[i * 72 + j]? = d.cells[j]?
  | [], _, i, j, b, h, _ => by simp at h
  | c :: r, hl, 0, j, b, h, hj => by
    simp at h; subst h
    show (c.cells ++ flatD r)[0 * 72 + j]? = _
    rw [Nat.zero_mul, Nat.zero_add, List.getElem?_append_left (by rw [Dn.cells_length (hl c (List.mem_cons_self ..))]; exact hj)]
  | c :: r, hl, i + 1, j, b, h, hj => by
    have hc := Dn.cells_length (hl c (List.mem_cons_self ..))
    show (c.cells ++ flatD r)[(i + 1) * 72 + j]? = _
    rw [List.getElem?_append_right (by rw [hc]; omega), hc, show (i + 1) * 72 + j - 72 = i * 72 + j by omega]
    exact flatD_at (fun d hd => hl d (List.mem_cons_of_mem _ hd)) i j b (by simpa using h) hj
def Dn.zero : Dn := ⟨aw0, Rep.zero⟩
theorem size63 : (Try.prog.info? 63).map (·.size) = some 72 := by kernel_rfl
theorem size30 : (Try.prog.info? 30).map (·.size) = some 3 := by kernel_rfl
theorem zero63 (w : World) : (zeroValue 63).run Try.prog w = .ok (.agg Dn.zero.arr) w := (zero_of_info (P := Try.prog) (t := 63) (v := .agg Dn.zero.arr) (n := 72) (by kernel_rfl)).1 w
theorem info63 : (Try.prog.info? 63).map (fun i => (i.zero, i.size, i.bytes)) = some (some (.agg Dn.zero.arr), 72, 136) := by kernel_rfl
theorem Dn.zero_ok : Dn.zero.Ok := ⟨aw_ok.1, zs_length _⟩
/-- The document's machine in memory. -/
structure RM (w0 : World) (w : World) (r : Nat) (n : Nat) (mx : Int) (v : Value) (ds : List Dn) : Prop where
  row : Row w r #[.int .i64 n, .int .u32 mx, v] 30
  own : w.ownsRow w0.heap.size 63 72 v ds.length (flatD ds)
  ok : ∀ d ∈ ds, d.Ok
  lo : w0.heap.size ≤ r
  few : ds.length ≤ 40
theorem RM.off {w0 w w' : World} {G : Nat → Prop} {r n : Nat} {mx : Int} {v : Value} {ds : List Dn} (h : RM w0 w r n mx v ds) (ho : Off G w w') (hr : ¬ G r) (hv : ∀ k, v.ownBlock = some k → ¬ G k) : RM w0 w' r n mx v ds := ⟨h.row.off ho hr, ownsRow_off h.own ho hv, h.ok, h.lo, h.few⟩
theorem RM.below {w0 w w' : World} {r n : Nat} {mx : Int} {v : Value} {ds : List Dn} (h : RM w0 w r n mx v ds) (hb : Below w.heap.size w w') : RM w0 w' r n mx v ds := h.off (G := fun _ => False) (Off.of_below hb) (fun q => q) (fun _ _ q => q)
theorem RM.form {w0 w : World} {r n : Nat} {mx : Int} {v : Value} {ds : List Dn} (h : RM w0 w r n mx v ds) : ∃ (oa : Option Addr) (cap : Nat), v = .slice oa ds.length cap ∧ ∀ i d, ds[i]? = some d → ∃ a : Addr, oa = some a ∧ ∀ j u, d.cells[j]? = some u → w.cell? ((a.add (i * 72)).add j) = some u := by
  rcases h.own.2 with ⟨e, h0⟩ | ⟨g, cap, cur, e, _⟩
  · refine ⟨none, 0, by rw [e, h0], fun i d hd => ?_⟩
    rw [List.eq_nil_of_length_eq_zero h0] at hd
    simp at hd
  · refine ⟨some ⟨g, 0, none⟩, cap, e, fun i d hd => ⟨⟨g, 0, none⟩, rfl, fun j u hj => ?_⟩⟩
    have h2 := h.own
    rw [e] at h2
    have hl := (List.getElem?_eq_some_iff.1 hd).1
    have hj72 : j < 72 := by have := (List.getElem?_eq_some_iff.1 hj).1; rw [Dn.cells_length (h.ok d (List.mem_of_getElem? hd))] at this; exact this
    rw [Addr.add_mid, Addr.add_mid, h2.cellAt _ (by omega), Nat.zero_add, flatD_at h.ok i j d hd hj72]
    exact hj
/-- The start of any transaction: the first begin with its number. -/
def isB (d : Dn) (n : Int) : Bool := decide (d.c.kind = 0) && decide (d.r.err = 0) && decide (d.r.txn = n)
def bgV (ds : List Dn) (n : Int) : Int := match ds.find? fun d => isB d n with | some d => d.r.ts | none => 0
/-- The last commit's timestamp. -/
def lsV (ds : List Dn) : Int := ds.foldl (fun t d => if d.c.kind = 3 ∧ d.r.err = 0 then max t d.r.ts else t) 0
/-- The start of a transaction that is live. -/
def bgS (n : Int) (p : Int × Bool) (d : Dn) : Int × Bool :=
  let q := if d.c.kind = 0 ∧ d.r.err = 0 ∧ d.r.txn = n ∧ 0 < n then (d.r.ts, true) else p
  if (d.c.kind = 3 ∨ d.c.kind = 4) ∧ d.c.txn = n ∧ d.r.err ≠ 9 then (q.1, false) else q
def bgR (ds : List Dn) (n : Int) : Int × Bool := ds.foldl (bgS n) (0, false)
/-- Whether a call is a write of a transaction to a page that was done. -/
def isW (n k : Int) (d : Dn) : Bool := decide (d.c.kind = 2) && decide (d.c.txn = n) && decide (d.c.page = k) && decide (d.r.err = 0)
def wrS (n k : Int) (p : List Int × Bool) (d : Dn) : List Int × Bool := if isW n k d = true then (wrote p.1 d.c.off d.c.str, true) else p
def wrR' (ds : List Dn) (n k : Int) (b : List Int) : List Int × Bool := ds.foldl (wrS n k) (b, false)
theorem built30 (n mx : Int) : Try.prog.built 30 [(0, .int .i64 n), (1, .int .u32 mx)] = some #[.int .i64 n, .int .u32 mx, .slice none 0 0] := by kernel_rfl
end Go.Proofs.Ytpncmbkklkfmnaa
