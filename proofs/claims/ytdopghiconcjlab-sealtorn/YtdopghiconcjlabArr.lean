/-
  Plain facts on arrays of bytes that go as values: what a block holds, how a whole array is loaded, stored, copied and handed back.
-/
import Derived.Test.YtdopghiconcjlabRows
import Derived.WalkKit
import Derived.ProofKit
import Derived.OpenShut
import Derived.ShutString
import Derived.Laws.BitsAllLaws
import Derived.Laws.BytesArg
import Derived.WalkSpells
import Derived.Laws.CopyOwn
import Derived.Laws.Rows
import Derived.Deep.RegionLaw
import Derived.Deep.WholeRow
namespace Go.Proofs.Ytdopghiconcjlab
open Go.ChangeShapes Go.WideShapes Go.ChangeAt Go.RowKit
set_option linter.unusedVariables false

/-- Bytes as an array's cells. -/
def bs (ys : List Int) : Array Value := (ys.map (Value.int .u8)).toArray
theorem bs_size (ys : List Int) : (bs ys).size = ys.length := by simp [bs]
theorem bs_one (ys : List Int) : (bs ys).all (·.oneCell') = true := by simp [bs, Value.oneCell']
theorem bs_at (ys : List Int) (j : Nat) : (bs ys)[j]? = ys[j]?.map (Value.int .u8) := by simp [bs]
def zs (n : Nat) : List Int := List.replicate n 0
theorem zs_length (n : Nat) : (zs n).length = n := by simp [zs]

/-- What a block holds. -/
def Row (w : World) (g : Nat) (cs : Array Value) (t : TypeId) : Prop := w.heap[g]? = some (.cells cs t (0, 0))
theorem Row.new (w : World) (cs : Array Value) (t : TypeId) : Row (w.alloc (.cells cs t)) w.heap.size cs t := heap_alloc_last w _
theorem Row.alloc {w : World} {g : Nat} {cs : Array Value} {t : TypeId} (h : Row w g cs t) (o : Obj) : Row (w.alloc o) g cs t := by
  unfold Row at h ⊢
  have hl : g < w.heap.size := (Array.getElem?_eq_some_iff.1 h).1
  rw [Below.heap_alloc w o g hl]; exact h
theorem Row.below {B : Nat} {w w' : World} {g : Nat} {cs : Array Value} {t : TypeId} (h : Row w g cs t) (hb : Below B w w') (hl : g < B) : Row w' g cs t := by
  unfold Row at h ⊢; rw [hb.block g hl]; exact h
theorem Row.set {w : World} {g : Nat} {cs : Array Value} {t : TypeId} (h : Row w g cs t) (cs' : Array Value) : Row (w.setRow g cs') g cs' t := setRow_heap w g cs cs' t _ h
theorem Row.other {w : World} {g k : Nat} {cs : Array Value} {t : TypeId} (h : Row w k cs t) (hk : k ≠ g) (cs' : Array Value) : Row (w.setRow g cs') k cs t := by
  unfold Row at h ⊢; rw [setRow_other w g k cs' hk]; exact h
theorem Row.lt {w : World} {g : Nat} {cs : Array Value} {t : TypeId} (h : Row w g cs t) : g < w.heap.size := (Array.getElem?_eq_some_iff.1 h).1

section
variable {P : Program}
theorem load_row {ops : Array Oper} {rest : List Oper} {o : Oper} {a : Act} {w : World} {Q : Exit → Act → World → Prop} (hgd : o.guard = none) (ty : TypeId) (x : Operand) (ho : o.op = .load ty x)
    (g : Nat) (hx : a.eval x = .pointer (some ⟨g, 0, none⟩)) (t : TypeId) (cs : Array Value) (hg : Row w g cs t) (n : Nat) (e : TypeId)
    (hu : P.underlying ty = some (.array n e)) (hi : (P.info? ty).map (·.size) = some n) (hn : cs.size = n)
    (h : wpList P ops Q rest (a.put o.dst (.agg cs)) w) : wpList P ops Q (o :: rest) a w :=
  wpList_load_row hgd ty x ho g hx t cs (0, 0) _ hg hu rfl (by rw [hi, hn]) h
theorem store_row {ops : Array Oper} {rest : List Oper} {o : Oper} {a : Act} {w : World} {Q : Exit → Act → World → Prop} (hgd : o.guard = none) (ty : TypeId) (x y : Operand) (ho : o.op = .store ty x y)
    (g : Nat) (ys : List Int) (hx : a.eval x = .pointer (some ⟨g, 0, none⟩)) (hy : a.eval y = .agg (bs ys))
    (t : TypeId) (old : Array Value) (hg : Row w g old t) (n : Nat) (hi : (P.info? ty).map (·.size) = some n)
    (hold : old.size = n) (hn : ys.length = n)
    (h : wpList P ops Q rest (a.put o.dst undef) (w.setRow g (bs ys))) : wpList P ops Q (o :: rest) a w :=
  wpList_store_row hgd ty x y ho g (bs ys) hx hy t old hg (by rw [hi, bs_size, hn]) (by rw [hold, bs_size, hn]) (bs_one ys) h
theorem ret_row {fn : Func} {p : Tmp} {ty : TypeId} (h : fn.results = #[.cell p ty]) (tmps : Array Value) (w : World) (g : Nat) (t : TypeId) (cs : Array Value) (n : Nat) (e : TypeId)
    (hp : tmps.getD p undef = .pointer (some ⟨g, 0, none⟩)) (hg : Row w g cs t)
    (hu : P.underlying ty = some (.array n e)) (hi : (P.info? ty).map (·.size) = some n) (hn : cs.size = n) :
    (results fn tmps).run P w = .ok (.agg cs) w :=
  results_cell_row h tmps w g t cs (0, 0) _ hp hg hu rfl (by rw [hi, hn])

/-- copy from one array of bytes to another one, as a step of a region. -/
theorem step_copy {ops : Array Oper} {o : Oper} {a : Act} {w : World} {K : Act → World → Prop} {Q : Exit → Act → World → Prop} {E : Prop} (hgd : o.guard = none) (d s : Operand) (dT sT : TypeId)
    (ho : o.op = .call { callee := .builtin .copy, args := #[d, s], argTypes := #[dT, sT] }) (elem : TypeId) (hu : P.underlying dT = some (.slice elem)) (hsz : (P.info? elem).map (·.size) = some 1)
    (g off dLen dCap g2 so sLen sCap : Nat) (hd : a.eval d = .slice (some ⟨g, off, none⟩) dLen dCap) (hs : a.eval s = .slice (some ⟨g2, so, none⟩) sLen sCap)
    (cur src : List Int) (t t2 : TypeId) (hg : Row w g (bs cur) t) (hg2 : Row w g2 (bs src) t2) (n : Nat) (hn : n = Nat.min sLen dLen)
    (hfit : off + n ≤ cur.length) (hso : so + n ≤ src.length)
    (res : List Int) (hres : splice cur off ((src.drop so).take n) = res) (h : K (a.put o.dst (goInt n)) (w.setRow g (bs res))) :
    if Region.wanted o (yielded ops a.tmps) = true then Oper.wp P o a w K Q else E := by
  subst hres
  have hw : Region.wanted o (yielded ops a.tmps) = true := by simp [Region.wanted, hgd]
  rw [if_pos hw]
  have hl : ((src.drop so).take n).length = n := by simp; omega
  have hsrc : ∀ j v, (((src.drop so).take n).map (Value.int .u8))[j]? = some v → w.cell? ((⟨g2, so, none⟩ : Addr).add j) = some v := by
    intro j v hv
    have hadd : (⟨g2, so, none⟩ : Addr).add j = ⟨g2, so + j, none⟩ := by unfold Addr.add; split <;> simp_all
    rw [hadd, cell_of_row w g2 (so + j) _ _ _ hg2, bs_at]
    rw [List.getElem?_map, List.getElem?_take] at hv
    split at hv
    · rw [List.getElem?_drop] at hv; exact hv
    · simp at hv
  have hrun := run_copy_row (P := P) w dT sT o.type elem g off dLen dCap ⟨g2, so, none⟩ sLen sCap (bs cur) t (((src.drop so).take n).map (Value.int .u8)) hu hsz hg (by rw [List.length_map, hl, hn]) hsrc (by rw [List.length_map, hl, bs_size]; exact hfit) (by intro v hv; obtain ⟨x, _, rfl⟩ := List.mem_map.1 hv; rfl)
  have e : ((bs cur).toList.take off ++ ((src.drop so).take n).map (Value.int .u8) ++ (bs cur).toList.drop (off + (((src.drop so).take n).map (Value.int .u8)).length)).toArray = bs (splice cur off ((src.drop so).take n)) := by
    simp [bs, splice]
  rw [e, List.length_map, hl] at hrun
  unfold Oper.wp
  simp [execOp, ho, resolve, invoke, builtin, hd, hs, hrun, Result.andThen]
  exact h
end

theorem zero40 (w : World) : (zeroValue 40).run Try.prog w = .ok (.agg (bs (zs 64))) w := (zero_of_info (P := Try.prog) (t := 40) (v := .agg (bs (zs 64))) (n := 64) (by kernel_rfl)).1 w
theorem zero31 (w : World) : (zeroValue 31).run Try.prog w = .ok (.agg (bs (zs 256))) w := (zero_of_info (P := Try.prog) (t := 31) (v := .agg (bs (zs 256))) (n := 256) (by kernel_rfl)).1 w
theorem size5 : (Try.prog.info? 5).map (·.size) = some 1 := by kernel_rfl
theorem size40 : (Try.prog.info? 40).map (·.size) = some 64 := by kernel_rfl
theorem size31 : (Try.prog.info? 31).map (·.size) = some 256 := by kernel_rfl

end Go.Proofs.Ytdopghiconcjlab
