/-
  Plain facts on arrays of bytes that go as values: what a block holds, how a whole array is loaded, stored, copied and handed back.
-/
import Derived.Test.YtpncmbkklkfmnaaRows
import Derived.WalkKit
import Derived.ProofKit
import Derived.OpenShut
import Derived.ShutString
import Derived.Laws.BitsAllLaws
import Derived.Laws.BytesArg
import Derived.WalkSpells
import Derived.Laws.CopyOwn
import Derived.Laws.Rows
import Derived.Deep.RegionLaw
import Derived.Deep.WholeRow
import Derived.ChangeKeysEq
import Derived.Deep.RegionHeld
import Derived.Deep.MidRow
import Derived.Deep.CutBlock
import Derived.Deep.CutRange
import Derived.OwnWalk
import Derived.SizedLaws
import Derived.Deep.Grids
import Derived.Deep.Slices
import Derived.Lib.SmallJoins
import Derived.Carry
import Derived.Laws.AppendOwnNone
import Derived.Maps.AppendAt
namespace Go.Proofs.Ytpncmbkklkfmnaa
open Go.ChangeShapes Go.WideShapes Go.ChangeAt Go.RowKit
set_option linter.unusedVariables false
set_option linter.unusedSimpArgs false

/-- Bytes as an array's cells. -/
def bs (ys : List Int) : Array Value := (ys.map (Value.int .u8)).toArray
theorem bs_size (ys : List Int) : (bs ys).size = ys.length := by simp [bs]
theorem bs_one (ys : List Int) : (bs ys).all (·.oneCell') = true := by simp [bs, Value.oneCell']
theorem bs_at (ys : List Int) (j : Nat) : (bs ys)[j]? = ys[j]?.map (Value.int .u8) := by simp [bs]
def zs (n : Nat) : List Int := List.replicate n 0
theorem zs_length (n : Nat) : (zs n).length = n := by simp [zs]

/-- What a block holds. -/
def Row (w : World) (g : Nat) (cs : Array Value) (t : TypeId) : Prop := w.heap[g]? = some (.cells cs t (0, 0))
theorem Row.new (w : World) (cs : Array Value) (t : TypeId) : Row (w.alloc (.cells cs t)) w.heap.size cs t := heap_alloc_last w _
theorem Row.alloc {w : World} {g : Nat} {cs : Array Value} {t : TypeId} (h : Row w g cs t) (o : Obj) : Row (w.alloc o) g cs t := by
  unfold Row at h ⊢
  have hl : g < w.heap.size := (Array.getElem?_eq_some_iff.1 h).1
  rw [Below.heap_alloc w o g hl]; exact h
theorem Row.below {B : Nat} {w w' : World} {g : Nat} {cs : Array Value} {t : TypeId} (h : Row w g cs t) (hb : Below B w w') (hl : g < B) : Row w' g cs t := by
  unfold Row at h ⊢; rw [hb.block g hl]; exact h
theorem Row.set {w : World} {g : Nat} {cs : Array Value} {t : TypeId} (h : Row w g cs t) (cs' : Array Value) : Row (w.setRow g cs') g cs' t := setRow_heap w g cs cs' t _ h
theorem Row.other {w : World} {g k : Nat} {cs : Array Value} {t : TypeId} (h : Row w k cs t) (hk : k ≠ g) (cs' : Array Value) : Row (w.setRow g cs') k cs t := by
  unfold Row at h ⊢; rw [setRow_other w g k cs' hk]; exact h
theorem Row.lt {w : World} {g : Nat} {cs : Array Value} {t : TypeId} (h : Row w g cs t) : g < w.heap.size := (Array.getElem?_eq_some_iff.1 h).1

section
variable {P : Program}
theorem load_row {ops : Array Oper} {rest : List Oper} {o : Oper} {a : Act} {w : World} {Q : Exit → Act → World → Prop} (hgd : o.guard = none) (ty : TypeId) (x : Operand) (ho : o.op = .load ty x)
    (g : Nat) (hx : a.eval x = .pointer (some ⟨g, 0, none⟩)) (t : TypeId) (cs : Array Value) (hg : Row w g cs t) (n : Nat) (e : TypeId)
    (hu : P.underlying ty = some (.array n e)) (hi : (P.info? ty).map (·.size) = some n) (hn : cs.size = n)
    (h : wpList P ops Q rest (a.put o.dst (.agg cs)) w) : wpList P ops Q (o :: rest) a w :=
  wpList_load_row hgd ty x ho g hx t cs (0, 0) _ hg hu rfl (by rw [hi, hn]) h
theorem store_row {ops : Array Oper} {rest : List Oper} {o : Oper} {a : Act} {w : World} {Q : Exit → Act → World → Prop} (hgd : o.guard = none) (ty : TypeId) (x y : Operand) (ho : o.op = .store ty x y)
    (g : Nat) (ys : List Int) (hx : a.eval x = .pointer (some ⟨g, 0, none⟩)) (hy : a.eval y = .agg (bs ys))
    (t : TypeId) (old : Array Value) (hg : Row w g old t) (n : Nat) (hi : (P.info? ty).map (·.size) = some n)
    (hold : old.size = n) (hn : ys.length = n)
    (h : wpList P ops Q rest (a.put o.dst undef) (w.setRow g (bs ys))) : wpList P ops Q (o :: rest) a w :=
  wpList_store_row hgd ty x y ho g (bs ys) hx hy t old hg (by rw [hi, bs_size, hn]) (by rw [hold, bs_size, hn]) (bs_one ys) h
theorem ret_row {fn : Func} {p : Tmp} {ty : TypeId} (h : fn.results = #[.cell p ty]) (tmps : Array Value) (w : World) (g : Nat) (t : TypeId) (cs : Array Value) (n : Nat) (e : TypeId)
    (hp : tmps.getD p undef = .pointer (some ⟨g, 0, none⟩)) (hg : Row w g cs t)
    (hu : P.underlying ty = some (.array n e)) (hi : (P.info? ty).map (·.size) = some n) (hn : cs.size = n) :
    (results fn tmps).run P w = .ok (.agg cs) w :=
  results_cell_row h tmps w g t cs (0, 0) _ hp hg hu rfl (by rw [hi, hn])

/-- copy from one array of bytes to another one, as a step of a region. -/
theorem step_copy {ops : Array Oper} {o : Oper} {a : Act} {w : World} {K : Act → World → Prop} {Q : Exit → Act → World → Prop} {E : Prop} (hgd : o.guard = none) (d s : Operand) (dT sT : TypeId)
    (ho : o.op = .call { callee := .builtin .copy, args := #[d, s], argTypes := #[dT, sT] }) (elem : TypeId) (hu : P.underlying dT = some (.slice elem)) (hsz : (P.info? elem).map (·.size) = some 1)
    (g off dLen dCap g2 so sLen sCap : Nat) (hd : a.eval d = .slice (some ⟨g, off, none⟩) dLen dCap) (hs : a.eval s = .slice (some ⟨g2, so, none⟩) sLen sCap)
    (cur src : List Int) (t t2 : TypeId) (hg : Row w g (bs cur) t) (hg2 : Row w g2 (bs src) t2) (n : Nat) (hn : n = Nat.min sLen dLen)
    (hfit : off + n ≤ cur.length) (hso : so + n ≤ src.length)
    (res : List Int) (hres : splice cur off ((src.drop so).take n) = res) (h : K (a.put o.dst (goInt n)) (w.setRow g (bs res))) :
    if Region.wanted o (yielded ops a.tmps) = true then Oper.wp P o a w K Q else E := by
  subst hres
  have hw : Region.wanted o (yielded ops a.tmps) = true := by simp [Region.wanted, hgd]
  rw [if_pos hw]
  have hl : ((src.drop so).take n).length = n := by simp; omega
  have hsrc : ∀ j v, (((src.drop so).take n).map (Value.int .u8))[j]? = some v → w.cell? ((⟨g2, so, none⟩ : Addr).add j) = some v := by
    intro j v hv
    have hadd : (⟨g2, so, none⟩ : Addr).add j = ⟨g2, so + j, none⟩ := by unfold Addr.add; split <;> simp_all
    rw [hadd, cell_of_row w g2 (so + j) _ _ _ hg2, bs_at]
    rw [List.getElem?_map, List.getElem?_take] at hv
    split at hv
    · rw [List.getElem?_drop] at hv; exact hv
    · simp at hv
  have hrun := run_copy_row (P := P) w dT sT o.type elem g off dLen dCap ⟨g2, so, none⟩ sLen sCap (bs cur) t (((src.drop so).take n).map (Value.int .u8)) hu hsz hg (by rw [List.length_map, hl, hn]) hsrc (by rw [List.length_map, hl, bs_size]; exact hfit) (by intro v hv; obtain ⟨x, _, rfl⟩ := List.mem_map.1 hv; rfl)
  have e : ((bs cur).toList.take off ++ ((src.drop so).take n).map (Value.int .u8) ++ (bs cur).toList.drop (off + (((src.drop so).take n).map (Value.int .u8)).length)).toArray = bs (splice cur off ((src.drop so).take n)) := by
    simp [bs, splice]
  rw [e, List.length_map, hl] at hrun
  unfold Oper.wp
  simp [execOp, ho, resolve, invoke, builtin, hd, hs, hrun, Result.andThen]
  exact h
end

/-- All are bytes. -/
def Bytes (ys : List Int) : Prop := ∀ y ∈ ys, 0 ≤ y ∧ y ≤ 255
theorem Bytes.at {ys : List Int} (h : Bytes ys) (j : Nat) : 0 ≤ ys.getD j 0 ∧ ys.getD j 0 ≤ 255 := by
  by_cases hj : j < ys.length
  · have := h ys[j] (List.getElem_mem hj)
    simpa [List.getD, hj] using this
  · simp [List.getD, List.getElem?_eq_none (by omega : ys.length ≤ j)]
/-- A list by its places. -/
def fl (n : Nat) (f : Nat → Int) : List Int := (List.range n).map f
theorem fl_length (n : Nat) (f : Nat → Int) : (fl n f).length = n := by simp [fl]
theorem fl_at (n : Nat) (f : Nat → Int) (j : Nat) (h : j < n) : (fl n f).getD j 0 = f j := by simp [fl, List.getD, h]
theorem eq_fl (l : List Int) (n : Nat) (f : Nat → Int) (hl : l.length = n) (h : ∀ j, j < n → l.getD j 0 = f j) : l = fl n f := by
  apply List.ext_getElem
  · rw [hl, fl_length]
  · intro j h1 h2
    have := h j (by omega)
    simp [List.getD, h1] at this
    rw [this]; simp [fl]
theorem set_fl (n : Nat) (f : Nat → Int) (k : Nat) (x : Int) : (fl n f).set k x = fl n (fun j => if j = k then x else f j) := by
  apply eq_fl
  · simp [fl]
  · intro j hj
    by_cases e : j = k
    · subst e; simp [fl, List.getD, hj]
    · have e' : ¬ k = j := fun q => e q.symm
      simp [fl, List.getD, hj, e, e', List.getElem?_set]
theorem bs_set (ys : List Int) (j : Nat) (x : Int) : (bs ys).setIfInBounds j (.int .u8 x) = bs (ys.set j x) := by
  simp [bs]
theorem row_setCell {w : World} {g : Nat} {ys : List Int} {t : TypeId} (h : Row w g (bs ys) t) (j : Nat) (x : Int) : Row (w.setCell ⟨g, j, none⟩ (.int .u8 x)) g (bs (ys.set j x)) t := by
  rw [setCell_eq_setRow w g j (bs ys) t (0, 0) _ h, bs_set]; exact h.set _
theorem row_setCell_other {w : World} {g k : Nat} {cs : Array Value} {t : TypeId} (h : Row w k cs t) (hk : k ≠ g) (j : Nat) (x : Value) : Row (w.setCell ⟨g, j, none⟩ x) k cs t := by
  unfold Row at h ⊢
  rw [Below.heap_setCell w _ x k hk]; exact h

theorem zs_at (n j : Nat) : (zs n)[j]?.getD 0 = 0 := by unfold zs; rw [List.getElem?_replicate]; split <;> rfl
theorem row_cell {w : World} {g : Nat} {ys : List Int} {t : TypeId} (h : Row w g (bs ys) t) (j : Nat) (hj : j < ys.length) : w.cell? ⟨g, j, none⟩ = some (.int .u8 (ys.getD j 0)) := by
  rw [cell_of_row w g j _ _ _ h, bs_at]; simp [List.getD, hj]
theorem row_frozen {w : World} {g : Nat} {cs : Array Value} {t : TypeId} (h : Row w g cs t) (j : Nat) : w.frozen? ⟨g, j, none⟩ = false := frozen_of_row w g j cs t h

theorem step_load {P : Program} {ops : Array Oper} {o : Oper} {a : Act} {w : World} {K : Act → World → Prop} {Q : Exit → Act → World → Prop} {E : Prop} (hgd : o.guard = none) (ty : TypeId) (x : Operand) (ho : o.op = .load ty x)
    (g : Nat) (hx : a.eval x = .pointer (some ⟨g, 0, none⟩)) (t : TypeId) (cs : Array Value) (hg : Row w g cs t) (n : Nat) (e : TypeId)
    (hu : P.underlying ty = some (.array n e)) (hi : (P.info? ty).map (·.size) = some n) (hn : cs.size = n) (h : K (a.put o.dst (.agg cs)) w) :
    if Region.wanted o (yielded ops a.tmps) = true then Oper.wp P o a w K Q else E := by
  have hw : Region.wanted o (yielded ops a.tmps) = true := by simp [Region.wanted, hgd]
  rw [if_pos hw]
  exact wp_load_row ty x ho g hx t cs (0, 0) _ hg hu rfl (by rw [hi, hn]) h
theorem step_store {P : Program} {ops : Array Oper} {o : Oper} {a : Act} {w : World} {K : Act → World → Prop} {Q : Exit → Act → World → Prop} {E : Prop} (hgd : o.guard = none) (ty : TypeId) (x y : Operand) (ho : o.op = .store ty x y)
    (g : Nat) (ys : List Int) (hx : a.eval x = .pointer (some ⟨g, 0, none⟩)) (hy : a.eval y = .agg (bs ys))
    (t : TypeId) (old : Array Value) (hg : Row w g old t) (n : Nat) (hi : (P.info? ty).map (·.size) = some n)
    (hold : old.size = n) (hn : ys.length = n) (h : K (a.put o.dst undef) (w.setRow g (bs ys))) :
    if Region.wanted o (yielded ops a.tmps) = true then Oper.wp P o a w K Q else E := by
  have hw : Region.wanted o (yielded ops a.tmps) = true := by simp [Region.wanted, hgd]
  rw [if_pos hw]
  exact wp_store_row ty x y ho g (bs ys) hx hy t old hg (by rw [hi, bs_size, hn]) (by rw [hold, bs_size, hn]) (bs_one ys) h
theorem build_none {P : Program} {ops : Array Oper} {rest : List Oper} {o : Oper} {a : Act} {w : World} {Q : Exit → Act → World → Prop} (hg : o.guard = none) (t : TypeId) (ho : o.op = .build t #[]) (cs : Array Value)
    (hb : P.built t [] = some cs) (h : wpList P ops Q rest (a.put o.dst (.agg cs)) w) : wpList P ops Q (o :: rest) a w :=
  wpList_build hg t #[] ho (by simp [hb]) (by simpa [hb] using h)
theorem part_byte {P : Program} (e : TypeId) (he : P.underlying e = some (.int .u8)) (hc : P.cellsOf e = 1) (xs : List Int) (w : World) (i : Nat) (hi : i < xs.length) :
    (part e (bs xs) (i * P.cellsOf e)).run P w = .ok (.int .u8 (xs.getD i 0)) w := by
  have hb : (bs xs)[i]? = some (.int .u8 (xs.getD i 0)) := by rw [bs_at]; simp [List.getD, hi]
  simp [part, isAgg, run_underlying he, hc, hb]
theorem eqItems_bytes {P : Program} (d : Nat) (e : TypeId) (he : P.underlying e = some (.int .u8)) (hs : (P.info? e).map (·.size) = some 1) (hc : P.cellsOf e = 1) (xs ys : List Int) (w : World) :
    ∀ is : List Nat, (∀ i ∈ is, i < xs.length ∧ i < ys.length) → (Op.eqItems (d + 1) e (P.cellsOf e) (bs xs) (bs ys) is).run P w = .ok (is.all fun i => xs.getD i 0 == ys.getD i 0) w
  | [], _ => by simp [Op.eqItems]
  | i :: is, h => by
    have hi := h i (by simp)
    have ih := eqItems_bytes d e he hs hc xs ys w is (fun j hj => h j (by simp [hj]))
    have p1 := part_byte e he hc xs w i hi.1
    have p2 := part_byte e he hc ys w i hi.2
    simp only [Op.eqItems, Sem.run_bind, p1, p2, Result.andThen_ok, run_equalIn_int w d e .u8 .u8 _ _ he, Sem.run_ite, Sem.run_pure, ih, List.all_cons]
    cases (xs.getD i 0 == ys.getD i 0) <;> simp
theorem all_range (xs ys : List Int) (n : Nat) (hx : xs.length = n) (hy : ys.length = n) : ((List.range n).all fun i => xs.getD i 0 == ys.getD i 0) = decide (xs = ys) := by
  by_cases h : xs = ys
  · subst h; simp
  · rw [decide_eq_false h]
    rw [Bool.eq_false_iff]
    intro q
    apply h
    apply List.ext_getElem (by omega)
    intro j h1 h2
    have := List.all_eq_true.1 q j (List.mem_range.2 (by omega))
    simpa [List.getD, h1, h2] using this
theorem equal_bytes {P : Program} (t e : TypeId) (n : Nat) (hu : P.underlying t = some (.array n e)) (he : P.underlying e = some (.int .u8)) (hs : (P.info? e).map (·.size) = some 1) (hc : P.cellsOf e = 1)
    (xs ys : List Int) (hx : xs.length = n) (hy : ys.length = n) (w : World) : (Op.equalIn 10000 t (.agg (bs xs)) (.agg (bs ys))).run P w = .ok (decide (xs = ys)) w := by
  cases hq : P.info? e with
  | none => simp [hq] at hs
  | some inf =>
    have h1 := run_equalIn_array (P := P) (w := w) 9999 (bs xs) (bs ys) hu hq
    have h2 := eqItems_bytes (P := P) 9998 e he hs hc xs ys w (List.range n) (fun i hi => by have := List.mem_range.1 hi; omega)
    rw [all_range xs ys n hx hy] at h2
    exact h1.trans h2

theorem load_row_g {P : Program} {ops : Array Oper} {rest : List Oper} {o : Oper} {a : Act} {w : World} {Q : Exit → Act → World → Prop} (hw : Region.wanted o (yielded ops a.tmps) = true) (ty : TypeId) (x : Operand) (ho : o.op = .load ty x)
    (g : Nat) (hx : a.eval x = .pointer (some ⟨g, 0, none⟩)) (t : TypeId) (cs : Array Value) (hg : Row w g cs t) (n : Nat) (e : TypeId)
    (hu : P.underlying ty = some (.array n e)) (hi : (P.info? ty).map (·.size) = some n) (hn : cs.size = n)
    (h : wpList P ops Q rest (a.put o.dst (.agg cs)) w) : wpList P ops Q (o :: rest) a w :=
  BigFrame.wpList_want hw fun _ hK => wp_load_row ty x ho g hx t cs (0, 0) _ hg hu rfl (by rw [hi, hn]) (hK _ _ h)
theorem build_none_g {P : Program} {ops : Array Oper} {rest : List Oper} {o : Oper} {a : Act} {w : World} {Q : Exit → Act → World → Prop} (hw : Region.wanted o (yielded ops a.tmps) = true) (t : TypeId) (ho : o.op = .build t #[]) (cs : Array Value)
    (hb : P.built t [] = some cs) (h : wpList P ops Q rest (a.put o.dst (.agg cs)) w) : wpList P ops Q (o :: rest) a w :=
  BigFrame.wpList_want hw fun _ hK => wp_build t #[] ho (by simp [hb]) (hK _ _ (by simpa [hb] using h))
theorem yields_row {P : Program} {ops : Array Oper} {S : World → Prop} {o : Oper} {a : Act} (hw : Region.wanted o (yielded ops a.tmps) = true) (ty : TypeId) (x : Operand) (ho : o.op = .load ty x)
    (g : Nat) (hx : a.eval x = .pointer (some ⟨g, 0, none⟩)) (t : TypeId) (cs : Array Value) (hg : ∀ w, S w → Row w g cs t) (n : Nat) (e : TypeId)
    (hu : P.underlying ty = some (.array n e)) (hi : (P.info? ty).map (·.size) = some n) (hn : cs.size = n) : YieldsIf P ops S o (.agg cs) a := by
  refine Or.inl ⟨hw, fun w hS => ?_⟩
  unfold execOp
  simp only [ho, hx, Instr.loadAt, Instr.sureAddr, Sem.run_bind, Sem.run_pure, Result.andThen_ok, run_loadVar_row w g t ty cs (0, 0) _ (hg w hS) hu rfl (by rw [hi, hn])]
theorem yields_eq {P : Program} {ops : Array Oper} {S : World → Prop} {o : Oper} {a : Act} (hw : Region.wanted o (yielded ops a.tmps) = true) (ty ty' : TypeId) (x y : Operand) (ho : o.op = .binOp .eql ty x y ty')
    (xs ys : Array Value) (hx : a.eval x = .agg xs) (hy : a.eval y = .agg ys) (hm : P.eqGuardType P.depth ty = false) (b : Bool) (hr : ∀ w, (Op.equalIn 10000 ty (.agg xs) (.agg ys)).run P w = .ok b w) : YieldsIf P ops S o (.bool b) a := by
  refine Or.inl ⟨hw, fun w hS => ?_⟩
  unfold execOp
  simp only [ho, hx, hy, Sem.run_bind, run_eqGuard_agg w .eql ty x y xs ys hm, Result.andThen_ok, run_eql_struct, hr, Sem.run_pure]
/-- The first k bytes of a list by its places, noughts behind. -/
def upto (n : Nat) (f : Nat → Int) (k : Nat) : List Int := fl n fun j => if j < k then f j else 0
theorem upto_length (n : Nat) (f : Nat → Int) (k : Nat) : (upto n f k).length = n := fl_length _ _
theorem upto_zero (n : Nat) (f : Nat → Int) : zs n = upto n f 0 := by
  apply eq_fl _ _ _ (zs_length _)
  intro j hj; rw [if_neg (by omega)]; exact zs_at _ _
theorem upto_step (n : Nat) (f : Nat → Int) (k : Nat) : (upto n f k).set k (f k) = upto n f (k + 1) := by
  unfold upto
  rw [set_fl]
  apply eq_fl _ _ _ (fl_length _ _)
  intro j hj
  rw [fl_at _ _ _ hj]
  by_cases e : j = k
  · subst e; rw [if_pos rfl, if_pos (by omega)]
  · rw [if_neg e]
    by_cases h : j < k
    · rw [if_pos h, if_pos (by omega)]
    · rw [if_neg h, if_neg (by omega)]
theorem upto_whole (n : Nat) (f : Nat → Int) : upto n f n = fl n f := by
  apply eq_fl _ _ _ (fl_length _ _)
  intro j hj
  exact (fl_at _ _ _ hj).trans (if_pos hj)

theorem splice_getD (l m : List Int) (o j : Nat) (h : o + m.length ≤ l.length) : (splice l o m).getD j 0 = if j < o then l.getD j 0 else if j < o + m.length then m.getD (j - o) 0 else l.getD j 0 := by
  unfold splice
  simp only [List.getD]
  have l1 : (l.take o).length = o := by rw [List.length_take]; omega
  by_cases h1 : j < o
  · rw [List.getElem?_append_left (by omega), List.getElem?_take, if_pos h1, if_pos h1]
  · rw [List.getElem?_append_right (by omega), l1, if_neg h1]
    by_cases h2 : j < o + m.length
    · rw [List.getElem?_append_left (by omega), if_pos h2]
    · rw [List.getElem?_append_right (by omega), List.getElem?_drop, if_neg h2]
      rw [show o + m.length + (j - o - m.length) = j by omega]
theorem fl_bytes (n : Nat) (f : Nat → Int) (h : ∀ j, j < n → 0 ≤ f j ∧ f j ≤ 255) : Bytes (fl n f) := by
  intro y hy
  unfold fl at hy
  obtain ⟨j, hj, rfl⟩ := List.mem_map.1 hy
  exact h j (List.mem_range.1 hj)

section
variable {P : Program}
theorem store_cells {ops : Array Oper} {rest : List Oper} {o : Oper} {a : Act} {w : World} {Q : Exit → Act → World → Prop} (hgd : o.guard = none) (ty : TypeId) (x y : Operand) (ho : o.op = .store ty x y)
    (g : Nat) (cs : Array Value) (hx : a.eval x = .pointer (some ⟨g, 0, none⟩)) (hy : a.eval y = .agg cs)
    (t : TypeId) (old : Array Value) (hg : Row w g old t) (n : Nat) (hi : (P.info? ty).map (·.size) = some n)
    (hold : old.size = n) (hn : cs.size = n) (h1 : cs.all (·.oneCell') = true)
    (h : wpList P ops Q rest (a.put o.dst undef) (w.setRow g cs)) : wpList P ops Q (o :: rest) a w :=
  wpList_store_row hgd ty x y ho g cs hx hy t old hg (by rw [hi, hn]) (by rw [hold, hn]) h1 h
end
/-- Booleans as an array's cells. -/
def bl (ys : List Bool) : Array Value := (ys.map Value.bool).toArray
theorem bl_size (ys : List Bool) : (bl ys).size = ys.length := by simp [bl]
theorem bl_one (ys : List Bool) : (bl ys).all (·.oneCell') = true := by simp [bl, Value.oneCell']
theorem bl_at (ys : List Bool) (j : Nat) : (bl ys)[j]? = ys[j]?.map Value.bool := by simp [bl]
theorem bl_set (ys : List Bool) (j : Nat) (x : Bool) : (bl ys).setIfInBounds j (.bool x) = bl (ys.set j x) := by simp [bl]
theorem brow_cell {w : World} {g : Nat} {ys : List Bool} {t : TypeId} (h : Row w g (bl ys) t) (j : Nat) (hj : j < ys.length) : w.cell? ⟨g, j, none⟩ = some (.bool (ys.getD j false)) := by
  rw [cell_of_row w g j _ _ _ h, bl_at]; simp [List.getD, hj]
theorem brow_setCell {w : World} {g : Nat} {ys : List Bool} {t : TypeId} (h : Row w g (bl ys) t) (j : Nat) (x : Bool) : Row (w.setCell ⟨g, j, none⟩ (.bool x)) g (bl (ys.set j x)) t := by
  rw [setCell_eq_setRow w g j (bl ys) t (0, 0) _ h, bl_set]; exact h.set _
/-- Booleans by their places. -/
def bf (n : Nat) (f : Nat → Bool) : List Bool := (List.range n).map f
theorem bf_length (n : Nat) (f : Nat → Bool) : (bf n f).length = n := by simp [bf]
theorem bf_at (n : Nat) (f : Nat → Bool) (j : Nat) (h : j < n) : (bf n f).getD j false = f j := by simp [bf, List.getD, h]
theorem eq_bf (l : List Bool) (n : Nat) (f : Nat → Bool) (hl : l.length = n) (h : ∀ j, j < n → l.getD j false = f j) : l = bf n f := by
  apply List.ext_getElem
  · rw [hl, bf_length]
  · intro j h1 h2
    have := h j (by omega)
    simp [List.getD, h1] at this
    rw [this]; simp [bf]
theorem bf_congr (n : Nat) (f g : Nat → Bool) (h : ∀ j, j < n → f j = g j) : bf n f = bf n g := by
  apply eq_bf _ _ _ (bf_length _ _)
  intro j hj
  rw [bf_at _ _ _ hj]; exact h j hj
theorem set_bf (n : Nat) (f : Nat → Bool) (k : Nat) (x : Bool) : (bf n f).set k x = bf n (fun j => if j = k then x else f j) := by
  apply eq_bf
  · simp [bf]
  · intro j hj
    by_cases e : j = k
    · subst e; simp [bf, List.getD, hj]
    · have e' : ¬ k = j := fun q => e q.symm
      simp [bf, List.getD, hj, e, e', List.getElem?_set]
def fs : List Bool := List.replicate 64 false
theorem fs_is : fs = bf 64 (fun _ => false) := by decide
/-- Nothing but some blocks, and new ones, has turned. -/
structure Off (F : Nat → Prop) (w w' : World) : Prop where
  os : w'.os = w.os
  tape : w'.tape = w.tape
  output : w'.output = w.output
  size : w.heap.size ≤ w'.heap.size
  block : ∀ k, k < w.heap.size → ¬ F k → w'.heap[k]? = w.heap[k]?
theorem Off.refl (F : Nat → Prop) (w : World) : Off F w w := ⟨rfl, rfl, rfl, Nat.le_refl _, fun _ _ _ => rfl⟩
theorem Off.trans {F F' : Nat → Prop} {a b c : World} (h : Off F a b) (k : Off F' b c) (hF : ∀ j, F' j → F j ∨ a.heap.size ≤ j) : Off F a c :=
  ⟨k.os.trans h.os, k.tape.trans h.tape, k.output.trans h.output, Nat.le_trans h.size k.size, fun i hi hn => (k.block i (Nat.lt_of_lt_of_le hi h.size) (fun q => by
    rcases hF i q with q | q
    · exact hn q
    · omega)).trans (h.block i hi hn)⟩
theorem Off.mono {F F' : Nat → Prop} {a b : World} (h : Off F a b) (hF : ∀ j, F j → F' j ∨ a.heap.size ≤ j) : Off F' a b :=
  ⟨h.os, h.tape, h.output, h.size, fun i hi hn => h.block i hi (fun q => by
    rcases hF i q with q | q
    · exact hn q
    · omega)⟩
theorem Off.of_below {F : Nat → Prop} {a b : World} (h : Below a.heap.size a b) : Off F a b := ⟨h.os, h.tape, h.output, h.size, fun i hi _ => h.block i hi⟩
theorem Off.of_grown {F : Nat → Prop} {a b : World} {row : Option Nat} (h : a.grownBy b row) (hF : ∀ k, row = some k → F k) : Off F a b :=
  ⟨h.os, h.tape, h.output, h.size, fun i hi hn => h.block i hi (fun q => hn (hF i q.symm))⟩
theorem Off.of_setCell {F : Nat → Prop} (w : World) (p : Addr) (v : Value) (hF : F p.block) : Off F w (w.setCell p v) :=
  ⟨rfl, rfl, rfl, by simp [World.setCell], fun k _ hk => Below.heap_setCell _ _ _ _ (fun q => hk (q ▸ hF))⟩
theorem Off.of_setRow {F : Nat → Prop} (w : World) (g : Nat) (cs : Array Value) (hF : F g) : Off F w (w.setRow g cs) :=
  ⟨rfl, rfl, rfl, by simp [World.setRow], fun k _ hk => setRow_other w g k cs (fun q => hk (q ▸ hF))⟩
theorem Off.drew {F : Nat → Prop} {a b : World} (h : Off F a b) : Off F a b.drew := ⟨h.os, h.tape, h.output, h.size, h.block⟩
theorem Off.below {F : Nat → Prop} {a b : World} (h : Off F a b) {B : Nat} (hB : B ≤ a.heap.size) (hF : ∀ k, F k → B ≤ k) : Below B a b :=
  ⟨h.os, h.tape, h.output, h.size, fun k hk => h.block k (by omega) (fun q => by have := hF k q; omega)⟩
theorem Row.off {F : Nat → Prop} {w w' : World} {g : Nat} {cs : Array Value} {t : TypeId} (h : Row w g cs t) (ho : Off F w w') (hg : ¬ F g) : Row w' g cs t := by
  have hl := h.lt
  unfold Row at h ⊢; rw [ho.block g hl hg]; exact h
def Wf (b : Int) : Prop := (Lit.int .i64 b).wf = true
theorem wf_of {i : Int} (h : -9223372036854775808 ≤ i) (h' : i ≤ 9223372036854775807) : Wf i := WalkArith.wf_i64 ⟨h, h'⟩
theorem row_set {w : World} {g : Nat} {cs : Array Value} {t : TypeId} (h : Row w g cs t) (j : Nat) (x : Value) : Row (w.setCell ⟨g, j, none⟩ x) g (cs.setIfInBounds j x) t := by
  rw [setCell_eq_setRow w g j cs t (0, 0) _ h]; exact h.set _
theorem row_at {w : World} {g : Nat} {cs : Array Value} {t : TypeId} (h : Row w g cs t) (j : Nat) (v : Value) (hv : cs[j]? = some v) : w.cell? ⟨g, j, none⟩ = some v := by
  rw [cell_of_row w g j _ _ _ h, hv]
theorem cell_keep {w w' : World} {p : Addr} {u : Value} (h : w.cell? p = some u) (hb : Below w.heap.size w w') : w'.cell? p = some u := by
  rw [← h]
  refine World.cell?_of_block (hb.block _ ?_)
  unfold World.cell? at h
  by_cases q : p.block < w.heap.size
  · exact q
  · rw [Array.getElem?_eq_none (by omega)] at h; cases h
theorem wpList_load_any {P : Program} {ops : Array Oper} {rest : List Oper} {op : Oper} {a : Act} {w : World} {Q : Exit → Act → World → Prop} (hgd : op.guard = none) (ty : TypeId) (x : Operand) (ho : op.op = .load ty x)
    (p : Addr) (hx : a.eval x = .pointer (some p)) (cs : List Value) (d : TypeDesc) (hc : ∀ j v, cs[j]? = some v → w.cell? (p.add j) = some v)
    (hu : P.underlying ty = some d) (hd : d.isRow = true) (hi : (P.info? ty).map (·.size) = some cs.length)
    (h : wpList P ops Q rest (a.put op.dst (.agg cs.toArray)) w) : wpList P ops Q (op :: rest) a w := by
  refine wpList_plain hgd fun K hK => ?_
  have hl : (loadCells p cs.length).run P w = .ok cs.toArray w := run_loadCells_list (P := P) w p cs hc
  have hrun : (loadVar ty p).run P w = .ok (.agg cs.toArray) w := by
    cases hq : P.info? ty with
    | none => simp [hq] at hi
    | some i =>
      have hs : i.size = cs.length := by simpa [hq] using hi
      have hagg : (isAgg ty).run P w = .ok true w := by
        unfold isAgg
        rw [Sem.run_bind, run_underlying hu w]
        cases d <;> simp_all
      simp [loadVar, Sem.run_bind, hagg, sizeOf, typeInfo, hq, hs, hl]
  unfold Oper.wp execOp
  simp only [ho, hx, Instr.loadAt, Instr.sureAddr, Sem.run_bind, Sem.run_pure, Result.andThen_ok, hrun]
  exact hK _ _ h
end Go.Proofs.Ytpncmbkklkfmnaa
