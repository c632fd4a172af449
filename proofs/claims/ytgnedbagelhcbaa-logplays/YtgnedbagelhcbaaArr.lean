/-
  Plain facts on arrays of bytes that go as values: what a block holds, how a whole array is loaded, stored, copied and handed back.
-/
import Derived.Test.YtgnedbagelhcbaaRows
import Derived.WalkKit
import Derived.ProofKit
import Derived.OpenShut
import Derived.ShutString
import Derived.Laws.BitsAllLaws
import Derived.Laws.BytesArg
import Derived.WalkSpells
import Derived.Laws.CopyOwn
import Derived.Laws.Rows
import Derived.Deep.RegionLaw
import Derived.Deep.WholeRow
import Derived.ChangeKeysEq
import Derived.Deep.RegionHeld
namespace Go.Proofs.Ytgnedbagelhcbaa
open Go.ChangeShapes Go.WideShapes Go.ChangeAt Go.RowKit
set_option linter.unusedVariables false
set_option linter.unusedSimpArgs false
theorem nz0 {α : Type _} {xs : List α} {i : Nat} (h : i < xs.toArray.size) : xs.toArray[i] = xs[i]'(by simpa using h) := rfl
theorem nz1 {α : Type _} (a : α) (l : List α) (h : 0 < (a :: l).length) : (a :: l)[0] = a := rfl
theorem nz2 {α : Type _} (a : α) (l : List α) (i : Nat) (h : i + 1 < (a :: l).length) : (a :: l)[i + 1] = l[i]'(Nat.lt_of_succ_lt_succ h) := rfl
theorem nz3 {α : Type _} (l : List α) (i : Nat) (a : α) : l.toArray.setIfInBounds i a = (l.set i a).toArray := List.setIfInBounds_toArray l i a
theorem nz4 {α : Type _} {x : α} {xs : List α} {a : α} : (x :: xs).set 0 a = a :: xs := rfl
theorem nz5 {α : Type _} {x : α} {xs : List α} {i : Nat} {a : α} : (x :: xs).set (i + 1) a = x :: xs.set i a := rfl
def bs (ys : List Int) : Array Value := (ys.map (Value.int .u8)).toArray
theorem bs_size (ys : List Int) : (bs ys).size = ys.length := by simp [bs]
theorem bs_one (ys : List Int) : (bs ys).all (·.oneCell') = true := by simp [bs, Value.oneCell']
theorem bs_at (ys : List Int) (j : Nat) : (bs ys)[j]? = ys[j]?.map (Value.int .u8) := by simp [bs]
def zs (n : Nat) : List Int := List.replicate n 0
theorem zs_length (n : Nat) : (zs n).length = n := by simp [zs]
def Row (w : World) (g : Nat) (cs : Array Value) (t : TypeId) : Prop := w.heap[g]? = some (.cells cs t (0, 0))
theorem Row.new (w : World) (cs : Array Value) (t : TypeId) : Row (w.alloc (.cells cs t)) w.heap.size cs t := heap_alloc_last w _
theorem Row.alloc {w : World} {g : Nat} {cs : Array Value} {t : TypeId} (h : Row w g cs t) (o : Obj) : Row (w.alloc o) g cs t := by
  unfold Row at h ⊢
  have hl : g < w.heap.size := (Array.getElem?_eq_some_iff.1 h).1
  rw [Below.heap_alloc w o g hl]; exact h
theorem Row.below {B : Nat} {w w' : World} {g : Nat} {cs : Array Value} {t : TypeId} (h : Row w g cs t) (hb : Below B w w') (hl : g < B) : Row w' g cs t := by
  unfold Row at h ⊢; rw [hb.block g hl]; exact h
theorem Row.set {w : World} {g : Nat} {cs : Array Value} {t : TypeId} (h : Row w g cs t) (cs' : Array Value) : Row (w.setRow g cs') g cs' t := setRow_heap w g cs cs' t _ h
theorem Row.other {w : World} {g k : Nat} {cs : Array Value} {t : TypeId} (h : Row w k cs t) (hk : k ≠ g) (cs' : Array Value) : Row (w.setRow g cs') k cs t := by
  unfold Row at h ⊢; rw [setRow_other w g k cs' hk]; exact h
theorem Row.lt {w : World} {g : Nat} {cs : Array Value} {t : TypeId} (h : Row w g cs t) : g < w.heap.size := (Array.getElem?_eq_some_iff.1 h).1
section
variable {P : Program}
theorem load_row {ops : Array Oper} {rest : List Oper} {o : Oper} {a : Act} {w : World} {Q : Exit → Act → World → Prop} (hgd : o.guard = none) (ty : TypeId) (x : Operand) (ho : o.op = .load ty x)
    (g : Nat) (hx : a.eval x = .pointer (some ⟨g, 0, none⟩)) (t : TypeId) (cs : Array Value) (hg : Row w g cs t) (n : Nat) (e : TypeId)
    (hu : P.underlying ty = some (.array n e)) (hi : (P.info? ty).map (·.size) = some n) (hn : cs.size = n)
    (h : wpList P ops Q rest (a.put o.dst (.agg cs)) w) : wpList P ops Q (o :: rest) a w :=
  wpList_load_row hgd ty x ho g hx t cs (0, 0) _ hg hu rfl (by rw [hi, hn]) h
theorem store_row {ops : Array Oper} {rest : List Oper} {o : Oper} {a : Act} {w : World} {Q : Exit → Act → World → Prop} (hgd : o.guard = none) (ty : TypeId) (x y : Operand) (ho : o.op = .store ty x y)
    (g : Nat) (ys : List Int) (hx : a.eval x = .pointer (some ⟨g, 0, none⟩)) (hy : a.eval y = .agg (bs ys))
    (t : TypeId) (old : Array Value) (hg : Row w g old t) (n : Nat) (hi : (P.info? ty).map (·.size) = some n)
    (hold : old.size = n) (hn : ys.length = n)
    (h : wpList P ops Q rest (a.put o.dst undef) (w.setRow g (bs ys))) : wpList P ops Q (o :: rest) a w :=
  wpList_store_row hgd ty x y ho g (bs ys) hx hy t old hg (by rw [hi, bs_size, hn]) (by rw [hold, bs_size, hn]) (bs_one ys) h
theorem ret_row {fn : Func} {p : Tmp} {ty : TypeId} (h : fn.results = #[.cell p ty]) (tmps : Array Value) (w : World) (g : Nat) (t : TypeId) (cs : Array Value) (n : Nat) (e : TypeId)
    (hp : tmps.getD p undef = .pointer (some ⟨g, 0, none⟩)) (hg : Row w g cs t)
    (hu : P.underlying ty = some (.array n e)) (hi : (P.info? ty).map (·.size) = some n) (hn : cs.size = n) :
    (results fn tmps).run P w = .ok (.agg cs) w :=
  results_cell_row h tmps w g t cs (0, 0) _ hp hg hu rfl (by rw [hi, hn])
theorem step_copy {ops : Array Oper} {o : Oper} {a : Act} {w : World} {K : Act → World → Prop} {Q : Exit → Act → World → Prop} {E : Prop} (hgd : o.guard = none) (d s : Operand) (dT sT : TypeId)
    (ho : o.op = .call { callee := .builtin .copy, args := #[d, s], argTypes := #[dT, sT] }) (elem : TypeId) (hu : P.underlying dT = some (.slice elem)) (hsz : (P.info? elem).map (·.size) = some 1)
    (g off dLen dCap g2 so sLen sCap : Nat) (hd : a.eval d = .slice (some ⟨g, off, none⟩) dLen dCap) (hs : a.eval s = .slice (some ⟨g2, so, none⟩) sLen sCap)
    (cur src : List Int) (t t2 : TypeId) (hg : Row w g (bs cur) t) (hg2 : Row w g2 (bs src) t2) (n : Nat) (hn : n = Nat.min sLen dLen)
    (hfit : off + n ≤ cur.length) (hso : so + n ≤ src.length)
    (res : List Int) (hres : splice cur off ((src.drop so).take n) = res) (h : K (a.put o.dst (goInt n)) (w.setRow g (bs res))) :
    if Region.wanted o (yielded ops a.tmps) = true then Oper.wp P o a w K Q else E := by
  subst hres
  have hw : Region.wanted o (yielded ops a.tmps) = true := by simp [Region.wanted, hgd]
  rw [if_pos hw]
  have hl : ((src.drop so).take n).length = n := by simp; omega
  have hsrc : ∀ j v, (((src.drop so).take n).map (Value.int .u8))[j]? = some v → w.cell? ((⟨g2, so, none⟩ : Addr).add j) = some v := by
    intro j v hv
    have hadd : (⟨g2, so, none⟩ : Addr).add j = ⟨g2, so + j, none⟩ := by unfold Addr.add; split <;> simp_all
    rw [hadd, cell_of_row w g2 (so + j) _ _ _ hg2, bs_at]
    rw [List.getElem?_map, List.getElem?_take] at hv
    split at hv
    · rw [List.getElem?_drop] at hv; exact hv
    · simp at hv
  have hrun := run_copy_row (P := P) w dT sT o.type elem g off dLen dCap ⟨g2, so, none⟩ sLen sCap (bs cur) t (((src.drop so).take n).map (Value.int .u8)) hu hsz hg (by rw [List.length_map, hl, hn]) hsrc (by rw [List.length_map, hl, bs_size]; exact hfit) (by intro v hv; obtain ⟨x, _, rfl⟩ := List.mem_map.1 hv; rfl)
  have e : ((bs cur).toList.take off ++ ((src.drop so).take n).map (Value.int .u8) ++ (bs cur).toList.drop (off + (((src.drop so).take n).map (Value.int .u8)).length)).toArray = bs (splice cur off ((src.drop so).take n)) := by
    simp [bs, splice]
  rw [e, List.length_map, hl] at hrun
  unfold Oper.wp
  simp [execOp, ho, resolve, invoke, builtin, hd, hs, hrun, Result.andThen]
  exact h
end
def Bytes (ys : List Int) : Prop := ∀ y ∈ ys, 0 ≤ y ∧ y ≤ 255
theorem Bytes.at {ys : List Int} (h : Bytes ys) (j : Nat) : 0 ≤ ys.getD j 0 ∧ ys.getD j 0 ≤ 255 := by
  by_cases hj : j < ys.length
  · have := h ys[j] (List.getElem_mem hj)
    simpa [List.getD, hj] using this
  · simp [List.getD, List.getElem?_eq_none (by omega : ys.length ≤ j)]
def fl (n : Nat) (f : Nat → Int) : List Int := (List.range n).map f
theorem fl_length (n : Nat) (f : Nat → Int) : (fl n f).length = n := by simp [fl]
theorem fl_at (n : Nat) (f : Nat → Int) (j : Nat) (h : j < n) : (fl n f).getD j 0 = f j := by simp [fl, List.getD, h]
theorem eq_fl (l : List Int) (n : Nat) (f : Nat → Int) (hl : l.length = n) (h : ∀ j, j < n → l.getD j 0 = f j) : l = fl n f := by
  apply List.ext_getElem
  · rw [hl, fl_length]
  · intro j h1 h2
    have := h j (by omega)
    simp [List.getD, h1] at this
    rw [this]; simp [fl]
theorem set_fl (n : Nat) (f : Nat → Int) (k : Nat) (x : Int) : (fl n f).set k x = fl n (fun j => if j = k then x else f j) := by
  apply eq_fl
  · simp [fl]
  · intro j hj
    by_cases e : j = k
    · subst e; simp [fl, List.getD, hj]
    · have e' : ¬ k = j := fun q => e q.symm
      simp [fl, List.getD, hj, e, e', List.getElem?_set]
theorem bs_set (ys : List Int) (j : Nat) (x : Int) : (bs ys).setIfInBounds j (.int .u8 x) = bs (ys.set j x) := by
  simp [bs]
theorem row_setCell {w : World} {g : Nat} {ys : List Int} {t : TypeId} (h : Row w g (bs ys) t) (j : Nat) (x : Int) : Row (w.setCell ⟨g, j, none⟩ (.int .u8 x)) g (bs (ys.set j x)) t := by
  rw [setCell_eq_setRow w g j (bs ys) t (0, 0) _ h, bs_set]; exact h.set _
theorem row_setCell_other {w : World} {g k : Nat} {cs : Array Value} {t : TypeId} (h : Row w k cs t) (hk : k ≠ g) (j : Nat) (x : Value) : Row (w.setCell ⟨g, j, none⟩ x) k cs t := by
  unfold Row at h ⊢
  rw [Below.heap_setCell w _ x k hk]; exact h
theorem zs_at (n j : Nat) : (zs n)[j]?.getD 0 = 0 := by unfold zs; rw [List.getElem?_replicate]; split <;> rfl
theorem row_cell {w : World} {g : Nat} {ys : List Int} {t : TypeId} (h : Row w g (bs ys) t) (j : Nat) (hj : j < ys.length) : w.cell? ⟨g, j, none⟩ = some (.int .u8 (ys.getD j 0)) := by
  rw [cell_of_row w g j _ _ _ h, bs_at]; simp [List.getD, hj]
theorem row_frozen {w : World} {g : Nat} {cs : Array Value} {t : TypeId} (h : Row w g cs t) (j : Nat) : w.frozen? ⟨g, j, none⟩ = false := frozen_of_row w g j cs t h
theorem step_load {P : Program} {ops : Array Oper} {o : Oper} {a : Act} {w : World} {K : Act → World → Prop} {Q : Exit → Act → World → Prop} {E : Prop} (hgd : o.guard = none) (ty : TypeId) (x : Operand) (ho : o.op = .load ty x)
    (g : Nat) (hx : a.eval x = .pointer (some ⟨g, 0, none⟩)) (t : TypeId) (cs : Array Value) (hg : Row w g cs t) (n : Nat) (e : TypeId)
    (hu : P.underlying ty = some (.array n e)) (hi : (P.info? ty).map (·.size) = some n) (hn : cs.size = n) (h : K (a.put o.dst (.agg cs)) w) :
    if Region.wanted o (yielded ops a.tmps) = true then Oper.wp P o a w K Q else E := by
  have hw : Region.wanted o (yielded ops a.tmps) = true := by simp [Region.wanted, hgd]
  rw [if_pos hw]
  exact wp_load_row ty x ho g hx t cs (0, 0) _ hg hu rfl (by rw [hi, hn]) h
theorem step_store {P : Program} {ops : Array Oper} {o : Oper} {a : Act} {w : World} {K : Act → World → Prop} {Q : Exit → Act → World → Prop} {E : Prop} (hgd : o.guard = none) (ty : TypeId) (x y : Operand) (ho : o.op = .store ty x y)
    (g : Nat) (ys : List Int) (hx : a.eval x = .pointer (some ⟨g, 0, none⟩)) (hy : a.eval y = .agg (bs ys))
    (t : TypeId) (old : Array Value) (hg : Row w g old t) (n : Nat) (hi : (P.info? ty).map (·.size) = some n)
    (hold : old.size = n) (hn : ys.length = n) (h : K (a.put o.dst undef) (w.setRow g (bs ys))) :
    if Region.wanted o (yielded ops a.tmps) = true then Oper.wp P o a w K Q else E := by
  have hw : Region.wanted o (yielded ops a.tmps) = true := by simp [Region.wanted, hgd]
  rw [if_pos hw]
  exact wp_store_row ty x y ho g (bs ys) hx hy t old hg (by rw [hi, bs_size, hn]) (by rw [hold, bs_size, hn]) (bs_one ys) h
theorem build_none {P : Program} {ops : Array Oper} {rest : List Oper} {o : Oper} {a : Act} {w : World} {Q : Exit → Act → World → Prop} (hg : o.guard = none) (t : TypeId) (ho : o.op = .build t #[]) (cs : Array Value)
    (hb : P.built t [] = some cs) (h : wpList P ops Q rest (a.put o.dst (.agg cs)) w) : wpList P ops Q (o :: rest) a w :=
  wpList_build hg t #[] ho (by simp [hb]) (by simpa [hb] using h)
theorem part_byte {P : Program} (e : TypeId) (he : P.underlying e = some (.int .u8)) (hc : P.cellsOf e = 1) (xs : List Int) (w : World) (i : Nat) (hi : i < xs.length) :
    (part e (bs xs) (i * P.cellsOf e)).run P w = .ok (.int .u8 (xs.getD i 0)) w := by
  have hb : (bs xs)[i]? = some (.int .u8 (xs.getD i 0)) := by rw [bs_at]; simp [List.getD, hi]
  simp [part, isAgg, run_underlying he, hc, hb]
theorem eqItems_bytes {P : Program} (d : Nat) (e : TypeId) (he : P.underlying e = some (.int .u8)) (hs : (P.info? e).map (·.size) = some 1) (hc : P.cellsOf e = 1) (xs ys : List Int) (w : World) :
    ∀ is : List Nat, (∀ i ∈ is, i < xs.length ∧ i < ys.length) → (Op.eqItems (d + 1) e (P.cellsOf e) (bs xs) (bs ys) is).run P w = .ok (is.all fun i => xs.getD i 0 == ys.getD i 0) w
  | [], _ => by simp [Op.eqItems]
  | i :: is, h => by
    have hi := h i (by simp)
    have ih := eqItems_bytes d e he hs hc xs ys w is (fun j hj => h j (by simp [hj]))
    have p1 := part_byte e he hc xs w i hi.1
    have p2 := part_byte e he hc ys w i hi.2
    simp only [Op.eqItems, Sem.run_bind, p1, p2, Result.andThen_ok, run_equalIn_int w d e .u8 .u8 _ _ he, Sem.run_ite, Sem.run_pure, ih, List.all_cons]
    cases (xs.getD i 0 == ys.getD i 0) <;> simp
theorem all_range (xs ys : List Int) (n : Nat) (hx : xs.length = n) (hy : ys.length = n) : ((List.range n).all fun i => xs.getD i 0 == ys.getD i 0) = decide (xs = ys) := by
  by_cases h : xs = ys
  · subst h; simp
  · rw [decide_eq_false h]
    rw [Bool.eq_false_iff]
    intro q
    apply h
    apply List.ext_getElem (by omega)
    intro j h1 h2
    have := List.all_eq_true.1 q j (List.mem_range.2 (by omega))
    simpa [List.getD, h1, h2] using this
theorem equal_bytes {P : Program} (t e : TypeId) (n : Nat) (hu : P.underlying t = some (.array n e)) (he : P.underlying e = some (.int .u8)) (hs : (P.info? e).map (·.size) = some 1) (hc : P.cellsOf e = 1)
    (xs ys : List Int) (hx : xs.length = n) (hy : ys.length = n) (w : World) : (Op.equalIn 10000 t (.agg (bs xs)) (.agg (bs ys))).run P w = .ok (decide (xs = ys)) w := by
  cases hq : P.info? e with
  | none => simp [hq] at hs
  | some inf =>
    have h1 := run_equalIn_array (P := P) (w := w) 9999 (bs xs) (bs ys) hu hq
    have h2 := eqItems_bytes (P := P) 9998 e he hs hc xs ys w (List.range n) (fun i hi => by have := List.mem_range.1 hi; omega)
    rw [all_range xs ys n hx hy] at h2
    exact h1.trans h2
theorem load_row_g {P : Program} {ops : Array Oper} {rest : List Oper} {o : Oper} {a : Act} {w : World} {Q : Exit → Act → World → Prop} (hw : Region.wanted o (yielded ops a.tmps) = true) (ty : TypeId) (x : Operand) (ho : o.op = .load ty x)
    (g : Nat) (hx : a.eval x = .pointer (some ⟨g, 0, none⟩)) (t : TypeId) (cs : Array Value) (hg : Row w g cs t) (n : Nat) (e : TypeId)
    (hu : P.underlying ty = some (.array n e)) (hi : (P.info? ty).map (·.size) = some n) (hn : cs.size = n)
    (h : wpList P ops Q rest (a.put o.dst (.agg cs)) w) : wpList P ops Q (o :: rest) a w :=
  BigFrame.wpList_want hw fun _ hK => wp_load_row ty x ho g hx t cs (0, 0) _ hg hu rfl (by rw [hi, hn]) (hK _ _ h)
theorem yields_row {P : Program} {ops : Array Oper} {S : World → Prop} {o : Oper} {a : Act} (hw : Region.wanted o (yielded ops a.tmps) = true) (ty : TypeId) (x : Operand) (ho : o.op = .load ty x)
    (g : Nat) (hx : a.eval x = .pointer (some ⟨g, 0, none⟩)) (t : TypeId) (cs : Array Value) (hg : ∀ w, S w → Row w g cs t) (n : Nat) (e : TypeId)
    (hu : P.underlying ty = some (.array n e)) (hi : (P.info? ty).map (·.size) = some n) (hn : cs.size = n) : YieldsIf P ops S o (.agg cs) a := by
  refine Or.inl ⟨hw, fun w hS => ?_⟩
  unfold execOp
  simp only [ho, hx, Instr.loadAt, Instr.sureAddr, Sem.run_bind, Sem.run_pure, Result.andThen_ok, run_loadVar_row w g t ty cs (0, 0) _ (hg w hS) hu rfl (by rw [hi, hn])]
def upto (n : Nat) (f : Nat → Int) (k : Nat) : List Int := fl n fun j => if j < k then f j else 0
theorem upto_length (n : Nat) (f : Nat → Int) (k : Nat) : (upto n f k).length = n := fl_length _ _
theorem upto_zero (n : Nat) (f : Nat → Int) : zs n = upto n f 0 := by
  apply eq_fl _ _ _ (zs_length _)
  intro j hj; rw [if_neg (by omega)]; exact zs_at _ _
theorem upto_step (n : Nat) (f : Nat → Int) (k : Nat) : (upto n f k).set k (f k) = upto n f (k + 1) := by
  unfold upto
  rw [set_fl]
  apply eq_fl _ _ _ (fl_length _ _)
  intro j hj
  rw [fl_at _ _ _ hj]
  by_cases e : j = k
  · subst e; rw [if_pos rfl, if_pos (by omega)]
  · rw [if_neg e]
    by_cases h : j < k
    · rw [if_pos h, if_pos (by omega)]
    · rw [if_neg h, if_neg (by omega)]
theorem upto_whole (n : Nat) (f : Nat → Int) : upto n f n = fl n f := by
  apply eq_fl _ _ _ (fl_length _ _)
  intro j hj
  exact (fl_at _ _ _ hj).trans (if_pos hj)
theorem splice_getD (l m : List Int) (o j : Nat) (h : o + m.length ≤ l.length) : (splice l o m).getD j 0 = if j < o then l.getD j 0 else if j < o + m.length then m.getD (j - o) 0 else l.getD j 0 := by
  unfold splice
  simp only [List.getD]
  have l1 : (l.take o).length = o := by rw [List.length_take]; omega
  by_cases h1 : j < o
  · rw [List.getElem?_append_left (by omega), List.getElem?_take, if_pos h1, if_pos h1]
  · rw [List.getElem?_append_right (by omega), l1, if_neg h1]
    by_cases h2 : j < o + m.length
    · rw [List.getElem?_append_left (by omega), if_pos h2]
    · rw [List.getElem?_append_right (by omega), List.getElem?_drop, if_neg h2]
      rw [show o + m.length + (j - o - m.length) = j by omega]
theorem fl_bytes (n : Nat) (f : Nat → Int) (h : ∀ j, j < n → 0 ≤ f j ∧ f j ≤ 255) : Bytes (fl n f) := by
  intro y hy
  unfold fl at hy
  obtain ⟨j, hj, rfl⟩ := List.mem_map.1 hy
  exact h j (List.mem_range.1 hj)
section
variable {P : Program}
theorem store_cells {ops : Array Oper} {rest : List Oper} {o : Oper} {a : Act} {w : World} {Q : Exit → Act → World → Prop} (hgd : o.guard = none) (ty : TypeId) (x y : Operand) (ho : o.op = .store ty x y)
    (g : Nat) (cs : Array Value) (hx : a.eval x = .pointer (some ⟨g, 0, none⟩)) (hy : a.eval y = .agg cs)
    (t : TypeId) (old : Array Value) (hg : Row w g old t) (n : Nat) (hi : (P.info? ty).map (·.size) = some n)
    (hold : old.size = n) (hn : cs.size = n) (h1 : cs.all (·.oneCell') = true)
    (h : wpList P ops Q rest (a.put o.dst undef) (w.setRow g cs)) : wpList P ops Q (o :: rest) a w :=
  wpList_store_row hgd ty x y ho g cs hx hy t old hg (by rw [hi, hn]) (by rw [hold, hn]) h1 h
end
def bl (ys : List Bool) : Array Value := (ys.map Value.bool).toArray
def bf (n : Nat) (f : Nat → Bool) : List Bool := (List.range n).map f
def fs : List Bool := List.replicate 64 false
theorem zero148 (w : World) : (zeroValue 148).run Try.prog w = .ok (.agg (bs (zs 224))) w := (zero_of_info (P := Try.prog) (t := 148) (v := .agg (bs (zs 224))) (n := 224) (by kernel_rfl)).1 w
theorem size148 : (Try.prog.info? 148).map (·.size) = some 224 := by kernel_rfl
theorem built148 : (Try.prog.built 148 []) = some (bs (zs 224)) := by kernel_rfl
theorem zero128 (w : World) : (zeroValue 128).run Try.prog w = .ok (.agg (bs (zs 224))) w := (zero_of_info (P := Try.prog) (t := 128) (v := .agg (bs (zs 224))) (n := 224) (by kernel_rfl)).1 w
theorem size128 : (Try.prog.info? 128).map (·.size) = some 224 := by kernel_rfl
theorem zero56 (w : World) : (zeroValue 56).run Try.prog w = .ok (.agg (bs (zs 256))) w := (zero_of_info (P := Try.prog) (t := 56) (v := .agg (bs (zs 256))) (n := 256) (by kernel_rfl)).1 w
theorem size56 : (Try.prog.info? 56).map (·.size) = some 256 := by kernel_rfl
theorem built56 : (Try.prog.built 56 []) = some (bs (zs 256)) := by kernel_rfl
theorem equal56 (xs ys : List Int) (hx : xs.length = 256) (hy : ys.length = 256) (w : World) : (Op.equalIn 10000 56 (.agg (bs xs)) (.agg (bs ys))).run Try.prog w = .ok (decide (xs = ys)) w :=
  equal_bytes 56 5 256 Try.underlying56 Try.underlying5 (by kernel_rfl) (by kernel_rfl) xs ys hx hy w
theorem zero55 (w : World) : (zeroValue 55).run Try.prog w = .ok (.agg (bs (zs 256))) w := (zero_of_info (P := Try.prog) (t := 55) (v := .agg (bs (zs 256))) (n := 256) (by kernel_rfl)).1 w
theorem size55 : (Try.prog.info? 55).map (·.size) = some 256 := by kernel_rfl
theorem zero114 (w : World) : (zeroValue 114).run Try.prog w = .ok (.agg (bs (zs 64))) w := (zero_of_info (P := Try.prog) (t := 114) (v := .agg (bs (zs 64))) (n := 64) (by kernel_rfl)).1 w
theorem size114 : (Try.prog.info? 114).map (·.size) = some 64 := by kernel_rfl
theorem zero113 (w : World) : (zeroValue 113).run Try.prog w = .ok (.agg (bs (zs 64))) w := (zero_of_info (P := Try.prog) (t := 113) (v := .agg (bs (zs 64))) (n := 64) (by kernel_rfl)).1 w
theorem size113 : (Try.prog.info? 113).map (·.size) = some 64 := by kernel_rfl
theorem size5 : (Try.prog.info? 5).map (·.size) = some 1 := by kernel_rfl
end Go.Proofs.Ytgnedbagelhcbaa
