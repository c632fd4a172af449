/-
  Plain facts on logs in memory of their own, and how an entry is put behind them.
-/
import Derived.Test.YtihjapfgllokgabOpn
namespace Go.Proofs.Ytihjapfgllokgab
open Go.ChangeShapes Go.WideShapes Go.ChangeAt Go.RowKit
set_option linter.unusedVariables false
set_option linter.unusedSimpArgs false
set_option maxRecDepth 20000

theorem splice_set {α : Type} (L : List α) (o : Nat) (x : α) (r : List α) (h : o < L.length) : splice (L.set o x) (o + 1) r = splice L o (x :: r) := by
  unfold splice
  have e1 : (L.set o x).take (o + 1) = L.take o ++ [x] := by
    rw [List.take_add_one, List.take_set_of_le (by omega)]
    simp [h]
  have e2 : (L.set o x).drop (o + 1 + r.length) = L.drop (o + (x :: r).length) := by
    rw [List.drop_set_of_lt (by omega)]
    simp; congr 1; omega
  rw [e1, e2]; simp
theorem fold_set : ∀ (l : List Value) (n off : Nat) (cs : Array Value), off + n + l.length ≤ cs.size → (l.zipIdx n).foldl (fun cs (p : Value × Nat) => cs.setIfInBounds (off + p.2) p.1) cs = (⟨splice cs.toList (off + n) l⟩ : Array Value)
  | [], n, off, cs, h => by simp [splice]
  | x :: r, n, off, cs, h => by
    rw [List.zipIdx_cons, List.foldl_cons, fold_set r (n + 1) off _ (by simp at h ⊢; omega)]
    congr 1
    simp only [Array.toList_setIfInBounds]
    have := splice_set cs.toList (off + n) x r (by simp at h ⊢; omega)
    rw [← this]; rfl
theorem fold_arr (v : Array Value) (off : Nat) (cs : Array Value) (h : off + v.size ≤ cs.size) : v.zipIdx.foldl (fun cs (p : Value × Nat) => cs.setIfInBounds (off + p.2) p.1) cs = (⟨splice cs.toList off v.toList⟩ : Array Value) := by
  rw [← Array.foldl_toList, Array.toList_zipIdx]
  exact fold_set v.toList 0 off cs (by simpa using h)

theorem fill_step (place : Nat → Option (Nat × Nat)) (cells : Array Value) (i : Nat) (v : Value) (rest : List (Nat × Value)) (off size : Nat) (hp : place i = some (off, size)) (h1 : v.cells.size = size) (h2 : off + size ≤ cells.size) :
    Instr.fill place cells ((i, v) :: rest) = Instr.fill place ⟨splice cells.toList off v.cells.toList⟩ rest := by
  have : ¬ (decide (v.cells.size ≠ size) || decide (off + v.cells.size > cells.size)) = true := by simp [h1]; omega
  rw [Instr.fill, hp]
  simp only []
  rw [if_neg this]
  have := fold_arr v.cells off cells (by omega)
  rw [← this]

theorem info39 : (Try.prog.info? 39).map (fun i => (i.zero, i.size, i.bytes)) = some (some (.agg En.zero.arr), 239, 304) := by kernel_rfl
theorem wpList_slice_one {ops : Array Oper} {rest : List Oper} {o : Oper} {a : Act} {w : World} {Q : Exit → Act → World → Prop} (hg : o.guard = none) (x : Operand) (ho : o.op = .buildSlice 27 1 #[(0, x)]) (e : En) (hl : e.r.img.length = 224) (hx : a.eval x = .agg e.arr)
    (h : wpList Try.prog ops Q rest (a.put o.dst (.slice (some ⟨w.heap.size, 0, none⟩) 1 1)) (w.alloc (.cells e.arr 39))) : wpList Try.prog ops Q (o :: rest) a w := by
  obtain ⟨i, hi, hz, hs, _⟩ := info_parts info39
  have hc : e.arr.size = 239 := e.arr_size hl
  refine wpList_buildSlice hg 27 39 1 _ ho e.arr i _ Try.underlying27 hi hz (by rw [hs]; decide) (by rw [hs]; decide) ?_ h
  have e1 : (#[(0, x)].map fun (i, x) => (i, a.eval x)).toList = [(0, .agg e.arr)] := by simp [hx]
  rw [e1, fill_step _ _ 0 (.agg e.arr) _ 0 239 (by simp [hs]) hc (by simp [hs])]
  unfold Instr.fill
  congr 1
  show (⟨splice _ 0 e.arr.toList⟩ : Array Value) = e.arr
  unfold splice
  rw [List.drop_of_length_le (by simp [hc, hs])]
  simp
def flatE (es : List En) : List Value := es.flatMap En.cells
theorem flatE_append (a b : List En) : flatE (a ++ b) = flatE a ++ flatE b := by simp [flatE]
theorem flatE_one : ∀ es : List En, ∀ u ∈ flatE es, u.oneCell' = true := by
  intro es u hu
  obtain ⟨e, _, h⟩ := List.mem_flatMap.1 hu
  have := e.arr_one
  rw [Array.all_eq_true_iff_forall_mem] at this
  exact this u (by unfold En.arr; simpa using h)
theorem flatE_at : ∀ (es : List En) (i j : Nat) (e : En), (∀ x ∈ es, x.r.img.length = 224) → es[i]? = some e → j < 239 → (flatE es)[i * 239 + j]? = e.cells[j]?
  | [], i, j, e, _, h, _ => by simp at h
  | p :: r, 0, j, e, hf, h, hj => by
    simp at h; subst h
    show (p.cells ++ flatE r)[0 * 239 + j]? = _
    rw [Nat.zero_mul, Nat.zero_add, List.getElem?_append_left (by rw [En.cells_length p (hf p (by simp))]; exact hj)]
  | p :: r, i + 1, j, e, hf, h, hj => by
    simp at h
    have hp := En.cells_length p (hf p (by simp))
    show (p.cells ++ flatE r)[(i + 1) * 239 + j]? = _
    rw [List.getElem?_append_right (by rw [hp]; omega), hp, show (i + 1) * 239 + j - 239 = i * 239 + j by omega]
    exact flatE_at r i j e (fun x hx => hf x (by simp [hx])) h hj
/-- A log in memory of its own. -/
def OwnE (w : World) (base : Nat) (v : Value) (es : List En) : Prop := w.ownsRow base 39 239 v es.length (flatE es)
theorem OwnE.nil (w : World) (base : Nat) : OwnE w base (.slice none 0 0) [] := ⟨rfl, Or.inl ⟨rfl, rfl⟩⟩
theorem OwnE.log {w : World} {base : Nat} {v : Value} {es : List En} (h : OwnE w base v es) (hl : ∀ x ∈ es, x.r.img.length = 224) : Log w v es := by
  have hc := fun g hg => World.ownsRow.cells h (g := g) hg
  obtain ⟨h1, h2⟩ := h
  rcases h2 with ⟨rfl, h2⟩ | ⟨g, cap, cur, rfl, hb, hg, _⟩
  · exact Or.inl ⟨rfl, List.eq_nil_of_length_eq_zero h2⟩
  · refine Or.inr ⟨⟨g, 0, none⟩, cap, rfl, fun i e he j x hj => ?_⟩
    have hj9 : j < 239 := by
      have := (List.getElem?_eq_some_iff.1 hj).1
      rw [En.cells_length e (hl e (List.mem_of_getElem? he))] at this; exact this
    rw [add_add]
    exact hc g rfl (i * 239 + j) x (by rw [flatE_at es i j e hl he hj9]; exact hj)
theorem OwnE.keep {w w' : World} {base : Nat} {v : Value} {es : List En} (h : OwnE w base v es) (hb : Below w.heap.size w w') : OwnE w' base v es := by
  have hl := World.ownsRow.lt h
  obtain ⟨h1, h2⟩ := h
  refine ⟨h1, ?_⟩
  rcases h2 with h2 | ⟨g, cap, cur, rfl, hb', hc, rest⟩
  · exact Or.inl h2
  · have := hl g (by simp [Value.ownBlock])
    exact Or.inr ⟨g, cap, cur, rfl, hb', (hb.block g this.2).trans hc, rest⟩
theorem OwnE.form {w : World} {base : Nat} {v : Value} {es : List En} (h : OwnE w base v es) : ∃ oa cap, v = .slice oa es.length cap := by
  rcases h.2 with ⟨rfl, h2⟩ | ⟨g, cap, cur, rfl, _⟩
  · exact ⟨none, 0, by rw [h2]⟩
  · exact ⟨_, cap, rfl⟩
theorem OwnE.snoc {w : World} {base : Nat} {v : Value} {es : List En} (h : OwnE w base v es) (ty : TypeId) (X : Nat) (p : En) (hp : p.r.img.length = 224) (hX : Row w X p.arr 39) (hb : base ≤ w.heap.size) (hn : es.length ≤ 1000) :
    ∃ v' w', (Builtin.append_ #[27, 27] ty #[v, .slice (some ⟨X, 0, none⟩) 1 1]).run Try.prog w = .ok v' w' ∧ OwnE w' base v' (es ++ [p]) ∧ w.grownBy w' v.ownBlock := by
  obtain ⟨i, hi, hz, hs, hby⟩ := info_parts info39
  obtain ⟨v', w', hr, h2, h3, h4, h5⟩ := run_append_own_at (P := Try.prog) w base 27 ty 39 i _ 239 304 Try.underlying27 hi hz hs hby (by rw [show (Value.agg En.zero.arr).cells = En.zero.arr from rfl]; exact En.arr_size _ (zs_length _)) (by decide) v es.length (flatE es) h ⟨X, 0, none⟩ 1 1 p.cells (by simp [En.cells_length p hp]) (fun j u hj => by rw [Addr.add_mid, Nat.zero_add, cell_of_row w X j _ _ _ hX, ← hj]; show p.cells.toArray[j]? = _; rw [List.getElem?_toArray]) (fun u hu => flatE_one [p] u (by simpa [flatE] using hu)) (by unfold maxLen; omega) (by omega) hb
  refine ⟨v', w', hr, ?_, h3⟩
  unfold OwnE
  rw [flatE_append, List.length_append]
  simpa [flatE] using h2
/-- A rising log out of any: the first k entries, numbered anew. -/
def fewN (es : List En) : Nat → List En
  | 0 => []
  | k + 1 => fewN es k ++ (match es[k]? with
    | some e => [⟨k + 1, e.r⟩]
    | none => [])
theorem fewN_length (es : List En) : ∀ k, k ≤ es.length → (fewN es k).length = k
  | 0, _ => rfl
  | k + 1, h => by
    have ih := fewN_length es k (by omega)
    rw [fewN, List.getElem?_eq_getElem (by omega)]
    simp [ih]
theorem fewN_fits (es : List En) (hf : ∀ e ∈ es, e.Fits) : ∀ k, k ≤ 1000000 → ∀ e ∈ fewN es k, e.Fits
  | 0, _, e, he => by cases he
  | k + 1, hk, e, he => by
    rw [fewN] at he
    rcases List.mem_append.1 he with he | he
    · exact fewN_fits es hf k (by omega) e he
    · cases hq : es[k]? with
      | none => rw [hq] at he; cases he
      | some x =>
        rw [hq] at he
        simp at he
        subst he
        exact ⟨⟨by show (0 : Int) ≤ k + 1; omega, by show ((k : Int) + 1) ≤ _; omega⟩, (hf x (List.mem_of_getElem? hq)).r⟩
end Go.Proofs.Ytihjapfgllokgab
