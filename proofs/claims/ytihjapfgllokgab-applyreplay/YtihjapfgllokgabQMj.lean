/-
  Plain facts on the statements' arguments: records as values that came in. Plain facts on logs in memory of their own, and how an entry is put behind them. Proved here: the statements' few: a rising log out of any. Plain facts for the statements of apply: few's logs rise; a rising log gone over twice, or first in part, makes the same; a log's head is a log. Plain facts for ApplyTorn: behind an image that is right, whatever stood there makes no difference. Plain facts on the statements' arguments: a page's name and a payload, as values that came in; a log's room. Plain facts for ApplyReplay: entries compared, a log's copy in own memory, and a load at any place in a region that draws.
-/
import Derived.Test.YtihjapfgllokgabRpy
import Derived.SizedLaws
import Derived.Deep.Grids
import Derived.Deep.Slices
import Derived.Lib.SmallJoins
import Derived.Carry
import Derived.Test.YtihjapfgllokgabFct
import Derived.Test.YtihjapfgllokgabAwk
namespace Go.Proofs.Ytihjapfgllokgab
open Go.ChangeShapes Go.WideShapes Go.ChangeAt Go.RowKit
open Go.Deep
set_option linter.unusedVariables false
set_option linter.unusedSimpArgs false
set_option maxRecDepth 20000

theorem laidOut : laidOutB Try.prog = true := by kernel_rfl
theorem cells37 : Try.prog.cellsOf 37 = 238 := by kernel_rfl
theorem cells26 : Try.prog.cellsOf 26 = 224 := by kernel_rfl
theorem cells31 : Try.prog.cellsOf 31 = 1 := by kernel_rfl
theorem cells33 : Try.prog.cellsOf 33 = 2 := by kernel_rfl
theorem cells9 : Try.prog.cellsOf 9 = 1 := by kernel_rfl
theorem cells35 : Try.prog.cellsOf 35 = 6 := by kernel_rfl
theorem cells4 : Try.prog.cellsOf 4 = 1 := by kernel_rfl
theorem cells22 : Try.prog.cellsOf 22 = 1 := by kernel_rfl
theorem list_choose {n : Nat} {p : Nat → Int → Prop} (h : ∀ i, i < n → ∃ x, p i x) : ∃ ys : List Int, ys.length = n ∧ ∀ i, i < n → p i (ys.getD i 0) := by
  induction n with
  | zero => exact ⟨[], rfl, fun i hi => by omega⟩
  | succ n ih =>
    obtain ⟨ys, hl, hy⟩ := ih (fun i hi => h i (by omega))
    obtain ⟨x, hx⟩ := h n (by omega)
    refine ⟨ys ++ [x], by simp [hl], fun i hi => ?_⟩
    by_cases e : i < n
    · have := hy i e
      simp only [List.getD] at this ⊢
      rw [List.getElem?_append_left (by omega)]; exact this
    · have e : i = n := by omega
      subst e
      simp only [List.getD]
      rw [List.getElem?_append_right (by omega), hl]; simpa using hx
theorem bytes39 : Try.prog.bytesOf 39 = 304 := by kernel_rfl
theorem cells39 : Try.prog.cellsOf 39 = 239 := by kernel_rfl
theorem cells30 : Try.prog.cellsOf 30 = 1 := by kernel_rfl
section
variable {H : Type} {enc : TypeId × Value → H}
theorem open_list {P : Program} {w : World} {base : Nat} {spare : Nat → Bool} {held : Bool} {fuel n : Nat} {t e : TypeId} {cs : List Value} {x : DataW H × List MemPlace} (ht : P.underlying t = some (.array n e)) (he : P.underlying e = some (.int .u8)) (hc : P.cellsOf e = 1) (hl : cs.length = n)
    (hf : DataW.trod enc P w base spare held fuel t cs = some x) : ∃ ys : List Int, cs = ys.map (Value.int .u8) ∧ ys.length = n ∧ Bytes ys := by
  obtain ⟨xs, m, hfu, hx, hlx, hn, hall⟩ := DataW.trod_array ht hf
  have hstep : ∀ i, i < n → ∃ z, cs[i]? = some (.int .u8 z) ∧ (Lit.int .u8 z).wf = true := by
    intro i hi
    have h1 := hall i hi
    obtain ⟨b, hb⟩ : ∃ b, xs[i]? = some b := ⟨xs[i]'(by omega), List.getElem?_eq_getElem (by omega)⟩
    rw [hb, hc] at h1
    obtain ⟨z, hcz, rfl, hw⟩ := DataW.trod_int he h1
    refine ⟨z, ?_, hw⟩
    have := congrArg (·[0]?) hcz
    simpa [List.getElem?_take, List.getElem?_drop, Value.cells] using this
  obtain ⟨ys, hyl, hy⟩ := list_choose hstep
  refine ⟨ys, ?_, hyl, ?_⟩
  · apply List.ext_getElem?
    intro i
    by_cases hi : i < n
    · rw [(hy i hi).1, List.getElem?_map, List.getElem?_eq_getElem (by omega)]
      simp [List.getD, show i < ys.length by omega]
    · rw [List.getElem?_eq_none (by omega), List.getElem?_eq_none (by simp; omega)]
  · intro y hy'
    obtain ⟨i, hi, rfl⟩ := List.getElem_of_mem hy'
    have := bounds_u8 (hy i (by omega)).2
    simpa [List.getD, hi] using this

set_option maxRecDepth 20000 in
theorem open_rec {w : World} {fuel : Nat} {cs : List Value} {x : DataW H × List MemPlace} (hl : cs.length = 238) (h : DataW.trod enc Try.prog w 0 (fun _ => true) true fuel 37 cs = some x) :
    ∃ r : R, cs = r.cells ∧ r.Fits := by
  cases fuel with
  | zero => simp [DataW.trod] at h
  | succ n =>
    unfold DataW.trod at h
    rw [Try.underlying37] at h
    obtain ⟨k0, u0, o0, I, t0, t1, t2, t3, t4, t5, t6, t7, t8, t9, t10, rfl, hI⟩ : ∃ k0 u0 o0 I t0 t1 t2 t3 t4 t5 t6 t7 t8 t9 t10, cs = k0 :: u0 :: o0 :: (I ++ [t0, t1, t2, t3, t4, t5, t6, t7, t8, t9, t10]) ∧ I.length = 224 := by
      match cs, hl with
      | k0 :: u0 :: o0 :: rest, hl =>
        have hr : rest.length = 235 := by simpa using hl
        have hd : (rest.drop 224).length = 11 := by simp [hr]
        match hq : rest.drop 224, hd with
        | [t0, t1, t2, t3, t4, t5, t6, t7, t8, t9, t10], _ =>
          exact ⟨k0, u0, o0, rest.take 224, t0, t1, t2, t3, t4, t5, t6, t7, t8, t9, t10, by rw [← hq, List.take_append_drop], by simp [hr]⟩
    have e0 : ∀ k (T : List Value), (I ++ T).drop (224 + k) = T.drop k := fun k T => by rw [← hI, List.drop_append]; simp
    have d0 := e0 0 [t0, t1, t2, t3, t4, t5, t6, t7, t8, t9, t10]
    have d1 := e0 1 [t0, t1, t2, t3, t4, t5, t6, t7, t8, t9, t10]
    have d3 := e0 3 [t0, t1, t2, t3, t4, t5, t6, t7, t8, t9, t10]
    have d4 := e0 4 [t0, t1, t2, t3, t4, t5, t6, t7, t8, t9, t10]
    have d5 := e0 5 [t0, t1, t2, t3, t4, t5, t6, t7, t8, t9, t10]
    have dt : (I ++ [t0, t1, t2, t3, t4, t5, t6, t7, t8, t9, t10]).take 224 = I := by rw [← hI]; exact List.take_left
    simp only [List.drop_succ_cons, List.drop_zero, Nat.add_zero, Nat.reduceAdd] at d0 d1 d3 d4 d5
    simp [List.mapM_cons, cells37, cells5, cells24, cells26, cells31, cells33, cells9, cells35, hI] at h
    rw [d1, d3, d4, d5] at h
    simp only [List.take_succ_cons, List.take_zero] at h
    cases a0 : DataW.trod enc Try.prog w 0 (fun _ => true) true n 5 [k0] with
    | none => simp [a0] at h
    | some xa0 =>
    cases a1 : DataW.trod enc Try.prog w 0 (fun _ => true) true n 24 [u0, o0] with
    | none => simp [a0, a1] at h
    | some xa1 =>
    cases a2 : DataW.trod enc Try.prog w 0 (fun _ => true) true n 26 I with
    | none => simp [a0, a1, a2] at h
    | some xa2 =>
    cases a3 : DataW.trod enc Try.prog w 0 (fun _ => true) true n 31 [t0] with
    | none => simp [a0, a1, a2, a3] at h
    | some xa3 =>
    cases a4 : DataW.trod enc Try.prog w 0 (fun _ => true) true n 33 [t1, t2] with
    | none => simp [a0, a1, a2, a3, a4] at h
    | some xa4 =>
    cases a5 : DataW.trod enc Try.prog w 0 (fun _ => true) true n 9 [t3] with
    | none => simp [a0, a1, a2, a3, a4, a5] at h
    | some xa5 =>
    cases a6 : DataW.trod enc Try.prog w 0 (fun _ => true) true n 5 [t4] with
    | none => simp [a0, a1, a2, a3, a4, a5, a6] at h
    | some xa6 =>
    cases a7 : DataW.trod enc Try.prog w 0 (fun _ => true) true n 35 [t5, t6, t7, t8, t9, t10] with
    | none => simp [a0, a1, a2, a3, a4, a5, a6, a7] at h
    | some xa7 =>
    obtain ⟨kk, ek, _, wk⟩ := DataW.trod_int Try.underlying5 a0
    obtain ⟨ys, ei, li, bi⟩ := open_list Try.underlying26 Try.underlying5 cells5 hI a2
    obtain ⟨kt, et, _, wt⟩ := DataW.trod_int Try.underlying31 a3
    obtain ⟨kd, ed, _, wd⟩ := DataW.trod_string Try.underlying9 a5
    obtain ⟨ks, es, _, ws⟩ := DataW.trod_int Try.underlying5 a6
    cases n with
    | zero => simp [DataW.trod] at a1
    | succ m =>
    unfold DataW.trod at a1 a4 a7
    rw [Try.underlying24] at a1
    rw [Try.underlying33] at a4
    rw [Try.underlying35] at a7
    simp [List.mapM_cons, cells24, cells4, cells22] at a1
    simp [List.mapM_cons, cells33, cells22, cells5] at a4
    simp [List.mapM_cons, cells35, cells4, cells22, cells31, cells33, cells9] at a7
    cases b0 : DataW.trod enc Try.prog w 0 (fun _ => true) true m 4 [u0] with
    | none => simp [b0] at a1
    | some xb0 =>
    cases b1 : DataW.trod enc Try.prog w 0 (fun _ => true) true m 22 [o0] with
    | none => simp [b0, b1] at a1
    | some xb1 =>
    cases c0 : DataW.trod enc Try.prog w 0 (fun _ => true) true m 22 [t1] with
    | none => simp [c0] at a4
    | some xc0 =>
    cases c1 : DataW.trod enc Try.prog w 0 (fun _ => true) true m 5 [t2] with
    | none => simp [c0, c1] at a4
    | some xc1 =>
    cases e0 : DataW.trod enc Try.prog w 0 (fun _ => true) true m 4 [t5] with
    | none => simp [e0] at a7
    | some xe0 =>
    cases e1 : DataW.trod enc Try.prog w 0 (fun _ => true) true m 22 [t6] with
    | none => simp [e0, e1] at a7
    | some xe1 =>
    cases e2 : DataW.trod enc Try.prog w 0 (fun _ => true) true m 31 [t7] with
    | none => simp [e0, e1, e2] at a7
    | some xe2 =>
    cases e3 : DataW.trod enc Try.prog w 0 (fun _ => true) true m 33 [t8, t9] with
    | none => simp [e0, e1, e2, e3] at a7
    | some xe3 =>
    cases e4 : DataW.trod enc Try.prog w 0 (fun _ => true) true m 9 [t10] with
    | none => simp [e0, e1, e2, e3, e4] at a7
    | some xe4 =>
    cases m with
    | zero => simp [DataW.trod] at e3
    | succ l =>
    unfold DataW.trod at e3
    rw [Try.underlying33] at e3
    simp [List.mapM_cons, cells33, cells22, cells5] at e3
    cases g0 : DataW.trod enc Try.prog w 0 (fun _ => true) true l 22 [t8] with
    | none => simp [g0] at e3
    | some xg0 =>
    cases g1 : DataW.trod enc Try.prog w 0 (fun _ => true) true l 5 [t9] with
    | none => simp [g0, g1] at e3
    | some xg1 =>
    obtain ⟨vu, eu, _⟩ := DataW.trod_bool Try.underlying4 b0
    obtain ⟨vn, en, _, wn⟩ := DataW.trod_int Try.underlying22 b1
    obtain ⟨vp, ep, _, wp⟩ := DataW.trod_int Try.underlying22 c0
    obtain ⟨vs, eps, _, wps⟩ := DataW.trod_int Try.underlying5 c1
    obtain ⟨vl, el, _⟩ := DataW.trod_bool Try.underlying4 e0
    obtain ⟨vg, eg, _, wg⟩ := DataW.trod_int Try.underlying22 e1
    obtain ⟨vt, evt, _, wvt⟩ := DataW.trod_int Try.underlying31 e2
    obtain ⟨vd, evd, _, wvd⟩ := DataW.trod_string Try.underlying9 e4
    obtain ⟨va, eva, _, wva⟩ := DataW.trod_int Try.underlying22 g0
    obtain ⟨vb, evb, _, wvb⟩ := DataW.trod_int Try.underlying5 g1
    simp at ek et ed es eu en ep eps el eg evt evd eva evb
    refine ⟨⟨kk, vu, vn, ys, kt, vp, vs, kd, ks, ⟨vl, vg, vt, va, vb, vd⟩⟩, ?_, ⟨bounds_u8 wk, bounds_u16 wn, li, bi, bounds_u32 wt, bounds_u16 wp, bounds_u8 wps, bounds_u8 ws, wd, ⟨bounds_u16 wg, bounds_u32 wvt, bounds_u16 wva, bounds_u8 wvb⟩, wvd⟩⟩
    simp only [R.cells, R.tail]
    rw [ek, eu, en, ei, et, ep, eps, ed, es, el, eg, evt, eva, evb, evd]
set_option maxRecDepth 20000 in
theorem open_recv {w : World} {base : Nat} {v : Value} {d : DataW H} {p : List MemPlace} (hv : Value.okWide Try.prog w .any base 37 v) (h : DataW.Trod enc Try.prog w 0 (fun _ => true) true 37 v d p) :
    ∃ r : R, v = .agg r.arr ∧ r.Fits := by
  obtain ⟨cs, rfl, hsz⟩ := okWide_struct Try.underlying37 hv
  obtain ⟨fuel, hf⟩ := h
  rw [cells37] at hsz
  obtain ⟨a, he, ok⟩ := open_rec (by simpa [Value.cells] using hsz) hf
  refine ⟨a, ?_, ok⟩
  have he' : cs.toList = a.cells := he
  rw [← Array.toArray_toList (xs := cs), he']; rfl
theorem open_en {w : World} {fuel : Nat} {cs : List Value} {x : DataW H × List MemPlace} (hl : cs.length = 239) (h : DataW.trod enc Try.prog w 0 (fun _ => true) true fuel 39 cs = some x) :
    ∃ e : En, cs = e.cells ∧ e.Fits := by
  cases fuel with
  | zero => simp [DataW.trod] at h
  | succ n =>
    unfold DataW.trod at h
    rw [Try.underlying39] at h
    match cs, hl with
    | c0 :: rest, hl =>
      have hr : rest.length = 238 := by simpa using hl
      simp [List.mapM_cons, cells39, cells30, cells37, hr] at h
      rw [List.take_of_length_le (by omega)] at h
      cases t0 : DataW.trod enc Try.prog w 0 (fun _ => true) true n 30 [c0] with
      | none => simp [t0] at h
      | some x0 =>
      cases t1 : DataW.trod enc Try.prog w 0 (fun _ => true) true n 37 rest with
      | none => simp [t0, t1] at h
      | some x1 =>
      obtain ⟨k0, e0, _, u0⟩ := DataW.trod_int Try.underlying30 t0
      obtain ⟨r, e1, hf⟩ := open_rec hr t1
      simp at e0
      exact ⟨⟨k0, r⟩, by rw [e0, e1]; rfl, bounds_u64 u0, hf⟩
theorem En.zero_fits : En.zero.Fits := ⟨by decide, R.zero_fits⟩
theorem open_ens {w : World} {fuel : Nat} {c : Value} {x : DataW H × List MemPlace} (hf : DataW.trod enc Try.prog w 0 (fun _ => true) true fuel 27 [c] = some x) :
    ∃ es : List En, Log w c es ∧ (∀ e ∈ es, e.Fits) ∧ ((x.1.weights Try.prog 27).all (· ≤ reachBytes) = true → es.length * 304 ≤ 140737488355328) := by
  rcases open_slice Try.underlying27 hf with ⟨q, _⟩ | ⟨a, len, cap, m, n, D, Pl, q, _, hle, _, hm, hx, hel⟩
  · exact ⟨[], Or.inl ⟨by simpa using q, rfl⟩, by simp, by simp⟩
  · have q' : c = .slice (some a) len cap := by simpa using q
    subst q'
    simp only [if_true] at hm
    have hc : ∀ i, ∃ e : En, e.Fits ∧ (i < len → ∀ j u, e.cells[j]? = some u → w.cell? ((a.add (i * 239)).add j) = some u) := fun i => by
      by_cases hi : i < len
      · obtain ⟨cs', h1, h2⟩ := hel i (by omega)
        rw [cells39] at h1
        obtain ⟨_, hl6, hcell⟩ := World.cells?_some h1
        obtain ⟨e, rfl, hft⟩ := open_en hl6 h2
        refine ⟨e, hft, fun _ j u hj => ?_⟩
        have hj6 : j < 239 := by
          have := (List.getElem?_eq_some_iff.1 hj).1
          rw [En.cells_length e hft.r.len] at this; exact this
        rw [hcell j hj6]; exact hj
      · exact ⟨En.zero, En.zero_fits, fun q => absurd q hi⟩
    obtain ⟨f, hf'⟩ := Classical.axiomOfChoice hc
    refine ⟨(List.range len).map f, Or.inr ⟨a, cap, by simp, fun i e hi => ?_⟩, fun o ho => ?_, fun hs => ?_⟩
    rotate_left
    · obtain ⟨i, _, rfl⟩ := List.mem_map.1 ho
      exact (hf' i).1
    · rw [hx] at hs
      simp [DataW.weights, Try.underlying27, bytes39] at hs
      have := hs.1
      unfold reachBytes at this
      simp
      omega
    · rw [List.getElem?_map] at hi
      by_cases hlt : i < len
      · rw [List.getElem?_eq_getElem (by simpa using hlt)] at hi
        simp at hi
        subst hi
        exact (hf' i).2 hlt
      · rw [List.getElem?_eq_none (by simpa using hlt)] at hi; simp at hi
theorem open_log {w : World} {base : Nat} {v : Value} {d : DataW H} {p : List MemPlace} (hv : Value.okWide Try.prog w .any base 27 v) (h : DataW.Trod enc Try.prog w 0 (fun _ => true) true 27 v d p) (hs : (d.weights Try.prog 27).all (· ≤ reachBytes) = true) :
    ∃ es : List En, Log w v es ∧ (∀ e ∈ es, e.Fits) ∧ es.length * 304 ≤ 140737488355328 := by
  obtain ⟨fuel, hf⟩ := h
  obtain ⟨av, lv, cv, rfl⟩ := okWide_slice Try.underlying27 hv
  obtain ⟨es, h1, h2, h3⟩ := open_ens (c := .slice av lv cv) (x := (d, p)) hf
  exact ⟨es, h1, h2, h3 hs⟩
end
end Go.Proofs.Ytihjapfgllokgab
namespace Go.Proofs.Ytihjapfgllokgab
open Go.ChangeShapes Go.WideShapes Go.ChangeAt Go.RowKit
set_option linter.unusedVariables false
set_option linter.unusedSimpArgs false
set_option maxRecDepth 20000

theorem splice_set {α : Type} (L : List α) (o : Nat) (x : α) (r : List α) (h : o < L.length) : splice (L.set o x) (o + 1) r = splice L o (x :: r) := by
  unfold splice
  have e1 : (L.set o x).take (o + 1) = L.take o ++ [x] := by
    rw [List.take_add_one, List.take_set_of_le (by omega)]
    simp [h]
  have e2 : (L.set o x).drop (o + 1 + r.length) = L.drop (o + (x :: r).length) := by
    rw [List.drop_set_of_lt (by omega)]
    simp; congr 1; omega
  rw [e1, e2]; simp
theorem fold_set : ∀ (l : List Value) (n off : Nat) (cs : Array Value), off + n + l.length ≤ cs.size → (l.zipIdx n).foldl (fun cs (p : Value × Nat) => cs.setIfInBounds (off + p.2) p.1) cs = (⟨splice cs.toList (off + n) l⟩ : Array Value)
  | [], n, off, cs, h => by simp [splice]
  | x :: r, n, off, cs, h => by
    rw [List.zipIdx_cons, List.foldl_cons, fold_set r (n + 1) off _ (by simp at h ⊢; omega)]
    congr 1
    simp only [Array.toList_setIfInBounds]
    have := splice_set cs.toList (off + n) x r (by simp at h ⊢; omega)
    rw [← this]; rfl
theorem fold_arr (v : Array Value) (off : Nat) (cs : Array Value) (h : off + v.size ≤ cs.size) : v.zipIdx.foldl (fun cs (p : Value × Nat) => cs.setIfInBounds (off + p.2) p.1) cs = (⟨splice cs.toList off v.toList⟩ : Array Value) := by
  rw [← Array.foldl_toList, Array.toList_zipIdx]
  exact fold_set v.toList 0 off cs (by simpa using h)

theorem fill_step (place : Nat → Option (Nat × Nat)) (cells : Array Value) (i : Nat) (v : Value) (rest : List (Nat × Value)) (off size : Nat) (hp : place i = some (off, size)) (h1 : v.cells.size = size) (h2 : off + size ≤ cells.size) :
    Instr.fill place cells ((i, v) :: rest) = Instr.fill place ⟨splice cells.toList off v.cells.toList⟩ rest := by
  have : ¬ (decide (v.cells.size ≠ size) || decide (off + v.cells.size > cells.size)) = true := by simp [h1]; omega
  rw [Instr.fill, hp]
  simp only []
  rw [if_neg this]
  have := fold_arr v.cells off cells (by omega)
  rw [← this]

theorem info39 : (Try.prog.info? 39).map (fun i => (i.zero, i.size, i.bytes)) = some (some (.agg En.zero.arr), 239, 304) := by kernel_rfl
theorem wpList_slice_one {ops : Array Oper} {rest : List Oper} {o : Oper} {a : Act} {w : World} {Q : Exit → Act → World → Prop} (hg : o.guard = none) (x : Operand) (ho : o.op = .buildSlice 27 1 #[(0, x)]) (e : En) (hl : e.r.img.length = 224) (hx : a.eval x = .agg e.arr)
    (h : wpList Try.prog ops Q rest (a.put o.dst (.slice (some ⟨w.heap.size, 0, none⟩) 1 1)) (w.alloc (.cells e.arr 39))) : wpList Try.prog ops Q (o :: rest) a w := by
  obtain ⟨i, hi, hz, hs, _⟩ := info_parts info39
  have hc : e.arr.size = 239 := e.arr_size hl
  refine wpList_buildSlice hg 27 39 1 _ ho e.arr i _ Try.underlying27 hi hz (by rw [hs]; decide) (by rw [hs]; decide) ?_ h
  have e1 : (#[(0, x)].map fun (i, x) => (i, a.eval x)).toList = [(0, .agg e.arr)] := by simp [hx]
  rw [e1, fill_step _ _ 0 (.agg e.arr) _ 0 239 (by simp [hs]) hc (by simp [hs])]
  unfold Instr.fill
  congr 1
  show (⟨splice _ 0 e.arr.toList⟩ : Array Value) = e.arr
  unfold splice
  rw [List.drop_of_length_le (by simp [hc, hs])]
  simp
def flatE (es : List En) : List Value := es.flatMap En.cells
theorem flatE_append (a b : List En) : flatE (a ++ b) = flatE a ++ flatE b := by simp [flatE]
theorem flatE_one : ∀ es : List En, ∀ u ∈ flatE es, u.oneCell' = true := by
  intro es u hu
  obtain ⟨e, _, h⟩ := List.mem_flatMap.1 hu
  have := e.arr_one
  rw [Array.all_eq_true_iff_forall_mem] at this
  exact this u (by unfold En.arr; simpa using h)
theorem flatE_at : ∀ (es : List En) (i j : Nat) (e : En), (∀ x ∈ es, x.r.img.length = 224) → es[i]? = some e → j < 239 → (flatE es)[i * 239 + j]? = e.cells[j]?
  | [], i, j, e, _, h, _ => by simp at h
  | p :: r, 0, j, e, hf, h, hj => by
    simp at h; subst h
    show (p.cells ++ flatE r)[0 * 239 + j]? = _
    rw [Nat.zero_mul, Nat.zero_add, List.getElem?_append_left (by rw [En.cells_length p (hf p (by simp))]; exact hj)]
  | p :: r, i + 1, j, e, hf, h, hj => by
    simp at h
    have hp := En.cells_length p (hf p (by simp))
    show (p.cells ++ flatE r)[(i + 1) * 239 + j]? = _
    rw [List.getElem?_append_right (by rw [hp]; omega), hp, show (i + 1) * 239 + j - 239 = i * 239 + j by omega]
    exact flatE_at r i j e (fun x hx => hf x (by simp [hx])) h hj
/-- A log in memory of its own. -/
def OwnE (w : World) (base : Nat) (v : Value) (es : List En) : Prop := w.ownsRow base 39 239 v es.length (flatE es)
theorem OwnE.nil (w : World) (base : Nat) : OwnE w base (.slice none 0 0) [] := ⟨rfl, Or.inl ⟨rfl, rfl⟩⟩
theorem OwnE.log {w : World} {base : Nat} {v : Value} {es : List En} (h : OwnE w base v es) (hl : ∀ x ∈ es, x.r.img.length = 224) : Log w v es := by
  have hc := fun g hg => World.ownsRow.cells h (g := g) hg
  obtain ⟨h1, h2⟩ := h
  rcases h2 with ⟨rfl, h2⟩ | ⟨g, cap, cur, rfl, hb, hg, _⟩
  · exact Or.inl ⟨rfl, List.eq_nil_of_length_eq_zero h2⟩
  · refine Or.inr ⟨⟨g, 0, none⟩, cap, rfl, fun i e he j x hj => ?_⟩
    have hj9 : j < 239 := by
      have := (List.getElem?_eq_some_iff.1 hj).1
      rw [En.cells_length e (hl e (List.mem_of_getElem? he))] at this; exact this
    rw [add_add]
    exact hc g rfl (i * 239 + j) x (by rw [flatE_at es i j e hl he hj9]; exact hj)
theorem OwnE.keep {w w' : World} {base : Nat} {v : Value} {es : List En} (h : OwnE w base v es) (hb : Below w.heap.size w w') : OwnE w' base v es := by
  have hl := World.ownsRow.lt h
  obtain ⟨h1, h2⟩ := h
  refine ⟨h1, ?_⟩
  rcases h2 with h2 | ⟨g, cap, cur, rfl, hb', hc, rest⟩
  · exact Or.inl h2
  · have := hl g (by simp [Value.ownBlock])
    exact Or.inr ⟨g, cap, cur, rfl, hb', (hb.block g this.2).trans hc, rest⟩
theorem OwnE.form {w : World} {base : Nat} {v : Value} {es : List En} (h : OwnE w base v es) : ∃ oa cap, v = .slice oa es.length cap := by
  rcases h.2 with ⟨rfl, h2⟩ | ⟨g, cap, cur, rfl, _⟩
  · exact ⟨none, 0, by rw [h2]⟩
  · exact ⟨_, cap, rfl⟩
theorem OwnE.snoc {w : World} {base : Nat} {v : Value} {es : List En} (h : OwnE w base v es) (ty : TypeId) (X : Nat) (p : En) (hp : p.r.img.length = 224) (hX : Row w X p.arr 39) (hb : base ≤ w.heap.size) (hn : es.length ≤ 1000) :
    ∃ v' w', (Builtin.append_ #[27, 27] ty #[v, .slice (some ⟨X, 0, none⟩) 1 1]).run Try.prog w = .ok v' w' ∧ OwnE w' base v' (es ++ [p]) ∧ w.grownBy w' v.ownBlock := by
  obtain ⟨i, hi, hz, hs, hby⟩ := info_parts info39
  obtain ⟨v', w', hr, h2, h3, h4, h5⟩ := run_append_own_at (P := Try.prog) w base 27 ty 39 i _ 239 304 Try.underlying27 hi hz hs hby (by rw [show (Value.agg En.zero.arr).cells = En.zero.arr from rfl]; exact En.arr_size _ (zs_length _)) (by decide) v es.length (flatE es) h ⟨X, 0, none⟩ 1 1 p.cells (by simp [En.cells_length p hp]) (fun j u hj => by rw [Addr.add_mid, Nat.zero_add, cell_of_row w X j _ _ _ hX, ← hj]; show p.cells.toArray[j]? = _; rw [List.getElem?_toArray]) (fun u hu => flatE_one [p] u (by simpa [flatE] using hu)) (by unfold maxLen; omega) (by omega) hb
  refine ⟨v', w', hr, ?_, h3⟩
  unfold OwnE
  rw [flatE_append, List.length_append]
  simpa [flatE] using h2
/-- A rising log out of any: the first k entries, numbered anew. -/
def fewN (es : List En) : Nat → List En
  | 0 => []
  | k + 1 => fewN es k ++ (match es[k]? with
    | some e => [⟨k + 1, e.r⟩]
    | none => [])
theorem fewN_length (es : List En) : ∀ k, k ≤ es.length → (fewN es k).length = k
  | 0, _ => rfl
  | k + 1, h => by
    have ih := fewN_length es k (by omega)
    rw [fewN, List.getElem?_eq_getElem (by omega)]
    simp [ih]
theorem fewN_fits (es : List En) (hf : ∀ e ∈ es, e.Fits) : ∀ k, k ≤ 1000000 → ∀ e ∈ fewN es k, e.Fits
  | 0, _, e, he => by cases he
  | k + 1, hk, e, he => by
    rw [fewN] at he
    rcases List.mem_append.1 he with he | he
    · exact fewN_fits es hf k (by omega) e he
    · cases hq : es[k]? with
      | none => rw [hq] at he; cases he
      | some x =>
        rw [hq] at he
        simp at he
        subst he
        exact ⟨⟨by show (0 : Int) ≤ k + 1; omega, by show ((k : Int) + 1) ≤ _; omega⟩, (hf x (List.mem_of_getElem? hq)).r⟩
end Go.Proofs.Ytihjapfgllokgab
namespace Go.Proofs.Ytihjapfgllokgab
open Go.ChangeShapes Go.WideShapes Go.ChangeAt Go.RowKit
set_option linter.unusedVariables false
set_option linter.unusedSimpArgs false
set_option maxRecDepth 20000

theorem En.set0 (e : En) (l : Int) : e.arr.setIfInBounds 0 (.int .u64 l) = En.arr ⟨l, e.r⟩ := by simp [En.arr, En.cells]
def Few (w : World) (es : List En) (e : Ending) (w' : World) : Prop := ∃ v', e = .returned v' ∧ OwnE w' w.heap.size v' (fewN es (min 40 es.length)) ∧ Below w.heap.size w w'
set_option maxHeartbeats 4000000 in
theorem few_any (v : Value) (es : List En) (w : World) (hl : Log w v es) (hf : ∀ e ∈ es, e.Fits) (hn : es.length ≤ 1000000000000) :
    Calls Try.prog 10 #[v] w fun e w' => Few w es e w' := by
  have hze := zero39
  obtain ⟨oa, cap, rfl, hcs⟩ := hl.hold
  have HCS : Hid _ := hcs
  clear hcs hl
  have HFW : Hid (∀ e w', Few w es e w' ↔ ∃ v', e = .returned v' ∧ OwnE w' w.heap.size v' (fewN es (min 40 es.length)) ∧ Below w.heap.size w w') := fun _ _ => Iff.rfl
  generalize Few w es = PP at HFW ⊢
  obtain ⟨n, HN⟩ : ∃ n, Hid (es.length = n) := ⟨_, rfl⟩
  rw [HN.out] at HCS hn HFW ⊢
  have HFN : Hid _ := fun k => fewN_length es k
  rw [HN.out] at HFN
  go_enter Try.func10, Try.ntmps10
  go_upto_region 3 with fail
  go_loopw [3, 4] (fun out i wr => ∃ k : Nat, k ≤ n ∧ k ≤ 40 ∧ i = .int .i64 k ∧ OwnE wr w.heap.size out (fewN es k) ∧ Below w.heap.size w wr) (fun _ i _ => 40 - (intOf i).toNat)
  case atStart => exact ⟨0, by omega, by omega, rfl, OwnE.nil _ _, Below.refl _ _⟩
  case round =>
    obtain ⟨k, hk, hk4, rfl, hO, bb⟩ := hrel
    obtain ⟨oaO, capO, rfl⟩ := hO.form
    rw [HFN.out k hk] at hO ⊢
    by_cases hkn : k < n
    · have hkn' : (k : Int) < (n : Int) := by omega
      by_cases hk40 : k < 40
      · have hk40' : (k : Int) < 40 := by omega
        obtain ⟨a, e, rfl, he, hcell⟩ := HCS.out k hkn
        have hcw : ∀ j x, e.cells[j]? = some x → wr.cell? ((a.add (k * 239)).add j) = some x := fun j x hj => cell_keep (hcell j x hj) bb
        have hfe := hf e (List.mem_of_getElem? he)
        have HNX : Hid (fewN es (k + 1) = fewN es k ++ [⟨k + 1, e.r⟩]) := by show _ = _; rw [fewN, he]
        clear he hcell
        have e1 : IntKind.u64.wrap ((k : Int) + 1) = k + 1 := by rw [IntKind.wrap_u64]; omega
        have tl : Hid (1 = 1) := rfl
        have q1 : Row (wr.alloc (.cells En.zero.arr 39)) wr.heap.size En.zero.arr 39 := Row.new _ _ _
        go_upto_region 6 with (first
          | (have hh := tl; clear hh tl; refine wpList_load_any rfl 39 (.tmp 18) rfl (a.add (k * 239)) rfl e.cells _ hcw Try.underlying39 rfl (by rw [size39, En.cells_length _ hfe.r.len]) ?_)
          | (refine store_cells rfl 39 (.tmp 5) (.tmp 19) rfl wr.heap.size e.arr rfl rfl 39 _ q1 239 size39 (En.arr_size _ (zs_length _)) (e.arr_size hfe.r.len) e.arr_one ?_))
        have de := q1.set e.arr
        have db := below_setRow (bb.alloc bb.size (.cells En.zero.arr 39)) bb.size e.arr
        have hbW : Below wr.heap.size wr ((wr.alloc (.cells En.zero.arr 39)).setRow wr.heap.size e.arr) := below_setRow ((Below.refl _ _).alloc (Nat.le_refl _) _) (Nat.le_refl _) _
        have hwr := bb.size
        clear q1 hcw bb
        generalize (wr.alloc (.cells En.zero.arr 39)).setRow wr.heap.size e.arr = w5 at de db hbW ⊢
        have k0 := row_at de 0 _ e.at0
        have fz := row_frozen de 0
        go_upto_region 7 with fail
        have ze : Row (w5.setCell ⟨wr.heap.size, 0, none⟩ (.int .u64 (k + 1))) wr.heap.size _ 39 := row_set de 0 (.int .u64 (k + 1))
        rw [En.set0] at ze
        have zb := db.setCell (p := ⟨wr.heap.size, 0, none⟩) (by show w.heap.size ≤ wr.heap.size; omega) (.int .u64 (k + 1))
        have zO := hO.keep (hbW.setCell (p := ⟨wr.heap.size, 0, none⟩) (by show wr.heap.size ≤ wr.heap.size; omega) (.int .u64 (k + 1)))
        clear de db hbW hO k0 fz
        generalize w5.setCell ⟨wr.heap.size, 0, none⟩ (.int .u64 (k + 1)) = w6 at ze zb zO ⊢
        obtain ⟨E, HE⟩ : ∃ E : En, Hid ((⟨k + 1, e.r⟩ : En) = E) := ⟨_, rfl⟩
        rw [HE.out] at ze HNX
        have hEl : E.r.img.length = 224 := by rw [← HE.out]; exact hfe.r.len
        have hb6 : w.heap.size ≤ (w6.alloc (.cells E.arr 39)).heap.size := by have := zb.size; simp; omega
        have zO2 := zO.keep ((Below.refl w6.heap.size w6).alloc (Nat.le_refl _) (.cells E.arr 39))
        have zb2 : Below w.heap.size w (w6.alloc (.cells E.arr 39)) := zb.alloc zb.size _
        have HBK : Hid _ := fun q hq => (World.ownsRow.lt zO2 q hq).1
        have HR : Hid _ := fun ty => zO2.snoc ty w6.heap.size E hEl (Row.new _ _ _) hb6 (by rw [HFN.out k hk]; omega)
        clear zO zO2
        go_wp2_with (first
          | (refine load_cells rfl 39 (.tmp 5) rfl wr.heap.size rfl 39 _ ze 239 Try.underlying39 rfl size39 (E.arr_size hEl) ?_)
          | (refine wpList_slice_one rfl (.tmp 25) rfl E hEl rfl ?_)
          | (at_builtin; refine wpList_copy rfl (.tmp 24) (.tmp 26) 27 rfl _ _ rfl rfl (T := fun v' w' => OwnE w' w.heap.size v' (fewN es k ++ [E]) ∧ (w6.alloc (.cells E.arr 39)).grownBy w' (Value.slice oaO k capO).ownBlock) (fun ty => HR.out ty) ?_
             intro v2 w7 hT
             obtain ⟨hO7, gr⟩ := hT
             have tB : Below w.heap.size w w7 := zb2.grown gr hb6 (fun q hq => HBK.out q hq)))
        go_roundw
        case rel => exact ⟨k + 1, by omega, by omega, by go_num, by rw [HNX.out]; exact hO7, tB⟩
        case measure => simp [intOf]; omega
      · obtain rfl : k = 40 := by omega
        have hk40' : ¬ ((40 : Nat) : Int) < 40 := by omega
        have hmn : min 40 n = 40 := by omega
        rw [hmn] at HFW
        go_wp2
        exact (HFW.out _ _).2 ⟨_, rfl, hO, bb⟩
    · have hkn' : ¬ (k : Int) < (n : Int) := by omega
      have hmn : min 40 n = k := by omega
      rw [hmn] at HFW
      go_wp2
      exact (HFW.out _ _).2 ⟨_, rfl, hO, bb⟩
end Go.Proofs.Ytihjapfgllokgab
namespace Go.Proofs.Ytihjapfgllokgab
open Go.ChangeShapes Go.WideShapes Go.ChangeAt Go.RowKit
set_option linter.unusedVariables false
set_option linter.unusedSimpArgs false

theorem Rises.snoc : ∀ {m : Int} {es : List En} {e : En}, Rises m es → m < e.lsn → (∀ x ∈ es, x.lsn < e.lsn) → Rises m (es ++ [e])
  | _, [], _, _, hm, _ => ⟨hm, trivial⟩
  | _, a :: es, e, h, _, ha => ⟨h.1, Rises.snoc h.2 (ha a (by simp)) (fun x hx => ha x (by simp [hx]))⟩
theorem fewN_lsn (es : List En) : ∀ k, ∀ e ∈ fewN es k, e.lsn ≤ k
  | 0, e, he => by cases he
  | k + 1, e, he => by
    rw [fewN] at he
    rcases List.mem_append.1 he with he | he
    · have := fewN_lsn es k e he; omega
    · cases hq : es[k]? with
      | none => rw [hq] at he; cases he
      | some x => rw [hq] at he; simp at he; subst he; show ((k : Int) + 1) ≤ ((k + 1 : Nat) : Int); omega
theorem fewN_rises (es : List En) : ∀ k, Rises 0 (fewN es k)
  | 0 => trivial
  | k + 1 => by
    rw [fewN]
    cases hq : es[k]? with
    | none => simpa using fewN_rises es k
    | some x => exact Rises.snoc (fewN_rises es k) (by show (0 : Int) < k + 1; omega) (fun y hy => by have := fewN_lsn es k y hy; show y.lsn < (k : Int) + 1; omega)
theorem replay_twice {u : Bool} {no : Int} {p : List Int} {l : List En} (hno : 0 ≤ no ∧ no ≤ 65535) (hp : p.length = 224) (hb : Bytes p) (hf : ∀ e ∈ l, e.Fits) (hr : Rises 0 l) :
    replayR u no (replayR u no p l) l = replayR u no p l := by
  have h := fold_flag (u := u) hno l (p, isP u no p) hf ⟨hp, hb⟩ rfl
  have h2 := fold_twice (u := u) hno l 0 (p, isP u no p) hr hf ⟨hp, hb⟩
  unfold replayR replayS
  rw [← h]
  show (l.foldl (stepR u no) (l.foldl (stepR u no) (p, isP u no p))).1 = _
  rw [h2]
theorem replay_part {u : Bool} {no : Int} {p : List Int} {l : List En} (hno : 0 ≤ no ∧ no ≤ 65535) (hp : p.length = 224) (hb : Bytes p) (hf : ∀ e ∈ l, e.Fits) (hr : Rises 0 l) (k : Nat) :
    replayR u no (replayR u no p (l.take k)) l = replayR u no p l := by
  have hf1 : ∀ e ∈ l.take k, e.Fits := fun e he => hf e (List.mem_of_mem_take he)
  have h := fold_flag (u := u) hno (l.take k) (p, isP u no p) hf1 ⟨hp, hb⟩ rfl
  have h2 := fold_part (u := u) hno (l.take k) (l.drop k) 0 (p, isP u no p) (by rw [List.take_append_drop]; exact hr) (by rw [List.take_append_drop]; exact hf) ⟨hp, hb⟩
  rw [List.take_append_drop] at h2
  unfold replayR replayS
  rw [← h]
  show (l.foldl (stepR u no) ((l.take k).foldl (stepR u no) (p, isP u no p))).1 = _
  rw [h2]
/-- Entries about other pages, and commits, laid between those of a log, change nothing. -/
theorem replay_mixed {u : Bool} {no : Int} {p : List Int} {l m : List En} (h : (m.filter fun e => aboutR u no e.r) = (l.filter fun e => aboutR u no e.r)) : replayR u no p m = replayR u no p l := by
  rw [replayR_filter u no p m, h, ← replayR_filter]
theorem Log.take {w : World} {oa : Option Addr} {n cap : Nat} {es : List En} (h : Log w (.slice oa n cap) es) (k : Nat) (hk : k ≤ n) : Log w (.slice oa k cap) (es.take k) := by
  rcases h with ⟨h, rfl⟩ | ⟨a, cap', h, hc⟩
  · cases h
    have : k = 0 := by omega
    subst this
    exact Or.inl ⟨rfl, by simp⟩
  · cases h
    refine Or.inr ⟨a, cap, by rw [List.length_take, Nat.min_eq_left hk], fun i e he j x hj => ?_⟩
    rw [List.getElem?_take] at he
    split at he
    · exact hc i e he j x hj
    · cases he
end Go.Proofs.Ytihjapfgllokgab
namespace Go.Proofs.Ytihjapfgllokgab
open Go.ChangeShapes Go.WideShapes Go.ChangeAt Go.RowKit
set_option linter.unusedVariables false
set_option linter.unusedSimpArgs false

/-- A record that holds a page's image. -/
def imgR (u : Bool) (no : Int) (img : List Int) : R := { R.zero with kind := 1, undo := u, no := no, img := img }
theorem imgR_may (u : Bool) (no : Int) (img : List Int) : mayR (imgR u no img) = true := by
  have h1 : ownR (imgR u no img) = imgR u no img := by unfold ownR; rw [if_pos (show (imgR u no img).kind = 1 from rfl)]; rfl
  have h2 : okK (imgR u no img) = true := by unfold okK; simp [imgR]
  unfold mayR
  rw [h1, h2]
  simp [imgR, R.zero, O.zero]
theorem imgR_about (u : Bool) (no : Int) (img : List Int) : aboutR u no (imgR u no img) = true := by simp [aboutR, imgR]
theorem redo_img (u : Bool) (no : Int) (img p : List Int) (l : Int) (hi : isP u no img = true) : (redoR u no p ⟨l, imgR u no img⟩).2 = 0 ∧ redoR u no p ⟨l, imgR u no img⟩ = redoR u no img ⟨l, imgR u no img⟩ := by
  have hk : (imgR u no img).kind = 1 := rfl
  have e1 : ∀ q : List Int, redoR u no q ⟨l, imgR u no img⟩ = if u then redoUR no img ⟨l, imgR u no img⟩ else redoD2 no img ⟨l, imgR u no img⟩ := fun q => by
    unfold redoR
    simp only [imgR_may, imgR_about, Bool.and_self, if_true, hk]
    rfl
  refine ⟨?_, by rw [e1 p, e1 img]⟩
  rw [e1 p]
  cases u with
  | false =>
    have hd : isD no img = true := hi
    simp only [Bool.false_eq_true, if_false]
    unfold redoD2 redoDR
    rw [hd]
    simp [imgR]
  | true =>
    have hu : isU no img = true := hi
    have hm : may (uOf img) = true := by unfold isU at hu; simp at hu; exact hu.1
    have hc : chgO (uOf img) (imgR true no img) = some (uOf img) := by unfold chgO; simp [imgR]
    simp only [if_true]
    unfold redoUR
    rw [hu, if_pos rfl]
    simp only [hc]
    unfold errU; rw [hm]; rfl
theorem step_img (u : Bool) (no : Int) (img p : List Int) (l : Int) (hl : 0 < l) (hi : isP u no img = true) (h : isP u no p = true → lsnOf p ≤ 0) :
    stepR u no (p, isP u no p) ⟨l, imgR u no img⟩ = ((redoR u no img ⟨l, imgR u no img⟩).1, true) := by
  have hd : dueR p (isP u no p) ⟨l, imgR u no img⟩ = true := by
    unfold dueR
    cases hq : isP u no p with
    | false => simp [imgR]
    | true => have := h hq; simp; omega
  have hr := redo_img u no img p l hi
  unfold stepR
  simp only [imgR_about, hd, Bool.and_self, if_true, hr.1]
  rw [hr.2]
theorem fold_true {u : Bool} {no : Int} : ∀ (es : List En) (s : List Int × Bool), s.2 = true → (es.foldl (stepR u no) s).2 = true
  | [], _, h => h
  | e :: es, s, h => fold_true es (stepR u no s e) (by
    unfold stepR
    split
    · split
      · rfl
      · exact h
    · exact h)
/-- What stood there makes no difference. -/
theorem torn_same (u : Bool) (no : Int) (img p q : List Int) (es : List En) (l : Int) (hl : 0 < l) (hi : isP u no img = true) (hp : isP u no p = true → lsnOf p ≤ 0) (hq : isP u no q = true → lsnOf q ≤ 0) :
    replayR u no p (⟨l, imgR u no img⟩ :: es) = replayR u no q (⟨l, imgR u no img⟩ :: es) := by
  unfold replayR replayS
  rw [List.foldl_cons, List.foldl_cons, step_img u no img p l hl hi hp, step_img u no img q l hl hi hq]
theorem torn_right (u : Bool) (no : Int) (img p : List Int) (es : List En) (l : Int) (hl : 0 < l) (hi : isP u no img = true) (hp : isP u no p = true → lsnOf p ≤ 0) (hno : 0 ≤ no ∧ no ≤ 65535) (hpl : p.length = 224) (hpb : Bytes p)
    (hf : ∀ e ∈ (⟨l, imgR u no img⟩ : En) :: es, e.Fits) : isP u no (replayR u no p (⟨l, imgR u no img⟩ :: es)) = true := by
  have h := fold_flag (u := u) hno (⟨l, imgR u no img⟩ :: es) (p, isP u no p) hf ⟨hpl, hpb⟩ rfl
  unfold replayR replayS
  rw [← h, List.foldl_cons]
  exact fold_true es _ (by rw [step_img u no img p l hl hi hp])
end Go.Proofs.Ytihjapfgllokgab
namespace Go.Proofs.Ytihjapfgllokgab
open Go.ChangeShapes Go.WideShapes Go.ChangeAt Go.RowKit
open Go.Deep
set_option linter.unusedVariables false
set_option linter.unusedSimpArgs false
set_option maxRecDepth 20000

section
variable {H : Type} {enc : TypeId × Value → H}
theorem open_payv {w : World} {base : Nat} {v : Value} {d : DataW H} {p : List MemPlace} (hv : Value.okWide Try.prog w .any base 26 v) (h : DataW.Trod enc Try.prog w 0 (fun _ => true) true 26 v d p) :
    ∃ ys : List Int, v = .agg (bs ys) ∧ ys.length = 224 ∧ Bytes ys := by
  simp only [Value.okWide, Try.underlying26] at hv
  obtain ⟨cs, rfl, hcs, _⟩ := hv
  obtain ⟨fuel, hf⟩ := h
  rw [cells26] at hcs
  obtain ⟨ys, he, hl, hb⟩ := open_list Try.underlying26 Try.underlying5 cells5 (by simpa [Value.cells] using hcs) hf
  refine ⟨ys, ?_, hl, hb⟩
  have he' : cs.toList = ys.map (Value.int .u8) := he
  rw [← Array.toArray_toList (xs := cs), he']; rfl
theorem open_pidv {w : World} {base : Nat} {v : Value} {d : DataW H} {p : List MemPlace} (hv : Value.okWide Try.prog w .any base 24 v) (h : DataW.Trod enc Try.prog w 0 (fun _ => true) true 24 v d p) :
    ∃ (u : Bool) (no : Int), v = .agg #[.bool u, .int .u16 no] ∧ 0 ≤ no ∧ no ≤ 65535 := by
  obtain ⟨cs, rfl, hsz⟩ := okWide_struct Try.underlying24 hv
  obtain ⟨fuel, hf⟩ := h
  have hf' : DataW.trod enc Try.prog w 0 (fun _ => true) true fuel 24 cs.toList = some (d, p) := hf
  have hc : ∃ (u : Bool) (no : Int), cs.toList = [.bool u, .int .u16 no] ∧ 0 ≤ no ∧ no ≤ 65535 := by
    generalize cs.toList = l at hf'
    cases fuel with
    | zero => simp [DataW.trod] at hf'
    | succ n =>
      unfold DataW.trod at hf'
      rw [Try.underlying24] at hf'
      simp only [cells24] at hf'
      by_cases hl : l.length = 2
      · match l, hl with
        | [c0, c1], _ =>
          simp [List.mapM_cons, cells4, cells22] at hf'
          cases t0 : DataW.trod enc Try.prog w 0 (fun _ => true) true n 4 [c0] with
          | none => simp [t0] at hf'
          | some x0 =>
          cases t1 : DataW.trod enc Try.prog w 0 (fun _ => true) true n 22 [c1] with
          | none => simp [t0, t1] at hf'
          | some x1 =>
          obtain ⟨k0, e0, _⟩ := DataW.trod_bool Try.underlying4 t0
          obtain ⟨k1, e1, _, u1⟩ := DataW.trod_int Try.underlying22 t1
          simp at e0 e1
          exact ⟨k0, k1, by rw [e0, e1], bounds_u16 u1⟩
      · simp [hl] at hf'
  obtain ⟨u, no, h1, h2⟩ := hc
  refine ⟨u, no, ?_, h2⟩
  show Value.agg cs = Value.agg [Value.bool u, .int .u16 no].toArray
  rw [← h1]
end
theorem OwnE.room {w : World} {base : Nat} {v : Value} {es : List En} (h : OwnE w base v es) : ∃ oa cap, v = .slice oa es.length cap ∧ es.length ≤ cap ∧ cap ≤ 9223372036854775807 := by
  rcases h.2 with ⟨rfl, h2⟩ | ⟨g, cap, cur, rfl, _, _, hle, hm, _⟩
  · exact ⟨none, 0, by rw [h2], by omega, by omega⟩
  · exact ⟨_, cap, rfl, hle, by unfold maxLen at hm; omega⟩
/-- The places of a struct's fields. -/
def placesOf (P : Program) (t : TypeId) : Option (List (Nat × Nat)) :=
  match P.underlying t with
  | some (.struct fields) => fields.toList.mapM (fun f => (P.info? f.type).map fun i => (f.offset, i.size))
  | _ => none
theorem built_struct {P : Program} {t : TypeId} {z : Value} {places : List (Nat × Nat)} (hi : (P.info? t).map (·.zero) = some (some z)) (hp : placesOf P t = some places) (parts : List (Nat × Value)) : P.built t parts = Instr.fill (places.toArray[·]?) z.cells parts := by
  unfold Program.built
  unfold placesOf at hp
  cases hq : P.info? t with
  | none => simp [hq] at hi
  | some it =>
    simp [hq] at hi
    split at hp
    · rename_i fields hu
      rw [hu]
      simp only [hi, hp]
    · cases hp
theorem splice_size {α : Type} (L : List α) (o : Nat) (r : List α) (h : o + r.length ≤ L.length) : (⟨splice L o r⟩ : Array α).size = L.length := by
  simp [splice]; omega
theorem zeroOf39 : (Try.prog.info? 39).map (·.zero) = some (some (.agg En.zero.arr)) := by kernel_rfl
theorem zeroOf37 : (Try.prog.info? 37).map (·.zero) = some (some (.agg R.zero.arr)) := by kernel_rfl
theorem places39 : placesOf Try.prog 39 = some [(0, 1), (1, 238)] := by kernel_rfl
theorem places37 : placesOf Try.prog 37 = some [(0, 1), (1, 2), (3, 224), (227, 1), (228, 2), (230, 1), (231, 1), (232, 6)] := by kernel_rfl
theorem built39 (l : Int) (r : R) (h : r.img.length = 224) : Try.prog.built 39 [(0, .int .u64 l), (1, .agg r.arr)] = some (En.arr ⟨l, r⟩) := by
  have hz : En.zero.arr.size = 239 := En.arr_size _ (zs_length _)
  have hr : r.arr.size = 238 := R.arr_size r h
  have hrc : r.cells.length = 238 := R.cells_length r h
  have hzc : R.zero.cells.length = 238 := R.cells_length _ (zs_length _)
  rw [built_struct zeroOf39 places39]
  have e0 : (Value.agg En.zero.arr).cells = En.zero.arr := rfl
  rw [e0, fill_step _ _ 0 (.int .u64 l) _ 0 1 rfl rfl (by omega), fill_step _ _ 1 (.agg r.arr) _ 1 238 rfl hr (by rw [splice_size _ _ _ (by show 0 + 1 ≤ En.zero.arr.toList.length; rw [Array.length_toList, hz]; omega), Array.length_toList, hz]; omega)]
  unfold Instr.fill
  congr 1
  unfold En.arr En.cells
  apply congrArg
  show splice (splice (.int .u64 0 :: R.zero.cells) 0 [.int .u64 l]) 1 r.cells = _
  simp [splice, hrc, hzc]
theorem imgR_len (u : Bool) (no : Int) (img : List Int) (h : img.length = 224) : (imgR u no img).img.length = 224 := h
theorem built37i (u : Bool) (no : Int) (img : List Int) (h : img.length = 224) : Try.prog.built 37 [(0, .int .u8 1), (1, .agg #[.bool u, .int .u16 no]), (2, .agg (bs img))] = some (imgR u no img).arr := by
  have hz : R.zero.arr.size = 238 := R.arr_size _ (zs_length _)
  have hzc : R.zero.cells.length = 238 := R.cells_length _ (zs_length _)
  have hzl : (zs 224).length = 224 := zs_length _
  have hs1 : (⟨splice R.zero.arr.toList 0 (Value.int .u8 1).cells.toList⟩ : Array Value).size = 238 := by rw [splice_size _ _ _ (by show 0 + 1 ≤ R.zero.arr.toList.length; rw [Array.length_toList, hz]; omega), Array.length_toList, hz]
  rw [built_struct zeroOf37 places37]
  have e0 : (Value.agg R.zero.arr).cells = R.zero.arr := rfl
  rw [e0, fill_step _ _ 0 (.int .u8 1) _ 0 1 rfl rfl (by omega), fill_step _ _ 1 (.agg #[.bool u, .int .u16 no]) _ 1 2 rfl rfl (by rw [hs1]; omega), fill_step _ _ 2 (.agg (bs img)) _ 3 224 rfl (by show (bs img).size = 224; rw [bs_size, h]) (by rw [splice_size _ _ _ (by show 1 + 2 ≤ (⟨splice R.zero.arr.toList 0 _⟩ : Array Value).size; rw [hs1]; omega)]; show 3 + 224 ≤ (⟨splice R.zero.arr.toList 0 _⟩ : Array Value).size; rw [hs1]; omega)]
  unfold Instr.fill
  congr 1
  unfold R.arr
  apply congrArg
  show splice (splice (splice (.int .u8 0 :: .bool false :: .int .u16 0 :: ((zs 224).map (Value.int .u8) ++ R.zero.tail)) 0 [.int .u8 1]) 1 [.bool u, .int .u16 no]) 3 (img.map (Value.int .u8)) = .int .u8 1 :: .bool u :: .int .u16 no :: (img.map (Value.int .u8) ++ R.zero.tail)
  have hd : List.drop 224 ((zs 224).map (Value.int .u8) ++ R.zero.tail) = R.zero.tail := by
    rw [List.drop_append, List.drop_of_length_le (by simp [hzl])]
    simp [hzl]
  generalize R.zero.tail = T at hd ⊢
  generalize (zs 224).map (Value.int .u8) = Z at hd ⊢
  simp [splice, h, Nat.add_comm]
  exact hd
theorem OwnE.one (w : World) (base X : Nat) (e : En) (h : e.r.img.length = 224) (hX : Row w X e.arr 39) (hb : base ≤ X) : OwnE w base (.slice (some ⟨X, 0, none⟩) 1 1) [e] := by
  refine ⟨by simp [flatE, En.cells_length e h], Or.inr ⟨X, 1, e.arr, rfl, hb, hX, Nat.le_refl _, by unfold maxLen; omega, by rw [e.arr_size h], ?_⟩⟩
  simp [flatE, En.arr]
  rw [List.take_of_length_le (by rw [En.cells_length e h]; exact Nat.le_refl _)]
theorem OwnE.grown {w w' : World} {base : Nat} {v : Value} {es : List En} {row : Option Nat} (h : OwnE w base v es) (hg : w.grownBy w' row) (hr : ∀ q, v.ownBlock = some q → row ≠ some q) : OwnE w' base v es := by
  have hl := World.ownsRow.lt h
  obtain ⟨h1, h2⟩ := h
  refine ⟨h1, ?_⟩
  rcases h2 with h2 | ⟨g, cap, cur, rfl, hb', hc, rest⟩
  · exact Or.inl h2
  · have := hl g (by simp [Value.ownBlock])
    exact Or.inr ⟨g, cap, cur, rfl, hb', (hg.block g this.2 (fun e => hr g (by simp [Value.ownBlock]) e.symm)).trans hc, rest⟩
theorem OwnE.more {w : World} {base : Nat} {v : Value} {es : List En} (h : OwnE w base v es) (ty : TypeId) (X m : Nat) (ps : List En) (hm : ps.length = m) (hp : ∀ x ∈ ps, x.r.img.length = 224) (hX : Row w X (flatE ps).toArray 39) (hb : base ≤ w.heap.size) (hn : es.length + m ≤ 1000000) :
    ∃ v' w', (Builtin.append_ #[27, 27] ty #[v, .slice (some ⟨X, 0, none⟩) m m]).run Try.prog w = .ok v' w' ∧ OwnE w' base v' (es ++ ps) ∧ w.grownBy w' v.ownBlock ∧ (v'.ownBlock = v.ownBlock ∨ v'.ownBlock = some w.heap.size) := by
  obtain ⟨i, hi, hz, hs, hby⟩ := info_parts info39
  have hfl : (flatE ps).length = m * 239 := by
    subst hm
    clear hX hn
    induction ps with
    | nil => rfl
    | cons a l ih =>
      have h1 := En.cells_length a (hp a (by simp))
      have h2 := ih (fun x hx => hp x (by simp [hx]))
      simp only [flatE, List.flatMap_cons, List.length_append, List.length_cons] at h2 ⊢
      omega
  obtain ⟨v', w', hr, h2, h3, h4, h5⟩ := run_append_own_at (P := Try.prog) w base 27 ty 39 i _ 239 304 Try.underlying27 hi hz hs hby (by rw [show (Value.agg En.zero.arr).cells = En.zero.arr from rfl]; exact En.arr_size _ (zs_length _)) (by decide) v es.length (flatE es) h ⟨X, 0, none⟩ m m (flatE ps) hfl (fun j u hj => by rw [Addr.add_mid, Nat.zero_add, cell_of_row w X j _ _ _ hX, ← hj, List.getElem?_toArray]) (fun u hu => flatE_one ps u hu) (by unfold maxLen; omega) (by omega) hb
  refine ⟨v', w', hr, ?_, h3, h5⟩
  unfold OwnE
  rw [flatE_append, List.length_append, hm]
  exact h2
theorem flatE_arr (e : En) : (flatE [e]).toArray = e.arr := by simp [flatE, En.arr]
theorem wpList_slice_two {ops : Array Oper} {rest : List Oper} {o : Oper} {a : Act} {w : World} {Q : Exit → Act → World → Prop} (hg : o.guard = none) (x y : Operand) (ho : o.op = .buildSlice 27 2 #[(0, x), (1, y)]) (e f : En) (hl : e.r.img.length = 224) (hl2 : f.r.img.length = 224) (hx : a.eval x = .agg e.arr) (hy : a.eval y = .agg f.arr)
    (h : wpList Try.prog ops Q rest (a.put o.dst (.slice (some ⟨w.heap.size, 0, none⟩) 2 2)) (w.alloc (.cells (flatE [e, f]).toArray 39))) : wpList Try.prog ops Q (o :: rest) a w := by
  obtain ⟨i, hi, hz, hs, _⟩ := info_parts info39
  have hc : e.arr.size = 239 := e.arr_size hl
  have hc2 : f.arr.size = 239 := f.arr_size hl2
  have hce : e.cells.length = 239 := En.cells_length e hl
  have hcf : f.cells.length = 239 := En.cells_length f hl2
  refine wpList_buildSlice hg 27 39 2 _ ho (flatE [e, f]).toArray i _ Try.underlying27 hi hz (by rw [hs]; decide) (by rw [hs]; decide) ?_ h
  have e1 : (#[(0, x), (1, y)].map fun (i, x) => (i, a.eval x)).toList = [(0, .agg e.arr), (1, .agg f.arr)] := by simp [hx, hy]
  rw [e1, fill_step _ _ 0 (.agg e.arr) _ 0 239 (by simp [hs]) hc (by simp [hs]), fill_step _ _ 1 (.agg f.arr) _ 239 239 (by simp [hs]) hc2 (by simp [splice, hs, Value.cells, En.arr, hce])]
  unfold Instr.fill
  congr 1
  show (⟨splice (splice _ 0 e.cells) 239 f.cells⟩ : Array Value) = ⟨flatE [e, f]⟩
  congr 1
  unfold splice flatE
  simp [hce, hcf, hs]
end Go.Proofs.Ytihjapfgllokgab
namespace Go.Proofs.Ytihjapfgllokgab
open Go.ChangeShapes Go.WideShapes Go.ChangeAt Go.RowKit
set_option linter.unusedVariables false
set_option linter.unusedSimpArgs false
set_option maxRecDepth 20000

theorem equal_bytes8 {P : Program} (t e : TypeId) (n : Nat) (hu : P.underlying t = some (.array n e)) (he : P.underlying e = some (.int .u8)) (hs : (P.info? e).map (·.size) = some 1) (hc : P.cellsOf e = 1)
    (xs ys : List Int) (hx : xs.length = n) (hy : ys.length = n) (w : World) : (Op.equalIn 9998 t (.agg (bs xs)) (.agg (bs ys))).run P w = .ok (decide (xs = ys)) w := by
  cases hq : P.info? e with
  | none => simp [hq] at hs
  | some inf =>
    have h1 := run_equalIn_array (P := P) (w := w) 9997 (bs xs) (bs ys) hu hq
    have h2 := eqItems_bytes (P := P) 9996 e he hs hc xs ys w (List.range n) (fun i hi => by have := List.mem_range.1 hi; omega)
    rw [all_range xs ys n hx hy] at h2
    exact h1.trans h2
set_option maxHeartbeats 4000000 in
theorem equal37n (a : R) (ha : a.img.length = 224) (w : World) : (Op.equalIn 9999 37 (.agg a.arr) (.agg a.arr)).run Try.prog w = .ok true w := by
  have h26 := equal_bytes8 26 5 224 Try.underlying26 Try.underlying5 (by kernel_rfl) (by kernel_rfl) a.img a.img ha ha
  have a0 := R.t0 a ha
  have a1 := R.t1 a ha
  have a2 := R.t2 a ha
  have a3 := R.t3 a ha
  have a4 := R.t4 a ha
  have a5 := R.t5 a ha
  have a6 := R.t6 a ha
  have a7 := R.t7 a ha
  have a8 := R.t8 a ha
  have a9 := R.t9 a ha
  have a10 := R.t10 a ha
  unfold R.arr
  unfold R.cells
  unfold bs at h26
  obtain ⟨kind, undo, no, img, ts, pp, ps, delta, slot, ol, op, ot, onp, ons, od⟩ := a
  simp only at *
  go_simp
/-- An entry is itself. -/
theorem equal39 (e : En) (h : e.r.img.length = 224) (w : World) : (Op.equalIn 10000 39 (.agg e.arr) (.agg e.arr)).run Try.prog w = .ok true w := by
  have h37 := equal37n e.r h
  have hx : (e.arr.extract 1 (1 + 238)) = e.r.arr := by
    have := R.cells_length e.r h
    unfold En.arr En.cells R.arr
    simp
    rw [List.take_of_length_le (by omega)]
  have h0 := e.at0
  unfold R.arr at h37 hx
  go_simp
theorem eqGuard39 : Try.prog.eqGuardType Try.prog.depth 39 = false := by kernel_rfl
theorem yields_any {P : Program} {ops : Array Oper} {S : World → Prop} {o : Oper} {a : Act} (hw : Region.wanted o (yielded ops a.tmps) = true) (ty : TypeId) (x : Operand) (ho : o.op = .load ty x)
    (p : Addr) (hx : a.eval x = .pointer (some p)) (cs : List Value) (d : TypeDesc) (hc : ∀ w, S w → ∀ j v, cs[j]? = some v → w.cell? (p.add j) = some v)
    (hu : P.underlying ty = some d) (hd : d.isRow = true) (hi : (P.info? ty).map (·.size) = some cs.length) : YieldsIf P ops S o (.agg cs.toArray) a := by
  refine Or.inl ⟨hw, fun w hS => ?_⟩
  have hl : (loadCells p cs.length).run P w = .ok cs.toArray w := run_loadCells_list (P := P) w p cs (hc w hS)
  have hrun : (loadVar ty p).run P w = .ok (.agg cs.toArray) w := by
    cases hq : P.info? ty with
    | none => simp [hq] at hi
    | some i =>
      have hs : i.size = cs.length := by simpa [hq] using hi
      have hagg : (isAgg ty).run P w = .ok true w := by
        unfold isAgg
        rw [Sem.run_bind, run_underlying hu w]
        cases d <;> simp_all
      simp [loadVar, Sem.run_bind, hagg, sizeOf, typeInfo, hq, hs, hl]
  unfold execOp
  simp only [ho, hx, Instr.loadAt, Instr.sureAddr, Sem.run_bind, Sem.run_pure, Result.andThen_ok, hrun]
/-- A log, laid behind nothing in own memory. -/
theorem OwnE.whole {w : World} {v : Value} {es : List En} (hl : Log w v es) (X base : Nat) (hX : Row w X #[] 39) (hbX : base ≤ X) (himg : ∀ x ∈ es, x.r.img.length = 224) (hn : es.length ≤ 1000) (ty : TypeId) :
    ∃ v' w', (Builtin.append_ #[27, 27] ty #[.slice (some ⟨X, 0, none⟩) 0 0, v]).run Try.prog w = .ok v' w' ∧ OwnE w' base v' es ∧ w.grownBy w' (some X) := by
  obtain ⟨i, hi, hz, hs, hby⟩ := info_parts info39
  have h0 : OwnE w base (.slice (some ⟨X, 0, none⟩) 0 0) [] := ⟨rfl, Or.inr ⟨X, 0, #[], rfl, hbX, hX, Nat.le_refl _, Nat.zero_le _, rfl, by simp [flatE]⟩⟩
  rcases hl with ⟨rfl, rfl⟩ | ⟨a, cap, rfl, hc⟩
  · exact ⟨_, w, run_append_owned_none w base 27 ty 39 i 239 Try.underlying27 hi _ _ _ h0, h0, ⟨rfl, rfl, rfl, Nat.le_refl _, fun _ _ _ => rfl⟩⟩
  · have hfl : (flatE es).length = es.length * 239 := by
      clear hc hn
      induction es with
      | nil => rfl
      | cons a l ih =>
        have h1 := En.cells_length a (himg a (by simp))
        have h2 := ih (fun x hx => himg x (by simp [hx]))
        simp only [flatE, List.flatMap_cons, List.length_append, List.length_cons] at h2 ⊢
        omega
    have hlt := hX.lt
    obtain ⟨v', w', hr, h2, h3, h4, h5⟩ := run_append_own_at (P := Try.prog) w base 27 ty 39 i _ 239 304 Try.underlying27 hi hz hs hby (by rw [show (Value.agg En.zero.arr).cells = En.zero.arr from rfl]; exact En.arr_size _ (zs_length _)) (by decide) (.slice (some ⟨X, 0, none⟩) 0 0) 0 (flatE []) h0 a es.length cap (flatE es) hfl (fun j u hj => by
      have hj2 : j < es.length * 239 := by rw [← hfl]; exact (List.getElem?_eq_some_iff.1 hj).1
      have hq : j / 239 < es.length := by omega
      obtain ⟨e, he⟩ : ∃ e, es[j / 239]? = some e := ⟨es[j / 239], List.getElem?_eq_getElem hq⟩
      have hm : j % 239 < 239 := Nat.mod_lt _ (by decide)
      have hf := flatE_at es (j / 239) (j % 239) e himg he hm
      have hd : j / 239 * 239 + j % 239 = j := by omega
      rw [hd, hj] at hf
      have := hc (j / 239) e he (j % 239) u hf.symm
      rw [Addr.add_add, hd] at this
      exact this) (fun u hu => flatE_one es u hu) (by unfold maxLen; omega) (by omega) (by omega)
    refine ⟨v', w', hr, ?_, h3⟩
    unfold OwnE
    have e0 : flatE [] ++ flatE es = flatE es := rfl
    rw [e0, Nat.zero_add] at h2
    exact h2
end Go.Proofs.Ytihjapfgllokgab
