/-
  Plain facts on the statements' arguments: records as values that came in.
-/
import Derived.Test.YtihjapfgllokgabRpy
import Derived.SizedLaws
import Derived.Deep.Grids
import Derived.Deep.Slices
import Derived.Lib.SmallJoins
import Derived.Carry
namespace Go.Proofs.Ytihjapfgllokgab
open Go.ChangeShapes Go.WideShapes Go.ChangeAt Go.RowKit
open Go.Deep
set_option linter.unusedVariables false
set_option linter.unusedSimpArgs false
set_option maxRecDepth 20000

theorem laidOut : laidOutB Try.prog = true := by kernel_rfl
theorem cells37 : Try.prog.cellsOf 37 = 238 := by kernel_rfl
theorem cells26 : Try.prog.cellsOf 26 = 224 := by kernel_rfl
theorem cells31 : Try.prog.cellsOf 31 = 1 := by kernel_rfl
theorem cells33 : Try.prog.cellsOf 33 = 2 := by kernel_rfl
theorem cells9 : Try.prog.cellsOf 9 = 1 := by kernel_rfl
theorem cells35 : Try.prog.cellsOf 35 = 6 := by kernel_rfl
theorem cells4 : Try.prog.cellsOf 4 = 1 := by kernel_rfl
theorem cells22 : Try.prog.cellsOf 22 = 1 := by kernel_rfl
theorem list_choose {n : Nat} {p : Nat → Int → Prop} (h : ∀ i, i < n → ∃ x, p i x) : ∃ ys : List Int, ys.length = n ∧ ∀ i, i < n → p i (ys.getD i 0) := by
  induction n with
  | zero => exact ⟨[], rfl, fun i hi => by omega⟩
  | succ n ih =>
    obtain ⟨ys, hl, hy⟩ := ih (fun i hi => h i (by omega))
    obtain ⟨x, hx⟩ := h n (by omega)
    refine ⟨ys ++ [x], by simp [hl], fun i hi => ?_⟩
    by_cases e : i < n
    · have := hy i e
      simp only [List.getD] at this ⊢
      rw [List.getElem?_append_left (by omega)]; exact this
    · have e : i = n := by omega
      subst e
      simp only [List.getD]
      rw [List.getElem?_append_right (by omega), hl]; simpa using hx
theorem bytes39 : Try.prog.bytesOf 39 = 304 := by kernel_rfl
theorem cells39 : Try.prog.cellsOf 39 = 239 := by kernel_rfl
theorem cells30 : Try.prog.cellsOf 30 = 1 := by kernel_rfl
section
variable {H : Type} {enc : TypeId × Value → H}
theorem open_list {P : Program} {w : World} {base : Nat} {spare : Nat → Bool} {held : Bool} {fuel n : Nat} {t e : TypeId} {cs : List Value} {x : DataW H × List MemPlace} (ht : P.underlying t = some (.array n e)) (he : P.underlying e = some (.int .u8)) (hc : P.cellsOf e = 1) (hl : cs.length = n)
    (hf : DataW.trod enc P w base spare held fuel t cs = some x) : ∃ ys : List Int, cs = ys.map (Value.int .u8) ∧ ys.length = n ∧ Bytes ys := by
  obtain ⟨xs, m, hfu, hx, hlx, hn, hall⟩ := DataW.trod_array ht hf
  have hstep : ∀ i, i < n → ∃ z, cs[i]? = some (.int .u8 z) ∧ (Lit.int .u8 z).wf = true := by
    intro i hi
    have h1 := hall i hi
    obtain ⟨b, hb⟩ : ∃ b, xs[i]? = some b := ⟨xs[i]'(by omega), List.getElem?_eq_getElem (by omega)⟩
    rw [hb, hc] at h1
    obtain ⟨z, hcz, rfl, hw⟩ := DataW.trod_int he h1
    refine ⟨z, ?_, hw⟩
    have := congrArg (·[0]?) hcz
    simpa [List.getElem?_take, List.getElem?_drop, Value.cells] using this
  obtain ⟨ys, hyl, hy⟩ := list_choose hstep
  refine ⟨ys, ?_, hyl, ?_⟩
  · apply List.ext_getElem?
    intro i
    by_cases hi : i < n
    · rw [(hy i hi).1, List.getElem?_map, List.getElem?_eq_getElem (by omega)]
      simp [List.getD, show i < ys.length by omega]
    · rw [List.getElem?_eq_none (by omega), List.getElem?_eq_none (by simp; omega)]
  · intro y hy'
    obtain ⟨i, hi, rfl⟩ := List.getElem_of_mem hy'
    have := bounds_u8 (hy i (by omega)).2
    simpa [List.getD, hi] using this

set_option maxRecDepth 20000 in
theorem open_rec {w : World} {fuel : Nat} {cs : List Value} {x : DataW H × List MemPlace} (hl : cs.length = 238) (h : DataW.trod enc Try.prog w 0 (fun _ => true) true fuel 37 cs = some x) :
    ∃ r : R, cs = r.cells ∧ r.Fits := by
  cases fuel with
  | zero => simp [DataW.trod] at h
  | succ n =>
    unfold DataW.trod at h
    rw [Try.underlying37] at h
    obtain ⟨k0, u0, o0, I, t0, t1, t2, t3, t4, t5, t6, t7, t8, t9, t10, rfl, hI⟩ : ∃ k0 u0 o0 I t0 t1 t2 t3 t4 t5 t6 t7 t8 t9 t10, cs = k0 :: u0 :: o0 :: (I ++ [t0, t1, t2, t3, t4, t5, t6, t7, t8, t9, t10]) ∧ I.length = 224 := by
      match cs, hl with
      | k0 :: u0 :: o0 :: rest, hl =>
        have hr : rest.length = 235 := by simpa using hl
        have hd : (rest.drop 224).length = 11 := by simp [hr]
        match hq : rest.drop 224, hd with
        | [t0, t1, t2, t3, t4, t5, t6, t7, t8, t9, t10], _ =>
          exact ⟨k0, u0, o0, rest.take 224, t0, t1, t2, t3, t4, t5, t6, t7, t8, t9, t10, by rw [← hq, List.take_append_drop], by simp [hr]⟩
    have e0 : ∀ k (T : List Value), (I ++ T).drop (224 + k) = T.drop k := fun k T => by rw [← hI, List.drop_append]; simp
    have d0 := e0 0 [t0, t1, t2, t3, t4, t5, t6, t7, t8, t9, t10]
    have d1 := e0 1 [t0, t1, t2, t3, t4, t5, t6, t7, t8, t9, t10]
    have d3 := e0 3 [t0, t1, t2, t3, t4, t5, t6, t7, t8, t9, t10]
    have d4 := e0 4 [t0, t1, t2, t3, t4, t5, t6, t7, t8, t9, t10]
    have d5 := e0 5 [t0, t1, t2, t3, t4, t5, t6, t7, t8, t9, t10]
    have dt : (I ++ [t0, t1, t2, t3, t4, t5, t6, t7, t8, t9, t10]).take 224 = I := by rw [← hI]; exact List.take_left
    simp only [List.drop_succ_cons, List.drop_zero, Nat.add_zero, Nat.reduceAdd] at d0 d1 d3 d4 d5
    simp [List.mapM_cons, cells37, cells5, cells24, cells26, cells31, cells33, cells9, cells35, hI] at h
    rw [d1, d3, d4, d5] at h
    simp only [List.take_succ_cons, List.take_zero] at h
    cases a0 : DataW.trod enc Try.prog w 0 (fun _ => true) true n 5 [k0] with
    | none => simp [a0] at h
    | some xa0 =>
    cases a1 : DataW.trod enc Try.prog w 0 (fun _ => true) true n 24 [u0, o0] with
    | none => simp [a0, a1] at h
    | some xa1 =>
    cases a2 : DataW.trod enc Try.prog w 0 (fun _ => true) true n 26 I with
    | none => simp [a0, a1, a2] at h
    | some xa2 =>
    cases a3 : DataW.trod enc Try.prog w 0 (fun _ => true) true n 31 [t0] with
    | none => simp [a0, a1, a2, a3] at h
    | some xa3 =>
    cases a4 : DataW.trod enc Try.prog w 0 (fun _ => true) true n 33 [t1, t2] with
    | none => simp [a0, a1, a2, a3, a4] at h
    | some xa4 =>
    cases a5 : DataW.trod enc Try.prog w 0 (fun _ => true) true n 9 [t3] with
    | none => simp [a0, a1, a2, a3, a4, a5] at h
    | some xa5 =>
    cases a6 : DataW.trod enc Try.prog w 0 (fun _ => true) true n 5 [t4] with
    | none => simp [a0, a1, a2, a3, a4, a5, a6] at h
    | some xa6 =>
    cases a7 : DataW.trod enc Try.prog w 0 (fun _ => true) true n 35 [t5, t6, t7, t8, t9, t10] with
    | none => simp [a0, a1, a2, a3, a4, a5, a6, a7] at h
    | some xa7 =>
    obtain ⟨kk, ek, _, wk⟩ := DataW.trod_int Try.underlying5 a0
    obtain ⟨ys, ei, li, bi⟩ := open_list Try.underlying26 Try.underlying5 cells5 hI a2
    obtain ⟨kt, et, _, wt⟩ := DataW.trod_int Try.underlying31 a3
    obtain ⟨kd, ed, _, wd⟩ := DataW.trod_string Try.underlying9 a5
    obtain ⟨ks, es, _, ws⟩ := DataW.trod_int Try.underlying5 a6
    cases n with
    | zero => simp [DataW.trod] at a1
    | succ m =>
    unfold DataW.trod at a1 a4 a7
    rw [Try.underlying24] at a1
    rw [Try.underlying33] at a4
    rw [Try.underlying35] at a7
    simp [List.mapM_cons, cells24, cells4, cells22] at a1
    simp [List.mapM_cons, cells33, cells22, cells5] at a4
    simp [List.mapM_cons, cells35, cells4, cells22, cells31, cells33, cells9] at a7
    cases b0 : DataW.trod enc Try.prog w 0 (fun _ => true) true m 4 [u0] with
    | none => simp [b0] at a1
    | some xb0 =>
    cases b1 : DataW.trod enc Try.prog w 0 (fun _ => true) true m 22 [o0] with
    | none => simp [b0, b1] at a1
    | some xb1 =>
    cases c0 : DataW.trod enc Try.prog w 0 (fun _ => true) true m 22 [t1] with
    | none => simp [c0] at a4
    | some xc0 =>
    cases c1 : DataW.trod enc Try.prog w 0 (fun _ => true) true m 5 [t2] with
    | none => simp [c0, c1] at a4
    | some xc1 =>
    cases e0 : DataW.trod enc Try.prog w 0 (fun _ => true) true m 4 [t5] with
    | none => simp [e0] at a7
    | some xe0 =>
    cases e1 : DataW.trod enc Try.prog w 0 (fun _ => true) true m 22 [t6] with
    | none => simp [e0, e1] at a7
    | some xe1 =>
    cases e2 : DataW.trod enc Try.prog w 0 (fun _ => true) true m 31 [t7] with
    | none => simp [e0, e1, e2] at a7
    | some xe2 =>
    cases e3 : DataW.trod enc Try.prog w 0 (fun _ => true) true m 33 [t8, t9] with
    | none => simp [e0, e1, e2, e3] at a7
    | some xe3 =>
    cases e4 : DataW.trod enc Try.prog w 0 (fun _ => true) true m 9 [t10] with
    | none => simp [e0, e1, e2, e3, e4] at a7
    | some xe4 =>
    cases m with
    | zero => simp [DataW.trod] at e3
    | succ l =>
    unfold DataW.trod at e3
    rw [Try.underlying33] at e3
    simp [List.mapM_cons, cells33, cells22, cells5] at e3
    cases g0 : DataW.trod enc Try.prog w 0 (fun _ => true) true l 22 [t8] with
    | none => simp [g0] at e3
    | some xg0 =>
    cases g1 : DataW.trod enc Try.prog w 0 (fun _ => true) true l 5 [t9] with
    | none => simp [g0, g1] at e3
    | some xg1 =>
    obtain ⟨vu, eu, _⟩ := DataW.trod_bool Try.underlying4 b0
    obtain ⟨vn, en, _, wn⟩ := DataW.trod_int Try.underlying22 b1
    obtain ⟨vp, ep, _, wp⟩ := DataW.trod_int Try.underlying22 c0
    obtain ⟨vs, eps, _, wps⟩ := DataW.trod_int Try.underlying5 c1
    obtain ⟨vl, el, _⟩ := DataW.trod_bool Try.underlying4 e0
    obtain ⟨vg, eg, _, wg⟩ := DataW.trod_int Try.underlying22 e1
    obtain ⟨vt, evt, _, wvt⟩ := DataW.trod_int Try.underlying31 e2
    obtain ⟨vd, evd, _, wvd⟩ := DataW.trod_string Try.underlying9 e4
    obtain ⟨va, eva, _, wva⟩ := DataW.trod_int Try.underlying22 g0
    obtain ⟨vb, evb, _, wvb⟩ := DataW.trod_int Try.underlying5 g1
    simp at ek et ed es eu en ep eps el eg evt evd eva evb
    refine ⟨⟨kk, vu, vn, ys, kt, vp, vs, kd, ks, ⟨vl, vg, vt, va, vb, vd⟩⟩, ?_, ⟨bounds_u8 wk, bounds_u16 wn, li, bi, bounds_u32 wt, bounds_u16 wp, bounds_u8 wps, bounds_u8 ws, wd, ⟨bounds_u16 wg, bounds_u32 wvt, bounds_u16 wva, bounds_u8 wvb⟩, wvd⟩⟩
    simp only [R.cells, R.tail]
    rw [ek, eu, en, ei, et, ep, eps, ed, es, el, eg, evt, eva, evb, evd]
set_option maxRecDepth 20000 in
theorem open_recv {w : World} {base : Nat} {v : Value} {d : DataW H} {p : List MemPlace} (hv : Value.okWide Try.prog w .any base 37 v) (h : DataW.Trod enc Try.prog w 0 (fun _ => true) true 37 v d p) :
    ∃ r : R, v = .agg r.arr ∧ r.Fits := by
  obtain ⟨cs, rfl, hsz⟩ := okWide_struct Try.underlying37 hv
  obtain ⟨fuel, hf⟩ := h
  rw [cells37] at hsz
  obtain ⟨a, he, ok⟩ := open_rec (by simpa [Value.cells] using hsz) hf
  refine ⟨a, ?_, ok⟩
  have he' : cs.toList = a.cells := he
  rw [← Array.toArray_toList (xs := cs), he']; rfl
theorem open_en {w : World} {fuel : Nat} {cs : List Value} {x : DataW H × List MemPlace} (hl : cs.length = 239) (h : DataW.trod enc Try.prog w 0 (fun _ => true) true fuel 39 cs = some x) :
    ∃ e : En, cs = e.cells ∧ e.Fits := by
  cases fuel with
  | zero => simp [DataW.trod] at h
  | succ n =>
    unfold DataW.trod at h
    rw [Try.underlying39] at h
    match cs, hl with
    | c0 :: rest, hl =>
      have hr : rest.length = 238 := by simpa using hl
      simp [List.mapM_cons, cells39, cells30, cells37, hr] at h
      rw [List.take_of_length_le (by omega)] at h
      cases t0 : DataW.trod enc Try.prog w 0 (fun _ => true) true n 30 [c0] with
      | none => simp [t0] at h
      | some x0 =>
      cases t1 : DataW.trod enc Try.prog w 0 (fun _ => true) true n 37 rest with
      | none => simp [t0, t1] at h
      | some x1 =>
      obtain ⟨k0, e0, _, u0⟩ := DataW.trod_int Try.underlying30 t0
      obtain ⟨r, e1, hf⟩ := open_rec hr t1
      simp at e0
      exact ⟨⟨k0, r⟩, by rw [e0, e1]; rfl, bounds_u64 u0, hf⟩
theorem En.zero_fits : En.zero.Fits := ⟨by decide, R.zero_fits⟩
theorem open_ens {w : World} {fuel : Nat} {c : Value} {x : DataW H × List MemPlace} (hf : DataW.trod enc Try.prog w 0 (fun _ => true) true fuel 27 [c] = some x) :
    ∃ es : List En, Log w c es ∧ (∀ e ∈ es, e.Fits) ∧ ((x.1.weights Try.prog 27).all (· ≤ reachBytes) = true → es.length * 304 ≤ 140737488355328) := by
  rcases open_slice Try.underlying27 hf with ⟨q, _⟩ | ⟨a, len, cap, m, n, D, Pl, q, _, hle, _, hm, hx, hel⟩
  · exact ⟨[], Or.inl ⟨by simpa using q, rfl⟩, by simp, by simp⟩
  · have q' : c = .slice (some a) len cap := by simpa using q
    subst q'
    simp only [if_true] at hm
    have hc : ∀ i, ∃ e : En, e.Fits ∧ (i < len → ∀ j u, e.cells[j]? = some u → w.cell? ((a.add (i * 239)).add j) = some u) := fun i => by
      by_cases hi : i < len
      · obtain ⟨cs', h1, h2⟩ := hel i (by omega)
        rw [cells39] at h1
        obtain ⟨_, hl6, hcell⟩ := World.cells?_some h1
        obtain ⟨e, rfl, hft⟩ := open_en hl6 h2
        refine ⟨e, hft, fun _ j u hj => ?_⟩
        have hj6 : j < 239 := by
          have := (List.getElem?_eq_some_iff.1 hj).1
          rw [En.cells_length e hft.r.len] at this; exact this
        rw [hcell j hj6]; exact hj
      · exact ⟨En.zero, En.zero_fits, fun q => absurd q hi⟩
    obtain ⟨f, hf'⟩ := Classical.axiomOfChoice hc
    refine ⟨(List.range len).map f, Or.inr ⟨a, cap, by simp, fun i e hi => ?_⟩, fun o ho => ?_, fun hs => ?_⟩
    rotate_left
    · obtain ⟨i, _, rfl⟩ := List.mem_map.1 ho
      exact (hf' i).1
    · rw [hx] at hs
      simp [DataW.weights, Try.underlying27, bytes39] at hs
      have := hs.1
      unfold reachBytes at this
      simp
      omega
    · rw [List.getElem?_map] at hi
      by_cases hlt : i < len
      · rw [List.getElem?_eq_getElem (by simpa using hlt)] at hi
        simp at hi
        subst hi
        exact (hf' i).2 hlt
      · rw [List.getElem?_eq_none (by simpa using hlt)] at hi; simp at hi
theorem open_log {w : World} {base : Nat} {v : Value} {d : DataW H} {p : List MemPlace} (hv : Value.okWide Try.prog w .any base 27 v) (h : DataW.Trod enc Try.prog w 0 (fun _ => true) true 27 v d p) (hs : (d.weights Try.prog 27).all (· ≤ reachBytes) = true) :
    ∃ es : List En, Log w v es ∧ (∀ e ∈ es, e.Fits) ∧ es.length * 304 ≤ 140737488355328 := by
  obtain ⟨fuel, hf⟩ := h
  obtain ⟨av, lv, cv, rfl⟩ := okWide_slice Try.underlying27 hv
  obtain ⟨es, h1, h2, h3⟩ := open_ens (c := .slice av lv cv) (x := (d, p)) hf
  exact ⟨es, h1, h2, h3 hs⟩
end
end Go.Proofs.Ytihjapfgllokgab
