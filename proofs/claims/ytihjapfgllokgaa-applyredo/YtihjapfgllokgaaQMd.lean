/-
  Proved here: what the document's Redo answers, for every page and entry: what the program's does. Plain facts on the statements' arguments: records as values that came in.
-/
import Derived.Test.YtihjapfgllokgaaQRrA
import Derived.Test.YtihjapfgllokgaaQRrB
import Derived.Test.YtihjapfgllokgaaQRrC
import Derived.Test.YtihjapfgllokgaaQRrD
import Derived.Test.YtihjapfgllokgaaQRrE
import Derived.Test.YtihjapfgllokgaaQRrF
import Derived.Test.YtihjapfgllokgaaQRdo
import Derived.SizedLaws
import Derived.Deep.Grids
import Derived.Deep.Slices
import Derived.Lib.SmallJoins
import Derived.Carry
namespace Go.Proofs.Ytihjapfgllokgaa
open Go.ChangeShapes Go.WideShapes Go.ChangeAt Go.RowKit
set_option linter.unusedVariables false
set_option linter.unusedSimpArgs false
set_option maxRecDepth 20000

theorem rredo_any (u : Bool) (no : Int) (p : List Int) (e : En) (w : World) (hno : 0 ≤ no ∧ no ≤ 65535) (hp : p.length = 224) (hb : Bytes p) (hf : e.Fits) :
    Calls Try.prog 16 #[.agg #[.bool u, .int .u16 no], .agg (bs p), .agg e.arr] w fun en w' => en = .returned (.tuple #[.agg (bs (redoR u no p e).1), .int .i64 (redoR u no p e).2]) ∧ Below w.heap.size w w' := by
  cases hg : (mayR e.r && aboutR u no e.r) with
  | false => exact rredo_bad u no p e w hno hp hb hf hg
  | true =>
    have hg' := hg
    unfold aboutR at hg'
    rw [Bool.and_eq_true, Bool.and_eq_true, decide_eq_true_eq] at hg'
    obtain ⟨hm, hk6, hB⟩ := hg'
    cases u with
    | false => exact rredo_data no p e w hno hp hb hf hm hk6 hB
    | true =>
      by_cases h3 : e.r.kind = 3
      · exact rredo_add no p e w hno hp hb hf hm hk6 hB h3
      · by_cases h4 : e.r.kind = 4
        · exact rredo_free no p e w hno hp hb hf hm hk6 hB h4
        · by_cases h5 : e.r.kind = 5
          · exact rredo_cut no p e w hno hp hb hf hm hk6 hB h5
          · exact rredo_rest no p e w hno hp hb hf hm hk6 hB h3 h4 h5
end Go.Proofs.Ytihjapfgllokgaa
namespace Go.Proofs.Ytihjapfgllokgaa
open Go.ChangeShapes Go.WideShapes Go.ChangeAt Go.RowKit
open Go.Deep
set_option linter.unusedVariables false
set_option linter.unusedSimpArgs false
set_option maxRecDepth 20000

theorem laidOut : laidOutB Try.prog = true := by kernel_rfl
theorem cells33 : Try.prog.cellsOf 33 = 238 := by kernel_rfl
theorem cells26 : Try.prog.cellsOf 26 = 224 := by kernel_rfl
theorem cells27 : Try.prog.cellsOf 27 = 1 := by kernel_rfl
theorem cells29 : Try.prog.cellsOf 29 = 2 := by kernel_rfl
theorem cells9 : Try.prog.cellsOf 9 = 1 := by kernel_rfl
theorem cells31 : Try.prog.cellsOf 31 = 6 := by kernel_rfl
theorem cells4 : Try.prog.cellsOf 4 = 1 := by kernel_rfl
theorem cells22 : Try.prog.cellsOf 22 = 1 := by kernel_rfl
theorem list_choose {n : Nat} {p : Nat → Int → Prop} (h : ∀ i, i < n → ∃ x, p i x) : ∃ ys : List Int, ys.length = n ∧ ∀ i, i < n → p i (ys.getD i 0) := by
  induction n with
  | zero => exact ⟨[], rfl, fun i hi => by omega⟩
  | succ n ih =>
    obtain ⟨ys, hl, hy⟩ := ih (fun i hi => h i (by omega))
    obtain ⟨x, hx⟩ := h n (by omega)
    refine ⟨ys ++ [x], by simp [hl], fun i hi => ?_⟩
    by_cases e : i < n
    · have := hy i e
      simp only [List.getD] at this ⊢
      rw [List.getElem?_append_left (by omega)]; exact this
    · have e : i = n := by omega
      subst e
      simp only [List.getD]
      rw [List.getElem?_append_right (by omega), hl]; simpa using hx
section
variable {H : Type} {enc : TypeId × Value → H}
theorem open_list {P : Program} {w : World} {base : Nat} {spare : Nat → Bool} {held : Bool} {fuel n : Nat} {t e : TypeId} {cs : List Value} {x : DataW H × List MemPlace} (ht : P.underlying t = some (.array n e)) (he : P.underlying e = some (.int .u8)) (hc : P.cellsOf e = 1) (hl : cs.length = n)
    (hf : DataW.trod enc P w base spare held fuel t cs = some x) : ∃ ys : List Int, cs = ys.map (Value.int .u8) ∧ ys.length = n ∧ Bytes ys := by
  obtain ⟨xs, m, hfu, hx, hlx, hn, hall⟩ := DataW.trod_array ht hf
  have hstep : ∀ i, i < n → ∃ z, cs[i]? = some (.int .u8 z) ∧ (Lit.int .u8 z).wf = true := by
    intro i hi
    have h1 := hall i hi
    obtain ⟨b, hb⟩ : ∃ b, xs[i]? = some b := ⟨xs[i]'(by omega), List.getElem?_eq_getElem (by omega)⟩
    rw [hb, hc] at h1
    obtain ⟨z, hcz, rfl, hw⟩ := DataW.trod_int he h1
    refine ⟨z, ?_, hw⟩
    have := congrArg (·[0]?) hcz
    simpa [List.getElem?_take, List.getElem?_drop, Value.cells] using this
  obtain ⟨ys, hyl, hy⟩ := list_choose hstep
  refine ⟨ys, ?_, hyl, ?_⟩
  · apply List.ext_getElem?
    intro i
    by_cases hi : i < n
    · rw [(hy i hi).1, List.getElem?_map, List.getElem?_eq_getElem (by omega)]
      simp [List.getD, show i < ys.length by omega]
    · rw [List.getElem?_eq_none (by omega), List.getElem?_eq_none (by simp; omega)]
  · intro y hy'
    obtain ⟨i, hi, rfl⟩ := List.getElem_of_mem hy'
    have := bounds_u8 (hy i (by omega)).2
    simpa [List.getD, hi] using this

set_option maxRecDepth 20000 in
theorem open_rec {w : World} {fuel : Nat} {cs : List Value} {x : DataW H × List MemPlace} (hl : cs.length = 238) (h : DataW.trod enc Try.prog w 0 (fun _ => true) true fuel 33 cs = some x) :
    ∃ r : R, cs = r.cells ∧ r.Fits := by
  cases fuel with
  | zero => simp [DataW.trod] at h
  | succ n =>
    unfold DataW.trod at h
    rw [Try.underlying33] at h
    obtain ⟨k0, u0, o0, I, t0, t1, t2, t3, t4, t5, t6, t7, t8, t9, t10, rfl, hI⟩ : ∃ k0 u0 o0 I t0 t1 t2 t3 t4 t5 t6 t7 t8 t9 t10, cs = k0 :: u0 :: o0 :: (I ++ [t0, t1, t2, t3, t4, t5, t6, t7, t8, t9, t10]) ∧ I.length = 224 := by
      match cs, hl with
      | k0 :: u0 :: o0 :: rest, hl =>
        have hr : rest.length = 235 := by simpa using hl
        have hd : (rest.drop 224).length = 11 := by simp [hr]
        match hq : rest.drop 224, hd with
        | [t0, t1, t2, t3, t4, t5, t6, t7, t8, t9, t10], _ =>
          exact ⟨k0, u0, o0, rest.take 224, t0, t1, t2, t3, t4, t5, t6, t7, t8, t9, t10, by rw [← hq, List.take_append_drop], by simp [hr]⟩
    have e0 : ∀ k (T : List Value), (I ++ T).drop (224 + k) = T.drop k := fun k T => by rw [← hI, List.drop_append]; simp
    have d0 := e0 0 [t0, t1, t2, t3, t4, t5, t6, t7, t8, t9, t10]
    have d1 := e0 1 [t0, t1, t2, t3, t4, t5, t6, t7, t8, t9, t10]
    have d3 := e0 3 [t0, t1, t2, t3, t4, t5, t6, t7, t8, t9, t10]
    have d4 := e0 4 [t0, t1, t2, t3, t4, t5, t6, t7, t8, t9, t10]
    have d5 := e0 5 [t0, t1, t2, t3, t4, t5, t6, t7, t8, t9, t10]
    have dt : (I ++ [t0, t1, t2, t3, t4, t5, t6, t7, t8, t9, t10]).take 224 = I := by rw [← hI]; exact List.take_left
    simp only [List.drop_succ_cons, List.drop_zero, Nat.add_zero, Nat.reduceAdd] at d0 d1 d3 d4 d5
    simp [List.mapM_cons, cells33, cells5, cells24, cells26, cells27, cells29, cells9, cells31, hI] at h
    rw [d1, d3, d4, d5] at h
    simp only [List.take_succ_cons, List.take_zero] at h
    cases a0 : DataW.trod enc Try.prog w 0 (fun _ => true) true n 5 [k0] with
    | none => simp [a0] at h
    | some xa0 =>
    cases a1 : DataW.trod enc Try.prog w 0 (fun _ => true) true n 24 [u0, o0] with
    | none => simp [a0, a1] at h
    | some xa1 =>
    cases a2 : DataW.trod enc Try.prog w 0 (fun _ => true) true n 26 I with
    | none => simp [a0, a1, a2] at h
    | some xa2 =>
    cases a3 : DataW.trod enc Try.prog w 0 (fun _ => true) true n 27 [t0] with
    | none => simp [a0, a1, a2, a3] at h
    | some xa3 =>
    cases a4 : DataW.trod enc Try.prog w 0 (fun _ => true) true n 29 [t1, t2] with
    | none => simp [a0, a1, a2, a3, a4] at h
    | some xa4 =>
    cases a5 : DataW.trod enc Try.prog w 0 (fun _ => true) true n 9 [t3] with
    | none => simp [a0, a1, a2, a3, a4, a5] at h
    | some xa5 =>
    cases a6 : DataW.trod enc Try.prog w 0 (fun _ => true) true n 5 [t4] with
    | none => simp [a0, a1, a2, a3, a4, a5, a6] at h
    | some xa6 =>
    cases a7 : DataW.trod enc Try.prog w 0 (fun _ => true) true n 31 [t5, t6, t7, t8, t9, t10] with
    | none => simp [a0, a1, a2, a3, a4, a5, a6, a7] at h
    | some xa7 =>
    obtain ⟨kk, ek, _, wk⟩ := DataW.trod_int Try.underlying5 a0
    obtain ⟨ys, ei, li, bi⟩ := open_list Try.underlying26 Try.underlying5 cells5 hI a2
    obtain ⟨kt, et, _, wt⟩ := DataW.trod_int Try.underlying27 a3
    obtain ⟨kd, ed, _, wd⟩ := DataW.trod_string Try.underlying9 a5
    obtain ⟨ks, es, _, ws⟩ := DataW.trod_int Try.underlying5 a6
    cases n with
    | zero => simp [DataW.trod] at a1
    | succ m =>
    unfold DataW.trod at a1 a4 a7
    rw [Try.underlying24] at a1
    rw [Try.underlying29] at a4
    rw [Try.underlying31] at a7
    simp [List.mapM_cons, cells24, cells4, cells22] at a1
    simp [List.mapM_cons, cells29, cells22, cells5] at a4
    simp [List.mapM_cons, cells31, cells4, cells22, cells27, cells29, cells9] at a7
    cases b0 : DataW.trod enc Try.prog w 0 (fun _ => true) true m 4 [u0] with
    | none => simp [b0] at a1
    | some xb0 =>
    cases b1 : DataW.trod enc Try.prog w 0 (fun _ => true) true m 22 [o0] with
    | none => simp [b0, b1] at a1
    | some xb1 =>
    cases c0 : DataW.trod enc Try.prog w 0 (fun _ => true) true m 22 [t1] with
    | none => simp [c0] at a4
    | some xc0 =>
    cases c1 : DataW.trod enc Try.prog w 0 (fun _ => true) true m 5 [t2] with
    | none => simp [c0, c1] at a4
    | some xc1 =>
    cases e0 : DataW.trod enc Try.prog w 0 (fun _ => true) true m 4 [t5] with
    | none => simp [e0] at a7
    | some xe0 =>
    cases e1 : DataW.trod enc Try.prog w 0 (fun _ => true) true m 22 [t6] with
    | none => simp [e0, e1] at a7
    | some xe1 =>
    cases e2 : DataW.trod enc Try.prog w 0 (fun _ => true) true m 27 [t7] with
    | none => simp [e0, e1, e2] at a7
    | some xe2 =>
    cases e3 : DataW.trod enc Try.prog w 0 (fun _ => true) true m 29 [t8, t9] with
    | none => simp [e0, e1, e2, e3] at a7
    | some xe3 =>
    cases e4 : DataW.trod enc Try.prog w 0 (fun _ => true) true m 9 [t10] with
    | none => simp [e0, e1, e2, e3, e4] at a7
    | some xe4 =>
    cases m with
    | zero => simp [DataW.trod] at e3
    | succ l =>
    unfold DataW.trod at e3
    rw [Try.underlying29] at e3
    simp [List.mapM_cons, cells29, cells22, cells5] at e3
    cases g0 : DataW.trod enc Try.prog w 0 (fun _ => true) true l 22 [t8] with
    | none => simp [g0] at e3
    | some xg0 =>
    cases g1 : DataW.trod enc Try.prog w 0 (fun _ => true) true l 5 [t9] with
    | none => simp [g0, g1] at e3
    | some xg1 =>
    obtain ⟨vu, eu, _⟩ := DataW.trod_bool Try.underlying4 b0
    obtain ⟨vn, en, _, wn⟩ := DataW.trod_int Try.underlying22 b1
    obtain ⟨vp, ep, _, wp⟩ := DataW.trod_int Try.underlying22 c0
    obtain ⟨vs, eps, _, wps⟩ := DataW.trod_int Try.underlying5 c1
    obtain ⟨vl, el, _⟩ := DataW.trod_bool Try.underlying4 e0
    obtain ⟨vg, eg, _, wg⟩ := DataW.trod_int Try.underlying22 e1
    obtain ⟨vt, evt, _, wvt⟩ := DataW.trod_int Try.underlying27 e2
    obtain ⟨vd, evd, _, wvd⟩ := DataW.trod_string Try.underlying9 e4
    obtain ⟨va, eva, _, wva⟩ := DataW.trod_int Try.underlying22 g0
    obtain ⟨vb, evb, _, wvb⟩ := DataW.trod_int Try.underlying5 g1
    simp at ek et ed es eu en ep eps el eg evt evd eva evb
    refine ⟨⟨kk, vu, vn, ys, kt, vp, vs, kd, ks, ⟨vl, vg, vt, va, vb, vd⟩⟩, ?_, ⟨bounds_u8 wk, bounds_u16 wn, li, bi, bounds_u32 wt, bounds_u16 wp, bounds_u8 wps, bounds_u8 ws, wd, ⟨bounds_u16 wg, bounds_u32 wvt, bounds_u16 wva, bounds_u8 wvb⟩, wvd⟩⟩
    simp only [R.cells, R.tail]
    rw [ek, eu, en, ei, et, ep, eps, ed, es, el, eg, evt, eva, evb, evd]
set_option maxRecDepth 20000 in
theorem open_recv {w : World} {base : Nat} {v : Value} {d : DataW H} {p : List MemPlace} (hv : Value.okWide Try.prog w .any base 33 v) (h : DataW.Trod enc Try.prog w 0 (fun _ => true) true 33 v d p) :
    ∃ r : R, v = .agg r.arr ∧ r.Fits := by
  obtain ⟨cs, rfl, hsz⟩ := okWide_struct Try.underlying33 hv
  obtain ⟨fuel, hf⟩ := h
  rw [cells33] at hsz
  obtain ⟨a, he, ok⟩ := open_rec (by simpa [Value.cells] using hsz) hf
  refine ⟨a, ?_, ok⟩
  have he' : cs.toList = a.cells := he
  rw [← Array.toArray_toList (xs := cs), he']; rfl
theorem cells52 : Try.prog.cellsOf 52 = 239 := by kernel_rfl
theorem cells50 : Try.prog.cellsOf 50 = 1 := by kernel_rfl
theorem open_en {w : World} {fuel : Nat} {cs : List Value} {x : DataW H × List MemPlace} (hl : cs.length = 239) (h : DataW.trod enc Try.prog w 0 (fun _ => true) true fuel 52 cs = some x) :
    ∃ e : En, cs = e.cells ∧ e.Fits := by
  cases fuel with
  | zero => simp [DataW.trod] at h
  | succ n =>
    unfold DataW.trod at h
    rw [Try.underlying52] at h
    match cs, hl with
    | c0 :: rest, hl =>
      have hr : rest.length = 238 := by simpa using hl
      simp [List.mapM_cons, cells52, cells50, cells33, hr] at h
      rw [List.take_of_length_le (by omega)] at h
      cases t0 : DataW.trod enc Try.prog w 0 (fun _ => true) true n 50 [c0] with
      | none => simp [t0] at h
      | some x0 =>
      cases t1 : DataW.trod enc Try.prog w 0 (fun _ => true) true n 33 rest with
      | none => simp [t0, t1] at h
      | some x1 =>
      obtain ⟨k0, e0, _, u0⟩ := DataW.trod_int Try.underlying50 t0
      obtain ⟨r, e1, hf⟩ := open_rec hr t1
      simp at e0
      exact ⟨⟨k0, r⟩, by rw [e0, e1]; rfl, bounds_u64 u0, hf⟩
theorem open_env {w : World} {base : Nat} {v : Value} {d : DataW H} {p : List MemPlace} (hv : Value.okWide Try.prog w .any base 52 v) (h : DataW.Trod enc Try.prog w 0 (fun _ => true) true 52 v d p) :
    ∃ r : En, v = .agg r.arr ∧ r.Fits := by
  obtain ⟨cs, rfl, hsz⟩ := okWide_struct Try.underlying52 hv
  obtain ⟨fuel, hf⟩ := h
  rw [cells52] at hsz
  obtain ⟨r, he, hr⟩ := open_en (cs := cs.toList) (by simpa using hsz) hf
  refine ⟨r, ?_, hr⟩
  unfold En.arr; rw [← he]
theorem open_payv {w : World} {base : Nat} {v : Value} {d : DataW H} {p : List MemPlace} (hv : Value.okWide Try.prog w .any base 26 v) (h : DataW.Trod enc Try.prog w 0 (fun _ => true) true 26 v d p) :
    ∃ ys : List Int, v = .agg (bs ys) ∧ ys.length = 224 ∧ Bytes ys := by
  simp only [Value.okWide, Try.underlying26] at hv
  obtain ⟨cs, rfl, hcs, _⟩ := hv
  obtain ⟨fuel, hf⟩ := h
  rw [cells26] at hcs
  obtain ⟨ys, he, hl, hb⟩ := open_list Try.underlying26 Try.underlying5 cells5 (by simpa [Value.cells] using hcs) hf
  refine ⟨ys, ?_, hl, hb⟩
  have he' : cs.toList = ys.map (Value.int .u8) := he
  rw [← Array.toArray_toList (xs := cs), he']; rfl
theorem open_pidv {w : World} {base : Nat} {v : Value} {d : DataW H} {p : List MemPlace} (hv : Value.okWide Try.prog w .any base 24 v) (h : DataW.Trod enc Try.prog w 0 (fun _ => true) true 24 v d p) :
    ∃ (u : Bool) (no : Int), v = .agg #[.bool u, .int .u16 no] ∧ 0 ≤ no ∧ no ≤ 65535 := by
  obtain ⟨cs, rfl, hsz⟩ := okWide_struct Try.underlying24 hv
  obtain ⟨fuel, hf⟩ := h
  have hf' : DataW.trod enc Try.prog w 0 (fun _ => true) true fuel 24 cs.toList = some (d, p) := hf
  have hc : ∃ (u : Bool) (no : Int), cs.toList = [.bool u, .int .u16 no] ∧ 0 ≤ no ∧ no ≤ 65535 := by
    generalize cs.toList = l at hf'
    cases fuel with
    | zero => simp [DataW.trod] at hf'
    | succ n =>
      unfold DataW.trod at hf'
      rw [Try.underlying24] at hf'
      simp only [cells24] at hf'
      by_cases hl : l.length = 2
      · match l, hl with
        | [c0, c1], _ =>
          simp [List.mapM_cons, cells4, cells22] at hf'
          cases t0 : DataW.trod enc Try.prog w 0 (fun _ => true) true n 4 [c0] with
          | none => simp [t0] at hf'
          | some x0 =>
          cases t1 : DataW.trod enc Try.prog w 0 (fun _ => true) true n 22 [c1] with
          | none => simp [t0, t1] at hf'
          | some x1 =>
          obtain ⟨k0, e0, _⟩ := DataW.trod_bool Try.underlying4 t0
          obtain ⟨k1, e1, _, u1⟩ := DataW.trod_int Try.underlying22 t1
          simp at e0 e1
          exact ⟨k0, k1, by rw [e0, e1], bounds_u16 u1⟩
      · simp [hl] at hf'
  obtain ⟨u, no, h1, h2⟩ := hc
  refine ⟨u, no, ?_, h2⟩
  show Value.agg cs = Value.agg [Value.bool u, .int .u16 no].toArray
  rw [← h1]
end
end Go.Proofs.Ytihjapfgllokgaa
