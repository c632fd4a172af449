/-
  Plain facts on the statements' arguments: data pages and payloads, as values that came in. Plain facts: the statements' arguments: pages' names, blocks, calls of a cache, as values that came in.
-/
import Derived.Test.YtehogiondcpbcaaJq23
import Derived.SizedLaws
import Derived.Deep.Grids
import Derived.Deep.Slices
import Derived.Lib.SmallJoins
import Derived.Carry
import Derived.Test.YtehogiondcpbcaaJq31
import Derived.Test.YtehogiondcpbcaaJq05
import Derived.Test.YtehogiondcpbcaaJq02
namespace Go.Proofs.Ytehogiondcpbcaa
open Go.ChangeShapes Go.WideShapes Go.ChangeAt Go.RowKit
open Go.Deep
set_option linter.unusedVariables false
set_option linter.unusedSimpArgs false
set_option maxRecDepth 20000
theorem laidOut : laidOutB Try.prog = true := by kernel_rfl
theorem cells34 : Try.prog.cellsOf 34 = 224 := by kernel_rfl
theorem list_choose {n : Nat} {p : Nat → Int → Prop} (h : ∀ i, i < n → ∃ x, p i x) : ∃ ys : List Int, ys.length = n ∧ ∀ i, i < n → p i (ys.getD i 0) := by
  induction n with
  | zero => exact ⟨[], rfl, fun i hi => by omega⟩
  | succ n ih =>
    obtain ⟨ys, hl, hy⟩ := ih (fun i hi => h i (by omega))
    obtain ⟨x, hx⟩ := h n (by omega)
    refine ⟨ys ++ [x], by simp [hl], fun i hi => ?_⟩
    by_cases e : i < n
    · have := hy i e
      simp only [List.getD] at this ⊢
      rw [List.getElem?_append_left (by omega)]; exact this
    · have e : i = n := by omega
      subst e
      simp only [List.getD]
      rw [List.getElem?_append_right (by omega), hl]; simpa using hx
section
variable {H : Type} {enc : TypeId × Value → H}
theorem open_list {P : Program} {w : World} {base : Nat} {spare : Nat → Bool} {held : Bool} {fuel n : Nat} {t e : TypeId} {cs : List Value} {x : DataW H × List MemPlace} (ht : P.underlying t = some (.array n e)) (he : P.underlying e = some (.int .u8)) (hc : P.cellsOf e = 1) (hl : cs.length = n)
    (hf : DataW.trod enc P w base spare held fuel t cs = some x) : ∃ ys : List Int, cs = ys.map (Value.int .u8) ∧ ys.length = n ∧ Bytes ys := by
  obtain ⟨xs, m, hfu, hx, hlx, hn, hall⟩ := DataW.trod_array ht hf
  have hstep : ∀ i, i < n → ∃ z, cs[i]? = some (.int .u8 z) ∧ (Lit.int .u8 z).wf = true := by
    intro i hi
    have h1 := hall i hi
    obtain ⟨b, hb⟩ : ∃ b, xs[i]? = some b := ⟨xs[i]'(by omega), List.getElem?_eq_getElem (by omega)⟩
    rw [hb, hc] at h1
    obtain ⟨z, hcz, rfl, hw⟩ := DataW.trod_int he h1
    refine ⟨z, ?_, hw⟩
    have := congrArg (·[0]?) hcz
    simpa [List.getElem?_take, List.getElem?_drop, Value.cells] using this
  obtain ⟨ys, hyl, hy⟩ := list_choose hstep
  refine ⟨ys, ?_, hyl, ?_⟩
  · apply List.ext_getElem?
    intro i
    by_cases hi : i < n
    · rw [(hy i hi).1, List.getElem?_map, List.getElem?_eq_getElem (by omega)]
      simp [List.getD, show i < ys.length by omega]
    · rw [List.getElem?_eq_none (by omega), List.getElem?_eq_none (by simp; omega)]
  · intro y hy'
    obtain ⟨i, hi, rfl⟩ := List.getElem_of_mem hy'
    have := bounds_u8 (hy i (by omega)).2
    simpa [List.getD, hi] using this
end
theorem cells36 : Try.prog.cellsOf 36 = 229 := by kernel_rfl
theorem cells32 : Try.prog.cellsOf 32 = 1 := by kernel_rfl
theorem cells4b : Try.prog.cellsOf 4 = 1 := by kernel_rfl
theorem bytes36 : Try.prog.bytesOf 36 = 264 := by kernel_rfl
theorem bytes3i : Try.prog.bytesOf 3 = 8 := by kernel_rfl
theorem wfu_mk {k : Int} (h : 0 ≤ k ∧ k ≤ 65535) : WfU k := by
  unfold WfU
  have e : (Lit.int .u16 k).wf = (decide ((0 : Int) ≤ k) && decide (k ≤ 65535)) := rfl
  rw [e]; simpa using h
structure XO where
  kd : Int
  u : Bool
  k : Int
  b : Int
  fs : Value
  zl : List Int
  p : List Int
def XO.cells (o : XO) : List Value := .int .i64 o.kd :: .bool o.u :: .int .u16 o.k :: .int .u8 o.b :: o.fs :: o.p.map (Value.int .u8)
structure XO.Ok (w : World) (o : XO) : Prop where
  kd : Wf o.kd
  k : 0 ≤ o.k ∧ o.k ≤ 65535
  b : 0 ≤ o.b ∧ o.b ≤ 255
  fs : Cel w o.fs (o.zl.map (.int .i64))
  zw : ∀ z ∈ o.zl, Wf z
  zl : o.zl.length * 8 ≤ 140737488355328
  p : o.p.length = 224
  pb : Bytes o.p
theorem XO.Ok.keep {w w' : World} {o : XO} (h : o.Ok w) (hb : Below w.heap.size w w') : o.Ok w' := { h with fs := h.fs.keep hb }
def XOs (w : World) (v : Value) (cs : List XO) : Prop := ∃ (oa : Option Addr) (cap : Nat), v = .slice oa cs.length cap ∧ cs.length ≤ 140737488355328 ∧ ∀ i, i < cs.length → ∃ (a : Addr) (c : XO), oa = some a ∧ cs[i]? = some c ∧ c.Ok w ∧ ∀ j u, c.cells[j]? = some u → w.cell? ((a.add (i * 229)).add j) = some u
theorem XOs.below {w w' : World} {v : Value} {cs : List XO} (h : XOs w v cs) (hb : Below w.heap.size w w') : XOs w' v cs := by
  obtain ⟨oa, cap, h1, h2, h3⟩ := h
  refine ⟨oa, cap, h1, h2, fun i hi => ?_⟩
  obtain ⟨a, c, e1, e2, ok, hc⟩ := h3 i hi
  exact ⟨a, c, e1, e2, ok.keep hb, fun j u hj => cell_keep (hc j u hj) hb⟩
section
variable {H : Type} {enc : TypeId × Value → H}
theorem open_pidl {w : World} {fuel : Nat} {l : List Value} {x : DataW H × List MemPlace} (hf' : DataW.trod enc Try.prog w 0 (fun _ => true) true fuel 31 l = some x) : ∃ (u : Bool) (no : Int), l = [.bool u, .int .u16 no] ∧ 0 ≤ no ∧ no ≤ 65535 := by
  cases fuel with
  | zero => simp [DataW.trod] at hf'
  | succ n =>
    unfold DataW.trod at hf'
    rw [Try.underlying31] at hf'
    simp only [cells31] at hf'
    by_cases hl : l.length = 2
    · match l, hl with
      | [c0, c1], _ =>
        simp [List.mapM_cons, cells4b, cells29] at hf'
        cases t0 : DataW.trod enc Try.prog w 0 (fun _ => true) true n 4 [c0] with
        | none => simp [t0] at hf'
        | some x0 =>
        cases t1 : DataW.trod enc Try.prog w 0 (fun _ => true) true n 29 [c1] with
        | none => simp [t0, t1] at hf'
        | some x1 =>
        obtain ⟨k0, e0, _⟩ := DataW.trod_bool Try.underlying4 t0
        obtain ⟨k1, e1, _, u1⟩ := DataW.trod_int Try.underlying29 t1
        simp at e0 e1
        exact ⟨k0, k1, by rw [e0, e1], bounds_u16 u1⟩
    · simp [hl] at hf'
theorem cut_five (l : List Value) (h : l.length = 229) : l = l.take 1 ++ ((l.drop 1).take 2 ++ ((l.drop 3).take 1 ++ ((l.drop 4).take 1 ++ (l.drop 5).take 224))) := by
  have e5 : (l.drop 5).take 224 = l.drop 5 := List.take_of_length_le (by rw [List.length_drop]; omega)
  have e4 : (l.drop 4).take 1 ++ l.drop 5 = l.drop 4 := by
    have := List.take_append_drop 1 (l.drop 4); rw [List.drop_drop] at this; exact this
  have e3 : (l.drop 3).take 1 ++ l.drop 4 = l.drop 3 := by
    have := List.take_append_drop 1 (l.drop 3); rw [List.drop_drop] at this; exact this
  have e1 : (l.drop 1).take 2 ++ l.drop 3 = l.drop 1 := by
    have := List.take_append_drop 2 (l.drop 1); rw [List.drop_drop] at this; exact this
  rw [e5, e4, e3, e1, List.take_append_drop]
theorem open_xo {w : World} {fuel : Nat} {l : List Value} {x : DataW H × List MemPlace} (h : DataW.trod enc Try.prog w 0 (fun _ => true) true fuel 36 l = some x) (hs : (x.1.weights Try.prog 36).all (· ≤ reachBytes) = true) :
    ∃ o : XO, l = o.cells ∧ o.Ok w := by
  cases fuel with
  | zero => simp [DataW.trod] at h
  | succ n =>
    unfold DataW.trod at h
    rw [Try.underlying36] at h
    simp only [cells36] at h
    by_cases hl : l.length = 229
    · have hcut := cut_five l hl
      have hl1 : (l.take 1).length = 1 := by rw [List.length_take]; omega
      have hl4 : ((l.drop 4).take 1).length = 1 := by rw [List.length_take, List.length_drop]; omega
      have hl5 : ((l.drop 5).take 224).length = 224 := by rw [List.length_take, List.length_drop]; omega
      simp only [hl, if_true, List.mapM_cons, List.mapM_nil, cells3, cells31, cells5, cells32, cells34, List.drop_zero] at h
      cases t0 : DataW.trod enc Try.prog w 0 (fun _ => true) true n 3 (l.take 1) with
      | none => simp [-List.drop_one, t0] at h
      | some x0 =>
      cases t1 : DataW.trod enc Try.prog w 0 (fun _ => true) true n 31 ((l.drop 1).take 2) with
      | none => simp [-List.drop_one, t0, t1] at h
      | some x1 =>
      cases t2 : DataW.trod enc Try.prog w 0 (fun _ => true) true n 5 ((l.drop 3).take 1) with
      | none => simp [-List.drop_one, t0, t1, t2] at h
      | some x2 =>
      cases t3 : DataW.trod enc Try.prog w 0 (fun _ => true) true n 32 ((l.drop 4).take 1) with
      | none => simp [-List.drop_one, t0, t1, t2, t3] at h
      | some x3 =>
      cases t4 : DataW.trod enc Try.prog w 0 (fun _ => true) true n 34 ((l.drop 5).take 224) with
      | none => simp [-List.drop_one, t0, t1, t2, t3, t4] at h
      | some x4 =>
      simp [-List.drop_one, t0, t1, t2, t3, t4] at h
      subst h
      obtain ⟨k0, e0, _, w0⟩ := DataW.trod_int Try.underlying3 t0
      obtain ⟨u, no, e1, w1⟩ := open_pidl t1
      obtain ⟨k2, e2, _, w2⟩ := DataW.trod_int Try.underlying5 t2
      obtain ⟨ys, e4, hyl, hyb⟩ := open_list Try.underlying34 Try.underlying5 cells5 hl5 t4
      have hs3 : (x3.1.weights Try.prog 32).all (· ≤ reachBytes) = true := by
        rw [List.all_eq_true] at hs ⊢
        intro m hm
        refine hs m ?_
        simp [DataW.weights, Try.underlying36, DataW.weightsEach, hm]
      obtain ⟨c3, hc3⟩ : ∃ c3, (l.drop 4).take 1 = [c3] := by
        match q : (l.drop 4).take 1, hl4 with
        | [c], _ => exact ⟨c, rfl⟩
      have r3 : ∃ zl : List Int, Cel w c3 (zl.map (.int .i64)) ∧ (∀ z ∈ zl, Wf z) ∧ zl.length * 8 ≤ 140737488355328 := by
        rw [hc3] at t3
        rcases open_ints Try.underlying32 Try.underlying3 cells3 t3 with ⟨q, _⟩ | ⟨a, len, cap, zs, q, _, hle, _, hzl, hx, hc, hw⟩
        · simp at q
          exact ⟨[], Or.inl ⟨q, rfl⟩, fun z hz => (by cases hz), by simp⟩
        · simp at q hzl
          have hlz : (zs.take len).length = len := by simp; omega
          refine ⟨zs.take len, Or.inr ⟨a, cap, by rw [q, List.length_map, hlz], fun j u hj => ?_⟩, fun z hz => hw z (List.mem_of_mem_take hz), ?_⟩
          · rw [List.getElem?_map, List.getElem?_take] at hj
            by_cases hjl : j < len
            · rw [if_pos hjl, List.getElem?_eq_getElem (by omega)] at hj
              simp at hj
              rw [hc j (by omega), ← hj]
              simp [List.getD, show j < zs.length by omega]
            · rw [if_neg hjl] at hj; simp at hj
          · rw [hx] at hs3
            simp [DataW.weights, Try.underlying32, bytes3i, lits] at hs3
            have := hs3.1
            unfold reachBytes at this
            omega
      obtain ⟨zl, a3, a3w, a3l⟩ := r3
      have e0' : l.take 1 = [.int .i64 k0] := e0
      have e2' : (l.drop 3).take 1 = [.int .u8 k2] := e2
      rw [e0', e1, e2', hc3, e4] at hcut
      exact ⟨⟨k0, u, no, k2, c3, zl, ys⟩, hcut, ⟨w0, w1, bounds_u8 w2, a3, a3w, a3l, hyl, hyb⟩⟩
    · simp [hl] at h
theorem weights_all {P : Program} {e : TypeId} : ∀ {ds : List (DataW H)} {d : DataW H}, d ∈ ds → ∀ m ∈ d.weights P e, m ∈ DataW.weightsAll P e ds
  | [], d, h, _, _ => nomatch h
  | x :: r, d, h, m, hm => by
    unfold DataW.weightsAll
    rcases List.mem_cons.1 h with rfl | h
    · exact List.mem_append_left _ hm
    · exact List.mem_append_right _ (weights_all h m hm)
theorem open_xos {w : World} {base : Nat} {v : Value} {d : DataW H} {p : List MemPlace} (hv : Value.okWide Try.prog w .any base 22 v) (h : DataW.Trod enc Try.prog w 0 (fun _ => true) true 22 v d p) (hs : (d.weights Try.prog 22).all (· ≤ reachBytes) = true) :
    ∃ cs : List XO, XOs w v cs := by
  obtain ⟨fuel, hf⟩ := h
  obtain ⟨av, lv, cv, rfl⟩ := okWide_slice Try.underlying22 hv
  rcases open_slice Try.underlying22 hf with ⟨q, _⟩ | ⟨a, len, cap, m, n, D, Pl, q, _, hle, _, hm, hx, hel⟩
  · refine ⟨[], none, 0, ?_, by simp, fun i hi => by simp at hi⟩
    simpa [Value.cells] using q
  · have q' : Value.slice av lv cv = .slice (some a) len cap := by simpa [Value.cells] using q
    rw [q']
    simp only [if_true] at hm
    subst hm
    simp only [Prod.mk.injEq] at hx
    obtain ⟨rfl, _⟩ := hx
    have hs' : ∀ x ∈ (DataW.slice ((List.range len).map D) ((List.range (m - len)).map fun j => D (len + j))).weights Try.prog 22, x ≤ reachBytes := fun x hx => by
      have := List.all_eq_true.1 hs x hx
      simpa using this
    have hlen : len ≤ 140737488355328 := by
      have := hs' _ (by simp only [DataW.weights, Try.underlying22]; exact List.mem_cons_self ..)
      rw [bytes36] at this
      simp at this
      unfold reachBytes at this
      omega
    have hw : ∀ i, i < len → ((D i).weights Try.prog 36).all (· ≤ reachBytes) = true := fun i hi => by
      refine List.all_eq_true.2 fun x hx => ?_
      have := hs' x (by
        simp only [DataW.weights, Try.underlying22]
        refine List.mem_cons_of_mem _ (List.mem_append_left _ ?_)
        exact weights_all (List.mem_map.2 ⟨i, List.mem_range.2 hi, rfl⟩) x hx)
      simpa using this
    have hc : ∀ i, ∃ c : XO, i < len → c.Ok w ∧ ∀ j u, c.cells[j]? = some u → w.cell? ((a.add (i * 229)).add j) = some u := fun i => by
      by_cases hi : i < len
      · obtain ⟨cs', h1, h2⟩ := hel i (by omega)
        rw [cells36] at h1
        obtain ⟨c, rfl, ok⟩ := open_xo h2 (hw i hi)
        obtain ⟨_, hl5, hcell⟩ := World.cells?_some h1
        refine ⟨c, fun _ => ⟨ok, fun j u hj => ?_⟩⟩
        have hj5 : j < 229 := by
          have := (List.getElem?_eq_some_iff.1 hj).1
          have hq : c.cells.length = 229 := by unfold XO.cells; simp [ok.p]
          omega
        rw [hcell j hj5]; exact hj
      · exact ⟨⟨0, false, 0, 0, .nilIface, [], []⟩, fun q => absurd q hi⟩
    obtain ⟨f, hf'⟩ := Classical.axiomOfChoice hc
    refine ⟨(List.range len).map f, some a, m, by simp, by simpa using hlen, fun i hi => ?_⟩
    have hi' : i < len := by simpa using hi
    exact ⟨a, f i, rfl, by simp [hi'], (hf' i hi').1, (hf' i hi').2⟩
end
end Go.Proofs.Ytehogiondcpbcaa
