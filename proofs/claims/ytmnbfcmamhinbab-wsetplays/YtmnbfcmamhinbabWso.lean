/-
  Proved here: an Op, and a list of Ops, as values that came in.
-/
import Derived.Test.YtmnbfcmamhinbabWsy
import Derived.SizedLaws
import Derived.Deep.Grids
import Derived.Deep.Slices
import Derived.Lib.SmallJoins
import Derived.Carry
import Derived.ChangeSlices
namespace Go.Proofs.Ytmnbfcmamhinbab.Ws
open Go.ChangeShapes Go.WideShapes Go.ChangeAt Go.RowKit
open Go.Deep Go.Maps
set_option linter.unusedVariables false
set_option linter.unusedSimpArgs false
set_option maxRecDepth 20000

/-- A writing. -/
structure Wo where
  pg : Int
  b : List Int
  off : Int
  t : ByteArray
def Wo.cells (o : Wo) : List Value := .int .u16 o.pg :: (o.b.map (Value.int .u8) ++ [.int .i64 o.off, .string o.t])
def Wo.Ok (o : Wo) : Prop := (Lit.int .u16 o.pg).wf = true ∧ o.b.length = 64 ∧ Bytes o.b ∧ (Lit.int .i64 o.off).wf = true ∧ o.t.size ≤ 9223372036854775807
theorem laidOut : laidOutB Try.prog = true := by kernel_rfl
theorem cells44 : Try.prog.cellsOf 44 = 67 := by kernel_rfl
theorem cells40 : Try.prog.cellsOf 40 = 1 := by kernel_rfl
theorem cells42 : Try.prog.cellsOf 42 = 64 := by kernel_rfl
theorem cells3' : Try.prog.cellsOf 3 = 1 := by kernel_rfl
theorem cells9' : Try.prog.cellsOf 9 = 1 := by kernel_rfl
theorem cells5' : Try.prog.cellsOf 5 = 1 := by kernel_rfl
theorem bytes44 : Try.prog.bytesOf 44 = 96 := by kernel_rfl
section
variable {H : Type} {enc : TypeId × Value → H}
theorem list_choose' {n : Nat} {p : Nat → Int → Prop} (h : ∀ i, i < n → ∃ x, p i x) : ∃ ys : List Int, ys.length = n ∧ ∀ i, i < n → p i (ys.getD i 0) := by
  induction n with
  | zero => exact ⟨[], rfl, fun i hi => by omega⟩
  | succ n ih =>
    obtain ⟨ys, hl, hy⟩ := ih (fun i hi => h i (by omega))
    obtain ⟨x, hx⟩ := h n (by omega)
    refine ⟨ys ++ [x], by simp [hl], fun i hi => ?_⟩
    by_cases e : i < n
    · have := hy i e
      simp only [List.getD] at this ⊢
      rw [List.getElem?_append_left (by omega)]; exact this
    · have e : i = n := by omega
      subst e
      simp only [List.getD]
      rw [List.getElem?_append_right (by omega), hl]; simpa using hx
theorem open_list' {P : Program} {w : World} {base : Nat} {spare : Nat → Bool} {held : Bool} {fuel n : Nat} {t e : TypeId} {cs : List Value} {x : DataW H × List MemPlace} (ht : P.underlying t = some (.array n e)) (he : P.underlying e = some (.int .u8)) (hc : P.cellsOf e = 1) (hl : cs.length = n)
    (hf : DataW.trod enc P w base spare held fuel t cs = some x) : ∃ ys : List Int, cs = ys.map (Value.int .u8) ∧ ys.length = n ∧ Bytes ys := by
  obtain ⟨xs, m, hfu, hx, hlx, hn, hall⟩ := DataW.trod_array ht hf
  have hstep : ∀ i, i < n → ∃ z, cs[i]? = some (.int .u8 z) ∧ (Lit.int .u8 z).wf = true := by
    intro i hi
    have h1 := hall i hi
    obtain ⟨b, hb⟩ : ∃ b, xs[i]? = some b := ⟨xs[i]'(by omega), List.getElem?_eq_getElem (by omega)⟩
    rw [hb, hc] at h1
    obtain ⟨z, hcz, rfl, hw⟩ := DataW.trod_int he h1
    refine ⟨z, ?_, hw⟩
    have := congrArg (·[0]?) hcz
    simpa [List.getElem?_take, List.getElem?_drop, Value.cells] using this
  obtain ⟨ys, hyl, hy⟩ := list_choose' hstep
  refine ⟨ys, ?_, hyl, ?_⟩
  · apply List.ext_getElem?
    intro i
    by_cases hi : i < n
    · rw [(hy i hi).1, List.getElem?_map, List.getElem?_eq_getElem (by omega)]
      simp [List.getD, show i < ys.length by omega]
    · rw [List.getElem?_eq_none (by omega), List.getElem?_eq_none (by simp; omega)]
  · intro y hy'
    obtain ⟨i, hi, rfl⟩ := List.getElem_of_mem hy'
    have := bounds_u8 (hy i (by omega)).2
    simpa [List.getD, hi] using this
theorem mem_weightsAll {P : Program} {e : TypeId} : ∀ {ds : List (DataW H)} {d : DataW H} {z : Nat}, d ∈ ds → z ∈ d.weights P e → z ∈ DataW.weightsAll P e ds
  | d' :: r, d, z, h, hz => by
    rw [DataW.weightsAll]
    rcases List.mem_cons.1 h with rfl | h
    · exact List.mem_append_left _ hz
    · exact List.mem_append_right _ (mem_weightsAll h hz)
theorem open_op {w : World} {fuel : Nat} {l : List Value} {x : DataW H × List MemPlace} (hf' : DataW.trod enc Try.prog w 0 (fun _ => true) true fuel 44 l = some x) (hs : (x.1.weights Try.prog 44).all (· ≤ reachBytes) = true) :
    ∃ o : Wo, l = o.cells ∧ o.Ok := by
  cases fuel with
  | zero => simp [DataW.trod] at hf'
  | succ n =>
    unfold DataW.trod at hf'
    rw [Try.underlying44] at hf'
    simp only [cells44] at hf'
    by_cases hl : l.length = 67
    · match l, hl with
      | c0 :: rest, hl =>
        have hr : rest.length = 66 := by simpa using hl
        simp [List.mapM_cons, cells40, cells42, cells3', cells9', hr] at hf'
        cases t0 : DataW.trod enc Try.prog w 0 (fun _ => true) true n 40 [c0] with
        | none => simp [t0] at hf'
        | some x0 =>
        cases t1 : DataW.trod enc Try.prog w 0 (fun _ => true) true n 42 (rest.take 64) with
        | none => simp [t0, t1] at hf'
        | some x1 =>
        cases t2 : DataW.trod enc Try.prog w 0 (fun _ => true) true n 3 ((rest.drop 64).take 1) with
        | none => simp [t0, t1, t2] at hf'
        | some x2 =>
        cases t3 : DataW.trod enc Try.prog w 0 (fun _ => true) true n 9 ((rest.drop 65).take 1) with
        | none => simp [t0, t1, t2, t3] at hf'
        | some x3 =>
        simp [t0, t1, t2, t3] at hf'
        subst hf'
        have hs3 : (x3.1.weights Try.prog 9).all (· ≤ reachBytes) = true := by
          rw [List.all_eq_true] at hs ⊢
          intro m hm
          refine hs m ?_
          simp [DataW.weights, Try.underlying44, DataW.weightsEach, hm]
        obtain ⟨k0, e0, _, w0⟩ := DataW.trod_int Try.underlying40 t0
        obtain ⟨ys, e1, hyl, hyb⟩ := open_list' Try.underlying42 Try.underlying5 cells5' (by rw [List.length_take]; omega) t1
        obtain ⟨k2, e2, _, w2⟩ := DataW.trod_int Try.underlying3 t2
        obtain ⟨k3, e3, e4⟩ := DataW.trod_string Try.underlying9 t3
        simp at e0
        have hsz : k3.size ≤ 9223372036854775807 := by have := e4.2; unfold maxLen at this; omega
        refine ⟨⟨k0, ys, k2, k3⟩, ?_, w0, hyl, hyb, w2, hsz⟩
        unfold Wo.cells
        simp only
        rw [e0, ← e1]
        congr 1
        have s1 : rest = rest.take 64 ++ rest.drop 64 := (List.take_append_drop 64 rest).symm
        have s2 : rest.drop 64 = (rest.drop 64).take 1 ++ rest.drop 65 := by
          have := (List.take_append_drop 1 (rest.drop 64)).symm
          rw [List.drop_drop] at this
          exact this
        have s3 : rest.drop 65 = (rest.drop 65).take 1 := (List.take_of_length_le (by rw [List.length_drop]; omega)).symm
        have e2' : (rest.drop 64).take 1 = [.int .i64 k2] := by simpa [Value.cells] using e2
        have e3' : (rest.drop 65).take 1 = [.string k3] := by simpa [Value.cells] using e3
        conv => lhs; rw [s1, s2, e2', s3, e3']
        simp
    · simp [hl] at hf'
theorem open_opv {w : World} {base : Nat} {v : Value} {d : DataW H} {p : List MemPlace} (hv : Value.okWide Try.prog w .any base 44 v) (h : DataW.Trod enc Try.prog w 0 (fun _ => true) true 44 v d p) (hs : (d.weights Try.prog 44).all (· ≤ reachBytes) = true) :
    ∃ o : Wo, v = .agg o.cells.toArray ∧ o.Ok := by
  obtain ⟨cs, rfl, hsz⟩ := okWide_struct Try.underlying44 hv
  obtain ⟨fuel, hf⟩ := h
  have hf' : DataW.trod enc Try.prog w 0 (fun _ => true) true fuel 44 cs.toList = some (d, p) := hf
  obtain ⟨o, h1, h2⟩ := open_op hf' hs
  exact ⟨o, by rw [← h1], h2⟩
/-- A list of writings that came in. -/
def Ops (w : World) (v : Value) (os : List Wo) : Prop := ∃ (oa : Option Addr) (cap : Nat), v = .slice oa os.length cap ∧ os.length ≤ 140737488355328 ∧ ∀ i, i < os.length → ∃ (a : Addr) (o : Wo), oa = some a ∧ os[i]? = some o ∧ o.Ok ∧ ∀ j u, o.cells[j]? = some u → w.cell? ((a.add (i * 67)).add j) = some u
theorem open_ops {w : World} {base : Nat} {v : Value} {d : DataW H} {p : List MemPlace} (hv : Value.okWide Try.prog w .any base 33 v) (h : DataW.Trod enc Try.prog w 0 (fun _ => true) true 33 v d p) (hs : (d.weights Try.prog 33).all (· ≤ reachBytes) = true) :
    ∃ os : List Wo, Ops w v os := by
  obtain ⟨fuel, hf⟩ := h
  obtain ⟨av, lv, cv, rfl⟩ := okWide_slice Try.underlying33 hv
  rcases open_slice Try.underlying33 hf with ⟨q, _⟩ | ⟨a, len, cap, m, n, D, Pl, q, _, hle, _, hm, hx, hel⟩
  · refine ⟨[], none, 0, ?_, by simp, fun i hi => by simp at hi⟩
    simpa [Value.cells] using q
  · have q' : Value.slice av lv cv = .slice (some a) len cap := by simpa [Value.cells] using q
    rw [q']
    simp only [if_true] at hm
    subst hm
    simp only [Prod.mk.injEq] at hx
    obtain ⟨rfl, _⟩ := hx
    have hs' : ∀ x ∈ (DataW.slice ((List.range len).map D) ((List.range (m - len)).map fun j => D (len + j))).weights Try.prog 33, x ≤ reachBytes := fun x hx => by
      have := List.all_eq_true.1 hs x hx
      simpa using this
    have hlen : len ≤ 140737488355328 := by
      have := hs' _ (by simp only [DataW.weights, Try.underlying33]; exact List.mem_cons_self ..)
      rw [bytes44] at this
      simp at this
      unfold reachBytes at this
      omega
    have hc : ∀ i, ∃ c : Wo, c.Ok ∧ (i < len → ∀ j u, c.cells[j]? = some u → w.cell? ((a.add (i * 67)).add j) = some u) := fun i => by
      by_cases hi : i < len
      · obtain ⟨cs', h1, h2⟩ := hel i (by omega)
        rw [cells44] at h1
        obtain ⟨c, rfl, hok⟩ := open_op h2 (by
          rw [List.all_eq_true]
          intro z hz
          have := hs' z (by
            simp only [DataW.weights, Try.underlying33]
            refine List.mem_cons_of_mem _ (List.mem_append_left _ ?_)
            exact mem_weightsAll (List.mem_map.2 ⟨i, List.mem_range.2 hi, rfl⟩) hz)
          simpa using this)
        obtain ⟨_, hl5, hcell⟩ := World.cells?_some h1
        refine ⟨c, hok, fun _ j u hj => ?_⟩
        have hj5 : j < 67 := by
          have := (List.getElem?_eq_some_iff.1 hj).1
          omega
        rw [hcell j hj5]; exact hj
      · exact ⟨⟨0, zs 64, 0, ByteArray.empty⟩, ⟨rfl, zs_length _, fun y hy => by rw [List.eq_of_mem_replicate hy]; omega, rfl, by show 0 ≤ _; omega⟩, fun q => absurd q hi⟩
    obtain ⟨f, hf'⟩ := Classical.axiomOfChoice hc
    refine ⟨(List.range len).map f, some a, m, by simp, by simpa using hlen, fun i hi => ?_⟩
    have hi' : i < len := by simpa using hi
    refine ⟨a, f i, rfl, by simp [hi'], (hf' i).1, (hf' i).2 hi'⟩
end
end Go.Proofs.Ytmnbfcmamhinbab.Ws
