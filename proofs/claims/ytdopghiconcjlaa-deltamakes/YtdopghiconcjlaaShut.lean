/-
  Plain facts: an argument that is an array of bytes, opened to the list of its bytes and shut again.
-/
import Derived.Test.YtdopghiconcjlaaArr
namespace Go.Proofs.Ytdopghiconcjlaa
open Go.ChangeShapes Go.WideShapes Go.ChangeAt Go.RowKit
set_option linter.unusedVariables false
set_option linter.unusedSimpArgs false

section
variable {H : Type} {enc : TypeId × Value → H} {P : Program} {w : World} {base : Nat} {spare : Nat → Bool} {held : Bool}
theorem list_choose {n : Nat} {p : Nat → Int → Prop} (h : ∀ i, i < n → ∃ x, p i x) : ∃ ys : List Int, ys.length = n ∧ ∀ i, i < n → p i (ys.getD i 0) := by
  induction n with
  | zero => exact ⟨[], rfl, fun i hi => by omega⟩
  | succ n ih =>
    obtain ⟨ys, hl, hy⟩ := ih (fun i hi => h i (by omega))
    obtain ⟨x, hx⟩ := h n (by omega)
    refine ⟨ys ++ [x], by simp [hl], fun i hi => ?_⟩
    by_cases e : i < n
    · have := hy i e
      simp only [List.getD] at this ⊢
      rw [List.getElem?_append_left (by omega)]; exact this
    · have e : i = n := by omega
      subst e
      simp only [List.getD]
      rw [List.getElem?_append_right (by omega), hl]; simpa using hx

theorem open_bytes {r : Reach} {b0 : Nat} {t e : TypeId} {n : Nat} {v : Value} {d : DataW H} {ps : List MemPlace} (ht : P.underlying t = some (.array n e)) (he : P.underlying e = some (.int .u8)) (hc : P.cellsOf e = 1) (hct : P.cellsOf t = n)
    (hval : Value.okWide P w r b0 t v) (hd : DataW.Trod enc P w base spare held t v d ps) :
    ∃ ys : List Int, v = .agg (bs ys) ∧ d = .agg (ys.map fun y => .lit (.int .u8 y)) ∧ ps = [] ∧ ys.length = n ∧ Bytes ys := by
  simp only [Value.okWide, ht] at hval
  obtain ⟨cs, rfl, hcs, _⟩ := hval
  obtain ⟨fuel, hf⟩ := hd
  obtain ⟨xs, m, rfl, hx, hl, hn, hall⟩ := DataW.trod_array ht hf
  rw [hct] at hcs
  have hstep : ∀ i, i < n → ∃ x, cs.toList[i]? = some (.int .u8 x) ∧ xs[i]? = some (.lit (.int .u8 x), []) ∧ (Lit.int .u8 x).wf = true := by
    intro i hi
    have h1 := hall i hi
    obtain ⟨b, hb⟩ : ∃ b, xs[i]? = some b := ⟨xs[i]'(by omega), List.getElem?_eq_getElem (by omega)⟩
    rw [hb, hc] at h1
    obtain ⟨z, hcz, rfl, hw⟩ := DataW.trod_int he h1
    refine ⟨z, ?_, hb, hw⟩
    have := congrArg (·[0]?) hcz
    simpa [List.getElem?_take, List.getElem?_drop, Value.cells] using this
  obtain ⟨ys, hyl, hy⟩ := list_choose hstep
  have e1 : cs = bs ys := by
    apply Array.ext_getElem?
    intro i
    rw [bs_at]
    by_cases hi : i < n
    · have := (hy i hi).1
      simp only [Array.getElem?_toList] at this
      rw [this, List.getElem?_eq_getElem (by omega)]
      simp [List.getD, show i < ys.length by omega]
    · rw [Array.getElem?_eq_none (by omega), List.getElem?_eq_none (by omega)]; rfl
  have e2 : xs = ys.map fun y => (DataW.lit (.int .u8 y), []) := by
    apply List.ext_getElem?
    intro i
    by_cases hi : i < n
    · rw [(hy i hi).2.1, List.getElem?_map, List.getElem?_eq_getElem (by omega)]
      simp [List.getD, show i < ys.length by omega]
    · rw [List.getElem?_eq_none (by omega), List.getElem?_eq_none (by simp; omega)]
  refine ⟨ys, by rw [e1], ?_, ?_, hyl, ?_⟩
  · have := congrArg Prod.fst hx
    simp only at this
    rw [this, e2]; simp [Function.comp_def]
  · have := congrArg Prod.snd hx
    simp only at this
    rw [this, e2]; simp
  · intro y hy'
    obtain ⟨i, hi, rfl⟩ := List.getElem_of_mem hy'
    have := bounds_u8 (hy i (by omega)).2.2
    simpa [List.getD, hi] using this

theorem mapM_all {α β : Type} {f : α → Option β} {g : α → β} : ∀ (l : List α), (∀ x ∈ l, f x = some (g x)) → l.mapM f = some (l.map g)
  | [], _ => by simp
  | x :: l, h => by
    have h0 := h x (by simp)
    have ih := mapM_all l (fun y hy => h y (by simp [hy]))
    simp [List.mapM_cons, h0, ih]

theorem shut_bytes {t e : TypeId} {n : Nat} {ys : List Int} (ht : P.underlying t = some (.array n e)) (he : P.underlying e = some (.int .u8)) (hc : P.cellsOf e = 1) (hct : P.cellsOf t = n) (hl : ys.length = n) (hy : Bytes ys) :
    DataW.Trod enc P w base spare held t (.agg (bs ys)) (.agg (ys.map fun y => .lit (.int .u8 y))) [] := by
  refine ⟨2, ?_⟩
  have hm : (List.range n).mapM (fun i => DataW.trod enc P w base spare held 1 e (((Value.agg (bs ys)).cells.toList.drop (i * P.cellsOf e)).take (P.cellsOf e))) = some ((List.range n).map fun i => (DataW.lit (.int .u8 (ys.getD i 0)), [])) := by
    refine mapM_all _ fun i hi => ?_
    have hi := List.mem_range.1 hi
    have hb := hy.at i
    have hw : (Lit.int .u8 (ys.getD i 0)).wf = true := by simp [Lit.wf, IntKind.min, IntKind.max, IntKind.signed, IntKind.bits]; simp [List.getD] at hb; omega
    have e1 : (((Value.agg (bs ys)).cells.toList.drop (i * P.cellsOf e)).take (P.cellsOf e)) = [.int .u8 (ys.getD i 0)] := by
      rw [hc]
      simp only [Value.cells, bs, Nat.mul_one]
      rw [← List.map_drop, ← List.map_take]
      have : (ys.drop i).take 1 = [ys.getD i 0] := by
        rw [List.drop_eq_getElem_cons (by omega), List.take_succ_cons, List.take_zero]
        simp only [List.getD]
        rw [List.getElem?_eq_getElem (by omega)]; rfl
      rw [this]; rfl
    rw [e1]
    simp only [DataW.trod, he]
    simp only [hw, and_self, if_true]
  unfold DataW.trod
  rw [ht]
  have hlen : (Value.agg (bs ys)).cells.toList.length = P.cellsOf t := by simp [Value.cells, bs, hl, hct]
  have e2 : ((List.range n).map fun i => (DataW.lit (H := H) (.int .u8 (ys.getD i 0)))) = ys.map fun y => .lit (.int .u8 y) := by
    apply List.ext_getElem (by simp [hl])
    intro j h1 h2
    simp [List.getD, show j < ys.length by simpa using h2]
  split <;> simp_all [Function.comp_def]
end
end Go.Proofs.Ytdopghiconcjlaa
