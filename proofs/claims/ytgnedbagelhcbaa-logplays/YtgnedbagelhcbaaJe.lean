/-
  Structs as values: their cells, lists of them in slices, copies of them. Proved here: whether two lists of starts are alike (the document's SameStarts), a copy of a list of chunks (the statements' kept), whether a stream has a place (ring.within). Plain facts on joining chunks: which chunks follow, and what stream they hold. Plain facts on rows of bytes that a call owns: cut short, a text laid behind, as a string; rows of other types beside them stay.
-/
import Derived.Test.YtgnedbagelhcbaaChl
import Derived.Laws.AppendOwnNone
import Derived.Maps.AppendAt
import Derived.Deep.MidRow
import Derived.Deep.CutBlock
import Derived.Great.BuildSlice
import Derived.Laws.Cover3
import Derived.Lib.AppendStr
namespace Go.Proofs.Ytgnedbagelhcbaa.St
open Go.ChangeShapes Go.WideShapes Go.ChangeAt Go.RowKit
set_option linter.unusedVariables false
set_option linter.unusedSimpArgs false

/-- One of the list. -/
structure O where
  num : Int
  off : Int
def O.zero : O := ⟨0, 0⟩
def O.cells (o : O) : List Value := [.int .u32 o.num, .int .u64 o.off]
def O.arr (o : O) : Array Value := #[.int .u32 o.num, .int .u64 o.off]
theorem O.arr_toList (o : O) : o.arr.toList = o.cells := rfl
theorem O.cells_toArray (o : O) : o.cells.toArray = o.arr := rfl
theorem O.cells_length (o : O) : o.cells.length = 2 := rfl
def flat (os : List O) : List Value := os.flatMap O.cells
theorem flat_length : ∀ os : List O, (flat os).length = os.length * 2
  | [] => rfl
  | o :: r => by
    have := flat_length r
    show (o.cells ++ flat r).length = _
    rw [List.length_append, this, O.cells_length]; simp; omega
theorem flat_at : ∀ (os : List O) (i j : Nat) (o : O), os[i]? = some o → j < 2 → (flat os)[i * 2 + j]? = o.cells[j]?
  | [], i, j, o, h, _ => by simp at h
  | p :: r, 0, j, o, h, hj => by
    simp at h; subst h
    show (p.cells ++ flat r)[0 * 2 + j]? = _
    rw [Nat.zero_mul, Nat.zero_add, List.getElem?_append_left (by rw [O.cells_length]; exact hj)]
  | p :: r, i + 1, j, o, h, hj => by
    simp at h
    show (p.cells ++ flat r)[(i + 1) * 2 + j]? = _
    rw [List.getElem?_append_right (by rw [O.cells_length]; omega), O.cells_length, show (i + 1) * 2 + j - 2 = i * 2 + j by omega]
    exact flat_at r i j o h hj
theorem flat_one : ∀ os : List O, ∀ u ∈ flat os, u.oneCell' = true := by
  intro os u hu
  obtain ⟨o, _, h⟩ := List.mem_flatMap.1 hu
  simp [O.cells] at h
  rcases h with rfl | rfl <;> rfl
theorem flat_append (a b : List O) : flat (a ++ b) = flat a ++ flat b := by simp [flat]
def Olds (w : World) (v : Value) (os : List O) : Prop :=
  (v = .slice none 0 0 ∧ os = []) ∨ ∃ a cap, v = .slice (some a) os.length cap ∧ ∀ j u, (flat os)[j]? = some u → w.cell? (a.add j) = some u
theorem cell_keep {w w' : World} {p : Addr} {u : Value} (h : w.cell? p = some u) (hb : Below w.heap.size w w') : w'.cell? p = some u := by
  rw [← h]
  refine World.cell?_of_block (hb.block _ ?_)
  unfold World.cell? at h
  by_cases q : p.block < w.heap.size
  · exact q
  · rw [Array.getElem?_eq_none (by omega)] at h; cases h
theorem Olds.keep {w w' : World} {v : Value} {os : List O} (h : Olds w v os) (hb : Below w.heap.size w w') : Olds w' v os := by
  rcases h with h | ⟨a, cap, rfl, h⟩
  · exact Or.inl h
  · exact Or.inr ⟨a, cap, rfl, fun j u hj => cell_keep (h j u hj) hb⟩
theorem add_add (a : Addr) (m j : Nat) : (a.add m).add j = a.add (m + j) := by
  unfold Addr.add
  by_cases h1 : m = 0
  · subst h1; simp
  · by_cases h2 : j = 0
    · subst h2; simp [h1]
    · rw [if_neg h2, if_neg h1, if_neg (by omega)]; simp; omega
theorem Olds.open {w : World} {v : Value} {os : List O} (h : Olds w v os) : ∃ oa cap, v = .slice oa os.length cap ∧ ∀ i, i < os.length → ∃ (a : Addr) (o : O), oa = some a ∧ os[i]? = some o ∧ ∀ j u, o.cells[j]? = some u → w.cell? ((a.add (i * 2)).add j) = some u := by
  rcases h with ⟨rfl, rfl⟩ | ⟨a, cap, rfl, h⟩
  · exact ⟨none, 0, rfl, fun i hi => absurd hi (by simp)⟩
  · refine ⟨some a, cap, rfl, fun i hi => ⟨a, os[i], rfl, by simp [hi], fun j u hj => ?_⟩⟩
    rw [add_add]
    have hj2 : j < 2 := by have := (List.getElem?_eq_some_iff.1 hj).1; simpa [O.cells] using this
    exact h _ u (by rw [flat_at os i j os[i] (by simp [hi]) hj2]; exact hj)
def Own (w : World) (base : Nat) (v : Value) (os : List O) : Prop := w.ownsRow base 104 2 v os.length (flat os)
theorem Own.olds {w : World} {base : Nat} {v : Value} {os : List O} (h : Own w base v os) : Olds w v os := by
  have hc := fun g hg => World.ownsRow.cells h (g := g) hg
  obtain ⟨h1, h2⟩ := h
  rcases h2 with ⟨rfl, h2⟩ | ⟨g, cap, cur, rfl, hb, hg, _⟩
  · exact Or.inl ⟨rfl, List.eq_nil_of_length_eq_zero h2⟩
  · exact Or.inr ⟨⟨g, 0, none⟩, cap, rfl, hc g rfl⟩
theorem Own.keep {w w' : World} {base : Nat} {v : Value} {os : List O} (h : Own w base v os) (hb : Below w.heap.size w w') : Own w' base v os := by
  have hl := World.ownsRow.lt h
  obtain ⟨h1, h2⟩ := h
  refine ⟨h1, ?_⟩
  rcases h2 with h2 | ⟨g, cap, cur, rfl, hb', hc, rest⟩
  · exact Or.inl h2
  · have := hl g (by simp [Value.ownBlock])
    exact Or.inr ⟨g, cap, cur, rfl, hb', (hb.block g this.2).trans hc, rest⟩
theorem info_parts {P : Program} {t : TypeId} {z : Option Value} {n b : Nat} (h : (P.info? t).map (fun i => (i.zero, i.size, i.bytes)) = some (z, n, b)) : ∃ i, P.info? t = some i ∧ i.zero = z ∧ i.size = n ∧ i.bytes = b := by
  obtain ⟨i, hi, e⟩ := Option.map_eq_some_iff.1 h
  simp only [Prod.mk.injEq] at e
  exact ⟨i, hi, e.1, e.2.1, e.2.2⟩
theorem info104 : (Try.prog.info? 104).map (fun i => (i.zero, i.size, i.bytes)) = some (some (.agg O.zero.arr), 2, 16) := by kernel_rfl
theorem size104 : (Try.prog.info? 104).map (·.size) = some 2 := by kernel_rfl
theorem flat_get (os : List O) (j : Nat) : (flat os)[j]? = (os[j / 2]?).bind (fun o => o.cells[j % 2]?) := by
  have e : j = j / 2 * 2 + j % 2 := by omega
  cases h : os[j / 2]? with
  | some o =>
    have := flat_at os (j / 2) (j % 2) o h (by omega)
    rw [← e] at this; rw [this]; rfl
  | none =>
    have hl : os.length ≤ j / 2 := by simpa using h
    rw [List.getElem?_eq_none (by rw [flat_length]; omega)]; rfl
theorem Own.blk {w : World} {base : Nat} {v : Value} {os : List O} (h : Own w base v os) (hn : 0 < os.length) : ∃ g cap, v = .slice (some ⟨g, 0, none⟩) os.length cap ∧ base ≤ g := by
  rcases h.2 with ⟨rfl, h2⟩ | ⟨g, cap, cur, rfl, hb, _⟩
  · omega
  · exact ⟨g, cap, rfl, hb⟩
theorem Own.there {w : World} {base g n cap : Nat} {os : List O} (h : Own w base (.slice (some ⟨g, 0, none⟩) n cap) os) (s : Nat) (hs : s < os.length) : w.there g (s * 2) 2 := fun j hj => by
  rcases h.2 with ⟨q, _⟩ | ⟨g', cap', cur, q, hb, hc, hle, _, hsz, _⟩
  · cases q
  · cases q
    have r : Row w g cur 104 := hc
    refine ⟨?_, row_frozen r _⟩
    have hm : os.length * 2 ≤ cap * 2 := Nat.mul_le_mul_right _ hle
    rw [cell_of_row w g _ _ _ _ r, Array.getElem?_eq_getElem (by rw [hsz]; omega)]; rfl
theorem Own.other {w : World} {base : Nat} {v : Value} {os : List O} (h : Own w base v os) (j o : Nat) (x : Value) (hj : j < base) : Own (w.setCell ⟨j, o, none⟩ x) base v os := by
  obtain ⟨h1, h2⟩ := h
  refine ⟨h1, ?_⟩
  rcases h2 with h2 | ⟨g, cap, cur, rfl, hb', hc, rest⟩
  · exact Or.inl h2
  · exact Or.inr ⟨g, cap, cur, rfl, hb', by rw [Below.heap_setCell w _ x g (by show g ≠ j; omega)]; exact hc, rest⟩
theorem wp_copy {T : Value → World → Prop} {w : World} {o : Oper} {a : Act} {K : Act → World → Prop} {Q : Exit → Act → World → Prop} (s x : Operand) (t : TypeId)
    (ho : o.op = .call { callee := .builtin .append, args := #[s, x], argTypes := #[t, t] }) (sv v : Value) (hs : a.eval s = sv) (hx : a.eval x = v)
    (hr : ∀ ty, ∃ v' w', (Builtin.append_ #[t, t] ty #[sv, v]).run Try.prog w = .ok v' w' ∧ T v' w')
    (h : ∀ v' w', T v' w' → K (a.put o.dst v') w') : Oper.wp Try.prog o a w K Q := by
  obtain ⟨v', w', hrun, hT⟩ := hr o.type
  unfold Oper.wp
  simp [execOp, ho, resolve, invoke, builtin, hs, hx, hrun, Result.andThen]
  exact h v' w' hT
theorem wpList_copy {T : Value → World → Prop} {w : World} {ops : Array Oper} {rest : List Oper} {o : Oper} {a : Act} {Q : Exit → Act → World → Prop} (hgd : o.guard = none) (s x : Operand) (t : TypeId)
    (ho : o.op = .call { callee := .builtin .append, args := #[s, x], argTypes := #[t, t] }) (sv v : Value) (hs : a.eval s = sv) (hx : a.eval x = v)
    (hr : ∀ ty, ∃ v' w', (Builtin.append_ #[t, t] ty #[sv, v]).run Try.prog w = .ok v' w' ∧ T v' w')
    (h : ∀ v' w', T v' w' → wpList Try.prog ops Q rest (a.put o.dst v') w') : wpList Try.prog ops Q (o :: rest) a w := by
  refine wpList_plain hgd fun K hK => ?_
  obtain ⟨v', w', hrun, hT⟩ := hr o.type
  unfold Oper.wp
  simp [execOp, ho, resolve, invoke, builtin, hs, hx, hrun, Result.andThen]
  exact hK _ _ (h v' w' hT)

theorem run_copy (w : World) (ty : TypeId) (v : Value) (os : List O) (h : Olds w v os) (hn : os.length ≤ 1000000000) :
    ∃ v' w', (Builtin.append_ #[23, 23] ty #[.slice (some ⟨w.heap.size, 0, none⟩) 0 0, v]).run Try.prog (w.alloc (.cells #[] 104)) = .ok v' w' ∧ Own w' w.heap.size v' os ∧ Below w.heap.size w w' := by
  obtain ⟨i, hi, hz, hs, hb⟩ := info_parts info104
  have hown : (w.alloc (.cells #[] 104)).ownsRow w.heap.size 104 2 (.slice (some ⟨w.heap.size, 0, none⟩) 0 0) 0 [] := World.ownsRow_made w #[] 0 (Nat.le_refl _) (Nat.zero_le _) rfl
  have b0 : Below w.heap.size w (w.alloc (.cells #[] 104)) := (Below.refl _ _).alloc (Nat.le_refl _) _
  rcases h with ⟨rfl, rfl⟩ | ⟨a, cap, rfl, hc⟩
  · exact ⟨_, _, run_append_owned_none (P := Try.prog) (w := w.alloc (.cells #[] 104)) w.heap.size 23 ty 104 i 2 Try.underlying23 hi _ 0 [] hown, hown, b0⟩
  · obtain ⟨v', w', hr, h2, h3, h4, h5⟩ := run_append_own_at (P := Try.prog) (w.alloc (.cells #[] 104)) w.heap.size 23 ty 104 i _ 2 16 Try.underlying23 hi hz hs hb rfl (by decide) _ 0 [] hown a os.length cap (flat os) (flat_length os) (fun j u hj => cell_keep (hc j u hj) b0) (flat_one os) (by unfold maxLen; omega) (by omega) (by simp)
    refine ⟨v', w', hr, ?_, b0.grown h3 (by simp) (fun k hk => ?_)⟩
    · unfold Own; simpa using h2
    · simp [Value.ownBlock] at hk
      omega
/-- .. the same behind a draw. -/
theorem run_copy' (w : World) (ty : TypeId) (v : Value) (os : List O) (h : Olds w v os) (hn : os.length ≤ 1000000000) :
    ∃ v' w', (Builtin.append_ #[23, 23] ty #[.slice (some ⟨w.heap.size, 0, none⟩) 0 0, v]).run Try.prog (w.alloc (.cells #[] 104)).drew = .ok v' w' ∧ Own w' w.heap.size v' os ∧ Below w.heap.size w w' := by
  obtain ⟨i, hi, hz, hs, hb⟩ := info_parts info104
  have hown : (w.alloc (.cells #[] 104)).drew.ownsRow w.heap.size 104 2 (.slice (some ⟨w.heap.size, 0, none⟩) 0 0) 0 [] := World.ownsRow_made w #[] 0 (Nat.le_refl _) (Nat.zero_le _) rfl
  have b0 : Below w.heap.size w (w.alloc (.cells #[] 104)).drew := ((Below.refl _ _).alloc (Nat.le_refl _) _).drew
  rcases h with ⟨rfl, rfl⟩ | ⟨a, cap, rfl, hc⟩
  · exact ⟨_, _, run_append_owned_none (P := Try.prog) (w := (w.alloc (.cells #[] 104)).drew) w.heap.size 23 ty 104 i 2 Try.underlying23 hi _ 0 [] hown, hown, b0⟩
  · obtain ⟨v', w', hr, h2, h3, h4, h5⟩ := run_append_own_at (P := Try.prog) (w.alloc (.cells #[] 104)).drew w.heap.size 23 ty 104 i _ 2 16 Try.underlying23 hi hz hs hb rfl (by decide) _ 0 [] hown a os.length cap (flat os) (flat_length os) (fun j u hj => cell_keep (hc j u hj) b0) (flat_one os) (by unfold maxLen; omega) (by omega) (by simp)
    refine ⟨v', w', hr, ?_, b0.grown h3 (by simp) (fun k hk => ?_)⟩
    · unfold Own; simpa using h2
    · simp [Value.ownBlock] at hk
      omega
def Cop (w : World) (os : List O) (e : Ending) (w' : World) : Prop := ∃ v', e = .returned v' ∧ Own w' w.heap.size v' os ∧ Below w.heap.size w w'
theorem eql_nil (a : Option Addr) (l c : Nat) (w : World) : (binOp .eql 23 (.slice a l c) (.slice none 0 0)).run Try.prog w = .ok (.bool a.isNone) w := by
  simp only [binOp]
  simp [run_equal_slice_nil w 23 104 a l c Try.underlying23]
theorem Own.alloc {w : World} {base : Nat} {v : Value} {os : List O} (h : Own w base v os) (o : Obj) : Own (w.alloc o) base v os := h.keep ((Below.refl _ _).alloc (Nat.le_refl _) _)
theorem Own.form {w : World} {base : Nat} {v : Value} {os : List O} (h : Own w base v os) : ∃ oa cap, v = .slice oa os.length cap := by
  rcases h.2 with ⟨rfl, h2⟩ | ⟨g, cap, cur, rfl, _⟩
  · exact ⟨none, 0, by rw [h2]⟩
  · exact ⟨_, cap, rfl⟩
theorem Own.base {w : World} {base base' : Nat} {v : Value} {os : List O} (h : Own w base v os) (hb : base' ≤ base) : Own w base' v os := by
  obtain ⟨h1, h2⟩ := h
  refine ⟨h1, ?_⟩
  rcases h2 with h2 | ⟨g, cap, cur, rfl, hb', rest⟩
  · exact Or.inl h2
  · exact Or.inr ⟨g, cap, cur, rfl, by omega, rest⟩
theorem Own.snocP {w : World} {base : Nat} {v : Value} {os : List O} (h : Own w base v os) (ty : TypeId) (X : Nat) (p : O) (hX : Row w X p.arr 104) (hb : base ≤ w.heap.size) (hn : os.length ≤ 1000) :
    ∃ v' w', (Builtin.append_ #[23, 23] ty #[v, .slice (some ⟨X, 0, none⟩) 1 1]).run Try.prog w = .ok v' w' ∧ Own w' base v' (os ++ [p]) ∧ w.grownBy w' v.ownBlock := by
  obtain ⟨i, hi, hz, hs, hby⟩ := info_parts info104
  obtain ⟨v', w', hr, h2, h3, h4, h5⟩ := run_append_own_at (P := Try.prog) w base 23 ty 104 i _ 2 16 Try.underlying23 hi hz hs hby rfl (by decide) v os.length (flat os) h ⟨X, 0, none⟩ 1 1 p.cells rfl (fun j u hj => by rw [Addr.add_mid, Nat.zero_add, cell_of_row w X j _ _ _ hX, ← hj]; show p.cells.toArray[j]? = _; rw [List.getElem?_toArray]) (fun u hu => flat_one [p] u (by simpa [flat] using hu)) (by unfold maxLen; omega) (by omega) hb
  refine ⟨v', w', hr, ?_, h3⟩
  unfold Own
  rw [flat_append, List.length_append]
  exact h2
/-- A slice cut short. -/
theorem Olds.cut {w : World} {oa : Option Addr} {n cap : Nat} {os : List O} (h : Olds w (.slice oa n cap) os) (k : Nat) (hk : k ≤ os.length) : Olds w (.slice oa k cap) (os.take k) := by
  have hlk : (os.take k).length = k := by simp; omega
  rcases h with ⟨q, rfl⟩ | ⟨a, c, q, h⟩
  · cases q
    obtain rfl : k = 0 := by simpa using hk
    exact Or.inl ⟨rfl, rfl⟩
  · cases q
    refine Or.inr ⟨a, cap, by rw [hlk], fun j u hj => ?_⟩
    refine h j u ?_
    rw [flat_get] at hj ⊢
    rw [← hj, List.getElem?_take]
    by_cases q : j / 2 < k
    · rw [if_pos q]
    · rw [if_neg q] 
      rw [List.getElem?_take, if_neg q] at hj
      simp at hj
theorem Olds.hold {w : World} {v : Value} {os : List O} (h : Olds w v os) : ∃ oa cap, v = .slice oa os.length cap ∧ ∀ i, i < os.length → ∃ (a : Addr) (x0 : Int) (x1 : Int), oa = some a ∧ os[i]? = some ⟨x0, x1⟩ ∧ ∀ j u, ([.int .u32 x0, .int .u64 x1] : List Value)[j]? = some u → w.cell? ((a.add (i * 2)).add j) = some u := by
  obtain ⟨oa, cap, h1, h2⟩ := h.open
  refine ⟨oa, cap, h1, fun i hi => ?_⟩
  obtain ⟨a, ⟨x0, x1⟩, e1, e2, e3⟩ := h2 i hi
  exact ⟨a, x0, x1, e1, e2, e3⟩
end Go.Proofs.Ytgnedbagelhcbaa.St
namespace Go.Proofs.Ytgnedbagelhcbaa.St
open Go.ChangeShapes Go.WideShapes Go.ChangeAt Go.RowKit
set_option linter.unusedVariables false
set_option linter.unusedSimpArgs false
set_option maxRecDepth 20000

theorem yields_anyJ {P : Program} {ops : Array Oper} {S : World → Prop} {op : Oper} {a : Act} (hw : Region.wanted op (yielded ops a.tmps) = true) (ty : TypeId) (x : Operand) (ho : op.op = .load ty x)
    (p : Addr) (hx : a.eval x = .pointer (some p)) (cs : List Value) {d : TypeDesc} (hc : ∀ w, S w → ∀ j v, cs[j]? = some v → w.cell? (p.add j) = some v)
    (hu : P.underlying ty = some d) (hd : d.isRow = true) (hi : (P.info? ty).map (·.size) = some cs.length) : YieldsIf P ops S op (.agg cs.toArray) a := by
  refine Or.inl ⟨hw, fun w hS => ?_⟩
  have hl : (loadCells p cs.length).run P w = .ok cs.toArray w := run_loadCells_list (P := P) w p cs (hc w hS)
  have hrun : (loadVar ty p).run P w = .ok (.agg cs.toArray) w := by
    cases hq : P.info? ty with
    | none => simp [hq] at hi
    | some i =>
      have hs : i.size = cs.length := by simpa [hq] using hi
      have hagg : (isAgg ty).run P w = .ok true w := by
        unfold isAgg
        rw [Sem.run_bind, run_underlying hu w]
        cases d <;> simp_all
      simp [loadVar, Sem.run_bind, hagg, sizeOf, typeInfo, hq, hs, hl]
  unfold execOp
  simp only [ho, hx, Instr.loadAt, Instr.sureAddr, Sem.run_bind, Sem.run_pure, Result.andThen_ok, hrun]
theorem equal104 (o p : O) (w : World) : (Op.equalIn 10000 104 (.agg o.arr) (.agg p.arr)).run Try.prog w = .ok (decide (o.num = p.num) && decide (o.off = p.off)) w := by
  cases o with | mk a b =>
  cases p with | mk a' b' =>
  unfold O.arr
  go_simp
  by_cases h1 : a = a'
  · by_cases h2 : b = b'
    · subst h1 h2; simp
    · simp [h1, h2]
  · simp [h1]
end Go.Proofs.Ytgnedbagelhcbaa.St
namespace Go.Proofs.Ytgnedbagelhcbaa.Ck
open Go.ChangeShapes Go.WideShapes Go.ChangeAt Go.RowKit
set_option linter.unusedVariables false
set_option linter.unusedSimpArgs false

end Go.Proofs.Ytgnedbagelhcbaa.Ck
namespace Go.Proofs.Ytgnedbagelhcbaa
open Go.ChangeShapes Go.WideShapes Go.ChangeAt Go.RowKit
set_option linter.unusedVariables false
set_option linter.unusedSimpArgs false

theorem rhas_any (base len at_ : Int) (w : World) (hb : 0 ≤ base ∧ base ≤ 18446744073709551615) (hl : 0 ≤ len ∧ len ≤ 9223372036854775807) (ha : 0 ≤ at_ ∧ at_ ≤ 18446744073709551615) :
    Calls Try.prog 66 #[.int .u64 base, .int .i64 len, .int .u64 at_] w fun e w' => e = .returned (.bool (decide (base ≤ at_ ∧ at_ - base ≤ len))) ∧ w' = w := by
  by_cases h1 : base ≤ at_
  · have h1' : at_ ≥ base := h1
    by_cases h2 : at_ - base ≤ len
    · rw [decide_eq_true (⟨h1, h2⟩ : base ≤ at_ ∧ at_ - base ≤ len)]
      go_enter Try.func66, Try.ntmps66
      go_wp2
      go_ret
      exact ⟨rfl, rfl⟩
    · rw [decide_eq_false (fun q => h2 q.2 : ¬ (base ≤ at_ ∧ at_ - base ≤ len))]
      go_enter Try.func66, Try.ntmps66
      go_wp2
      go_ret
      exact ⟨rfl, rfl⟩
  · have h1' : ¬ at_ ≥ base := h1
    rw [decide_eq_false (fun q => h1 q.1 : ¬ (base ≤ at_ ∧ at_ - base ≤ len))]
    go_enter Try.func66, Try.ntmps66
    go_wp2
    go_ret
    exact ⟨rfl, rfl⟩
end Go.Proofs.Ytgnedbagelhcbaa
namespace Go.Proofs.Ytgnedbagelhcbaa
open Go.ChangeShapes Go.WideShapes Go.ChangeAt Go.RowKit
set_option linter.unusedVariables false
set_option linter.unusedSimpArgs false
set_option maxRecDepth 20000

/-- What was joined so far. -/
structure J where
  ep : Int
  str : List Int
  sts : List St.O
def J0 : J := ⟨0, [], []⟩
/-- Whether a chunk follows. -/
def okJ (first base : Int) (k : Nat) (j : J) (c : Ck.O) : Bool := decide (c.num = (first + k) % 4294967296 ∧ j.ep ≤ c.ep ∧ base ≤ c.off ∧ c.off - base ≤ j.str.length)
def nextJ (base : Int) (j : J) (c : Ck.O) : J := ⟨c.ep, j.str.take (c.off - base).toNat ++ nums c.txt, j.sts ++ [⟨c.num, c.off⟩]⟩
def runJ (first base : Int) : Nat → J → List Ck.O → J
  | _, j, [] => j
  | k, j, c :: r => if okJ first base k j c then runJ first base (k + 1) (nextJ base j c) r else j
/-- How many letters chunks hold. -/
def tot : List Ck.O → Nat
  | [] => 0
  | c :: r => c.txt.size + tot r
def baseJ : List Ck.O → Int
  | [] => 0
  | c :: _ => c.off
def joinR (first : Int) (os : List Ck.O) : J := runJ first (baseJ os) 0 J0 os
def joinB (first : Int) (os : List Ck.O) : Int := if (joinR first os).sts.length = 0 then 0 else baseJ os
/-- Chunks as they come in. -/
def Ck.O.Fits (c : Ck.O) : Prop := (0 ≤ c.ep ∧ c.ep ≤ 4294967295) ∧ (0 ≤ c.num ∧ c.num ≤ 4294967295) ∧ (0 ≤ c.off ∧ c.off ≤ 18446744073709551615)
/-- Behind so many chunks. -/
structure Inv (first : Int) (os : List Ck.O) (k : Nat) (j : J) : Prop where
  run : runJ first (baseJ os) k j (os.drop k) = joinR first os
  bytes : Bytes j.str
  room : j.str.length + tot (os.drop k) ≤ 1048576
  len : j.sts.length = k
  ep : 0 ≤ j.ep ∧ j.ep ≤ 4294967295
theorem Inv.start (first : Int) (os : List Ck.O) (h : tot os ≤ 1048576) : Inv first os 0 J0 :=
  ⟨rfl, fun y hy => absurd hy (by simp [J0]), by simpa [J0] using h, rfl, by simp [J0]⟩
theorem drop_at {os : List Ck.O} {k : Nat} {c : Ck.O} (h : os[k]? = some c) : os.drop k = c :: os.drop (k + 1) := by
  obtain ⟨hk, e⟩ := List.getElem?_eq_some_iff.1 h
  rw [List.drop_eq_getElem_cons hk, e]
theorem Inv.next {first : Int} {os : List Ck.O} {k : Nat} {j : J} (h : Inv first os k j) {c : Ck.O} (hc : os[k]? = some c) (hf : c.Fits) (hok : okJ first (baseJ os) k j c = true) : Inv first os (k + 1) (nextJ (baseJ os) j c) := by
  have hd := drop_at hc
  refine ⟨?_, ?_, ?_, by simp [nextJ, h.len], hf.1⟩
  · rw [← h.run, hd, runJ, if_pos hok]
  · exact (h.bytes.sub fun y hy => List.mem_of_mem_take hy).append (nums_bytes _)
  · have := h.room
    rw [hd, tot] at this
    simp only [nextJ, List.length_append, nums_length, List.length_take]
    omega
theorem Inv.stop {first : Int} {os : List Ck.O} {k : Nat} {j : J} (h : Inv first os k j) {c : Ck.O} (hc : os[k]? = some c) (hok : okJ first (baseJ os) k j c = false) : joinR first os = j := by
  rw [← h.run, drop_at hc, runJ, if_neg (by simp [hok])]
theorem Inv.done {first : Int} {os : List Ck.O} {k : Nat} {j : J} (h : Inv first os k j) (hk : os.length ≤ k) : joinR first os = j := by
  rw [← h.run, List.drop_eq_nil_of_le hk, runJ]
theorem joinB_is {first : Int} {os : List Ck.O} {j : J} (h : joinR first os = j) : joinB first os = if j.sts.length = 0 then 0 else baseJ os := by unfold joinB; rw [h]
theorem baseJ_at {os : List Ck.O} {c : Ck.O} (h : os[0]? = some c) : baseJ os = c.off := by
  cases os with
  | nil => simp at h
  | cons a r => simp at h; subst h; rfl
theorem ok_first {first : Int} {os : List Ck.O} {j : J} {c : Ck.O} (hf : 0 ≤ first ∧ first ≤ 4294967295) (h : os[0]? = some c) (hc : c.Fits) (he : j.ep ≤ c.ep) : okJ first (baseJ os) 0 j c = decide (c.num = first) := by
  unfold okJ
  rw [baseJ_at h]
  have : (first + ((0 : Nat) : Int)) % 4294967296 = first := by omega
  rw [this]
  by_cases q : c.num = first
  · rw [decide_eq_true q]
    exact decide_eq_true ⟨q, he, by omega, by omega⟩
  · rw [decide_eq_false q]
    exact decide_eq_false fun x => q x.1
/-- Behind Join. -/
def Joined (w : World) (first : Int) (os : List Ck.O) (ex : Ending) (w' : World) : Prop :=
  ∃ v', ex = .returned (.tuple #[.int .u64 (joinB first os), .string (strOfNums (joinR first os).str), v', .int .u32 (joinR first os).ep]) ∧ St.Own w' w.heap.size v' (joinR first os).sts ∧ Below w.heap.size w w'
theorem results_tmp4 {fn : Func} {t u v x : Tmp} (h : fn.results = #[.tmp t, .tmp u, .tmp v, .tmp x]) (tmps : Array Value) (P : Program) (w : World) :
    (results fn tmps).run P w = .ok (.tuple #[tmps.getD t undef, tmps.getD u undef, tmps.getD v undef, tmps.getD x undef]) w := by
  simp [results, h]
theorem next_str (j : J) (base : Int) (c : Ck.O) (D : Nat) (h : c.off - base = D) : (strOfNums j.str).extract 0 D ++ c.txt = strOfNums (nextJ base j c).str := by
  unfold nextJ; rw [extract_tx, h, Int.toNat_natCast, List.drop_zero, strOfNums_append, tx_nums]
theorem wrap_next (f : Int) (k : Nat) : (((f + (k : Int)) % 4294967296) + 1) % 4294967296 = (f + ((k + 1 : Nat) : Int)) % 4294967296 := by omega
theorem built78two (a b : Int) : (Try.prog.built 104 [(0, .int .u32 a), (1, .int .u64 b)]) = some #[.int .u32 a, .int .u64 b] := by kernel_rfl
theorem St.Own.lands {w : World} {base : Nat} {v : Value} {os : List St.O} (h : St.Own w base v os) (k : Nat) (hk : v.ownBlock = some k) : base ≤ k := (World.ownsRow.lt h k hk).1
theorem Ck.Olds.room {os : List Ck.O} {k : Nat} {c : Ck.O} (h : os[k]? = some c) : c.txt.size ≤ tot (os.drop k) := by
  rw [drop_at h, tot]; omega
end Go.Proofs.Ytgnedbagelhcbaa
namespace Go.Proofs.Ytgnedbagelhcbaa
open Go.ChangeShapes Go.WideShapes Go.ChangeAt Go.RowKit Go.Lib
set_option linter.unusedVariables false
set_option linter.unusedSimpArgs false
set_option maxRecDepth 20000

def by_ (l : List Int) : List Value := l.map (Value.int .u8)
def OwnB (w : World) (base : Nat) (v : Value) (l : List Int) : Prop := w.ownsRow base 5 1 v l.length (by_ l)
theorem OwnB.form {w : World} {base : Nat} {v : Value} {l : List Int} (h : OwnB w base v l) : ∃ oa cap, v = .slice oa l.length cap := by
  rcases h.2 with ⟨rfl, h2⟩ | ⟨g, cap, cur, rfl, _⟩
  · exact ⟨none, 0, by rw [h2]⟩
  · exact ⟨_, cap, rfl⟩
theorem OwnB.shape {w : World} {base n cap : Nat} {oa : Option Addr} {l : List Int} (h : OwnB w base (.slice oa n cap) l) : n = l.length ∧ n ≤ cap ∧ ((oa = none ∧ n = 0 ∧ cap = 0) ∨ ∃ g, oa = some ⟨g, 0, none⟩) := by
  rcases h.2 with ⟨q, h2⟩ | ⟨g, cap', cur, q, hb, hc, hle, _⟩
  · cases q; exact ⟨h2.symm, Nat.le_refl _, Or.inl ⟨rfl, rfl, rfl⟩⟩
  · cases q; exact ⟨rfl, hle, Or.inr ⟨g, rfl⟩⟩
theorem OwnB.keep {w w' : World} {base : Nat} {v : Value} {l : List Int} (h : OwnB w base v l) (hb : Below w.heap.size w w') : OwnB w' base v l := by
  have hl := World.ownsRow.lt h
  obtain ⟨h1, h2⟩ := h
  refine ⟨h1, ?_⟩
  rcases h2 with h2 | ⟨g, cap, cur, rfl, hb', hc, rest⟩
  · exact Or.inl h2
  · have := hl g (by simp [Value.ownBlock])
    exact Or.inr ⟨g, cap, cur, rfl, hb', (hb.block g this.2).trans hc, rest⟩
theorem OwnB.cut {w : World} {base n cap : Nat} {oa : Option Addr} {l : List Int} (h : OwnB w base (.slice oa n cap) l) (k : Nat) (hk : k ≤ l.length) : OwnB w base (.slice oa k cap) (l.take k) := by
  have hlk : (l.take k).length = k := by simp; omega
  obtain ⟨h1, h2⟩ := h
  refine ⟨by simp [by_], ?_⟩
  rcases h2 with ⟨q, h2⟩ | ⟨g', cap', cur, q, hb, hc, hle, hmx, hsz, ht⟩
  · cases q
    have : k = 0 := by omega
    subst this
    exact Or.inl ⟨rfl, by simp⟩
  · cases q
    refine Or.inr ⟨g', cap, cur, by rw [hlk], hb, hc, by rw [hlk]; omega, hmx, hsz, ?_⟩
    rw [hlk]
    have e : (by_ l).take (k * 1) = by_ (l.take k) := by simp [by_, List.map_take]
    rw [← e, ← ht, List.take_take]
    congr 1
    omega
theorem str_cells (s : ByteArray) : strCells s = by_ (nums s) := by
  unfold strCells by_ nums
  rw [List.map_map]; rfl
theorem OwnB.snoc {w : World} {base : Nat} {v : Value} {l : List Int} (h : OwnB w base v l) (s : ByteArray) (hb : base ≤ w.heap.size) (hn : l.length + s.size ≤ 100000000) (ty : TypeId) :
    ∃ v' w', (Builtin.append_ #[72, 9] ty #[v, .string s]).run Try.prog w = .ok v' w' ∧ OwnB w' base v' (l ++ nums s) ∧ w.grownBy w' v.ownBlock := by
  have hi5 : (Try.prog.info? 5).map (fun i => (i.zero, i.size, i.bytes)) = some (some (.int .u8 0), 1, 1) := by kernel_rfl
  obtain ⟨i, hi, hz, hs, hby⟩ := St.info_parts hi5
  obtain ⟨v', w', hr, h2, h3, _⟩ := run_append_own_string (P := Try.prog) w base 72 9 ty 5 i Try.underlying72 Try.underlying9 hi hz hs hby v l.length (by_ l) h s (by unfold maxLen; omega) (by omega) hb
  refine ⟨v', w', hr, ?_, h3⟩
  unfold OwnB
  rw [List.length_append, nums_length]
  have e : by_ (l ++ nums s) = by_ l ++ strCells s := by rw [str_cells]; simp [by_]
  rw [e]; exact h2
theorem OwnB.text {w : World} {base : Nat} {oa : Option Addr} {n cap : Nat} {l : List Int} (h : OwnB w base (.slice oa n cap) l) :
    (Go.convert 72 9 (.slice oa n cap)).run Try.prog w = .ok (.string (strOfNums l)) w := by
  have hcs := fun g hg => World.ownsRow.cells h (g := g) hg
  rcases h.2 with ⟨q, h2⟩ | ⟨g, cap', cur, q, hb, hc, hle, _⟩
  · cases q
    have : l = [] := List.eq_nil_of_length_eq_zero h2
    subst this
    go_simp
    try rfl
  · cases q
    refine run_convert_bytes_arg (P := Try.prog) w 72 5 Try.underlying72 Try.underlying5 g 0 l.length cap l rfl ?_ 9 Try.underlying9
    intro i hi
    have := hcs g rfl i (.int .u8 l[i]) (by simp [by_, hi])
    simpa [Addr.add_mid, hi] using this
/-- Two rows of different types are two blocks. -/
theorem rows_apart {w : World} {b1 b2 s1 s2 n1 n2 : Nat} {e1 e2 : TypeId} {v1 v2 : Value} {x1 x2 : List Value} (h1 : w.ownsRow b1 e1 s1 v1 n1 x1) (h2 : w.ownsRow b2 e2 s2 v2 n2 x2) (he : e1 ≠ e2) (k : Nat) (hk : v1.ownBlock = some k) : v2.ownBlock ≠ some k := fun q => by
  rcases h1.2 with ⟨p, _⟩ | ⟨g, cap, cur, p, _, hc, _⟩
  · subst p; simp [Value.ownBlock] at hk
  · rcases h2.2 with ⟨p2, _⟩ | ⟨g2, cap2, cur2, p2, _, hc2, _⟩
    · subst p2; simp [Value.ownBlock] at q
    · subst p; subst p2
      simp [Value.ownBlock] at hk q
      subst hk; subst q
      rw [hc] at hc2
      simp at hc2
      exact he hc2.2
theorem row_apart {w : World} {b1 s1 n1 g : Nat} {e1 t : TypeId} {v1 : Value} {x1 : List Value} {cs : Array Value} (h1 : w.ownsRow b1 e1 s1 v1 n1 x1) (h2 : Row w g cs t) (he : e1 ≠ t) : v1.ownBlock ≠ some g := fun q => by
  rcases h1.2 with ⟨p, _⟩ | ⟨g', cap, cur, p, _, hc, _⟩
  · subst p; simp [Value.ownBlock] at q
  · subst p
    simp [Value.ownBlock] at q
    subst q
    have h2' : w.heap[g']? = some (.cells cs t (0, 0)) := h2
    rw [hc] at h2'
    simp at h2'
    exact he h2'.2
theorem ownsRow_grown {w w' : World} {b1 b2 s1 s2 n1 n2 : Nat} {e1 e2 : TypeId} {v1 v2 : Value} {x1 x2 : List Value} (h1 : w.ownsRow b1 e1 s1 v1 n1 x1) (h2 : w.ownsRow b2 e2 s2 v2 n2 x2) (he : e1 ≠ e2) (hg : w.grownBy w' v2.ownBlock) : w'.ownsRow b1 e1 s1 v1 n1 x1 := by
  have hl := World.ownsRow.lt h1
  have ha := rows_apart h1 h2 he
  obtain ⟨h11, h12⟩ := h1
  refine ⟨h11, ?_⟩
  rcases h12 with q | ⟨g, cap, cur, rfl, hb', hc, rest⟩
  · exact Or.inl q
  · have hk := hl g (by simp [Value.ownBlock])
    exact Or.inr ⟨g, cap, cur, rfl, hb', (hg.block g hk.2 (fun q => ha g (by simp [Value.ownBlock]) q.symm)).trans hc, rest⟩
/-- append of a text, by what its run leaves. -/
theorem wp_append2 {T : Value → World → Prop} {w : World} {o : Oper} {a : Act} {K : Act → World → Prop} {Q : Exit → Act → World → Prop} (s x : Operand) (t u : TypeId)
    (ho : o.op = .call { callee := .builtin .append, args := #[s, x], argTypes := #[t, u] }) (sv v : Value) (hs : a.eval s = sv) (hx : a.eval x = v)
    (hr : ∀ ty, ∃ v' w', (Builtin.append_ #[t, u] ty #[sv, v]).run Try.prog w = .ok v' w' ∧ T v' w')
    (h : ∀ v' w', T v' w' → K (a.put o.dst v') w') : Oper.wp Try.prog o a w K Q := by
  obtain ⟨v', w', hrun, hT⟩ := hr o.type
  unfold Oper.wp
  simp [execOp, ho, resolve, invoke, builtin, hs, hx, hrun, Result.andThen]
  exact h v' w' hT
theorem wpList_load_any {P : Program} {ops : Array Oper} {rest : List Oper} {op : Oper} {a : Act} {w : World} {Q : Exit → Act → World → Prop} (hgd : op.guard = none) (ty : TypeId) (x : Operand) (ho : op.op = .load ty x)
    (p : Addr) (hx : a.eval x = .pointer (some p)) (cs : List Value) (d : TypeDesc) (hc : ∀ j v, cs[j]? = some v → w.cell? (p.add j) = some v)
    (hu : P.underlying ty = some d) (hd : d.isRow = true) (hi : (P.info? ty).map (·.size) = some cs.length)
    (h : wpList P ops Q rest (a.put op.dst (.agg cs.toArray)) w) : wpList P ops Q (op :: rest) a w := by
  refine wpList_plain hgd fun K hK => ?_
  have hl : (loadCells p cs.length).run P w = .ok cs.toArray w := run_loadCells_list (P := P) w p cs hc
  have hrun : (loadVar ty p).run P w = .ok (.agg cs.toArray) w := by
    cases hq : P.info? ty with
    | none => simp [hq] at hi
    | some i =>
      have hs : i.size = cs.length := by simpa [hq] using hi
      have hagg : (isAgg ty).run P w = .ok true w := by
        unfold isAgg
        rw [Sem.run_bind, run_underlying hu w]
        cases d <;> simp_all
      simp [loadVar, Sem.run_bind, hagg, sizeOf, typeInfo, hq, hs, hl]
  unfold Oper.wp execOp
  simp only [ho, hx, Instr.loadAt, Instr.sureAddr, Sem.run_bind, Sem.run_pure, Result.andThen_ok, hrun]
  exact hK _ _ h
theorem Row.grown {w w' : World} {k : Nat} {cs : Array Value} {t : TypeId} {row : Option Nat} (h : Row w k cs t) (hg : w.grownBy w' row) (hk : row ≠ some k) : Row w' k cs t := (hg.block k h.lt (fun q => hk q.symm)).trans h
end Go.Proofs.Ytgnedbagelhcbaa
