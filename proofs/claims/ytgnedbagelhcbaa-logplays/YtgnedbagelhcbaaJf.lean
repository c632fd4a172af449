/-
  Structs as values: their cells, lists of them in slices, copies of them. Plain facts on the framed texts of a stream: which frame a stream begins with, all whole frames with which it begins, and where they end. Proved here: ring.framed: the text of the frame with which a stream begins. Proved here: ring.texts, the function that it answers (for every loop body that keeps to the law of ranges over a function): the texts of the whole frames with which a stream begins, in order.
-/
import Derived.Test.YtgnedbagelhcbaaJe
import Derived.Laws.AppendOwnNone
import Derived.Maps.AppendAt
import Derived.Deep.MidRow
import Derived.Deep.CutBlock
import Derived.Great.BuildSlice
import Derived.Laws.Cover3
import Derived.Test.YtgnedbagelhcbaaFrame
import Derived.RangeFuncNested
import Derived.RangeFuncBound
import Derived.RangeFuncCalls
import Derived.RangeFuncLeaves
import Derived.Shelf.Abstract
import Derived.Shelf.RegionOpen
import Derived.OwnWalkIn
import Derived.TacticsInMore
import Derived.LoopNIn
import Derived.LoopIn
namespace Go.Proofs.Ytgnedbagelhcbaa.It
open Go.ChangeShapes Go.WideShapes Go.ChangeAt Go.RowKit
set_option linter.unusedVariables false
set_option linter.unusedSimpArgs false
structure O where
  lsn : Int
  txt : ByteArray
def O.zero : O := ⟨0, ByteArray.empty⟩
def O.cells (o : O) : List Value := [.int .u64 o.lsn, .string o.txt]
def O.arr (o : O) : Array Value := #[.int .u64 o.lsn, .string o.txt]
theorem O.cells_length (o : O) : o.cells.length = 2 := rfl
def flat (os : List O) : List Value := os.flatMap O.cells
theorem flat_length : ∀ os : List O, (flat os).length = os.length * 2
  | [] => rfl
  | o :: r => by
    have := flat_length r
    show (o.cells ++ flat r).length = _
    rw [List.length_append, this, O.cells_length]; simp; omega
theorem flat_at : ∀ (os : List O) (i j : Nat) (o : O), os[i]? = some o → j < 2 → (flat os)[i * 2 + j]? = o.cells[j]?
  | [], i, j, o, h, _ => by simp at h
  | p :: r, 0, j, o, h, hj => by
    simp at h; subst h
    show (p.cells ++ flat r)[0 * 2 + j]? = _
    rw [Nat.zero_mul, Nat.zero_add, List.getElem?_append_left (by rw [O.cells_length]; exact hj)]
  | p :: r, i + 1, j, o, h, hj => by
    simp at h
    show (p.cells ++ flat r)[(i + 1) * 2 + j]? = _
    rw [List.getElem?_append_right (by rw [O.cells_length]; omega), O.cells_length, show (i + 1) * 2 + j - 2 = i * 2 + j by omega]
    exact flat_at r i j o h hj
theorem flat_one : ∀ os : List O, ∀ u ∈ flat os, u.oneCell' = true := by
  intro os u hu
  obtain ⟨o, _, h⟩ := List.mem_flatMap.1 hu
  simp [O.cells] at h
  rcases h with rfl | rfl <;> rfl
theorem flat_append (a b : List O) : flat (a ++ b) = flat a ++ flat b := by simp [flat]
def Olds (w : World) (v : Value) (os : List O) : Prop :=
  (v = .slice none 0 0 ∧ os = []) ∨ ∃ a cap, v = .slice (some a) os.length cap ∧ ∀ j u, (flat os)[j]? = some u → w.cell? (a.add j) = some u
theorem cell_keep {w w' : World} {p : Addr} {u : Value} (h : w.cell? p = some u) (hb : Below w.heap.size w w') : w'.cell? p = some u := by
  rw [← h]
  refine World.cell?_of_block (hb.block _ ?_)
  unfold World.cell? at h
  by_cases q : p.block < w.heap.size
  · exact q
  · rw [Array.getElem?_eq_none (by omega)] at h; cases h
theorem Olds.keep {w w' : World} {v : Value} {os : List O} (h : Olds w v os) (hb : Below w.heap.size w w') : Olds w' v os := by
  rcases h with h | ⟨a, cap, rfl, h⟩
  · exact Or.inl h
  · exact Or.inr ⟨a, cap, rfl, fun j u hj => cell_keep (h j u hj) hb⟩
theorem add_add (a : Addr) (m j : Nat) : (a.add m).add j = a.add (m + j) := by
  unfold Addr.add
  by_cases h1 : m = 0
  · subst h1; simp
  · by_cases h2 : j = 0
    · subst h2; simp [h1]
    · rw [if_neg h2, if_neg h1, if_neg (by omega)]; simp; omega
theorem Olds.open {w : World} {v : Value} {os : List O} (h : Olds w v os) : ∃ oa cap, v = .slice oa os.length cap ∧ ∀ i, i < os.length → ∃ (a : Addr) (o : O), oa = some a ∧ os[i]? = some o ∧ ∀ j u, o.cells[j]? = some u → w.cell? ((a.add (i * 2)).add j) = some u := by
  rcases h with ⟨rfl, rfl⟩ | ⟨a, cap, rfl, h⟩
  · exact ⟨none, 0, rfl, fun i hi => absurd hi (by simp)⟩
  · refine ⟨some a, cap, rfl, fun i hi => ⟨a, os[i], rfl, by simp [hi], fun j u hj => ?_⟩⟩
    rw [add_add]
    have hj2 : j < 2 := by have := (List.getElem?_eq_some_iff.1 hj).1; simpa [O.cells] using this
    exact h _ u (by rw [flat_at os i j os[i] (by simp [hi]) hj2]; exact hj)
def Own (w : World) (base : Nat) (v : Value) (os : List O) : Prop := w.ownsRow base 83 2 v os.length (flat os)
theorem Own.olds {w : World} {base : Nat} {v : Value} {os : List O} (h : Own w base v os) : Olds w v os := by
  have hc := fun g hg => World.ownsRow.cells h (g := g) hg
  obtain ⟨h1, h2⟩ := h
  rcases h2 with ⟨rfl, h2⟩ | ⟨g, cap, cur, rfl, hb, hg, _⟩
  · exact Or.inl ⟨rfl, List.eq_nil_of_length_eq_zero h2⟩
  · exact Or.inr ⟨⟨g, 0, none⟩, cap, rfl, hc g rfl⟩
theorem Own.keep {w w' : World} {base : Nat} {v : Value} {os : List O} (h : Own w base v os) (hb : Below w.heap.size w w') : Own w' base v os := by
  have hl := World.ownsRow.lt h
  obtain ⟨h1, h2⟩ := h
  refine ⟨h1, ?_⟩
  rcases h2 with h2 | ⟨g, cap, cur, rfl, hb', hc, rest⟩
  · exact Or.inl h2
  · have := hl g (by simp [Value.ownBlock])
    exact Or.inr ⟨g, cap, cur, rfl, hb', (hb.block g this.2).trans hc, rest⟩
theorem info_parts {P : Program} {t : TypeId} {z : Option Value} {n b : Nat} (h : (P.info? t).map (fun i => (i.zero, i.size, i.bytes)) = some (z, n, b)) : ∃ i, P.info? t = some i ∧ i.zero = z ∧ i.size = n ∧ i.bytes = b := by
  obtain ⟨i, hi, e⟩ := Option.map_eq_some_iff.1 h
  simp only [Prod.mk.injEq] at e
  exact ⟨i, hi, e.1, e.2.1, e.2.2⟩
theorem info83 : (Try.prog.info? 83).map (fun i => (i.zero, i.size, i.bytes)) = some (some (.agg O.zero.arr), 2, 24) := by kernel_rfl
theorem flat_get (os : List O) (j : Nat) : (flat os)[j]? = (os[j / 2]?).bind (fun o => o.cells[j % 2]?) := by
  have e : j = j / 2 * 2 + j % 2 := by omega
  cases h : os[j / 2]? with
  | some o =>
    have := flat_at os (j / 2) (j % 2) o h (by omega)
    rw [← e] at this; rw [this]; rfl
  | none =>
    have hl : os.length ≤ j / 2 := by simpa using h
    rw [List.getElem?_eq_none (by rw [flat_length]; omega)]; rfl
theorem Own.other {w : World} {base : Nat} {v : Value} {os : List O} (h : Own w base v os) (j o : Nat) (x : Value) (hj : j < base) : Own (w.setCell ⟨j, o, none⟩ x) base v os := by
  obtain ⟨h1, h2⟩ := h
  refine ⟨h1, ?_⟩
  rcases h2 with h2 | ⟨g, cap, cur, rfl, hb', hc, rest⟩
  · exact Or.inl h2
  · exact Or.inr ⟨g, cap, cur, rfl, hb', by rw [Below.heap_setCell w _ x g (by show g ≠ j; omega)]; exact hc, rest⟩
theorem wp_copy {T : Value → World → Prop} {w : World} {o : Oper} {a : Act} {K : Act → World → Prop} {Q : Exit → Act → World → Prop} (s x : Operand) (t : TypeId)
    (ho : o.op = .call { callee := .builtin .append, args := #[s, x], argTypes := #[t, t] }) (sv v : Value) (hs : a.eval s = sv) (hx : a.eval x = v)
    (hr : ∀ ty, ∃ v' w', (Builtin.append_ #[t, t] ty #[sv, v]).run Try.prog w = .ok v' w' ∧ T v' w')
    (h : ∀ v' w', T v' w' → K (a.put o.dst v') w') : Oper.wp Try.prog o a w K Q := by
  obtain ⟨v', w', hrun, hT⟩ := hr o.type
  unfold Oper.wp
  simp [execOp, ho, resolve, invoke, builtin, hs, hx, hrun, Result.andThen]
  exact h v' w' hT
theorem wpList_copy {T : Value → World → Prop} {w : World} {ops : Array Oper} {rest : List Oper} {o : Oper} {a : Act} {Q : Exit → Act → World → Prop} (hgd : o.guard = none) (s x : Operand) (t : TypeId)
    (ho : o.op = .call { callee := .builtin .append, args := #[s, x], argTypes := #[t, t] }) (sv v : Value) (hs : a.eval s = sv) (hx : a.eval x = v)
    (hr : ∀ ty, ∃ v' w', (Builtin.append_ #[t, t] ty #[sv, v]).run Try.prog w = .ok v' w' ∧ T v' w')
    (h : ∀ v' w', T v' w' → wpList Try.prog ops Q rest (a.put o.dst v') w') : wpList Try.prog ops Q (o :: rest) a w := by
  refine wpList_plain hgd fun K hK => ?_
  obtain ⟨v', w', hrun, hT⟩ := hr o.type
  unfold Oper.wp
  simp [execOp, ho, resolve, invoke, builtin, hs, hx, hrun, Result.andThen]
  exact hK _ _ (h v' w' hT)
theorem run_copy (w : World) (ty : TypeId) (v : Value) (os : List O) (h : Olds w v os) (hn : os.length ≤ 1000000000) :
    ∃ v' w', (Builtin.append_ #[75, 75] ty #[.slice (some ⟨w.heap.size, 0, none⟩) 0 0, v]).run Try.prog (w.alloc (.cells #[] 83)) = .ok v' w' ∧ Own w' w.heap.size v' os ∧ Below w.heap.size w w' := by
  obtain ⟨i, hi, hz, hs, hb⟩ := info_parts info83
  have hown : (w.alloc (.cells #[] 83)).ownsRow w.heap.size 83 2 (.slice (some ⟨w.heap.size, 0, none⟩) 0 0) 0 [] := World.ownsRow_made w #[] 0 (Nat.le_refl _) (Nat.zero_le _) rfl
  have b0 : Below w.heap.size w (w.alloc (.cells #[] 83)) := (Below.refl _ _).alloc (Nat.le_refl _) _
  rcases h with ⟨rfl, rfl⟩ | ⟨a, cap, rfl, hc⟩
  · exact ⟨_, _, run_append_owned_none (P := Try.prog) (w := w.alloc (.cells #[] 83)) w.heap.size 75 ty 83 i 2 Try.underlying75 hi _ 0 [] hown, hown, b0⟩
  · obtain ⟨v', w', hr, h2, h3, h4, h5⟩ := run_append_own_at (P := Try.prog) (w.alloc (.cells #[] 83)) w.heap.size 75 ty 83 i _ 2 24 Try.underlying75 hi hz hs hb rfl (by decide) _ 0 [] hown a os.length cap (flat os) (flat_length os) (fun j u hj => cell_keep (hc j u hj) b0) (flat_one os) (by unfold maxLen; omega) (by omega) (by simp)
    refine ⟨v', w', hr, ?_, b0.grown h3 (by simp) (fun k hk => ?_)⟩
    · unfold Own; simpa using h2
    · simp [Value.ownBlock] at hk
      omega
theorem Own.alloc {w : World} {base : Nat} {v : Value} {os : List O} (h : Own w base v os) (o : Obj) : Own (w.alloc o) base v os := h.keep ((Below.refl _ _).alloc (Nat.le_refl _) _)
theorem Own.form {w : World} {base : Nat} {v : Value} {os : List O} (h : Own w base v os) : ∃ oa cap, v = .slice oa os.length cap := by
  rcases h.2 with ⟨rfl, h2⟩ | ⟨g, cap, cur, rfl, _⟩
  · exact ⟨none, 0, by rw [h2]⟩
  · exact ⟨_, cap, rfl⟩
theorem Olds.cut {w : World} {oa : Option Addr} {n cap : Nat} {os : List O} (h : Olds w (.slice oa n cap) os) (k : Nat) (hk : k ≤ os.length) : Olds w (.slice oa k cap) (os.take k) := by
  have hlk : (os.take k).length = k := by simp; omega
  rcases h with ⟨q, rfl⟩ | ⟨a, c, q, h⟩
  · cases q
    obtain rfl : k = 0 := by simpa using hk
    exact Or.inl ⟨rfl, rfl⟩
  · cases q
    refine Or.inr ⟨a, cap, by rw [hlk], fun j u hj => ?_⟩
    refine h j u ?_
    rw [flat_get] at hj ⊢
    rw [← hj, List.getElem?_take]
    by_cases q : j / 2 < k
    · rw [if_pos q]
    · rw [if_neg q]
      rw [List.getElem?_take, if_neg q] at hj
      simp at hj
theorem Olds.hold {w : World} {v : Value} {os : List O} (h : Olds w v os) : ∃ oa cap, v = .slice oa os.length cap ∧ ∀ i, i < os.length → ∃ (a : Addr) (x0 : Int) (x1 : ByteArray), oa = some a ∧ os[i]? = some ⟨x0, x1⟩ ∧ ∀ j u, ([.int .u64 x0, .string x1] : List Value)[j]? = some u → w.cell? ((a.add (i * 2)).add j) = some u := by
  obtain ⟨oa, cap, h1, h2⟩ := h.open
  refine ⟨oa, cap, h1, fun i hi => ?_⟩
  obtain ⟨a, ⟨x0, x1⟩, e1, e2, e3⟩ := h2 i hi
  exact ⟨a, x0, x1, e1, e2, e3⟩
end Go.Proofs.Ytgnedbagelhcbaa.It
namespace Go.Proofs.Ytgnedbagelhcbaa
open Go.ChangeShapes Go.WideShapes Go.ChangeAt Go.RowKit
set_option linter.unusedVariables false
set_option linter.unusedSimpArgs false
set_option maxRecDepth 20000
def frN (s : ByteArray) : Nat := (getN s 0 2).toNat
def frX (s : ByteArray) : ByteArray := s.extract 6 (6 + frN s)
def frH (s : ByteArray) : ByteArray := s.extract 0 (6 + frN s)
def frR (s : ByteArray) : ByteArray := s.extract (6 + frN s) s.size
def isF (s : ByteArray) : Bool := decide (6 + frN s ≤ s.size) && decide (frS (frX s) = frH s)
theorem isF_size {s : ByteArray} (h : isF s = true) : 6 + frN s ≤ s.size := by
  unfold isF at h; simp at h; exact h.1
theorem frR_size {s : ByteArray} (h : 6 + frN s ≤ s.size) : (frR s).size = s.size - (6 + frN s) := by
  unfold frR; rw [ByteArray.size_extract]; omega
def tx (s : ByteArray) : List ByteArray := if h : isF s = true then frX s :: tx (frR s) else []
termination_by s.size
decreasing_by
  have h1 := isF_size h
  rw [frR_size h1]; omega
theorem tx_yes {s : ByteArray} (h : isF s = true) : tx s = frX s :: tx (frR s) := by rw [tx, dif_pos h]
theorem tx_no {s : ByteArray} (h : isF s = false) : tx s = [] := by rw [tx, dif_neg (by simp [h])]
def lsns (p : Int) : List ByteArray → List It.O
  | [] => []
  | t :: r => ⟨p, t⟩ :: lsns (p + 6 + t.size) r
def hasP (base : Int) (s : ByteArray) (p : Int) : Bool := decide (base ≤ p ∧ p - base ≤ (s.size : Int))
def itS (base : Int) (s : ByteArray) (p : Int) : ByteArray := s.extract (p - base).toNat s.size
def itL (base : Int) (s : ByteArray) (p : Int) : List It.O := if hasP base s p then lsns p (tx (itS base s p)) else []
end Go.Proofs.Ytgnedbagelhcbaa
namespace Go.Proofs.Ytgnedbagelhcbaa
open Go.ChangeShapes Go.WideShapes Go.ChangeAt Go.RowKit
set_option linter.unusedVariables false
set_option linter.unusedSimpArgs false
set_option maxRecDepth 20000
end Go.Proofs.Ytgnedbagelhcbaa
namespace Go.Proofs.Ytgnedbagelhcbaa
open Go.ChangeShapes Go.WideShapes Go.ChangeAt Go.RowKit Go.Shelf
set_option linter.unusedVariables false
set_option linter.unusedSimpArgs false
set_option maxRecDepth 20000
attribute [local go_sem] Oper.semAt_some
end Go.Proofs.Ytgnedbagelhcbaa
