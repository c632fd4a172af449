/-
  Structs as values: their cells, lists of them in slices, copies of them. Plain facts on the framed texts of a stream: which frame a stream begins with, all whole frames with which it begins, and where they end. Proved here: ring.framed: the text of the frame with which a stream begins. Proved here: ring.texts, the function that it answers (for every loop body that keeps to the law of ranges over a function): the texts of the whole frames with which a stream begins, in order.
-/
import Derived.Test.YtgnedbagelhcbaaJe
import Derived.Laws.AppendOwnNone
import Derived.Maps.AppendAt
import Derived.Deep.MidRow
import Derived.Deep.CutBlock
import Derived.Great.BuildSlice
import Derived.Laws.Cover3
import Derived.Test.YtgnedbagelhcbaaFrame
import Derived.RangeFuncNested
import Derived.RangeFuncBound
import Derived.RangeFuncCalls
import Derived.RangeFuncLeaves
import Derived.Shelf.Abstract
import Derived.Shelf.RegionOpen
import Derived.OwnWalkIn
import Derived.TacticsInMore
import Derived.LoopNIn
import Derived.LoopIn
namespace Go.Proofs.Ytgnedbagelhcbaa.It
open Go.ChangeShapes Go.WideShapes Go.ChangeAt Go.RowKit
set_option linter.unusedVariables false
set_option linter.unusedSimpArgs false

/-- One of the list. -/
structure O where
  lsn : Int
  txt : ByteArray
def O.zero : O := ⟨0, ByteArray.empty⟩
def O.cells (o : O) : List Value := [.int .u64 o.lsn, .string o.txt]
def O.arr (o : O) : Array Value := #[.int .u64 o.lsn, .string o.txt]
theorem O.arr_toList (o : O) : o.arr.toList = o.cells := rfl
theorem O.cells_toArray (o : O) : o.cells.toArray = o.arr := rfl
theorem O.cells_length (o : O) : o.cells.length = 2 := rfl
def flat (os : List O) : List Value := os.flatMap O.cells
theorem flat_length : ∀ os : List O, (flat os).length = os.length * 2
  | [] => rfl
  | o :: r => by
    have := flat_length r
    show (o.cells ++ flat r).length = _
    rw [List.length_append, this, O.cells_length]; simp; omega
theorem flat_at : ∀ (os : List O) (i j : Nat) (o : O), os[i]? = some o → j < 2 → (flat os)[i * 2 + j]? = o.cells[j]?
  | [], i, j, o, h, _ => by simp at h
  | p :: r, 0, j, o, h, hj => by
    simp at h; subst h
    show (p.cells ++ flat r)[0 * 2 + j]? = _
    rw [Nat.zero_mul, Nat.zero_add, List.getElem?_append_left (by rw [O.cells_length]; exact hj)]
  | p :: r, i + 1, j, o, h, hj => by
    simp at h
    show (p.cells ++ flat r)[(i + 1) * 2 + j]? = _
    rw [List.getElem?_append_right (by rw [O.cells_length]; omega), O.cells_length, show (i + 1) * 2 + j - 2 = i * 2 + j by omega]
    exact flat_at r i j o h hj
theorem flat_one : ∀ os : List O, ∀ u ∈ flat os, u.oneCell' = true := by
  intro os u hu
  obtain ⟨o, _, h⟩ := List.mem_flatMap.1 hu
  simp [O.cells] at h
  rcases h with rfl | rfl <;> rfl
theorem flat_append (a b : List O) : flat (a ++ b) = flat a ++ flat b := by simp [flat]
def Olds (w : World) (v : Value) (os : List O) : Prop :=
  (v = .slice none 0 0 ∧ os = []) ∨ ∃ a cap, v = .slice (some a) os.length cap ∧ ∀ j u, (flat os)[j]? = some u → w.cell? (a.add j) = some u
theorem cell_keep {w w' : World} {p : Addr} {u : Value} (h : w.cell? p = some u) (hb : Below w.heap.size w w') : w'.cell? p = some u := by
  rw [← h]
  refine World.cell?_of_block (hb.block _ ?_)
  unfold World.cell? at h
  by_cases q : p.block < w.heap.size
  · exact q
  · rw [Array.getElem?_eq_none (by omega)] at h; cases h
theorem Olds.keep {w w' : World} {v : Value} {os : List O} (h : Olds w v os) (hb : Below w.heap.size w w') : Olds w' v os := by
  rcases h with h | ⟨a, cap, rfl, h⟩
  · exact Or.inl h
  · exact Or.inr ⟨a, cap, rfl, fun j u hj => cell_keep (h j u hj) hb⟩
theorem add_add (a : Addr) (m j : Nat) : (a.add m).add j = a.add (m + j) := by
  unfold Addr.add
  by_cases h1 : m = 0
  · subst h1; simp
  · by_cases h2 : j = 0
    · subst h2; simp [h1]
    · rw [if_neg h2, if_neg h1, if_neg (by omega)]; simp; omega
theorem Olds.open {w : World} {v : Value} {os : List O} (h : Olds w v os) : ∃ oa cap, v = .slice oa os.length cap ∧ ∀ i, i < os.length → ∃ (a : Addr) (o : O), oa = some a ∧ os[i]? = some o ∧ ∀ j u, o.cells[j]? = some u → w.cell? ((a.add (i * 2)).add j) = some u := by
  rcases h with ⟨rfl, rfl⟩ | ⟨a, cap, rfl, h⟩
  · exact ⟨none, 0, rfl, fun i hi => absurd hi (by simp)⟩
  · refine ⟨some a, cap, rfl, fun i hi => ⟨a, os[i], rfl, by simp [hi], fun j u hj => ?_⟩⟩
    rw [add_add]
    have hj2 : j < 2 := by have := (List.getElem?_eq_some_iff.1 hj).1; simpa [O.cells] using this
    exact h _ u (by rw [flat_at os i j os[i] (by simp [hi]) hj2]; exact hj)
def Own (w : World) (base : Nat) (v : Value) (os : List O) : Prop := w.ownsRow base 83 2 v os.length (flat os)
theorem Own.olds {w : World} {base : Nat} {v : Value} {os : List O} (h : Own w base v os) : Olds w v os := by
  have hc := fun g hg => World.ownsRow.cells h (g := g) hg
  obtain ⟨h1, h2⟩ := h
  rcases h2 with ⟨rfl, h2⟩ | ⟨g, cap, cur, rfl, hb, hg, _⟩
  · exact Or.inl ⟨rfl, List.eq_nil_of_length_eq_zero h2⟩
  · exact Or.inr ⟨⟨g, 0, none⟩, cap, rfl, hc g rfl⟩
theorem Own.keep {w w' : World} {base : Nat} {v : Value} {os : List O} (h : Own w base v os) (hb : Below w.heap.size w w') : Own w' base v os := by
  have hl := World.ownsRow.lt h
  obtain ⟨h1, h2⟩ := h
  refine ⟨h1, ?_⟩
  rcases h2 with h2 | ⟨g, cap, cur, rfl, hb', hc, rest⟩
  · exact Or.inl h2
  · have := hl g (by simp [Value.ownBlock])
    exact Or.inr ⟨g, cap, cur, rfl, hb', (hb.block g this.2).trans hc, rest⟩
theorem info_parts {P : Program} {t : TypeId} {z : Option Value} {n b : Nat} (h : (P.info? t).map (fun i => (i.zero, i.size, i.bytes)) = some (z, n, b)) : ∃ i, P.info? t = some i ∧ i.zero = z ∧ i.size = n ∧ i.bytes = b := by
  obtain ⟨i, hi, e⟩ := Option.map_eq_some_iff.1 h
  simp only [Prod.mk.injEq] at e
  exact ⟨i, hi, e.1, e.2.1, e.2.2⟩
theorem info83 : (Try.prog.info? 83).map (fun i => (i.zero, i.size, i.bytes)) = some (some (.agg O.zero.arr), 2, 24) := by kernel_rfl
theorem size83 : (Try.prog.info? 83).map (·.size) = some 2 := by kernel_rfl
theorem flat_get (os : List O) (j : Nat) : (flat os)[j]? = (os[j / 2]?).bind (fun o => o.cells[j % 2]?) := by
  have e : j = j / 2 * 2 + j % 2 := by omega
  cases h : os[j / 2]? with
  | some o =>
    have := flat_at os (j / 2) (j % 2) o h (by omega)
    rw [← e] at this; rw [this]; rfl
  | none =>
    have hl : os.length ≤ j / 2 := by simpa using h
    rw [List.getElem?_eq_none (by rw [flat_length]; omega)]; rfl
theorem Own.blk {w : World} {base : Nat} {v : Value} {os : List O} (h : Own w base v os) (hn : 0 < os.length) : ∃ g cap, v = .slice (some ⟨g, 0, none⟩) os.length cap ∧ base ≤ g := by
  rcases h.2 with ⟨rfl, h2⟩ | ⟨g, cap, cur, rfl, hb, _⟩
  · omega
  · exact ⟨g, cap, rfl, hb⟩
theorem Own.there {w : World} {base g n cap : Nat} {os : List O} (h : Own w base (.slice (some ⟨g, 0, none⟩) n cap) os) (s : Nat) (hs : s < os.length) : w.there g (s * 2) 2 := fun j hj => by
  rcases h.2 with ⟨q, _⟩ | ⟨g', cap', cur, q, hb, hc, hle, _, hsz, _⟩
  · cases q
  · cases q
    have r : Row w g cur 83 := hc
    refine ⟨?_, row_frozen r _⟩
    have hm : os.length * 2 ≤ cap * 2 := Nat.mul_le_mul_right _ hle
    rw [cell_of_row w g _ _ _ _ r, Array.getElem?_eq_getElem (by rw [hsz]; omega)]; rfl
theorem Own.other {w : World} {base : Nat} {v : Value} {os : List O} (h : Own w base v os) (j o : Nat) (x : Value) (hj : j < base) : Own (w.setCell ⟨j, o, none⟩ x) base v os := by
  obtain ⟨h1, h2⟩ := h
  refine ⟨h1, ?_⟩
  rcases h2 with h2 | ⟨g, cap, cur, rfl, hb', hc, rest⟩
  · exact Or.inl h2
  · exact Or.inr ⟨g, cap, cur, rfl, hb', by rw [Below.heap_setCell w _ x g (by show g ≠ j; omega)]; exact hc, rest⟩
theorem wp_copy {T : Value → World → Prop} {w : World} {o : Oper} {a : Act} {K : Act → World → Prop} {Q : Exit → Act → World → Prop} (s x : Operand) (t : TypeId)
    (ho : o.op = .call { callee := .builtin .append, args := #[s, x], argTypes := #[t, t] }) (sv v : Value) (hs : a.eval s = sv) (hx : a.eval x = v)
    (hr : ∀ ty, ∃ v' w', (Builtin.append_ #[t, t] ty #[sv, v]).run Try.prog w = .ok v' w' ∧ T v' w')
    (h : ∀ v' w', T v' w' → K (a.put o.dst v') w') : Oper.wp Try.prog o a w K Q := by
  obtain ⟨v', w', hrun, hT⟩ := hr o.type
  unfold Oper.wp
  simp [execOp, ho, resolve, invoke, builtin, hs, hx, hrun, Result.andThen]
  exact h v' w' hT
theorem wpList_copy {T : Value → World → Prop} {w : World} {ops : Array Oper} {rest : List Oper} {o : Oper} {a : Act} {Q : Exit → Act → World → Prop} (hgd : o.guard = none) (s x : Operand) (t : TypeId)
    (ho : o.op = .call { callee := .builtin .append, args := #[s, x], argTypes := #[t, t] }) (sv v : Value) (hs : a.eval s = sv) (hx : a.eval x = v)
    (hr : ∀ ty, ∃ v' w', (Builtin.append_ #[t, t] ty #[sv, v]).run Try.prog w = .ok v' w' ∧ T v' w')
    (h : ∀ v' w', T v' w' → wpList Try.prog ops Q rest (a.put o.dst v') w') : wpList Try.prog ops Q (o :: rest) a w := by
  refine wpList_plain hgd fun K hK => ?_
  obtain ⟨v', w', hrun, hT⟩ := hr o.type
  unfold Oper.wp
  simp [execOp, ho, resolve, invoke, builtin, hs, hx, hrun, Result.andThen]
  exact hK _ _ (h v' w' hT)

theorem run_copy (w : World) (ty : TypeId) (v : Value) (os : List O) (h : Olds w v os) (hn : os.length ≤ 1000000000) :
    ∃ v' w', (Builtin.append_ #[75, 75] ty #[.slice (some ⟨w.heap.size, 0, none⟩) 0 0, v]).run Try.prog (w.alloc (.cells #[] 83)) = .ok v' w' ∧ Own w' w.heap.size v' os ∧ Below w.heap.size w w' := by
  obtain ⟨i, hi, hz, hs, hb⟩ := info_parts info83
  have hown : (w.alloc (.cells #[] 83)).ownsRow w.heap.size 83 2 (.slice (some ⟨w.heap.size, 0, none⟩) 0 0) 0 [] := World.ownsRow_made w #[] 0 (Nat.le_refl _) (Nat.zero_le _) rfl
  have b0 : Below w.heap.size w (w.alloc (.cells #[] 83)) := (Below.refl _ _).alloc (Nat.le_refl _) _
  rcases h with ⟨rfl, rfl⟩ | ⟨a, cap, rfl, hc⟩
  · exact ⟨_, _, run_append_owned_none (P := Try.prog) (w := w.alloc (.cells #[] 83)) w.heap.size 75 ty 83 i 2 Try.underlying75 hi _ 0 [] hown, hown, b0⟩
  · obtain ⟨v', w', hr, h2, h3, h4, h5⟩ := run_append_own_at (P := Try.prog) (w.alloc (.cells #[] 83)) w.heap.size 75 ty 83 i _ 2 24 Try.underlying75 hi hz hs hb rfl (by decide) _ 0 [] hown a os.length cap (flat os) (flat_length os) (fun j u hj => cell_keep (hc j u hj) b0) (flat_one os) (by unfold maxLen; omega) (by omega) (by simp)
    refine ⟨v', w', hr, ?_, b0.grown h3 (by simp) (fun k hk => ?_)⟩
    · unfold Own; simpa using h2
    · simp [Value.ownBlock] at hk
      omega
/-- .. the same behind a draw. -/
theorem run_copy' (w : World) (ty : TypeId) (v : Value) (os : List O) (h : Olds w v os) (hn : os.length ≤ 1000000000) :
    ∃ v' w', (Builtin.append_ #[75, 75] ty #[.slice (some ⟨w.heap.size, 0, none⟩) 0 0, v]).run Try.prog (w.alloc (.cells #[] 83)).drew = .ok v' w' ∧ Own w' w.heap.size v' os ∧ Below w.heap.size w w' := by
  obtain ⟨i, hi, hz, hs, hb⟩ := info_parts info83
  have hown : (w.alloc (.cells #[] 83)).drew.ownsRow w.heap.size 83 2 (.slice (some ⟨w.heap.size, 0, none⟩) 0 0) 0 [] := World.ownsRow_made w #[] 0 (Nat.le_refl _) (Nat.zero_le _) rfl
  have b0 : Below w.heap.size w (w.alloc (.cells #[] 83)).drew := ((Below.refl _ _).alloc (Nat.le_refl _) _).drew
  rcases h with ⟨rfl, rfl⟩ | ⟨a, cap, rfl, hc⟩
  · exact ⟨_, _, run_append_owned_none (P := Try.prog) (w := (w.alloc (.cells #[] 83)).drew) w.heap.size 75 ty 83 i 2 Try.underlying75 hi _ 0 [] hown, hown, b0⟩
  · obtain ⟨v', w', hr, h2, h3, h4, h5⟩ := run_append_own_at (P := Try.prog) (w.alloc (.cells #[] 83)).drew w.heap.size 75 ty 83 i _ 2 24 Try.underlying75 hi hz hs hb rfl (by decide) _ 0 [] hown a os.length cap (flat os) (flat_length os) (fun j u hj => cell_keep (hc j u hj) b0) (flat_one os) (by unfold maxLen; omega) (by omega) (by simp)
    refine ⟨v', w', hr, ?_, b0.grown h3 (by simp) (fun k hk => ?_)⟩
    · unfold Own; simpa using h2
    · simp [Value.ownBlock] at hk
      omega
def Cop (w : World) (os : List O) (e : Ending) (w' : World) : Prop := ∃ v', e = .returned v' ∧ Own w' w.heap.size v' os ∧ Below w.heap.size w w'
theorem eql_nil (a : Option Addr) (l c : Nat) (w : World) : (binOp .eql 75 (.slice a l c) (.slice none 0 0)).run Try.prog w = .ok (.bool a.isNone) w := by
  simp only [binOp]
  simp [run_equal_slice_nil w 75 83 a l c Try.underlying75]
theorem Own.alloc {w : World} {base : Nat} {v : Value} {os : List O} (h : Own w base v os) (o : Obj) : Own (w.alloc o) base v os := h.keep ((Below.refl _ _).alloc (Nat.le_refl _) _)
theorem Own.form {w : World} {base : Nat} {v : Value} {os : List O} (h : Own w base v os) : ∃ oa cap, v = .slice oa os.length cap := by
  rcases h.2 with ⟨rfl, h2⟩ | ⟨g, cap, cur, rfl, _⟩
  · exact ⟨none, 0, by rw [h2]⟩
  · exact ⟨_, cap, rfl⟩
theorem Own.base {w : World} {base base' : Nat} {v : Value} {os : List O} (h : Own w base v os) (hb : base' ≤ base) : Own w base' v os := by
  obtain ⟨h1, h2⟩ := h
  refine ⟨h1, ?_⟩
  rcases h2 with h2 | ⟨g, cap, cur, rfl, hb', rest⟩
  · exact Or.inl h2
  · exact Or.inr ⟨g, cap, cur, rfl, by omega, rest⟩
theorem Own.snocP {w : World} {base : Nat} {v : Value} {os : List O} (h : Own w base v os) (ty : TypeId) (X : Nat) (p : O) (hX : Row w X p.arr 83) (hb : base ≤ w.heap.size) (hn : os.length ≤ 1000) :
    ∃ v' w', (Builtin.append_ #[75, 75] ty #[v, .slice (some ⟨X, 0, none⟩) 1 1]).run Try.prog w = .ok v' w' ∧ Own w' base v' (os ++ [p]) ∧ w.grownBy w' v.ownBlock := by
  obtain ⟨i, hi, hz, hs, hby⟩ := info_parts info83
  obtain ⟨v', w', hr, h2, h3, h4, h5⟩ := run_append_own_at (P := Try.prog) w base 75 ty 83 i _ 2 24 Try.underlying75 hi hz hs hby rfl (by decide) v os.length (flat os) h ⟨X, 0, none⟩ 1 1 p.cells rfl (fun j u hj => by rw [Addr.add_mid, Nat.zero_add, cell_of_row w X j _ _ _ hX, ← hj]; show p.cells.toArray[j]? = _; rw [List.getElem?_toArray]) (fun u hu => flat_one [p] u (by simpa [flat] using hu)) (by unfold maxLen; omega) (by omega) hb
  refine ⟨v', w', hr, ?_, h3⟩
  unfold Own
  rw [flat_append, List.length_append]
  exact h2
/-- A slice cut short. -/
theorem Olds.cut {w : World} {oa : Option Addr} {n cap : Nat} {os : List O} (h : Olds w (.slice oa n cap) os) (k : Nat) (hk : k ≤ os.length) : Olds w (.slice oa k cap) (os.take k) := by
  have hlk : (os.take k).length = k := by simp; omega
  rcases h with ⟨q, rfl⟩ | ⟨a, c, q, h⟩
  · cases q
    obtain rfl : k = 0 := by simpa using hk
    exact Or.inl ⟨rfl, rfl⟩
  · cases q
    refine Or.inr ⟨a, cap, by rw [hlk], fun j u hj => ?_⟩
    refine h j u ?_
    rw [flat_get] at hj ⊢
    rw [← hj, List.getElem?_take]
    by_cases q : j / 2 < k
    · rw [if_pos q]
    · rw [if_neg q] 
      rw [List.getElem?_take, if_neg q] at hj
      simp at hj
theorem Olds.hold {w : World} {v : Value} {os : List O} (h : Olds w v os) : ∃ oa cap, v = .slice oa os.length cap ∧ ∀ i, i < os.length → ∃ (a : Addr) (x0 : Int) (x1 : ByteArray), oa = some a ∧ os[i]? = some ⟨x0, x1⟩ ∧ ∀ j u, ([.int .u64 x0, .string x1] : List Value)[j]? = some u → w.cell? ((a.add (i * 2)).add j) = some u := by
  obtain ⟨oa, cap, h1, h2⟩ := h.open
  refine ⟨oa, cap, h1, fun i hi => ?_⟩
  obtain ⟨a, ⟨x0, x1⟩, e1, e2, e3⟩ := h2 i hi
  exact ⟨a, x0, x1, e1, e2, e3⟩
end Go.Proofs.Ytgnedbagelhcbaa.It
namespace Go.Proofs.Ytgnedbagelhcbaa
open Go.ChangeShapes Go.WideShapes Go.ChangeAt Go.RowKit
set_option linter.unusedVariables false
set_option linter.unusedSimpArgs false
set_option maxRecDepth 20000

/-- The length that stands at a stream's head. -/
def frN (s : ByteArray) : Nat := (getN s 0 2).toNat
theorem frN_cast (s : ByteArray) : ((frN s : Nat) : Int) = getN s 0 2 := by
  have := (getN_fits s 0 2).1
  unfold frN; omega
theorem frN_le (s : ByteArray) : frN s ≤ 65535 := by
  have h := (getN_fits s 0 2).2
  have h0 := (getN_fits s 0 2).1
  have e : (2 : Int) ^ (8 * 2) = 65536 := by decide
  unfold frN; rw [e] at h; omega
def frX (s : ByteArray) : ByteArray := s.extract 6 (6 + frN s)
def frH (s : ByteArray) : ByteArray := s.extract 0 (6 + frN s)
def frR (s : ByteArray) : ByteArray := s.extract (6 + frN s) s.size
/-- Whether a stream begins with a frame. -/
def isF (s : ByteArray) : Bool := decide (6 + frN s ≤ s.size) && decide (frS (frX s) = frH s)
theorem isF_size {s : ByteArray} (h : isF s = true) : 6 + frN s ≤ s.size := by
  unfold isF at h; simp at h; exact h.1
theorem isF_eq {s : ByteArray} (h : isF s = true) : frS (frX s) = frH s := by
  unfold isF at h; simp at h; exact h.2
theorem frX_size {s : ByteArray} (h : 6 + frN s ≤ s.size) : (frX s).size = frN s := by
  unfold frX; rw [ByteArray.size_extract]; omega
theorem frH_size {s : ByteArray} (h : 6 + frN s ≤ s.size) : (frH s).size = 6 + frN s := by
  unfold frH; rw [ByteArray.size_extract]; omega
theorem frR_size {s : ByteArray} (h : 6 + frN s ≤ s.size) : (frR s).size = s.size - (6 + frN s) := by
  unfold frR; rw [ByteArray.size_extract]; omega
theorem isF_fits {s : ByteArray} (h : isF s = true) : 1 ≤ frN s ∧ frN s ≤ 400 := by
  have h1 := isF_size h
  have h2 := isF_eq h
  have h3 := frX_size h1
  have h4 := frH_size h1
  by_cases q : okF (frX s) = true
  · unfold okF at q; simp only [decide_eq_true_eq] at q; omega
  · exfalso
    have e : frS (frX s) = { data := #[] } := by unfold frS; rw [if_neg q]
    rw [e] at h2
    rw [← h2] at h4
    have : ({ data := #[] } : ByteArray).size = 0 := rfl
    omega
/-- The texts of the whole frames with which a stream begins. -/
def tx (s : ByteArray) : List ByteArray := if h : isF s = true then frX s :: tx (frR s) else []
termination_by s.size
decreasing_by
  have h1 := isF_size h
  rw [frR_size h1]; omega
theorem tx_yes {s : ByteArray} (h : isF s = true) : tx s = frX s :: tx (frR s) := by rw [tx, dif_pos h]
theorem tx_no {s : ByteArray} (h : isF s = false) : tx s = [] := by rw [tx, dif_neg (by simp [h])]
/-- Items at their places, and where they end. -/
def lsns (p : Int) : List ByteArray → List It.O
  | [] => []
  | t :: r => ⟨p, t⟩ :: lsns (p + 6 + t.size) r
def endOf (p : Int) : List ByteArray → Int
  | [] => p
  | t :: r => endOf (p + 6 + t.size) r
theorem lsns_length : ∀ (p : Int) (l : List ByteArray), (lsns p l).length = l.length
  | _, [] => rfl
  | p, t :: r => by simp [lsns, lsns_length]
theorem lsns_snoc : ∀ (p : Int) (l : List ByteArray) (t : ByteArray), lsns p (l ++ [t]) = lsns p l ++ [⟨endOf p l, t⟩]
  | _, [], _ => rfl
  | p, a :: r, t => by simp [lsns, endOf, lsns_snoc]
theorem endOf_snoc : ∀ (p : Int) (l : List ByteArray) (t : ByteArray), endOf p (l ++ [t]) = endOf p l + 6 + t.size
  | _, [], _ => rfl
  | p, a :: r, t => by simp [endOf, endOf_snoc]
theorem endOf_ge : ∀ (p : Int) (l : List ByteArray), p ≤ endOf p l
  | p, [] => Int.le_refl _
  | p, a :: r => by have := endOf_ge (p + 6 + a.size) r; simp only [endOf]; omega
theorem endOf_le : ∀ (p : Int) (l : List ByteArray), (∀ t ∈ l, t.size ≤ 400) → endOf p l ≤ p + 406 * l.length
  | p, [], _ => by simp [endOf]
  | p, a :: r, h => by
    have h1 := endOf_le (p + 6 + a.size) r (fun t ht => h t (by simp [ht]))
    have h2 := h a (by simp)
    simp only [endOf, List.length_cons]; omega
theorem tx_fits (s : ByteArray) : (∀ t ∈ tx s, 1 ≤ t.size ∧ t.size ≤ 400) ∧ (∀ p, endOf p (tx s) ≤ p + s.size) ∧ 7 * (tx s).length ≤ s.size := by
  by_cases h : isF s = true
  · have h1 := isF_size h
    have h2 := isF_fits h
    have h3 := frX_size h1
    have h4 := frR_size h1
    have ih := tx_fits (frR s)
    rw [tx_yes h]
    refine ⟨?_, ?_, ?_⟩
    · intro t ht
      rcases List.mem_cons.1 ht with rfl | ht
      · omega
      · exact ih.1 t ht
    · intro p
      have := ih.2.1 (p + 6 + (frX s).size)
      simp only [endOf]; omega
    · have := ih.2.2
      simp only [List.length_cons]; omega
  · rw [tx_no (by simpa using h)]
    exact ⟨fun t ht => absurd ht (by simp), (fun p => by simp only [endOf]; omega), by simp⟩
termination_by s.size
decreasing_by
  rw [h4]; omega
/-- What Items tells. -/
def hasP (base : Int) (s : ByteArray) (p : Int) : Bool := decide (base ≤ p ∧ p - base ≤ (s.size : Int))
def itS (base : Int) (s : ByteArray) (p : Int) : ByteArray := s.extract (p - base).toNat s.size
def itL (base : Int) (s : ByteArray) (p : Int) : List It.O := if hasP base s p then lsns p (tx (itS base s p)) else []
def itE (base : Int) (s : ByteArray) (p : Int) : Int := if hasP base s p then endOf p (tx (itS base s p)) else p
/-- Behind Items. -/
def Itemed (w : World) (base : Int) (s : ByteArray) (p : Int) (ex : Ending) (w' : World) : Prop :=
  ∃ v', ex = .returned (.tuple #[v', .int .u64 (itE base s p)]) ∧ It.Own w' w.heap.size v' (itL base s p) ∧ Below w.heap.size w w'
end Go.Proofs.Ytgnedbagelhcbaa
namespace Go.Proofs.Ytgnedbagelhcbaa
open Go.ChangeShapes Go.WideShapes Go.ChangeAt Go.RowKit
set_option linter.unusedVariables false
set_option linter.unusedSimpArgs false
set_option maxRecDepth 20000

def gotF (s : ByteArray) : ByteArray := if isF s then frX s else { data := #[] }
set_option maxRecDepth 20000 in
set_option maxHeartbeats 2000000 in
theorem framed_any (s : ByteArray) (w : World) (hs : s.size ≤ maxLen) :
    Calls Try.prog 86 #[.string s] w fun ex w' => ex = .returned (.tuple #[.string (gotF s), .bool (isF s)]) ∧ Below w.heap.size w w' := by
  have HG : Hid _ := get_all s 0 2 hs (by decide) (by decide)
  rw [← frN_cast s] at HG
  have hN := frN_le s
  have HFR : Hid (∀ w, Calls Try.prog 41 #[.string (frX s)] w fun ex w' => ex = .returned (.string (frS (frX s))) ∧ Below w.heap.size w w') := fun w => frame_any (frX s) w (by unfold frX; rw [ByteArray.size_extract]; unfold maxLen at *; omega)
  unfold maxLen at hs
  have HX : Hid (s.extract 6 (6 + frN s) = frX s) := rfl
  have HH : Hid (s.extract 0 (6 + frN s) = frH s) := rfl
  have HIF : Hid (isF s = (decide (6 + frN s ≤ s.size) && decide (frS (frX s) = frH s))) := rfl
  have HGO : Hid (gotF s = if isF s then frX s else { data := #[] }) := rfl
  generalize frN s = N at HG hN HX HH HIF
  by_cases h1 : 6 + N ≤ s.size
  · have h1' : ¬ (6 + (N : Int)) > (s.size : Int) := by omega
    have ex : (6 + (N : Int)).toNat = 6 + N := by omega
    have hn0 : ¬ (6 + (N : Int)) < 0 := by omega
    rw [decide_eq_true h1] at HIF
    by_cases h2 : frS (frX s) = frH s
    · rw [decide_eq_true h2] at HIF
      have HI : Hid (isF s = true) := by show _ = _; rw [HIF.out]; rfl
      rw [HI.out, if_pos rfl] at HGO
      rw [HGO.out, HI.out]
      generalize frX s = X at HX HFR h2 ⊢
      generalize frH s = H at HH h2
      rw [h2] at HFR
      obtain ⟨hx, hh⟩ := And.intro HX.out HH.out
      have hb := (Below.refl w.heap.size w)
      go_enter Try.func86, Try.ntmps86
      go_upto_region 6 with (go_at_call 82; refine (HG.out _).mono ?_; clear HG; rintro e w1 ⟨rfl, rfl⟩)
      refine wp_region_held_drew (S := fun w' => Below w1.heap.size w1 w') (by kernel_rfl) hb.drew fun hS => ?_
      refine wpAnyH_take (i := 0) (v := .string X) rfl (by kernel_rfl) (by kernel_rfl) (by kernel_rfl) (fun _ _ _ h => h) (Or.inl ⟨by rfl, fun w _ => by go_simp⟩) hS ?_
      try simp only [Act.put, List.getElem_toArray, List.getElem_cons_zero, List.getElem_cons_succ, List.setIfInBounds_toArray, List.set_cons_zero, List.set_cons_succ]
      refine wpAnyH_take (i := 2) (v := .string s) rfl (by kernel_rfl) (by kernel_rfl) (by kernel_rfl) (fun _ _ _ h => h) (Or.inl ⟨by rfl, fun w _ => by go_simp⟩) hS ?_
      try simp only [Act.put, List.getElem_toArray, List.getElem_cons_zero, List.getElem_cons_succ, List.setIfInBounds_toArray, List.set_cons_zero, List.set_cons_succ]
      refine wpAnyH_take (i := 3) (v := .int .i64 (6 + (N : Int))) rfl (by kernel_rfl) (by kernel_rfl) (by kernel_rfl) (fun _ _ _ h => h) (Or.inl ⟨by rfl, fun w _ => by go_simp⟩) hS ?_
      try simp only [Act.put, List.getElem_toArray, List.getElem_cons_zero, List.getElem_cons_succ, List.setIfInBounds_toArray, List.set_cons_zero, List.set_cons_succ]
      refine wpAnyH_take (i := 4) (v := .string H) rfl (by kernel_rfl) (by kernel_rfl) (by kernel_rfl) (fun _ _ _ h => h) (Or.inl ⟨by rfl, fun w _ => by go_simp⟩) hS ?_
      try simp only [Act.put, List.getElem_toArray, List.getElem_cons_zero, List.getElem_cons_succ, List.setIfInBounds_toArray, List.set_cons_zero, List.set_cons_succ]
      refine wpAnyH_ready (rs := [1]) (by kernel_rfl) (by simp) ?_
      refine AllReadyH.cons rfl (fun K hK => ?_) AllReadyH.nil
      go_simp
      go_at_call 41
      refine Calls.mono (HFR.out _) ?_
      rintro e wc ⟨rfl, hcb⟩
      refine hK.out _ _ (hS.trans (hcb.mono hS.size)) fun hS => ?_
      try simp only [Act.put, List.getElem_toArray, List.getElem_cons_zero, List.getElem_cons_succ, List.setIfInBounds_toArray, List.set_cons_zero, List.set_cons_succ]
      clear hcb
      refine wpAnyH_take (i := 5) (v := .bool false) rfl (by kernel_rfl) (by kernel_rfl) (by kernel_rfl) (fun _ _ _ h => h) (Or.inl ⟨by rfl, fun w _ => by go_simp⟩) hS ?_
      try simp only [Act.put, List.getElem_toArray, List.getElem_cons_zero, List.getElem_cons_succ, List.setIfInBounds_toArray, List.set_cons_zero, List.set_cons_succ]
      refine wpAnyH_done (by kernel_rfl) ?_ _
      go_wp2
      go_ret2
      exact ⟨rfl, hS⟩
    · rw [decide_eq_false h2] at HIF
      have HI : Hid (isF s = false) := by show _ = _; rw [HIF.out]; rfl
      rw [HI.out, if_neg (by simp)] at HGO
      rw [HGO.out, HI.out]
      generalize frX s = X at HX HFR h2
      generalize frH s = H at HH h2
      generalize frS X = F at HFR h2
      obtain ⟨hx, hh⟩ := And.intro HX.out HH.out
      have h2' : ¬ F.toList = H.toList := fun q => h2 (bytes_inj q)
      have hb := (Below.refl w.heap.size w)
      go_enter Try.func86, Try.ntmps86
      go_upto_region 6 with (go_at_call 82; refine (HG.out _).mono ?_; clear HG; rintro e w1 ⟨rfl, rfl⟩)
      refine wp_region_held_drew (S := fun w' => Below w1.heap.size w1 w') (by kernel_rfl) hb.drew fun hS => ?_
      refine wpAnyH_take (i := 0) (v := .string X) rfl (by kernel_rfl) (by kernel_rfl) (by kernel_rfl) (fun _ _ _ h => h) (Or.inl ⟨by rfl, fun w _ => by go_simp⟩) hS ?_
      try simp only [Act.put, List.getElem_toArray, List.getElem_cons_zero, List.getElem_cons_succ, List.setIfInBounds_toArray, List.set_cons_zero, List.set_cons_succ]
      refine wpAnyH_take (i := 2) (v := .string s) rfl (by kernel_rfl) (by kernel_rfl) (by kernel_rfl) (fun _ _ _ h => h) (Or.inl ⟨by rfl, fun w _ => by go_simp⟩) hS ?_
      try simp only [Act.put, List.getElem_toArray, List.getElem_cons_zero, List.getElem_cons_succ, List.setIfInBounds_toArray, List.set_cons_zero, List.set_cons_succ]
      refine wpAnyH_take (i := 3) (v := .int .i64 (6 + (N : Int))) rfl (by kernel_rfl) (by kernel_rfl) (by kernel_rfl) (fun _ _ _ h => h) (Or.inl ⟨by rfl, fun w _ => by go_simp⟩) hS ?_
      try simp only [Act.put, List.getElem_toArray, List.getElem_cons_zero, List.getElem_cons_succ, List.setIfInBounds_toArray, List.set_cons_zero, List.set_cons_succ]
      refine wpAnyH_take (i := 4) (v := .string H) rfl (by kernel_rfl) (by kernel_rfl) (by kernel_rfl) (fun _ _ _ h => h) (Or.inl ⟨by rfl, fun w _ => by go_simp⟩) hS ?_
      try simp only [Act.put, List.getElem_toArray, List.getElem_cons_zero, List.getElem_cons_succ, List.setIfInBounds_toArray, List.set_cons_zero, List.set_cons_succ]
      refine wpAnyH_ready (rs := [1]) (by kernel_rfl) (by simp) ?_
      refine AllReadyH.cons rfl (fun K hK => ?_) AllReadyH.nil
      go_simp
      go_at_call 41
      refine Calls.mono (HFR.out _) ?_
      rintro e wc ⟨rfl, hcb⟩
      refine hK.out _ _ (hS.trans (hcb.mono hS.size)) fun hS => ?_
      try simp only [Act.put, List.getElem_toArray, List.getElem_cons_zero, List.getElem_cons_succ, List.setIfInBounds_toArray, List.set_cons_zero, List.set_cons_succ]
      clear hcb
      refine wpAnyH_take (i := 5) (v := .bool true) rfl (by kernel_rfl) (by kernel_rfl) (by kernel_rfl) (fun _ _ _ h => h) (Or.inl ⟨by rfl, fun w _ => by go_simp⟩) hS ?_
      try simp only [Act.put, List.getElem_toArray, List.getElem_cons_zero, List.getElem_cons_succ, List.setIfInBounds_toArray, List.set_cons_zero, List.set_cons_succ]
      refine wpAnyH_done (by kernel_rfl) ?_ _
      go_wp2
      go_ret2
      exact ⟨rfl, hS⟩
  · have h1' : (6 + (N : Int)) > (s.size : Int) := by omega
    rw [decide_eq_false h1] at HIF
    have HI : Hid (isF s = false) := by show _ = _; rw [HIF.out]; rfl
    rw [HI.out, if_neg (by simp)] at HGO
    rw [HGO.out, HI.out]
    clear HX HH HFR
    go_enter Try.func86, Try.ntmps86
    go_wp2_with (go_at_call 82; refine (HG.out _).mono ?_; clear HG; rintro e w1 ⟨rfl, rfl⟩)
    go_ret2
    exact ⟨rfl, Below.refl _ _⟩
end Go.Proofs.Ytgnedbagelhcbaa
namespace Go.Proofs.Ytgnedbagelhcbaa
open Go.ChangeShapes Go.WideShapes Go.ChangeAt Go.RowKit Go.Shelf
set_option linter.unusedVariables false
set_option linter.unusedSimpArgs false
set_option maxRecDepth 20000
attribute [local go_sem] Oper.semAt_some

/-- A text that may have a frame. -/
abbrev Tx := { t : ByteArray // t.size ≤ 400 }
def vals (l : List Tx) : List ByteArray := l.map (·.1)
theorem vals_snoc (l : List Tx) (x : Tx) : vals (l ++ [x]) = vals l ++ [x.1] := by simp [vals]
theorem vals_length (l : List Tx) : (vals l).length = l.length := by simp [vals]
def strLen : Value → Nat
  | .string b => b.size
  | _ => 0
theorem grown_none {W W' : World} (h : Below W.heap.size W W') : W.grownBy W' none := ⟨h.os, h.tape, h.output, h.size, fun k hk _ => h.block k hk⟩

set_option maxRecDepth 100000 in
set_option maxHeartbeats 2000000 in
theorem texts1_in (n : Nat) (hn : 2 ≤ n) (l Bn n₀ : Nat) (s : ByteArray) (hs : s.size ≤ maxLen) (J Jx : List Tx → World → Prop)
    (hY : ∀ pre x W, J pre W → pre.length < (tx s).length → YieldAt Fence.wide (n - 1) Try.prog l #[.string x.1] W fun e W' =>
      (e = .returned (.bool true) ∧ J (pre ++ [x]) W' ∧ Below n₀ W W') ∨ (e = .returned (.bool false) ∧ Jx (pre ++ [x]) W'))
    (W : World) (hJa : AbidesFrom W.heap.size J) (hBn : W.cell? ⟨Bn, 0, none⟩ = some (.string s)) (h0 : J [] W) :
    CallsIn Fence.wide n Try.prog 85 #[.func (.yield l) #[] #[], .pointer (some ⟨Bn, 0, none⟩)] W fun e W' => (∃ v, e = .returned v) ∧
      ((∃ ys, vals ys = tx s ∧ J ys W') ∨ (∃ pre, True ∧ Jx pre W')) := by
  refine callsIn_of_wp Try.func85 rfl trivial ?_ rfl
  simp only [Try.ntmps85, List.size_toArray, List.length_cons, List.length_nil, Nat.reduceAdd, Nat.reduceSub, Array.replicate_succ, Array.replicate_zero, List.push_toArray, List.append_toArray, List.nil_append, List.cons_append]
  gi_wp2
  gi_loopw [3] (fun p wr => ∃ (pre : List Tx) (r : ByteArray), p = .string r ∧ Hid (tx s = vals pre ++ tx r ∧ r.size ≤ maxLen ∧ J pre wr))
    (fun p wr => strLen p)
  case atStart =>
    exact ⟨[], s, rfl, rfl, hs, h0⟩
  case round =>
    obtain ⟨pre, r, rfl, HR⟩ := hrel
    have hr := HR.out.2.1
    have hn1 : 1 ≤ n := by omega
    have HF : Hid _ := fun w => framed_any r w hr
    cases hi : isF r with
    | false =>
      have HT : Hid (tx r = []) := tx_no hi
      rw [hi] at HF
      unfold maxLen at hr
      generalize gotF r = gg at HF
      gi_wp2_with (refine ⟨trivial, ?_⟩; gi_at_call 86; refine (callsIn_wide.2 (HF.out _)).mono ?_; clear HF; rintro e w1 ⟨rfl, b1⟩)
      refine ⟨fun _ h => (by cases h), ?_⟩
      gi_wp2
      refine bodyPost_ret (results_none rfl _ _ _) rfl ?_
      refine ⟨⟨_, rfl⟩, .inl ⟨pre, ?_, ?_⟩⟩
      · rw [HR.out.1, HT.out, List.append_nil]
      · exact hJa _ _ _ none HR.out.2.2 (grown_none b1) (fun r e => by cases e)
    | true =>
      have h1 := isF_size hi
      have h2 := isF_fits hi
      have h3 := frX_size h1
      have h4 := frR_size h1
      have HT : Hid (tx r = frX r :: tx (frR r)) := tx_yes hi
      have HG : Hid (gotF r = frX r) := by show _ = _; unfold gotF; rw [hi]; rfl
      rw [hi, HG.out] at HF
      have HRR : Hid (r.extract (6 + (frX r).size) r.size = frR r) := by show _ = _; rw [h3]; rfl
      have HL : Hid (pre.length < (tx s).length) := by show _ < _; rw [HR.out.1, HT.out, List.length_append, vals_length]; simp
      have hfx : (frX r).size ≤ 400 := by omega
      have hr2 : (frR r).size < r.size := by omega
      have hr3 : 6 + (frX r).size ≤ r.size := by omega
      clear h1 h2 h3 h4 hi HG
      obtain ⟨R, HRn⟩ : ∃ R, Hid (frR r = R) := ⟨_, rfl⟩
      rw [HRn.out] at HT HRR hr2
      generalize frX r = X at HF HT HRR hfx hr3
      have hrr := HRR.out
      unfold maxLen at hr
      have HY : Hid _ := fun W hJ => hY pre ⟨X, hfx⟩ W hJ HL.out
      gi_wp2_with (refine ⟨trivial, ?_⟩; gi_at_call 86; refine (callsIn_wide.2 (HF.out _)).mono ?_; clear HF; rintro e w1 ⟨rfl, b1⟩; obtain ⟨fn, tmps, assign, body, hy, hRd⟩ := HY.out w1 (hJa _ _ _ none HR.out.2.2 (grown_none b1) (fun r e => (nomatch e))); dsimp only at hy)
      refine hRd.mono ?_
      rintro e W3 (⟨rfl, hJ3, hk3⟩ | ⟨rfl, hJx3⟩)
      · gi_wp2
        go_roundw
        case rel => exact ⟨pre ++ [⟨X, hfx⟩], R, by rw [hrr], by rw [vals_snoc, HR.out.1, HT.out]; simp, by unfold maxLen; omega, hJ3⟩
        case measure => simp [strLen]; omega
      · gi_wp2
        refine bodyPost_ret (results_none rfl _ _ _) rfl ?_
        exact ⟨⟨_, rfl⟩, .inr ⟨_, trivial, hJx3⟩⟩

theorem texts_in (n : Nat) (s : ByteArray) (w : World) :
    CallsIn Fence.wide n Try.prog 67 #[.string s] w fun e w' => e = .returned (.func (.func 85) #[] #[.pointer (some ⟨w.heap.size, 0, none⟩)]) ∧ w' = w.alloc (.cells #[.string s] 9) := by
  refine callsIn_of_wp Try.func67 rfl trivial ?_ rfl
  simp only [Try.ntmps67, List.size_toArray, List.length_cons, List.length_nil, Nat.reduceAdd, Nat.reduceSub, Array.replicate_succ, Array.replicate_zero, List.push_toArray, List.append_toArray, List.nil_append, List.cons_append]
  gi_wp2
  go_ret
  exact ⟨rfl, rfl⟩

theorem texts_stops (n : Nat) (hn : 2 ≤ n) (Bn n₀ : Nat) (s : ByteArray) (hs : s.size ≤ maxLen) (w : World) (hBn : Bn < w.heap.size) (hn₀ : n₀ ≤ w.heap.size)
    (hc : w.cell? ⟨Bn, 0, none⟩ = some (.string s)) :
    SeqStopsK Fence.wide n Try.prog 85 #[.pointer (some ⟨Bn, 0, none⟩)] (fun x : Tx => #[Value.string x.1]) (Below n₀) (fun ys => vals ys = tx s) (fun _ => True) (tx s).length w := fun l J Jx W hW hJa _ hY h0 =>
  texts1_in n hn l Bn n₀ s hs J Jx hY W hJa ((hW.cell (p := ⟨Bn, 0, none⟩) hBn).trans hc) h0
end Go.Proofs.Ytgnedbagelhcbaa
