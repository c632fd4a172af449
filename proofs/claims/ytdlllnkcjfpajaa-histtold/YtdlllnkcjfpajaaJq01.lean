/-
  Structs as values: their cells, lists of them in slices, copies of them. Structs as values: their cells, lists of them in slices, copies of them. Structs as values: their cells, lists of them in slices, copies of them. Plain facts on a region that draws its order, and whose last operation waits for all the others: what holds of the world needs to hold until then alone.
-/
import Derived.Test.YtdlllnkcjfpajaaJq00
import Derived.Laws.AppendOwnNone
import Derived.Maps.AppendAt
import Derived.Deep.MidRow
import Derived.Deep.CutBlock
import Derived.Great.BuildSlice
import Derived.Laws.Cover3
namespace Go.Proofs.Ytdlllnkcjfpajaa.Sn
open Go.ChangeShapes Go.WideShapes Go.ChangeAt Go.RowKit
set_option linter.unusedVariables false
set_option linter.unusedSimpArgs false
structure O where
  page : Int
  ts : Int
def O.zero : O := ⟨0, 0⟩
def O.cells (o : O) : List Value := [.int .u16 o.page, .int .u32 o.ts]
def O.arr (o : O) : Array Value := #[.int .u16 o.page, .int .u32 o.ts]
theorem O.cells_length (o : O) : o.cells.length = 2 := rfl
def flat (os : List O) : List Value := os.flatMap O.cells
theorem flat_length : ∀ os : List O, (flat os).length = os.length * 2
  | [] => rfl
  | o :: r => by
    have := flat_length r
    show (o.cells ++ flat r).length = _
    rw [List.length_append, this, O.cells_length]; simp; omega
theorem flat_at : ∀ (os : List O) (i j : Nat) (o : O), os[i]? = some o → j < 2 → (flat os)[i * 2 + j]? = o.cells[j]?
  | [], i, j, o, h, _ => by simp at h
  | p :: r, 0, j, o, h, hj => by
    simp at h; subst h
    show (p.cells ++ flat r)[0 * 2 + j]? = _
    rw [Nat.zero_mul, Nat.zero_add, List.getElem?_append_left (by rw [O.cells_length]; exact hj)]
  | p :: r, i + 1, j, o, h, hj => by
    simp at h
    show (p.cells ++ flat r)[(i + 1) * 2 + j]? = _
    rw [List.getElem?_append_right (by rw [O.cells_length]; omega), O.cells_length, show (i + 1) * 2 + j - 2 = i * 2 + j by omega]
    exact flat_at r i j o h hj
theorem flat_one : ∀ os : List O, ∀ u ∈ flat os, u.oneCell' = true := by
  intro os u hu
  obtain ⟨o, _, h⟩ := List.mem_flatMap.1 hu
  simp [O.cells] at h
  rcases h with rfl | rfl <;> rfl
theorem flat_append (a b : List O) : flat (a ++ b) = flat a ++ flat b := by simp [flat]
def Olds (w : World) (v : Value) (os : List O) : Prop :=
  (v = .slice none 0 0 ∧ os = []) ∨ ∃ a cap, v = .slice (some a) os.length cap ∧ ∀ j u, (flat os)[j]? = some u → w.cell? (a.add j) = some u
theorem cell_keep {w w' : World} {p : Addr} {u : Value} (h : w.cell? p = some u) (hb : Below w.heap.size w w') : w'.cell? p = some u := by
  rw [← h]
  refine World.cell?_of_block (hb.block _ ?_)
  unfold World.cell? at h
  by_cases q : p.block < w.heap.size
  · exact q
  · rw [Array.getElem?_eq_none (by omega)] at h; cases h
theorem Olds.keep {w w' : World} {v : Value} {os : List O} (h : Olds w v os) (hb : Below w.heap.size w w') : Olds w' v os := by
  rcases h with h | ⟨a, cap, rfl, h⟩
  · exact Or.inl h
  · exact Or.inr ⟨a, cap, rfl, fun j u hj => cell_keep (h j u hj) hb⟩
theorem add_add (a : Addr) (m j : Nat) : (a.add m).add j = a.add (m + j) := by
  unfold Addr.add
  by_cases h1 : m = 0
  · subst h1; simp
  · by_cases h2 : j = 0
    · subst h2; simp [h1]
    · rw [if_neg h2, if_neg h1, if_neg (by omega)]; simp; omega
theorem Olds.open {w : World} {v : Value} {os : List O} (h : Olds w v os) : ∃ oa cap, v = .slice oa os.length cap ∧ ∀ i, i < os.length → ∃ (a : Addr) (o : O), oa = some a ∧ os[i]? = some o ∧ ∀ j u, o.cells[j]? = some u → w.cell? ((a.add (i * 2)).add j) = some u := by
  rcases h with ⟨rfl, rfl⟩ | ⟨a, cap, rfl, h⟩
  · exact ⟨none, 0, rfl, fun i hi => absurd hi (by simp)⟩
  · refine ⟨some a, cap, rfl, fun i hi => ⟨a, os[i], rfl, by simp [hi], fun j u hj => ?_⟩⟩
    rw [add_add]
    have hj2 : j < 2 := by have := (List.getElem?_eq_some_iff.1 hj).1; simpa [O.cells] using this
    exact h _ u (by rw [flat_at os i j os[i] (by simp [hi]) hj2]; exact hj)
def Own (w : World) (base : Nat) (v : Value) (os : List O) : Prop := w.ownsRow base 46 2 v os.length (flat os)
theorem Own.olds {w : World} {base : Nat} {v : Value} {os : List O} (h : Own w base v os) : Olds w v os := by
  have hc := fun g hg => World.ownsRow.cells h (g := g) hg
  obtain ⟨h1, h2⟩ := h
  rcases h2 with ⟨rfl, h2⟩ | ⟨g, cap, cur, rfl, hb, hg, _⟩
  · exact Or.inl ⟨rfl, List.eq_nil_of_length_eq_zero h2⟩
  · exact Or.inr ⟨⟨g, 0, none⟩, cap, rfl, hc g rfl⟩
theorem Own.keep {w w' : World} {base : Nat} {v : Value} {os : List O} (h : Own w base v os) (hb : Below w.heap.size w w') : Own w' base v os := by
  have hl := World.ownsRow.lt h
  obtain ⟨h1, h2⟩ := h
  refine ⟨h1, ?_⟩
  rcases h2 with h2 | ⟨g, cap, cur, rfl, hb', hc, rest⟩
  · exact Or.inl h2
  · have := hl g (by simp [Value.ownBlock])
    exact Or.inr ⟨g, cap, cur, rfl, hb', (hb.block g this.2).trans hc, rest⟩
theorem info_parts {P : Program} {t : TypeId} {z : Option Value} {n b : Nat} (h : (P.info? t).map (fun i => (i.zero, i.size, i.bytes)) = some (z, n, b)) : ∃ i, P.info? t = some i ∧ i.zero = z ∧ i.size = n ∧ i.bytes = b := by
  obtain ⟨i, hi, e⟩ := Option.map_eq_some_iff.1 h
  simp only [Prod.mk.injEq] at e
  exact ⟨i, hi, e.1, e.2.1, e.2.2⟩
theorem info46 : (Try.prog.info? 46).map (fun i => (i.zero, i.size, i.bytes)) = some (some (.agg O.zero.arr), 2, 8) := by kernel_rfl
theorem size46 : (Try.prog.info? 46).map (·.size) = some 2 := by kernel_rfl
theorem flat_get (os : List O) (j : Nat) : (flat os)[j]? = (os[j / 2]?).bind (fun o => o.cells[j % 2]?) := by
  have e : j = j / 2 * 2 + j % 2 := by omega
  cases h : os[j / 2]? with
  | some o =>
    have := flat_at os (j / 2) (j % 2) o h (by omega)
    rw [← e] at this; rw [this]; rfl
  | none =>
    have hl : os.length ≤ j / 2 := by simpa using h
    rw [List.getElem?_eq_none (by rw [flat_length]; omega)]; rfl
theorem Own.blk {w : World} {base : Nat} {v : Value} {os : List O} (h : Own w base v os) (hn : 0 < os.length) : ∃ g cap, v = .slice (some ⟨g, 0, none⟩) os.length cap ∧ base ≤ g := by
  rcases h.2 with ⟨rfl, h2⟩ | ⟨g, cap, cur, rfl, hb, _⟩
  · omega
  · exact ⟨g, cap, rfl, hb⟩
theorem Own.there {w : World} {base g n cap : Nat} {os : List O} (h : Own w base (.slice (some ⟨g, 0, none⟩) n cap) os) (s : Nat) (hs : s < os.length) : w.there g (s * 2) 2 := fun j hj => by
  rcases h.2 with ⟨q, _⟩ | ⟨g', cap', cur, q, hb, hc, hle, _, hsz, _⟩
  · cases q
  · cases q
    have r : Row w g cur 46 := hc
    refine ⟨?_, row_frozen r _⟩
    have hm : os.length * 2 ≤ cap * 2 := Nat.mul_le_mul_right _ hle
    rw [cell_of_row w g _ _ _ _ r, Array.getElem?_eq_getElem (by rw [hsz]; omega)]; rfl
theorem wp_copy {T : Value → World → Prop} {w : World} {o : Oper} {a : Act} {K : Act → World → Prop} {Q : Exit → Act → World → Prop} (s x : Operand) (t : TypeId)
    (ho : o.op = .call { callee := .builtin .append, args := #[s, x], argTypes := #[t, t] }) (sv v : Value) (hs : a.eval s = sv) (hx : a.eval x = v)
    (hr : ∀ ty, ∃ v' w', (Builtin.append_ #[t, t] ty #[sv, v]).run Try.prog w = .ok v' w' ∧ T v' w')
    (h : ∀ v' w', T v' w' → K (a.put o.dst v') w') : Oper.wp Try.prog o a w K Q := by
  obtain ⟨v', w', hrun, hT⟩ := hr o.type
  unfold Oper.wp
  simp [execOp, ho, resolve, invoke, builtin, hs, hx, hrun, Result.andThen]
  exact h v' w' hT
theorem wpList_copy {T : Value → World → Prop} {w : World} {ops : Array Oper} {rest : List Oper} {o : Oper} {a : Act} {Q : Exit → Act → World → Prop} (hgd : o.guard = none) (s x : Operand) (t : TypeId)
    (ho : o.op = .call { callee := .builtin .append, args := #[s, x], argTypes := #[t, t] }) (sv v : Value) (hs : a.eval s = sv) (hx : a.eval x = v)
    (hr : ∀ ty, ∃ v' w', (Builtin.append_ #[t, t] ty #[sv, v]).run Try.prog w = .ok v' w' ∧ T v' w')
    (h : ∀ v' w', T v' w' → wpList Try.prog ops Q rest (a.put o.dst v') w') : wpList Try.prog ops Q (o :: rest) a w := by
  refine wpList_plain hgd fun K hK => ?_
  obtain ⟨v', w', hrun, hT⟩ := hr o.type
  unfold Oper.wp
  simp [execOp, ho, resolve, invoke, builtin, hs, hx, hrun, Result.andThen]
  exact hK _ _ (h v' w' hT)
theorem Own.alloc {w : World} {base : Nat} {v : Value} {os : List O} (h : Own w base v os) (o : Obj) : Own (w.alloc o) base v os := h.keep ((Below.refl _ _).alloc (Nat.le_refl _) _)
theorem Own.form {w : World} {base : Nat} {v : Value} {os : List O} (h : Own w base v os) : ∃ oa cap, v = .slice oa os.length cap := by
  rcases h.2 with ⟨rfl, h2⟩ | ⟨g, cap, cur, rfl, _⟩
  · exact ⟨none, 0, by rw [h2]⟩
  · exact ⟨_, cap, rfl⟩
theorem Own.base {w : World} {base base' : Nat} {v : Value} {os : List O} (h : Own w base v os) (hb : base' ≤ base) : Own w base' v os := by
  obtain ⟨h1, h2⟩ := h
  refine ⟨h1, ?_⟩
  rcases h2 with h2 | ⟨g, cap, cur, rfl, hb', rest⟩
  · exact Or.inl h2
  · exact Or.inr ⟨g, cap, cur, rfl, by omega, rest⟩
theorem Own.snocP {w : World} {base : Nat} {v : Value} {os : List O} (h : Own w base v os) (ty : TypeId) (X : Nat) (p : O) (hX : Row w X p.arr 46) (hb : base ≤ w.heap.size) (hn : os.length ≤ 1000) :
    ∃ v' w', (Builtin.append_ #[36, 36] ty #[v, .slice (some ⟨X, 0, none⟩) 1 1]).run Try.prog w = .ok v' w' ∧ Own w' base v' (os ++ [p]) ∧ w.grownBy w' v.ownBlock := by
  obtain ⟨i, hi, hz, hs, hby⟩ := info_parts info46
  obtain ⟨v', w', hr, h2, h3, h4, h5⟩ := run_append_own_at (P := Try.prog) w base 36 ty 46 i _ 2 8 Try.underlying36 hi hz hs hby rfl (by decide) v os.length (flat os) h ⟨X, 0, none⟩ 1 1 p.cells rfl (fun j u hj => by rw [Addr.add_mid, Nat.zero_add, cell_of_row w X j _ _ _ hX, ← hj]; show p.cells.toArray[j]? = _; rw [List.getElem?_toArray]) (fun u hu => flat_one [p] u (by simpa [flat] using hu)) (by unfold maxLen; omega) (by omega) hb
  refine ⟨v', w', hr, ?_, h3⟩
  unfold Own
  rw [flat_append, List.length_append]
  exact h2
theorem Olds.hold {w : World} {v : Value} {os : List O} (h : Olds w v os) : ∃ oa cap, v = .slice oa os.length cap ∧ ∀ i, i < os.length → ∃ (a : Addr) (x0 : Int) (x1 : Int), oa = some a ∧ os[i]? = some ⟨x0, x1⟩ ∧ ∀ j u, ([.int .u16 x0, .int .u32 x1] : List Value)[j]? = some u → w.cell? ((a.add (i * 2)).add j) = some u := by
  obtain ⟨oa, cap, h1, h2⟩ := h.open
  refine ⟨oa, cap, h1, fun i hi => ?_⟩
  obtain ⟨a, ⟨x0, x1⟩, e1, e2, e3⟩ := h2 i hi
  exact ⟨a, x0, x1, e1, e2, e3⟩
end Go.Proofs.Ytdlllnkcjfpajaa.Sn
namespace Go.Proofs.Ytdlllnkcjfpajaa.Pg
open Go.ChangeShapes Go.WideShapes Go.ChangeAt Go.RowKit
set_option linter.unusedVariables false
set_option linter.unusedSimpArgs false
structure O where
  x : Int
def O.zero : O := ⟨0⟩
def O.cells (o : O) : List Value := [.int .u16 o.x]
def O.arr (o : O) : Array Value := #[.int .u16 o.x]
theorem O.cells_length (o : O) : o.cells.length = 1 := rfl
def flat (os : List O) : List Value := os.flatMap O.cells
theorem flat_length : ∀ os : List O, (flat os).length = os.length * 1
  | [] => rfl
  | o :: r => by
    have := flat_length r
    show (o.cells ++ flat r).length = _
    rw [List.length_append, this, O.cells_length]; simp; omega
theorem flat_at : ∀ (os : List O) (i j : Nat) (o : O), os[i]? = some o → j < 1 → (flat os)[i * 1 + j]? = o.cells[j]?
  | [], i, j, o, h, _ => by simp at h
  | p :: r, 0, j, o, h, hj => by
    simp at h; subst h
    show (p.cells ++ flat r)[0 * 1 + j]? = _
    rw [Nat.zero_mul, Nat.zero_add, List.getElem?_append_left (by rw [O.cells_length]; exact hj)]
  | p :: r, i + 1, j, o, h, hj => by
    simp at h
    show (p.cells ++ flat r)[(i + 1) * 1 + j]? = _
    rw [List.getElem?_append_right (by rw [O.cells_length]; omega), O.cells_length, show (i + 1) * 1 + j - 1 = i * 1 + j by omega]
    exact flat_at r i j o h hj
theorem flat_one : ∀ os : List O, ∀ u ∈ flat os, u.oneCell' = true := by
  intro os u hu
  obtain ⟨o, _, h⟩ := List.mem_flatMap.1 hu
  simp [O.cells] at h
  rcases h with rfl <;> rfl
theorem flat_append (a b : List O) : flat (a ++ b) = flat a ++ flat b := by simp [flat]
def Olds (w : World) (v : Value) (os : List O) : Prop :=
  (v = .slice none 0 0 ∧ os = []) ∨ ∃ a cap, v = .slice (some a) os.length cap ∧ ∀ j u, (flat os)[j]? = some u → w.cell? (a.add j) = some u
theorem cell_keep {w w' : World} {p : Addr} {u : Value} (h : w.cell? p = some u) (hb : Below w.heap.size w w') : w'.cell? p = some u := by
  rw [← h]
  refine World.cell?_of_block (hb.block _ ?_)
  unfold World.cell? at h
  by_cases q : p.block < w.heap.size
  · exact q
  · rw [Array.getElem?_eq_none (by omega)] at h; cases h
theorem Olds.keep {w w' : World} {v : Value} {os : List O} (h : Olds w v os) (hb : Below w.heap.size w w') : Olds w' v os := by
  rcases h with h | ⟨a, cap, rfl, h⟩
  · exact Or.inl h
  · exact Or.inr ⟨a, cap, rfl, fun j u hj => cell_keep (h j u hj) hb⟩
theorem add_add (a : Addr) (m j : Nat) : (a.add m).add j = a.add (m + j) := by
  unfold Addr.add
  by_cases h1 : m = 0
  · subst h1; simp
  · by_cases h2 : j = 0
    · subst h2; simp [h1]
    · rw [if_neg h2, if_neg h1, if_neg (by omega)]; simp; omega
theorem Olds.open {w : World} {v : Value} {os : List O} (h : Olds w v os) : ∃ oa cap, v = .slice oa os.length cap ∧ ∀ i, i < os.length → ∃ (a : Addr) (o : O), oa = some a ∧ os[i]? = some o ∧ ∀ j u, o.cells[j]? = some u → w.cell? ((a.add (i * 1)).add j) = some u := by
  rcases h with ⟨rfl, rfl⟩ | ⟨a, cap, rfl, h⟩
  · exact ⟨none, 0, rfl, fun i hi => absurd hi (by simp)⟩
  · refine ⟨some a, cap, rfl, fun i hi => ⟨a, os[i], rfl, by simp [hi], fun j u hj => ?_⟩⟩
    rw [add_add]
    have hj2 : j < 1 := by have := (List.getElem?_eq_some_iff.1 hj).1; simpa [O.cells] using this
    exact h _ u (by rw [flat_at os i j os[i] (by simp [hi]) hj2]; exact hj)
def Own (w : World) (base : Nat) (v : Value) (os : List O) : Prop := w.ownsRow base 44 1 v os.length (flat os)
theorem Own.olds {w : World} {base : Nat} {v : Value} {os : List O} (h : Own w base v os) : Olds w v os := by
  have hc := fun g hg => World.ownsRow.cells h (g := g) hg
  obtain ⟨h1, h2⟩ := h
  rcases h2 with ⟨rfl, h2⟩ | ⟨g, cap, cur, rfl, hb, hg, _⟩
  · exact Or.inl ⟨rfl, List.eq_nil_of_length_eq_zero h2⟩
  · exact Or.inr ⟨⟨g, 0, none⟩, cap, rfl, hc g rfl⟩
theorem Own.keep {w w' : World} {base : Nat} {v : Value} {os : List O} (h : Own w base v os) (hb : Below w.heap.size w w') : Own w' base v os := by
  have hl := World.ownsRow.lt h
  obtain ⟨h1, h2⟩ := h
  refine ⟨h1, ?_⟩
  rcases h2 with h2 | ⟨g, cap, cur, rfl, hb', hc, rest⟩
  · exact Or.inl h2
  · have := hl g (by simp [Value.ownBlock])
    exact Or.inr ⟨g, cap, cur, rfl, hb', (hb.block g this.2).trans hc, rest⟩
theorem info_parts {P : Program} {t : TypeId} {z : Option Value} {n b : Nat} (h : (P.info? t).map (fun i => (i.zero, i.size, i.bytes)) = some (z, n, b)) : ∃ i, P.info? t = some i ∧ i.zero = z ∧ i.size = n ∧ i.bytes = b := by
  obtain ⟨i, hi, e⟩ := Option.map_eq_some_iff.1 h
  simp only [Prod.mk.injEq] at e
  exact ⟨i, hi, e.1, e.2.1, e.2.2⟩
theorem info44 : (Try.prog.info? 44).map (fun i => (i.zero, i.size, i.bytes)) = some (some (.int .u16 0), 1, 2) := by kernel_rfl
theorem flat_get (os : List O) (j : Nat) : (flat os)[j]? = (os[j / 1]?).bind (fun o => o.cells[j % 1]?) := by
  have e : j = j / 1 * 1 + j % 1 := by omega
  cases h : os[j / 1]? with
  | some o =>
    have := flat_at os (j / 1) (j % 1) o h (by omega)
    rw [← e] at this; rw [this]; rfl
  | none =>
    have hl : os.length ≤ j / 1 := by simpa using h
    rw [List.getElem?_eq_none (by rw [flat_length]; omega)]; rfl
theorem Own.blk {w : World} {base : Nat} {v : Value} {os : List O} (h : Own w base v os) (hn : 0 < os.length) : ∃ g cap, v = .slice (some ⟨g, 0, none⟩) os.length cap ∧ base ≤ g := by
  rcases h.2 with ⟨rfl, h2⟩ | ⟨g, cap, cur, rfl, hb, _⟩
  · omega
  · exact ⟨g, cap, rfl, hb⟩
theorem Own.there {w : World} {base g n cap : Nat} {os : List O} (h : Own w base (.slice (some ⟨g, 0, none⟩) n cap) os) (s : Nat) (hs : s < os.length) : w.there g (s * 1) 1 := fun j hj => by
  rcases h.2 with ⟨q, _⟩ | ⟨g', cap', cur, q, hb, hc, hle, _, hsz, _⟩
  · cases q
  · cases q
    have r : Row w g cur 44 := hc
    refine ⟨?_, row_frozen r _⟩
    have hm : os.length * 1 ≤ cap * 1 := Nat.mul_le_mul_right _ hle
    rw [cell_of_row w g _ _ _ _ r, Array.getElem?_eq_getElem (by rw [hsz]; omega)]; rfl
theorem wp_copy {T : Value → World → Prop} {w : World} {o : Oper} {a : Act} {K : Act → World → Prop} {Q : Exit → Act → World → Prop} (s x : Operand) (t : TypeId)
    (ho : o.op = .call { callee := .builtin .append, args := #[s, x], argTypes := #[t, t] }) (sv v : Value) (hs : a.eval s = sv) (hx : a.eval x = v)
    (hr : ∀ ty, ∃ v' w', (Builtin.append_ #[t, t] ty #[sv, v]).run Try.prog w = .ok v' w' ∧ T v' w')
    (h : ∀ v' w', T v' w' → K (a.put o.dst v') w') : Oper.wp Try.prog o a w K Q := by
  obtain ⟨v', w', hrun, hT⟩ := hr o.type
  unfold Oper.wp
  simp [execOp, ho, resolve, invoke, builtin, hs, hx, hrun, Result.andThen]
  exact h v' w' hT
theorem wpList_copy {T : Value → World → Prop} {w : World} {ops : Array Oper} {rest : List Oper} {o : Oper} {a : Act} {Q : Exit → Act → World → Prop} (hgd : o.guard = none) (s x : Operand) (t : TypeId)
    (ho : o.op = .call { callee := .builtin .append, args := #[s, x], argTypes := #[t, t] }) (sv v : Value) (hs : a.eval s = sv) (hx : a.eval x = v)
    (hr : ∀ ty, ∃ v' w', (Builtin.append_ #[t, t] ty #[sv, v]).run Try.prog w = .ok v' w' ∧ T v' w')
    (h : ∀ v' w', T v' w' → wpList Try.prog ops Q rest (a.put o.dst v') w') : wpList Try.prog ops Q (o :: rest) a w := by
  refine wpList_plain hgd fun K hK => ?_
  obtain ⟨v', w', hrun, hT⟩ := hr o.type
  unfold Oper.wp
  simp [execOp, ho, resolve, invoke, builtin, hs, hx, hrun, Result.andThen]
  exact hK _ _ (h v' w' hT)
theorem Own.alloc {w : World} {base : Nat} {v : Value} {os : List O} (h : Own w base v os) (o : Obj) : Own (w.alloc o) base v os := h.keep ((Below.refl _ _).alloc (Nat.le_refl _) _)
theorem Own.form {w : World} {base : Nat} {v : Value} {os : List O} (h : Own w base v os) : ∃ oa cap, v = .slice oa os.length cap := by
  rcases h.2 with ⟨rfl, h2⟩ | ⟨g, cap, cur, rfl, _⟩
  · exact ⟨none, 0, by rw [h2]⟩
  · exact ⟨_, cap, rfl⟩
theorem Own.base {w : World} {base base' : Nat} {v : Value} {os : List O} (h : Own w base v os) (hb : base' ≤ base) : Own w base' v os := by
  obtain ⟨h1, h2⟩ := h
  refine ⟨h1, ?_⟩
  rcases h2 with h2 | ⟨g, cap, cur, rfl, hb', rest⟩
  · exact Or.inl h2
  · exact Or.inr ⟨g, cap, cur, rfl, by omega, rest⟩
theorem Own.snocP {w : World} {base : Nat} {v : Value} {os : List O} (h : Own w base v os) (ty : TypeId) (X : Nat) (p : O) (hX : Row w X p.arr 44) (hb : base ≤ w.heap.size) (hn : os.length ≤ 1000) :
    ∃ v' w', (Builtin.append_ #[37, 37] ty #[v, .slice (some ⟨X, 0, none⟩) 1 1]).run Try.prog w = .ok v' w' ∧ Own w' base v' (os ++ [p]) ∧ w.grownBy w' v.ownBlock := by
  obtain ⟨i, hi, hz, hs, hby⟩ := info_parts info44
  obtain ⟨v', w', hr, h2, h3, h4, h5⟩ := run_append_own_at (P := Try.prog) w base 37 ty 44 i _ 1 2 Try.underlying37 hi hz hs hby rfl (by decide) v os.length (flat os) h ⟨X, 0, none⟩ 1 1 p.cells rfl (fun j u hj => by rw [Addr.add_mid, Nat.zero_add, cell_of_row w X j _ _ _ hX, ← hj]; show p.cells.toArray[j]? = _; rw [List.getElem?_toArray]) (fun u hu => flat_one [p] u (by simpa [flat] using hu)) (by unfold maxLen; omega) (by omega) hb
  refine ⟨v', w', hr, ?_, h3⟩
  unfold Own
  rw [flat_append, List.length_append]
  exact h2
theorem Olds.hold {w : World} {v : Value} {os : List O} (h : Olds w v os) : ∃ oa cap, v = .slice oa os.length cap ∧ ∀ i, i < os.length → ∃ (a : Addr) (x0 : Int), oa = some a ∧ os[i]? = some ⟨x0⟩ ∧ ∀ j u, ([.int .u16 x0] : List Value)[j]? = some u → w.cell? ((a.add (i * 1)).add j) = some u := by
  obtain ⟨oa, cap, h1, h2⟩ := h.open
  refine ⟨oa, cap, h1, fun i hi => ?_⟩
  obtain ⟨a, ⟨x0⟩, e1, e2, e3⟩ := h2 i hi
  exact ⟨a, x0, e1, e2, e3⟩
end Go.Proofs.Ytdlllnkcjfpajaa.Pg
namespace Go.Proofs.Ytdlllnkcjfpajaa.Pa
open Go.ChangeShapes Go.WideShapes Go.ChangeAt Go.RowKit
set_option linter.unusedVariables false
set_option linter.unusedSimpArgs false
structure O where
  start : Int
  commit : Int
  done : Bool
  reads : Sl
  writes : Sl
def O.zero : O := ⟨0, 0, false, ⟨none, 0, 0⟩, ⟨none, 0, 0⟩⟩
def O.cells (o : O) : List Value := [.int .u32 o.start, .int .u32 o.commit, .bool o.done, .slice o.reads.a o.reads.n o.reads.c, .slice o.writes.a o.writes.n o.writes.c]
def O.arr (o : O) : Array Value := #[.int .u32 o.start, .int .u32 o.commit, .bool o.done, .slice o.reads.a o.reads.n o.reads.c, .slice o.writes.a o.writes.n o.writes.c]
theorem O.cells_length (o : O) : o.cells.length = 5 := rfl
def flat (os : List O) : List Value := os.flatMap O.cells
theorem flat_length : ∀ os : List O, (flat os).length = os.length * 5
  | [] => rfl
  | o :: r => by
    have := flat_length r
    show (o.cells ++ flat r).length = _
    rw [List.length_append, this, O.cells_length]; simp; omega
theorem flat_at : ∀ (os : List O) (i j : Nat) (o : O), os[i]? = some o → j < 5 → (flat os)[i * 5 + j]? = o.cells[j]?
  | [], i, j, o, h, _ => by simp at h
  | p :: r, 0, j, o, h, hj => by
    simp at h; subst h
    show (p.cells ++ flat r)[0 * 5 + j]? = _
    rw [Nat.zero_mul, Nat.zero_add, List.getElem?_append_left (by rw [O.cells_length]; exact hj)]
  | p :: r, i + 1, j, o, h, hj => by
    simp at h
    show (p.cells ++ flat r)[(i + 1) * 5 + j]? = _
    rw [List.getElem?_append_right (by rw [O.cells_length]; omega), O.cells_length, show (i + 1) * 5 + j - 5 = i * 5 + j by omega]
    exact flat_at r i j o h hj
theorem flat_one : ∀ os : List O, ∀ u ∈ flat os, u.oneCell' = true := by
  intro os u hu
  obtain ⟨o, _, h⟩ := List.mem_flatMap.1 hu
  simp [O.cells] at h
  rcases h with rfl | rfl | rfl | rfl | rfl <;> rfl
theorem flat_append (a b : List O) : flat (a ++ b) = flat a ++ flat b := by simp [flat]
def Olds (w : World) (v : Value) (os : List O) : Prop :=
  (v = .slice none 0 0 ∧ os = []) ∨ ∃ a cap, v = .slice (some a) os.length cap ∧ ∀ j u, (flat os)[j]? = some u → w.cell? (a.add j) = some u
theorem cell_keep {w w' : World} {p : Addr} {u : Value} (h : w.cell? p = some u) (hb : Below w.heap.size w w') : w'.cell? p = some u := by
  rw [← h]
  refine World.cell?_of_block (hb.block _ ?_)
  unfold World.cell? at h
  by_cases q : p.block < w.heap.size
  · exact q
  · rw [Array.getElem?_eq_none (by omega)] at h; cases h
theorem Olds.keep {w w' : World} {v : Value} {os : List O} (h : Olds w v os) (hb : Below w.heap.size w w') : Olds w' v os := by
  rcases h with h | ⟨a, cap, rfl, h⟩
  · exact Or.inl h
  · exact Or.inr ⟨a, cap, rfl, fun j u hj => cell_keep (h j u hj) hb⟩
theorem add_add (a : Addr) (m j : Nat) : (a.add m).add j = a.add (m + j) := by
  unfold Addr.add
  by_cases h1 : m = 0
  · subst h1; simp
  · by_cases h2 : j = 0
    · subst h2; simp [h1]
    · rw [if_neg h2, if_neg h1, if_neg (by omega)]; simp; omega
theorem Olds.open {w : World} {v : Value} {os : List O} (h : Olds w v os) : ∃ oa cap, v = .slice oa os.length cap ∧ ∀ i, i < os.length → ∃ (a : Addr) (o : O), oa = some a ∧ os[i]? = some o ∧ ∀ j u, o.cells[j]? = some u → w.cell? ((a.add (i * 5)).add j) = some u := by
  rcases h with ⟨rfl, rfl⟩ | ⟨a, cap, rfl, h⟩
  · exact ⟨none, 0, rfl, fun i hi => absurd hi (by simp)⟩
  · refine ⟨some a, cap, rfl, fun i hi => ⟨a, os[i], rfl, by simp [hi], fun j u hj => ?_⟩⟩
    rw [add_add]
    have hj2 : j < 5 := by have := (List.getElem?_eq_some_iff.1 hj).1; simpa [O.cells] using this
    exact h _ u (by rw [flat_at os i j os[i] (by simp [hi]) hj2]; exact hj)
def Own (w : World) (base : Nat) (v : Value) (os : List O) : Prop := w.ownsRow base 39 5 v os.length (flat os)
theorem Own.olds {w : World} {base : Nat} {v : Value} {os : List O} (h : Own w base v os) : Olds w v os := by
  have hc := fun g hg => World.ownsRow.cells h (g := g) hg
  obtain ⟨h1, h2⟩ := h
  rcases h2 with ⟨rfl, h2⟩ | ⟨g, cap, cur, rfl, hb, hg, _⟩
  · exact Or.inl ⟨rfl, List.eq_nil_of_length_eq_zero h2⟩
  · exact Or.inr ⟨⟨g, 0, none⟩, cap, rfl, hc g rfl⟩
theorem Own.keep {w w' : World} {base : Nat} {v : Value} {os : List O} (h : Own w base v os) (hb : Below w.heap.size w w') : Own w' base v os := by
  have hl := World.ownsRow.lt h
  obtain ⟨h1, h2⟩ := h
  refine ⟨h1, ?_⟩
  rcases h2 with h2 | ⟨g, cap, cur, rfl, hb', hc, rest⟩
  · exact Or.inl h2
  · have := hl g (by simp [Value.ownBlock])
    exact Or.inr ⟨g, cap, cur, rfl, hb', (hb.block g this.2).trans hc, rest⟩
theorem info_parts {P : Program} {t : TypeId} {z : Option Value} {n b : Nat} (h : (P.info? t).map (fun i => (i.zero, i.size, i.bytes)) = some (z, n, b)) : ∃ i, P.info? t = some i ∧ i.zero = z ∧ i.size = n ∧ i.bytes = b := by
  obtain ⟨i, hi, e⟩ := Option.map_eq_some_iff.1 h
  simp only [Prod.mk.injEq] at e
  exact ⟨i, hi, e.1, e.2.1, e.2.2⟩
theorem info39 : (Try.prog.info? 39).map (fun i => (i.zero, i.size, i.bytes)) = some (some (.agg O.zero.arr), 5, 64) := by kernel_rfl
theorem size39 : (Try.prog.info? 39).map (·.size) = some 5 := by kernel_rfl
theorem flat_get (os : List O) (j : Nat) : (flat os)[j]? = (os[j / 5]?).bind (fun o => o.cells[j % 5]?) := by
  have e : j = j / 5 * 5 + j % 5 := by omega
  cases h : os[j / 5]? with
  | some o =>
    have := flat_at os (j / 5) (j % 5) o h (by omega)
    rw [← e] at this; rw [this]; rfl
  | none =>
    have hl : os.length ≤ j / 5 := by simpa using h
    rw [List.getElem?_eq_none (by rw [flat_length]; omega)]; rfl
theorem Own.blk {w : World} {base : Nat} {v : Value} {os : List O} (h : Own w base v os) (hn : 0 < os.length) : ∃ g cap, v = .slice (some ⟨g, 0, none⟩) os.length cap ∧ base ≤ g := by
  rcases h.2 with ⟨rfl, h2⟩ | ⟨g, cap, cur, rfl, hb, _⟩
  · omega
  · exact ⟨g, cap, rfl, hb⟩
theorem Own.there {w : World} {base g n cap : Nat} {os : List O} (h : Own w base (.slice (some ⟨g, 0, none⟩) n cap) os) (s : Nat) (hs : s < os.length) : w.there g (s * 5) 5 := fun j hj => by
  rcases h.2 with ⟨q, _⟩ | ⟨g', cap', cur, q, hb, hc, hle, _, hsz, _⟩
  · cases q
  · cases q
    have r : Row w g cur 39 := hc
    refine ⟨?_, row_frozen r _⟩
    have hm : os.length * 5 ≤ cap * 5 := Nat.mul_le_mul_right _ hle
    rw [cell_of_row w g _ _ _ _ r, Array.getElem?_eq_getElem (by rw [hsz]; omega)]; rfl
theorem wp_copy {T : Value → World → Prop} {w : World} {o : Oper} {a : Act} {K : Act → World → Prop} {Q : Exit → Act → World → Prop} (s x : Operand) (t : TypeId)
    (ho : o.op = .call { callee := .builtin .append, args := #[s, x], argTypes := #[t, t] }) (sv v : Value) (hs : a.eval s = sv) (hx : a.eval x = v)
    (hr : ∀ ty, ∃ v' w', (Builtin.append_ #[t, t] ty #[sv, v]).run Try.prog w = .ok v' w' ∧ T v' w')
    (h : ∀ v' w', T v' w' → K (a.put o.dst v') w') : Oper.wp Try.prog o a w K Q := by
  obtain ⟨v', w', hrun, hT⟩ := hr o.type
  unfold Oper.wp
  simp [execOp, ho, resolve, invoke, builtin, hs, hx, hrun, Result.andThen]
  exact h v' w' hT
theorem wpList_copy {T : Value → World → Prop} {w : World} {ops : Array Oper} {rest : List Oper} {o : Oper} {a : Act} {Q : Exit → Act → World → Prop} (hgd : o.guard = none) (s x : Operand) (t : TypeId)
    (ho : o.op = .call { callee := .builtin .append, args := #[s, x], argTypes := #[t, t] }) (sv v : Value) (hs : a.eval s = sv) (hx : a.eval x = v)
    (hr : ∀ ty, ∃ v' w', (Builtin.append_ #[t, t] ty #[sv, v]).run Try.prog w = .ok v' w' ∧ T v' w')
    (h : ∀ v' w', T v' w' → wpList Try.prog ops Q rest (a.put o.dst v') w') : wpList Try.prog ops Q (o :: rest) a w := by
  refine wpList_plain hgd fun K hK => ?_
  obtain ⟨v', w', hrun, hT⟩ := hr o.type
  unfold Oper.wp
  simp [execOp, ho, resolve, invoke, builtin, hs, hx, hrun, Result.andThen]
  exact hK _ _ (h v' w' hT)
theorem Own.alloc {w : World} {base : Nat} {v : Value} {os : List O} (h : Own w base v os) (o : Obj) : Own (w.alloc o) base v os := h.keep ((Below.refl _ _).alloc (Nat.le_refl _) _)
theorem Own.form {w : World} {base : Nat} {v : Value} {os : List O} (h : Own w base v os) : ∃ oa cap, v = .slice oa os.length cap := by
  rcases h.2 with ⟨rfl, h2⟩ | ⟨g, cap, cur, rfl, _⟩
  · exact ⟨none, 0, by rw [h2]⟩
  · exact ⟨_, cap, rfl⟩
theorem Own.base {w : World} {base base' : Nat} {v : Value} {os : List O} (h : Own w base v os) (hb : base' ≤ base) : Own w base' v os := by
  obtain ⟨h1, h2⟩ := h
  refine ⟨h1, ?_⟩
  rcases h2 with h2 | ⟨g, cap, cur, rfl, hb', rest⟩
  · exact Or.inl h2
  · exact Or.inr ⟨g, cap, cur, rfl, by omega, rest⟩
theorem Own.snocP {w : World} {base : Nat} {v : Value} {os : List O} (h : Own w base v os) (ty : TypeId) (X : Nat) (p : O) (hX : Row w X p.arr 39) (hb : base ≤ w.heap.size) (hn : os.length ≤ 1000) :
    ∃ v' w', (Builtin.append_ #[22, 22] ty #[v, .slice (some ⟨X, 0, none⟩) 1 1]).run Try.prog w = .ok v' w' ∧ Own w' base v' (os ++ [p]) ∧ w.grownBy w' v.ownBlock := by
  obtain ⟨i, hi, hz, hs, hby⟩ := info_parts info39
  obtain ⟨v', w', hr, h2, h3, h4, h5⟩ := run_append_own_at (P := Try.prog) w base 22 ty 39 i _ 5 64 Try.underlying22 hi hz hs hby rfl (by decide) v os.length (flat os) h ⟨X, 0, none⟩ 1 1 p.cells rfl (fun j u hj => by rw [Addr.add_mid, Nat.zero_add, cell_of_row w X j _ _ _ hX, ← hj]; show p.cells.toArray[j]? = _; rw [List.getElem?_toArray]) (fun u hu => flat_one [p] u (by simpa [flat] using hu)) (by unfold maxLen; omega) (by omega) hb
  refine ⟨v', w', hr, ?_, h3⟩
  unfold Own
  rw [flat_append, List.length_append]
  exact h2
theorem Olds.hold {w : World} {v : Value} {os : List O} (h : Olds w v os) : ∃ oa cap, v = .slice oa os.length cap ∧ ∀ i, i < os.length → ∃ (a : Addr) (x0 : Int) (x1 : Int) (x2 : Bool) (x3 : Sl) (x4 : Sl), oa = some a ∧ os[i]? = some ⟨x0, x1, x2, x3, x4⟩ ∧ ∀ j u, ([.int .u32 x0, .int .u32 x1, .bool x2, .slice x3.a x3.n x3.c, .slice x4.a x4.n x4.c] : List Value)[j]? = some u → w.cell? ((a.add (i * 5)).add j) = some u := by
  obtain ⟨oa, cap, h1, h2⟩ := h.open
  refine ⟨oa, cap, h1, fun i hi => ?_⟩
  obtain ⟨a, ⟨x0, x1, x2, x3, x4⟩, e1, e2, e3⟩ := h2 i hi
  exact ⟨a, x0, x1, x2, x3, x4, e1, e2, e3⟩
end Go.Proofs.Ytdlllnkcjfpajaa.Pa
namespace Go.Proofs.Ytdlllnkcjfpajaa
open Go.ChangeShapes Go.WideShapes Go.ChangeAt Go.RowKit
set_option linter.unusedVariables false
set_option linter.unusedSimpArgs false
section
variable {P : Program} {ops : Array Oper} {Q : Exit → Act → World → Prop} {md : Region.Mode} {S : World → Prop} {z : Nat}
def wpAnyL (P : Program) (md : Region.Mode) (ops : Array Oper) (Q : Exit → Act → World → Prop) (S : World → Prop) (z : Nat) : Nat → Array Bool → Act → World → Prop
  | 0, listed, a, w => Region.ready md ops listed = [] ∧ Q .normal a w
  | fuel + 1, listed, a, w =>
    (Region.ready md ops listed = [] → Q .normal a w) ∧
    ∀ i ∈ Region.ready md ops listed, wpOp P ops Q i (fun a' w' => (i ≠ z → S w') ∧ wpAnyL P md ops Q S z fuel (listed.setIfInBounds i true) a' w') a w
theorem wpAny_of_last : ∀ (fuel : Nat) (listed : Array Bool) (a : Act) (w : World), wpAnyL P md ops Q S z fuel listed a w → wpAny P md ops Q fuel listed a w
  | 0, _, _, _, h => h
  | fuel + 1, _, _, _, h => ⟨h.1, fun i hi => wpOp_mono (fun a' w' h' => wpAny_of_last fuel _ a' w' h'.2) (h.2 i hi)⟩
def waitsFor (md : Region.Mode) (ops : Array Oper) (z i : Nat) : Bool := match ops[z]? with | some oz => oz.after.any (fun e => Region.binds md e && e.on == i) | none => false
theorem open_both {listed : Array Bool} {i j : Nat} {o : Oper} (hi : i ∈ Region.ready md ops listed) (hj : j ∈ Region.ready md ops listed) (ho : ops[j]? = some o) : ∀ e ∈ o.after, Region.binds md e = true → e.on ≠ i := by
  intro e he hb q
  obtain ⟨_, o', ho', ha⟩ := mem_ready.1 hj
  cases ho.symm.trans ho'
  have h1 := ha e he hb
  have h2 := (mem_ready.1 hi).1
  rw [q] at h1
  cases hl : listed[i]? with
  | none => simp [hl] at h1
  | some y => simp [hl] at h1 h2; rw [h1] at h2; cases h2
theorem not_last {listed : Array Bool} {i j : Nat} (hz : waitsFor md ops z i = true) (hi : i ∈ Region.ready md ops listed) (hj : j ∈ Region.ready md ops listed) : j ≠ z := by
  rintro rfl
  obtain ⟨_, o, ho, _⟩ := mem_ready.1 hj
  unfold waitsFor at hz
  rw [ho] at hz
  obtain ⟨e, he, hb⟩ := Array.any_eq_true'.1 hz
  simp only [Bool.and_eq_true, beq_iff_eq] at hb
  exact open_both hi hj ho e he hb.1 hb.2
def Apart (md : Region.Mode) (ops : Array Oper) (i : Nat) (oi : Oper) (listed : Array Bool) : Prop :=
  ∀ j oj, ops[j]? = some oj → j ≠ i → listed.getD j true = false → (∀ e ∈ oj.after, Region.binds md e = true → e.on ≠ i) → oi.apart ops oj = true
theorem Apart.more {i j : Nat} {oi : Oper} {listed : Array Bool} (h : Apart md ops i oi listed) : Apart md ops i oi (listed.setIfInBounds j true) := fun k ok hk hki hun hno => by
  refine h k ok hk hki ?_ hno
  by_cases e : j = k
  · subst e
    by_cases hs : j < listed.size
    · simp [hs] at hun
    · rw [Array.setIfInBounds_eq_of_size_le (by omega)] at hun; exact hun
  · rwa [getD_set_ne true e] at hun
theorem wpAnyL_first {i : Nat} {oi : Oper} {v : Value} (hi : ops[i]? = some oi) (hz : waitsFor md ops z i = true) (hsel : ∀ (j : Nat) (o : Oper) cs b, ops[j]? = some o → o.op ≠ .select cs b)
    (hQ : ∀ c a w, Q (.panic c) (a.put oi.dst v) w → Q (.panic c) a w) (fuel : Nat) :
    ∀ (listed : Array Bool) (a : Act) (w : World), Apart md ops i oi listed → i ∈ Region.ready md ops listed → YieldsIf P ops S oi v a → S w →
      wpAnyL P md ops Q S z fuel (listed.setIfInBounds i true) (a.put oi.dst v) w → wpAnyL P md ops Q S z (fuel + 1) listed a w := by
  induction fuel with
  | zero =>
    intro listed a w _ hr hy hS H
    refine ⟨fun none => absurd (none ▸ hr) (by simp), fun j hj => ?_⟩
    rcases Decidable.em (j = i) with rfl | ne
    · exact hy.wpOp hi hS ⟨fun _ => hS, H⟩
    · exact absurd (H.1 ▸ ready_mono hj ne) (by simp)
  | succ fuel ih =>
    intro listed a w ap hr hy hS H
    refine ⟨fun none => absurd (none ▸ hr) (by simp), fun j hj => ?_⟩
    rcases Decidable.em (j = i) with rfl | ne
    · exact hy.wpOp hi hS ⟨fun _ => hS, H⟩
    · obtain ⟨un, oj, hoj, _⟩ := mem_ready.1 hj
      have step := wpOp_putIf hoj (ap j oj hoj ne un (open_both hr hj hoj)) (fun cs b => hsel i oi cs b hi) (fun cs b => hsel j oj cs b hoj) hQ hy (H.2 j (ready_mono hj ne))
      refine wpOp_mono (fun a' w' q => ⟨q.2.1, ih _ a' w' ap.more (ready_mono hr fun e => ne e.symm) q.1 (q.2.1 (not_last hz hr hj)) ?_⟩) step
      have q2 := q.2.2
      rwa [Array.setIfInBounds_comm _ _ (fun e => ne e.symm)] at q2
theorem wpAnyL_take {i : Nat} {oi : Oper} {v : Value} {fuel : Nat} {listed : Array Bool} {a : Act} {w : World} (hi : ops[i]? = some oi) (hz : waitsFor md ops z i = true)
    (hs : Region.noSelect ops = true) (hf : Region.free md ops listed i = true) (hr : (Region.ready md ops listed).contains i = true)
    (hQ : ∀ c a w, Q (.panic c) (a.put oi.dst v) w → Q (.panic c) a w) (hy : YieldsIf P ops S oi v a) (hS : S w)
    (h : wpAnyL P md ops Q S z fuel (listed.setIfInBounds i true) (a.put oi.dst v) w) : wpAnyL P md ops Q S z (fuel + 1) listed a w :=
  wpAnyL_first hi hz (Region.noSelect_spec hs) hQ fuel listed a w (fun j oj => Region.free_spec hi hf j oj) (by simpa using hr) hy hS h
def AllReadyL (P : Program) (md : Region.Mode) (ops : Array Oper) (Q : Exit → Act → World → Prop) (S : World → Prop) (z : Nat) (fuel : Nat) (listed : Array Bool) (a : Act) (w : World) (rs : List Nat) : Prop :=
  ∀ i ∈ rs, wpOp P ops Q i (fun a' w' => (i ≠ z → S w') ∧ wpAnyL P md ops Q S z fuel (listed.setIfInBounds i true) a' w') a w
theorem AllReadyL.nil {fuel : Nat} {listed : Array Bool} {a : Act} {w : World} : AllReadyL P md ops Q S z fuel listed a w [] := fun _ h => by cases h
theorem AllReadyL.cons {fuel : Nat} {listed : Array Bool} {a : Act} {w : World} {i : Nat} {o : Oper} {rs : List Nat} (ho : ops[i]? = some o)
    (h : ∀ K' : Act → World → Prop, Shut (∀ a w, (i ≠ z → S w) → wpAnyL P md ops Q S z fuel (listed.setIfInBounds i true) a w → K' a w) → if Region.wanted o (yielded ops a.tmps) = true then Oper.wp P o a w K' Q else K' (a.put o.dst undef) w)
    (hs : AllReadyL P md ops Q S z fuel listed a w rs) : AllReadyL P md ops Q S z fuel listed a w (i :: rs) := fun j hj => by
  rcases List.mem_cons.1 hj with rfl | hj
  · exact wpOp_step ho (fun K' hK => h K' (fun a w hS hW => hK a w ⟨hS, hW⟩))
  · exact hs j hj
theorem wpAnyL_ready {rs : List Nat} {fuel : Nat} {listed : Array Bool} {a : Act} {w : World} (hr : Region.ready md ops listed = rs) (hne : rs ≠ [])
    (h : AllReadyL P md ops Q S z fuel listed a w rs) : wpAnyL P md ops Q S z (fuel + 1) listed a w := ⟨fun h0 => absurd (hr ▸ h0) hne, hr ▸ h⟩
theorem wpAnyL_done {listed : Array Bool} {a : Act} {w : World} (hr : Region.ready md ops listed = []) (h : Q .normal a w) :
    ∀ fuel, wpAnyL P md ops Q S z fuel listed a w
  | 0 => ⟨hr, h⟩
  | _ + 1 => ⟨fun _ => h, by rw [hr]; simp⟩
theorem wp_region_last {id : Nat} {a : Act} {w : World} (z : Nat) (hm : P.follows .mixedOrders = true) (hS : S w.drew)
    (h : S w.drew → wpAnyL P .any ops Q S z ops.size (Array.replicate ops.size false) a w.drew) : (Code.region id ops true).wp P Q a w :=
  wp_region_any hm (wpAny_of_last _ _ _ _ (h hS))
end
end Go.Proofs.Ytdlllnkcjfpajaa
