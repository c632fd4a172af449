/-
  Structs as values: their cells, lists of them in slices, copies of them. Proved here: whether two lists of starts are alike (the document's SameStarts), a copy of a list of chunks (the statements' kept), whether a stream has a place (ring.within). Plain facts on joining chunks: which chunks follow, and what stream they hold. Plain facts on rows of bytes that a call owns: cut short, a text laid behind, as a string; rows of other types beside them stay.
-/
import Derived.Test.YtgnedbagelhcbaaChl
import Derived.Laws.AppendOwnNone
import Derived.Maps.AppendAt
import Derived.Deep.MidRow
import Derived.Deep.CutBlock
import Derived.Great.BuildSlice
import Derived.Laws.Cover3
import Derived.Lib.AppendStr
namespace Go.Proofs.Ytgnedbagelhcbaa.St
open Go.ChangeShapes Go.WideShapes Go.ChangeAt Go.RowKit
set_option linter.unusedVariables false
set_option linter.unusedSimpArgs false
structure O where
  num : Int
  off : Int
def O.zero : O := ⟨0, 0⟩
def O.cells (o : O) : List Value := [.int .u32 o.num, .int .u64 o.off]
def O.arr (o : O) : Array Value := #[.int .u32 o.num, .int .u64 o.off]
theorem O.cells_length (o : O) : o.cells.length = 2 := rfl
def flat (os : List O) : List Value := os.flatMap O.cells
theorem flat_length : ∀ os : List O, (flat os).length = os.length * 2
  | [] => rfl
  | o :: r => by
    have := flat_length r
    show (o.cells ++ flat r).length = _
    rw [List.length_append, this, O.cells_length]; simp; omega
theorem flat_at : ∀ (os : List O) (i j : Nat) (o : O), os[i]? = some o → j < 2 → (flat os)[i * 2 + j]? = o.cells[j]?
  | [], i, j, o, h, _ => by simp at h
  | p :: r, 0, j, o, h, hj => by
    simp at h; subst h
    show (p.cells ++ flat r)[0 * 2 + j]? = _
    rw [Nat.zero_mul, Nat.zero_add, List.getElem?_append_left (by rw [O.cells_length]; exact hj)]
  | p :: r, i + 1, j, o, h, hj => by
    simp at h
    show (p.cells ++ flat r)[(i + 1) * 2 + j]? = _
    rw [List.getElem?_append_right (by rw [O.cells_length]; omega), O.cells_length, show (i + 1) * 2 + j - 2 = i * 2 + j by omega]
    exact flat_at r i j o h hj
theorem flat_one : ∀ os : List O, ∀ u ∈ flat os, u.oneCell' = true := by
  intro os u hu
  obtain ⟨o, _, h⟩ := List.mem_flatMap.1 hu
  simp [O.cells] at h
  rcases h with rfl | rfl <;> rfl
theorem flat_append (a b : List O) : flat (a ++ b) = flat a ++ flat b := by simp [flat]
def Olds (w : World) (v : Value) (os : List O) : Prop :=
  (v = .slice none 0 0 ∧ os = []) ∨ ∃ a cap, v = .slice (some a) os.length cap ∧ ∀ j u, (flat os)[j]? = some u → w.cell? (a.add j) = some u
theorem cell_keep {w w' : World} {p : Addr} {u : Value} (h : w.cell? p = some u) (hb : Below w.heap.size w w') : w'.cell? p = some u := by
  rw [← h]
  refine World.cell?_of_block (hb.block _ ?_)
  unfold World.cell? at h
  by_cases q : p.block < w.heap.size
  · exact q
  · rw [Array.getElem?_eq_none (by omega)] at h; cases h
theorem Olds.keep {w w' : World} {v : Value} {os : List O} (h : Olds w v os) (hb : Below w.heap.size w w') : Olds w' v os := by
  rcases h with h | ⟨a, cap, rfl, h⟩
  · exact Or.inl h
  · exact Or.inr ⟨a, cap, rfl, fun j u hj => cell_keep (h j u hj) hb⟩
theorem add_add (a : Addr) (m j : Nat) : (a.add m).add j = a.add (m + j) := by
  unfold Addr.add
  by_cases h1 : m = 0
  · subst h1; simp
  · by_cases h2 : j = 0
    · subst h2; simp [h1]
    · rw [if_neg h2, if_neg h1, if_neg (by omega)]; simp; omega
theorem Olds.open {w : World} {v : Value} {os : List O} (h : Olds w v os) : ∃ oa cap, v = .slice oa os.length cap ∧ ∀ i, i < os.length → ∃ (a : Addr) (o : O), oa = some a ∧ os[i]? = some o ∧ ∀ j u, o.cells[j]? = some u → w.cell? ((a.add (i * 2)).add j) = some u := by
  rcases h with ⟨rfl, rfl⟩ | ⟨a, cap, rfl, h⟩
  · exact ⟨none, 0, rfl, fun i hi => absurd hi (by simp)⟩
  · refine ⟨some a, cap, rfl, fun i hi => ⟨a, os[i], rfl, by simp [hi], fun j u hj => ?_⟩⟩
    rw [add_add]
    have hj2 : j < 2 := by have := (List.getElem?_eq_some_iff.1 hj).1; simpa [O.cells] using this
    exact h _ u (by rw [flat_at os i j os[i] (by simp [hi]) hj2]; exact hj)
def Own (w : World) (base : Nat) (v : Value) (os : List O) : Prop := w.ownsRow base 104 2 v os.length (flat os)
theorem Own.olds {w : World} {base : Nat} {v : Value} {os : List O} (h : Own w base v os) : Olds w v os := by
  have hc := fun g hg => World.ownsRow.cells h (g := g) hg
  obtain ⟨h1, h2⟩ := h
  rcases h2 with ⟨rfl, h2⟩ | ⟨g, cap, cur, rfl, hb, hg, _⟩
  · exact Or.inl ⟨rfl, List.eq_nil_of_length_eq_zero h2⟩
  · exact Or.inr ⟨⟨g, 0, none⟩, cap, rfl, hc g rfl⟩
theorem Own.keep {w w' : World} {base : Nat} {v : Value} {os : List O} (h : Own w base v os) (hb : Below w.heap.size w w') : Own w' base v os := by
  have hl := World.ownsRow.lt h
  obtain ⟨h1, h2⟩ := h
  refine ⟨h1, ?_⟩
  rcases h2 with h2 | ⟨g, cap, cur, rfl, hb', hc, rest⟩
  · exact Or.inl h2
  · have := hl g (by simp [Value.ownBlock])
    exact Or.inr ⟨g, cap, cur, rfl, hb', (hb.block g this.2).trans hc, rest⟩
theorem info_parts {P : Program} {t : TypeId} {z : Option Value} {n b : Nat} (h : (P.info? t).map (fun i => (i.zero, i.size, i.bytes)) = some (z, n, b)) : ∃ i, P.info? t = some i ∧ i.zero = z ∧ i.size = n ∧ i.bytes = b := by
  obtain ⟨i, hi, e⟩ := Option.map_eq_some_iff.1 h
  simp only [Prod.mk.injEq] at e
  exact ⟨i, hi, e.1, e.2.1, e.2.2⟩
theorem info104 : (Try.prog.info? 104).map (fun i => (i.zero, i.size, i.bytes)) = some (some (.agg O.zero.arr), 2, 16) := by kernel_rfl
theorem size104 : (Try.prog.info? 104).map (·.size) = some 2 := by kernel_rfl
theorem flat_get (os : List O) (j : Nat) : (flat os)[j]? = (os[j / 2]?).bind (fun o => o.cells[j % 2]?) := by
  have e : j = j / 2 * 2 + j % 2 := by omega
  cases h : os[j / 2]? with
  | some o =>
    have := flat_at os (j / 2) (j % 2) o h (by omega)
    rw [← e] at this; rw [this]; rfl
  | none =>
    have hl : os.length ≤ j / 2 := by simpa using h
    rw [List.getElem?_eq_none (by rw [flat_length]; omega)]; rfl
theorem Own.other {w : World} {base : Nat} {v : Value} {os : List O} (h : Own w base v os) (j o : Nat) (x : Value) (hj : j < base) : Own (w.setCell ⟨j, o, none⟩ x) base v os := by
  obtain ⟨h1, h2⟩ := h
  refine ⟨h1, ?_⟩
  rcases h2 with h2 | ⟨g, cap, cur, rfl, hb', hc, rest⟩
  · exact Or.inl h2
  · exact Or.inr ⟨g, cap, cur, rfl, hb', by rw [Below.heap_setCell w _ x g (by show g ≠ j; omega)]; exact hc, rest⟩
theorem wp_copy {T : Value → World → Prop} {w : World} {o : Oper} {a : Act} {K : Act → World → Prop} {Q : Exit → Act → World → Prop} (s x : Operand) (t : TypeId)
    (ho : o.op = .call { callee := .builtin .append, args := #[s, x], argTypes := #[t, t] }) (sv v : Value) (hs : a.eval s = sv) (hx : a.eval x = v)
    (hr : ∀ ty, ∃ v' w', (Builtin.append_ #[t, t] ty #[sv, v]).run Try.prog w = .ok v' w' ∧ T v' w')
    (h : ∀ v' w', T v' w' → K (a.put o.dst v') w') : Oper.wp Try.prog o a w K Q := by
  obtain ⟨v', w', hrun, hT⟩ := hr o.type
  unfold Oper.wp
  simp [execOp, ho, resolve, invoke, builtin, hs, hx, hrun, Result.andThen]
  exact h v' w' hT
theorem wpList_copy {T : Value → World → Prop} {w : World} {ops : Array Oper} {rest : List Oper} {o : Oper} {a : Act} {Q : Exit → Act → World → Prop} (hgd : o.guard = none) (s x : Operand) (t : TypeId)
    (ho : o.op = .call { callee := .builtin .append, args := #[s, x], argTypes := #[t, t] }) (sv v : Value) (hs : a.eval s = sv) (hx : a.eval x = v)
    (hr : ∀ ty, ∃ v' w', (Builtin.append_ #[t, t] ty #[sv, v]).run Try.prog w = .ok v' w' ∧ T v' w')
    (h : ∀ v' w', T v' w' → wpList Try.prog ops Q rest (a.put o.dst v') w') : wpList Try.prog ops Q (o :: rest) a w := by
  refine wpList_plain hgd fun K hK => ?_
  obtain ⟨v', w', hrun, hT⟩ := hr o.type
  unfold Oper.wp
  simp [execOp, ho, resolve, invoke, builtin, hs, hx, hrun, Result.andThen]
  exact hK _ _ (h v' w' hT)
theorem run_copy (w : World) (ty : TypeId) (v : Value) (os : List O) (h : Olds w v os) (hn : os.length ≤ 1000000000) :
    ∃ v' w', (Builtin.append_ #[23, 23] ty #[.slice (some ⟨w.heap.size, 0, none⟩) 0 0, v]).run Try.prog (w.alloc (.cells #[] 104)) = .ok v' w' ∧ Own w' w.heap.size v' os ∧ Below w.heap.size w w' := by
  obtain ⟨i, hi, hz, hs, hb⟩ := info_parts info104
  have hown : (w.alloc (.cells #[] 104)).ownsRow w.heap.size 104 2 (.slice (some ⟨w.heap.size, 0, none⟩) 0 0) 0 [] := World.ownsRow_made w #[] 0 (Nat.le_refl _) (Nat.zero_le _) rfl
  have b0 : Below w.heap.size w (w.alloc (.cells #[] 104)) := (Below.refl _ _).alloc (Nat.le_refl _) _
  rcases h with ⟨rfl, rfl⟩ | ⟨a, cap, rfl, hc⟩
  · exact ⟨_, _, run_append_owned_none (P := Try.prog) (w := w.alloc (.cells #[] 104)) w.heap.size 23 ty 104 i 2 Try.underlying23 hi _ 0 [] hown, hown, b0⟩
  · obtain ⟨v', w', hr, h2, h3, h4, h5⟩ := run_append_own_at (P := Try.prog) (w.alloc (.cells #[] 104)) w.heap.size 23 ty 104 i _ 2 16 Try.underlying23 hi hz hs hb rfl (by decide) _ 0 [] hown a os.length cap (flat os) (flat_length os) (fun j u hj => cell_keep (hc j u hj) b0) (flat_one os) (by unfold maxLen; omega) (by omega) (by simp)
    refine ⟨v', w', hr, ?_, b0.grown h3 (by simp) (fun k hk => ?_)⟩
    · unfold Own; simpa using h2
    · simp [Value.ownBlock] at hk
      omega
theorem Own.alloc {w : World} {base : Nat} {v : Value} {os : List O} (h : Own w base v os) (o : Obj) : Own (w.alloc o) base v os := h.keep ((Below.refl _ _).alloc (Nat.le_refl _) _)
theorem Own.form {w : World} {base : Nat} {v : Value} {os : List O} (h : Own w base v os) : ∃ oa cap, v = .slice oa os.length cap := by
  rcases h.2 with ⟨rfl, h2⟩ | ⟨g, cap, cur, rfl, _⟩
  · exact ⟨none, 0, by rw [h2]⟩
  · exact ⟨_, cap, rfl⟩
theorem Olds.cut {w : World} {oa : Option Addr} {n cap : Nat} {os : List O} (h : Olds w (.slice oa n cap) os) (k : Nat) (hk : k ≤ os.length) : Olds w (.slice oa k cap) (os.take k) := by
  have hlk : (os.take k).length = k := by simp; omega
  rcases h with ⟨q, rfl⟩ | ⟨a, c, q, h⟩
  · cases q
    obtain rfl : k = 0 := by simpa using hk
    exact Or.inl ⟨rfl, rfl⟩
  · cases q
    refine Or.inr ⟨a, cap, by rw [hlk], fun j u hj => ?_⟩
    refine h j u ?_
    rw [flat_get] at hj ⊢
    rw [← hj, List.getElem?_take]
    by_cases q : j / 2 < k
    · rw [if_pos q]
    · rw [if_neg q]
      rw [List.getElem?_take, if_neg q] at hj
      simp at hj
theorem Olds.hold {w : World} {v : Value} {os : List O} (h : Olds w v os) : ∃ oa cap, v = .slice oa os.length cap ∧ ∀ i, i < os.length → ∃ (a : Addr) (x0 : Int) (x1 : Int), oa = some a ∧ os[i]? = some ⟨x0, x1⟩ ∧ ∀ j u, ([.int .u32 x0, .int .u64 x1] : List Value)[j]? = some u → w.cell? ((a.add (i * 2)).add j) = some u := by
  obtain ⟨oa, cap, h1, h2⟩ := h.open
  refine ⟨oa, cap, h1, fun i hi => ?_⟩
  obtain ⟨a, ⟨x0, x1⟩, e1, e2, e3⟩ := h2 i hi
  exact ⟨a, x0, x1, e1, e2, e3⟩
end Go.Proofs.Ytgnedbagelhcbaa.St
namespace Go.Proofs.Ytgnedbagelhcbaa.St
open Go.ChangeShapes Go.WideShapes Go.ChangeAt Go.RowKit
set_option linter.unusedVariables false
set_option linter.unusedSimpArgs false
set_option maxRecDepth 20000
end Go.Proofs.Ytgnedbagelhcbaa.St
namespace Go.Proofs.Ytgnedbagelhcbaa.Ck
open Go.ChangeShapes Go.WideShapes Go.ChangeAt Go.RowKit
set_option linter.unusedVariables false
set_option linter.unusedSimpArgs false
end Go.Proofs.Ytgnedbagelhcbaa.Ck
namespace Go.Proofs.Ytgnedbagelhcbaa
open Go.ChangeShapes Go.WideShapes Go.ChangeAt Go.RowKit
set_option linter.unusedVariables false
set_option linter.unusedSimpArgs false
end Go.Proofs.Ytgnedbagelhcbaa
namespace Go.Proofs.Ytgnedbagelhcbaa
open Go.ChangeShapes Go.WideShapes Go.ChangeAt Go.RowKit
set_option linter.unusedVariables false
set_option linter.unusedSimpArgs false
set_option maxRecDepth 20000
structure J where
  ep : Int
  str : List Int
  sts : List St.O
def J0 : J := ⟨0, [], []⟩
def okJ (first base : Int) (k : Nat) (j : J) (c : Ck.O) : Bool := decide (c.num = (first + k) % 4294967296 ∧ j.ep ≤ c.ep ∧ base ≤ c.off ∧ c.off - base ≤ j.str.length)
def nextJ (base : Int) (j : J) (c : Ck.O) : J := ⟨c.ep, j.str.take (c.off - base).toNat ++ nums c.txt, j.sts ++ [⟨c.num, c.off⟩]⟩
def runJ (first base : Int) : Nat → J → List Ck.O → J
  | _, j, [] => j
  | k, j, c :: r => if okJ first base k j c then runJ first base (k + 1) (nextJ base j c) r else j
def tot : List Ck.O → Nat
  | [] => 0
  | c :: r => c.txt.size + tot r
def baseJ : List Ck.O → Int
  | [] => 0
  | c :: _ => c.off
def joinR (first : Int) (os : List Ck.O) : J := runJ first (baseJ os) 0 J0 os
def joinB (first : Int) (os : List Ck.O) : Int := if (joinR first os).sts.length = 0 then 0 else baseJ os
def Ck.O.Fits (c : Ck.O) : Prop := (0 ≤ c.ep ∧ c.ep ≤ 4294967295) ∧ (0 ≤ c.num ∧ c.num ≤ 4294967295) ∧ (0 ≤ c.off ∧ c.off ≤ 18446744073709551615)
structure Inv (first : Int) (os : List Ck.O) (k : Nat) (j : J) : Prop where
  run : runJ first (baseJ os) k j (os.drop k) = joinR first os
  bytes : Bytes j.str
  room : j.str.length + tot (os.drop k) ≤ 1048576
  len : j.sts.length = k
  ep : 0 ≤ j.ep ∧ j.ep ≤ 4294967295
theorem drop_at {os : List Ck.O} {k : Nat} {c : Ck.O} (h : os[k]? = some c) : os.drop k = c :: os.drop (k + 1) := by
  obtain ⟨hk, e⟩ := List.getElem?_eq_some_iff.1 h
  rw [List.drop_eq_getElem_cons hk, e]
theorem Inv.next {first : Int} {os : List Ck.O} {k : Nat} {j : J} (h : Inv first os k j) {c : Ck.O} (hc : os[k]? = some c) (hf : c.Fits) (hok : okJ first (baseJ os) k j c = true) : Inv first os (k + 1) (nextJ (baseJ os) j c) := by
  have hd := drop_at hc
  refine ⟨?_, ?_, ?_, by simp [nextJ, h.len], hf.1⟩
  · rw [← h.run, hd, runJ, if_pos hok]
  · exact (h.bytes.sub fun y hy => List.mem_of_mem_take hy).append (nums_bytes _)
  · have := h.room
    rw [hd, tot] at this
    simp only [nextJ, List.length_append, nums_length, List.length_take]
    omega
theorem Ck.Olds.room {os : List Ck.O} {k : Nat} {c : Ck.O} (h : os[k]? = some c) : c.txt.size ≤ tot (os.drop k) := by
  rw [drop_at h, tot]; omega
end Go.Proofs.Ytgnedbagelhcbaa
namespace Go.Proofs.Ytgnedbagelhcbaa
open Go.ChangeShapes Go.WideShapes Go.ChangeAt Go.RowKit Go.Lib
set_option linter.unusedVariables false
set_option linter.unusedSimpArgs false
set_option maxRecDepth 20000
def by_ (l : List Int) : List Value := l.map (Value.int .u8)
def OwnB (w : World) (base : Nat) (v : Value) (l : List Int) : Prop := w.ownsRow base 5 1 v l.length (by_ l)
theorem OwnB.form {w : World} {base : Nat} {v : Value} {l : List Int} (h : OwnB w base v l) : ∃ oa cap, v = .slice oa l.length cap := by
  rcases h.2 with ⟨rfl, h2⟩ | ⟨g, cap, cur, rfl, _⟩
  · exact ⟨none, 0, by rw [h2]⟩
  · exact ⟨_, cap, rfl⟩
theorem OwnB.keep {w w' : World} {base : Nat} {v : Value} {l : List Int} (h : OwnB w base v l) (hb : Below w.heap.size w w') : OwnB w' base v l := by
  have hl := World.ownsRow.lt h
  obtain ⟨h1, h2⟩ := h
  refine ⟨h1, ?_⟩
  rcases h2 with h2 | ⟨g, cap, cur, rfl, hb', hc, rest⟩
  · exact Or.inl h2
  · have := hl g (by simp [Value.ownBlock])
    exact Or.inr ⟨g, cap, cur, rfl, hb', (hb.block g this.2).trans hc, rest⟩
theorem OwnB.cut {w : World} {base n cap : Nat} {oa : Option Addr} {l : List Int} (h : OwnB w base (.slice oa n cap) l) (k : Nat) (hk : k ≤ l.length) : OwnB w base (.slice oa k cap) (l.take k) := by
  have hlk : (l.take k).length = k := by simp; omega
  obtain ⟨h1, h2⟩ := h
  refine ⟨by simp [by_], ?_⟩
  rcases h2 with ⟨q, h2⟩ | ⟨g', cap', cur, q, hb, hc, hle, hmx, hsz, ht⟩
  · cases q
    have : k = 0 := by omega
    subst this
    exact Or.inl ⟨rfl, by simp⟩
  · cases q
    refine Or.inr ⟨g', cap, cur, by rw [hlk], hb, hc, by rw [hlk]; omega, hmx, hsz, ?_⟩
    rw [hlk]
    have e : (by_ l).take (k * 1) = by_ (l.take k) := by simp [by_, List.map_take]
    rw [← e, ← ht, List.take_take]
    congr 1
    omega
theorem str_cells (s : ByteArray) : strCells s = by_ (nums s) := by
  unfold strCells by_ nums
  rw [List.map_map]; rfl
theorem OwnB.snoc {w : World} {base : Nat} {v : Value} {l : List Int} (h : OwnB w base v l) (s : ByteArray) (hb : base ≤ w.heap.size) (hn : l.length + s.size ≤ 100000000) (ty : TypeId) :
    ∃ v' w', (Builtin.append_ #[72, 9] ty #[v, .string s]).run Try.prog w = .ok v' w' ∧ OwnB w' base v' (l ++ nums s) ∧ w.grownBy w' v.ownBlock := by
  have hi5 : (Try.prog.info? 5).map (fun i => (i.zero, i.size, i.bytes)) = some (some (.int .u8 0), 1, 1) := by kernel_rfl
  obtain ⟨i, hi, hz, hs, hby⟩ := St.info_parts hi5
  obtain ⟨v', w', hr, h2, h3, _⟩ := run_append_own_string (P := Try.prog) w base 72 9 ty 5 i Try.underlying72 Try.underlying9 hi hz hs hby v l.length (by_ l) h s (by unfold maxLen; omega) (by omega) hb
  refine ⟨v', w', hr, ?_, h3⟩
  unfold OwnB
  rw [List.length_append, nums_length]
  have e : by_ (l ++ nums s) = by_ l ++ strCells s := by rw [str_cells]; simp [by_]
  rw [e]; exact h2
theorem Row.grown {w w' : World} {k : Nat} {cs : Array Value} {t : TypeId} {row : Option Nat} (h : Row w k cs t) (hg : w.grownBy w' row) (hk : row ≠ some k) : Row w' k cs t := (hg.block k h.lt (fun q => hk q.symm)).trans h
end Go.Proofs.Ytgnedbagelhcbaa
