/-
  Structs as values: their cells, lists of them in slices, copies of them. A log as values and as memory; plain facts on its lists. Proved here: a log's region: whether it lies in the disk, and where a block's place is; how many blocks there are, and how many so many bytes take. Proved here: log.New of no starts.
-/
import Derived.Test.YtehogiondcpbcaaJq09
import Derived.Laws.AppendOwnNone
import Derived.Maps.AppendAt
import Derived.Deep.MidRow
import Derived.Deep.CutBlock
import Derived.Great.BuildSlice
import Derived.Laws.Cover3
import Derived.Test.YtehogiondcpbcaaJq06
import Derived.Test.YtehogiondcpbcaaJq04
namespace Go.Proofs.Ytehogiondcpbcaa.Ck
open Go.ChangeShapes Go.WideShapes Go.ChangeAt Go.RowKit
set_option linter.unusedVariables false
set_option linter.unusedSimpArgs false
set_option maxRecDepth 20000
structure O where
  ep : Int
  num : Int
  off : Int
  txt : ByteArray
def O.zero : O := ⟨0, 0, 0, ByteArray.empty⟩
def O.cells (o : O) : List Value := [.int .u32 o.ep, .int .u32 o.num, .int .u64 o.off, .string o.txt]
def O.arr (o : O) : Array Value := #[.int .u32 o.ep, .int .u32 o.num, .int .u64 o.off, .string o.txt]
theorem O.cells_length (o : O) : o.cells.length = 4 := rfl
def flat (os : List O) : List Value := os.flatMap O.cells
theorem flat_length : ∀ os : List O, (flat os).length = os.length * 4
  | [] => rfl
  | o :: r => by
    have := flat_length r
    show (o.cells ++ flat r).length = _
    rw [List.length_append, this, O.cells_length]; simp; omega
theorem flat_at : ∀ (os : List O) (i j : Nat) (o : O), os[i]? = some o → j < 4 → (flat os)[i * 4 + j]? = o.cells[j]?
  | [], i, j, o, h, _ => by simp at h
  | p :: r, 0, j, o, h, hj => by
    simp at h; subst h
    show (p.cells ++ flat r)[0 * 4 + j]? = _
    rw [Nat.zero_mul, Nat.zero_add, List.getElem?_append_left (by rw [O.cells_length]; exact hj)]
  | p :: r, i + 1, j, o, h, hj => by
    simp at h
    show (p.cells ++ flat r)[(i + 1) * 4 + j]? = _
    rw [List.getElem?_append_right (by rw [O.cells_length]; omega), O.cells_length, show (i + 1) * 4 + j - 4 = i * 4 + j by omega]
    exact flat_at r i j o h hj
theorem flat_one : ∀ os : List O, ∀ u ∈ flat os, u.oneCell' = true := by
  intro os u hu
  obtain ⟨o, _, h⟩ := List.mem_flatMap.1 hu
  simp [O.cells] at h
  rcases h with rfl | rfl | rfl | rfl <;> rfl
theorem flat_append (a b : List O) : flat (a ++ b) = flat a ++ flat b := by simp [flat]
def Olds (w : World) (v : Value) (os : List O) : Prop :=
  (v = .slice none 0 0 ∧ os = []) ∨ ∃ a cap, v = .slice (some a) os.length cap ∧ ∀ j u, (flat os)[j]? = some u → w.cell? (a.add j) = some u
theorem cell_keep {w w' : World} {p : Addr} {u : Value} (h : w.cell? p = some u) (hb : Below w.heap.size w w') : w'.cell? p = some u := by
  rw [← h]
  refine World.cell?_of_block (hb.block _ ?_)
  unfold World.cell? at h
  by_cases q : p.block < w.heap.size
  · exact q
  · rw [Array.getElem?_eq_none (by omega)] at h; cases h
theorem Olds.keep {w w' : World} {v : Value} {os : List O} (h : Olds w v os) (hb : Below w.heap.size w w') : Olds w' v os := by
  rcases h with h | ⟨a, cap, rfl, h⟩
  · exact Or.inl h
  · exact Or.inr ⟨a, cap, rfl, fun j u hj => cell_keep (h j u hj) hb⟩
theorem add_add (a : Addr) (m j : Nat) : (a.add m).add j = a.add (m + j) := by
  unfold Addr.add
  by_cases h1 : m = 0
  · subst h1; simp
  · by_cases h2 : j = 0
    · subst h2; simp [h1]
    · rw [if_neg h2, if_neg h1, if_neg (by omega)]; simp; omega
theorem Olds.open {w : World} {v : Value} {os : List O} (h : Olds w v os) : ∃ oa cap, v = .slice oa os.length cap ∧ ∀ i, i < os.length → ∃ (a : Addr) (o : O), oa = some a ∧ os[i]? = some o ∧ ∀ j u, o.cells[j]? = some u → w.cell? ((a.add (i * 4)).add j) = some u := by
  rcases h with ⟨rfl, rfl⟩ | ⟨a, cap, rfl, h⟩
  · exact ⟨none, 0, rfl, fun i hi => absurd hi (by simp)⟩
  · refine ⟨some a, cap, rfl, fun i hi => ⟨a, os[i], rfl, by simp [hi], fun j u hj => ?_⟩⟩
    rw [add_add]
    have hj2 : j < 4 := by have := (List.getElem?_eq_some_iff.1 hj).1; simpa [O.cells] using this
    exact h _ u (by rw [flat_at os i j os[i] (by simp [hi]) hj2]; exact hj)
def Own (w : World) (base : Nat) (v : Value) (os : List O) : Prop := w.ownsRow base 164 4 v os.length (flat os)
theorem Own.olds {w : World} {base : Nat} {v : Value} {os : List O} (h : Own w base v os) : Olds w v os := by
  have hc := fun g hg => World.ownsRow.cells h (g := g) hg
  obtain ⟨h1, h2⟩ := h
  rcases h2 with ⟨rfl, h2⟩ | ⟨g, cap, cur, rfl, hb, hg, _⟩
  · exact Or.inl ⟨rfl, List.eq_nil_of_length_eq_zero h2⟩
  · exact Or.inr ⟨⟨g, 0, none⟩, cap, rfl, hc g rfl⟩
theorem Own.keep {w w' : World} {base : Nat} {v : Value} {os : List O} (h : Own w base v os) (hb : Below w.heap.size w w') : Own w' base v os := by
  have hl := World.ownsRow.lt h
  obtain ⟨h1, h2⟩ := h
  refine ⟨h1, ?_⟩
  rcases h2 with h2 | ⟨g, cap, cur, rfl, hb', hc, rest⟩
  · exact Or.inl h2
  · have := hl g (by simp [Value.ownBlock])
    exact Or.inr ⟨g, cap, cur, rfl, hb', (hb.block g this.2).trans hc, rest⟩
theorem info_parts {P : Program} {t : TypeId} {z : Option Value} {n b : Nat} (h : (P.info? t).map (fun i => (i.zero, i.size, i.bytes)) = some (z, n, b)) : ∃ i, P.info? t = some i ∧ i.zero = z ∧ i.size = n ∧ i.bytes = b := by
  obtain ⟨i, hi, e⟩ := Option.map_eq_some_iff.1 h
  simp only [Prod.mk.injEq] at e
  exact ⟨i, hi, e.1, e.2.1, e.2.2⟩
theorem info164 : (Try.prog.info? 164).map (fun i => (i.zero, i.size, i.bytes)) = some (some (.agg O.zero.arr), 4, 32) := by kernel_rfl
theorem size164 : (Try.prog.info? 164).map (·.size) = some 4 := by kernel_rfl
theorem Own.blk {w : World} {base : Nat} {v : Value} {os : List O} (h : Own w base v os) (hn : 0 < os.length) : ∃ g cap, v = .slice (some ⟨g, 0, none⟩) os.length cap ∧ base ≤ g := by
  rcases h.2 with ⟨rfl, h2⟩ | ⟨g, cap, cur, rfl, hb, _⟩
  · omega
  · exact ⟨g, cap, rfl, hb⟩
theorem Own.there {w : World} {base g n cap : Nat} {os : List O} (h : Own w base (.slice (some ⟨g, 0, none⟩) n cap) os) (s : Nat) (hs : s < os.length) : w.there g (s * 4) 4 := fun j hj => by
  rcases h.2 with ⟨q, _⟩ | ⟨g', cap', cur, q, hb, hc, hle, _, hsz, _⟩
  · cases q
  · cases q
    have r : Row w g cur 164 := hc
    refine ⟨?_, row_frozen r _⟩
    have hm : os.length * 4 ≤ cap * 4 := Nat.mul_le_mul_right _ hle
    rw [cell_of_row w g _ _ _ _ r, Array.getElem?_eq_getElem (by rw [hsz]; omega)]; rfl
theorem Own.other {w : World} {base : Nat} {v : Value} {os : List O} (h : Own w base v os) (j o : Nat) (x : Value) (hj : j < base) : Own (w.setCell ⟨j, o, none⟩ x) base v os := by
  obtain ⟨h1, h2⟩ := h
  refine ⟨h1, ?_⟩
  rcases h2 with h2 | ⟨g, cap, cur, rfl, hb', hc, rest⟩
  · exact Or.inl h2
  · exact Or.inr ⟨g, cap, cur, rfl, hb', by rw [Below.heap_setCell w _ x g (by show g ≠ j; omega)]; exact hc, rest⟩
theorem wp_copy {T : Value → World → Prop} {w : World} {o : Oper} {a : Act} {K : Act → World → Prop} {Q : Exit → Act → World → Prop} (s x : Operand) (t : TypeId)
    (ho : o.op = .call { callee := .builtin .append, args := #[s, x], argTypes := #[t, t] }) (sv v : Value) (hs : a.eval s = sv) (hx : a.eval x = v)
    (hr : ∀ ty, ∃ v' w', (Builtin.append_ #[t, t] ty #[sv, v]).run Try.prog w = .ok v' w' ∧ T v' w')
    (h : ∀ v' w', T v' w' → K (a.put o.dst v') w') : Oper.wp Try.prog o a w K Q := by
  obtain ⟨v', w', hrun, hT⟩ := hr o.type
  unfold Oper.wp
  simp [execOp, ho, resolve, invoke, builtin, hs, hx, hrun, Result.andThen]
  exact h v' w' hT
theorem wpList_copy {T : Value → World → Prop} {w : World} {ops : Array Oper} {rest : List Oper} {o : Oper} {a : Act} {Q : Exit → Act → World → Prop} (hgd : o.guard = none) (s x : Operand) (t : TypeId)
    (ho : o.op = .call { callee := .builtin .append, args := #[s, x], argTypes := #[t, t] }) (sv v : Value) (hs : a.eval s = sv) (hx : a.eval x = v)
    (hr : ∀ ty, ∃ v' w', (Builtin.append_ #[t, t] ty #[sv, v]).run Try.prog w = .ok v' w' ∧ T v' w')
    (h : ∀ v' w', T v' w' → wpList Try.prog ops Q rest (a.put o.dst v') w') : wpList Try.prog ops Q (o :: rest) a w := by
  refine wpList_plain hgd fun K hK => ?_
  obtain ⟨v', w', hrun, hT⟩ := hr o.type
  unfold Oper.wp
  simp [execOp, ho, resolve, invoke, builtin, hs, hx, hrun, Result.andThen]
  exact hK _ _ (h v' w' hT)
theorem run_copy (w : World) (ty : TypeId) (v : Value) (os : List O) (h : Olds w v os) (hn : os.length ≤ 1000000000) :
    ∃ v' w', (Builtin.append_ #[97, 97] ty #[.slice (some ⟨w.heap.size, 0, none⟩) 0 0, v]).run Try.prog (w.alloc (.cells #[] 164)) = .ok v' w' ∧ Own w' w.heap.size v' os ∧ Below w.heap.size w w' := by
  obtain ⟨i, hi, hz, hs, hb⟩ := info_parts info164
  have hown : (w.alloc (.cells #[] 164)).ownsRow w.heap.size 164 4 (.slice (some ⟨w.heap.size, 0, none⟩) 0 0) 0 [] := World.ownsRow_made w #[] 0 (Nat.le_refl _) (Nat.zero_le _) rfl
  have b0 : Below w.heap.size w (w.alloc (.cells #[] 164)) := (Below.refl _ _).alloc (Nat.le_refl _) _
  rcases h with ⟨rfl, rfl⟩ | ⟨a, cap, rfl, hc⟩
  · exact ⟨_, _, run_append_owned_none (P := Try.prog) (w := w.alloc (.cells #[] 164)) w.heap.size 97 ty 164 i 4 Try.underlying97 hi _ 0 [] hown, hown, b0⟩
  · obtain ⟨v', w', hr, h2, h3, h4, h5⟩ := run_append_own_at (P := Try.prog) (w.alloc (.cells #[] 164)) w.heap.size 97 ty 164 i _ 4 32 Try.underlying97 hi hz hs hb rfl (by decide) _ 0 [] hown a os.length cap (flat os) (flat_length os) (fun j u hj => cell_keep (hc j u hj) b0) (flat_one os) (by unfold maxLen; omega) (by omega) (by simp)
    refine ⟨v', w', hr, ?_, b0.grown h3 (by simp) (fun k hk => ?_)⟩
    · unfold Own; simpa using h2
    · simp [Value.ownBlock] at hk
      omega
theorem Own.alloc {w : World} {base : Nat} {v : Value} {os : List O} (h : Own w base v os) (o : Obj) : Own (w.alloc o) base v os := h.keep ((Below.refl _ _).alloc (Nat.le_refl _) _)
theorem Own.form {w : World} {base : Nat} {v : Value} {os : List O} (h : Own w base v os) : ∃ oa cap, v = .slice oa os.length cap := by
  rcases h.2 with ⟨rfl, h2⟩ | ⟨g, cap, cur, rfl, _⟩
  · exact ⟨none, 0, by rw [h2]⟩
  · exact ⟨_, cap, rfl⟩
theorem Own.snocP {w : World} {base : Nat} {v : Value} {os : List O} (h : Own w base v os) (ty : TypeId) (X : Nat) (p : O) (hX : Row w X p.arr 164) (hb : base ≤ w.heap.size) (hn : os.length ≤ 1000) :
    ∃ v' w', (Builtin.append_ #[97, 97] ty #[v, .slice (some ⟨X, 0, none⟩) 1 1]).run Try.prog w = .ok v' w' ∧ Own w' base v' (os ++ [p]) ∧ w.grownBy w' v.ownBlock := by
  obtain ⟨i, hi, hz, hs, hby⟩ := info_parts info164
  obtain ⟨v', w', hr, h2, h3, h4, h5⟩ := run_append_own_at (P := Try.prog) w base 97 ty 164 i _ 4 32 Try.underlying97 hi hz hs hby rfl (by decide) v os.length (flat os) h ⟨X, 0, none⟩ 1 1 p.cells rfl (fun j u hj => by rw [Addr.add_mid, Nat.zero_add, cell_of_row w X j _ _ _ hX, ← hj]; show p.cells.toArray[j]? = _; rw [List.getElem?_toArray]) (fun u hu => flat_one [p] u (by simpa [flat] using hu)) (by unfold maxLen; omega) (by omega) hb
  refine ⟨v', w', hr, ?_, h3⟩
  unfold Own
  rw [flat_append, List.length_append]
  exact h2
theorem Olds.hold {w : World} {v : Value} {os : List O} (h : Olds w v os) : ∃ oa cap, v = .slice oa os.length cap ∧ ∀ i, i < os.length → ∃ (a : Addr) (x0 : Int) (x1 : Int) (x2 : Int) (x3 : ByteArray), oa = some a ∧ os[i]? = some ⟨x0, x1, x2, x3⟩ ∧ ∀ j u, ([.int .u32 x0, .int .u32 x1, .int .u64 x2, .string x3] : List Value)[j]? = some u → w.cell? ((a.add (i * 4)).add j) = some u := by
  obtain ⟨oa, cap, h1, h2⟩ := h.open
  refine ⟨oa, cap, h1, fun i hi => ?_⟩
  obtain ⟨a, ⟨x0, x1, x2, x3⟩, e1, e2, e3⟩ := h2 i hi
  exact ⟨a, x0, x1, x2, x3, e1, e2, e3⟩
end Go.Proofs.Ytehogiondcpbcaa.Ck
namespace Go.Proofs.Ytehogiondcpbcaa
open Go.ChangeShapes Go.WideShapes Go.ChangeAt Go.RowKit
set_option linter.unusedVariables false
set_option linter.unusedSimpArgs false
set_option maxRecDepth 20000
structure Lg where
  at_ : Int
  size : Int
  ep : Int
  last : List Int
  sealed : List Ck.O
  open_ : ByteArray
  next : Int
  fresh : Bool
  fin : Int
  dur : Int
def lcells (pd vl vs : Value) (l : Lg) : Array Value := #[pd, .int .i64 l.at_, .int .i64 l.size, .int .u32 l.ep, vl, vs, .string l.open_, .int .u32 l.next, .bool l.fresh, .int .u64 l.fin, .int .u64 l.dur]
theorem size95 : (Try.prog.info? 95).map (·.size) = some 3 := by kernel_rfl
theorem zero95 (w : World) : (zeroValue 95).run Try.prog w = .ok (.agg #[.pointer none, .int .i64 0, .int .i64 0]) w := (zero_of_info (P := Try.prog) (t := 95) (v := .agg #[.pointer none, .int .i64 0, .int .i64 0]) (n := 3) (by kernel_rfl)).1 w
def OwnU (w : World) (base : Nat) (v : Value) (xs : List Int) : Prop := w.ownsRow base 37 1 v xs.length (xs.map (Value.int .u64))
theorem OwnU.nil (w : World) (base : Nat) : OwnU w base (.slice none 0 0) [] := ⟨rfl, Or.inl ⟨rfl, rfl⟩⟩
theorem OwnU.keep {w w' : World} {base : Nat} {v : Value} {xs : List Int} (h : OwnU w base v xs) (hb : Below w.heap.size w w') : OwnU w' base v xs := by
  have hl := World.ownsRow.lt h
  obtain ⟨h1, h2⟩ := h
  refine ⟨h1, ?_⟩
  rcases h2 with h2 | ⟨g, cap, cur, rfl, hb', hc, rest⟩
  · exact Or.inl h2
  · exact Or.inr ⟨g, cap, cur, rfl, hb', (hb.block g (hl g rfl).2).trans hc, rest⟩
theorem OwnU.form {w : World} {base : Nat} {v : Value} {xs : List Int} (h : OwnU w base v xs) : ∃ oa cap, v = .slice oa xs.length cap := by
  rcases h.2 with ⟨rfl, h2⟩ | ⟨g, cap, cur, rfl, _⟩
  · exact ⟨none, 0, by rw [h2]⟩
  · exact ⟨_, cap, rfl⟩
def okR (a z n : Int) : Bool := decide (0 ≤ a) && (decide (1 ≤ z) && decide (a ≤ n - z))
set_option maxHeartbeats 2000000 in
theorem right_any (pd : Value) (a z n : Int) (w : World) (hz : z ≤ 9223372036854775807) (hn : 0 ≤ n ∧ n ≤ 9223372036854775807) (hs : ∀ wa, Below w.heap.size w wa → Calls Try.prog 62 #[pd] wa fun e w' => e = .returned (.int .i64 n) ∧ w' = wa) :
    Calls Try.prog 67 #[.agg #[pd, .int .i64 a, .int .i64 z]] w fun e w' => e = .returned (.bool (okR a z n)) ∧ Below w.heap.size w w' := by
  have HSZ : Hid _ := hs
  clear hs
  have r0 : Row (w.alloc (.cells #[pd, .int .i64 a, .int .i64 z] 95)) w.heap.size #[pd, .int .i64 a, .int .i64 z] 95 := Row.new _ _ _
  have rb : Below w.heap.size w (w.alloc (.cells #[pd, .int .i64 a, .int .i64 z] 95)) := (Below.refl _ _).alloc (Nat.le_refl _) _
  go_enter Try.func67, Try.ntmps67
  go_upto_region 1 with fail
  generalize w.alloc (.cells #[pd, .int .i64 a, .int .i64 z] 95) = w1 at r0 rb ⊢
  by_cases ha : 0 ≤ a
  rotate_left
  · have HK : Hid (okR a z n = false) := by show _ = _; unfold okR; rw [decide_eq_false ha]; rfl
    have ha' : decide (0 ≤ a) = false := decide_eq_false ha
    refine wp_region_held_drew (S := fun w' => Row w' w.heap.size #[pd, .int .i64 a, .int .i64 z] 95 ∧ Below w.heap.size w w') (by kernel_rfl) ⟨r0, rb.drew⟩ fun hS => ?_
    clear r0 rb
    refine tkI (i := 0) (v := .pointer (some ⟨w.heap.size, 1, none⟩)) rfl (Or.inl ⟨by rfl, fun w _ => by go_simp⟩) hS ?_
    try simp only [Act.put, nz]
    refine tkI (i := 1) (v := .int .i64 a) rfl (Or.inl ⟨by rfl, fun w h => by have c := row_at h.1 1 _ rfl; go_simp⟩) hS ?_
    try simp only [Act.put, nz]
    refine tkI (i := 2) (v := .bool false) rfl (Or.inl ⟨by rfl, fun w _ => by go_simp⟩) hS ?_
    try simp only [Act.put, nz]
    refine tkI (i := 3) (v := .bool false) rfl (Or.inl ⟨by rfl, fun w _ => by go_simp⟩) hS ?_
    try simp only [Act.put, nz]
    refine tkI (i := 4) (v := undef) rfl (Or.inr ⟨by rfl, rfl⟩) hS ?_
    try simp only [Act.put, nz]
    refine tkI (i := 5) (v := undef) rfl (Or.inr ⟨by rfl, rfl⟩) hS ?_
    try simp only [Act.put, nz]
    refine tkI (i := 6) (v := undef) rfl (Or.inr ⟨by rfl, rfl⟩) hS ?_
    try simp only [Act.put, nz]
    refine tkI (i := 7) (v := .bool false) rfl (Or.inl ⟨by rfl, fun w _ => by go_simp⟩) hS ?_
    try simp only [Act.put, nz]
    refine tkI (i := 8) (v := .bool false) rfl (Or.inl ⟨by rfl, fun w _ => by go_simp⟩) hS ?_
    try simp only [Act.put, nz]
    refine tkI (i := 9) (v := undef) rfl (Or.inr ⟨by rfl, rfl⟩) hS ?_
    try simp only [Act.put, nz]
    refine tkI (i := 10) (v := undef) rfl (Or.inr ⟨by rfl, rfl⟩) hS ?_
    try simp only [Act.put, nz]
    refine tkI (i := 11) (v := undef) rfl (Or.inr ⟨by rfl, rfl⟩) hS ?_
    try simp only [Act.put, nz]
    refine tkI (i := 12) (v := undef) rfl (Or.inr ⟨by rfl, rfl⟩) hS ?_
    try simp only [Act.put, nz]
    refine tkI (i := 13) (v := undef) rfl (Or.inr ⟨by rfl, rfl⟩) hS ?_
    try simp only [Act.put, nz]
    refine tkI (i := 14) (v := undef) rfl (Or.inr ⟨by rfl, rfl⟩) hS ?_
    try simp only [Act.put, nz]
    refine tkI (i := 15) (v := undef) rfl (Or.inr ⟨by rfl, rfl⟩) hS ?_
    try simp only [Act.put, nz]
    refine tkI (i := 16) (v := undef) rfl (Or.inr ⟨by rfl, rfl⟩) hS ?_
    try simp only [Act.put, nz]
    refine tkI (i := 17) (v := undef) rfl (Or.inr ⟨by rfl, rfl⟩) hS ?_
    try simp only [Act.put, nz]
    refine tkI (i := 18) (v := .bool false) rfl (Or.inl ⟨by rfl, fun w _ => by go_simp⟩) hS ?_
    try simp only [Act.put, nz]
    refine tkI (i := 19) (v := .bool false) rfl (Or.inl ⟨by rfl, fun w _ => by go_simp⟩) hS ?_
    try simp only [Act.put, nz]
    refine wpAnyH_done (by kernel_rfl) ?_ _
    go_wp2
    go_ret
    exact ⟨by rw [HK.out]; rfl, hS.2⟩
  by_cases h1 : 1 ≤ z
  rotate_left
  · have HK : Hid (okR a z n = false) := by show _ = _; unfold okR; rw [decide_eq_false h1]; simp
    have h1' : decide (1 ≤ z) = false := decide_eq_false h1
    refine wp_region_held_drew (S := fun w' => Row w' w.heap.size #[pd, .int .i64 a, .int .i64 z] 95 ∧ Below w.heap.size w w') (by kernel_rfl) ⟨r0, rb.drew⟩ fun hS => ?_
    clear r0 rb
    refine tkI (i := 0) (v := .pointer (some ⟨w.heap.size, 1, none⟩)) rfl (Or.inl ⟨by rfl, fun w _ => by go_simp⟩) hS ?_
    try simp only [Act.put, nz]
    refine tkI (i := 1) (v := .int .i64 a) rfl (Or.inl ⟨by rfl, fun w h => by have c := row_at h.1 1 _ rfl; go_simp⟩) hS ?_
    try simp only [Act.put, nz]
    refine tkI (i := 2) (v := .bool true) rfl (Or.inl ⟨by rfl, fun w _ => by go_simp⟩) hS ?_
    try simp only [Act.put, nz]
    refine tkI (i := 3) (v := .bool true) rfl (Or.inl ⟨by rfl, fun w _ => by go_simp⟩) hS ?_
    try simp only [Act.put, nz]
    refine tkI (i := 4) (v := .pointer (some ⟨w.heap.size, 2, none⟩)) rfl (Or.inl ⟨by rfl, fun w _ => by go_simp⟩) hS ?_
    try simp only [Act.put, nz]
    refine tkI (i := 5) (v := .int .i64 z) rfl (Or.inl ⟨by rfl, fun w h => by have c := row_at h.1 2 _ rfl; go_simp⟩) hS ?_
    try simp only [Act.put, nz]
    refine tkI (i := 6) (v := .bool false) rfl (Or.inl ⟨by rfl, fun w _ => by go_simp⟩) hS ?_
    try simp only [Act.put, nz]
    refine tkI (i := 7) (v := .bool false) rfl (Or.inl ⟨by rfl, fun w _ => by go_simp⟩) hS ?_
    try simp only [Act.put, nz]
    refine tkI (i := 8) (v := .bool false) rfl (Or.inl ⟨by rfl, fun w _ => by go_simp⟩) hS ?_
    try simp only [Act.put, nz]
    refine tkI (i := 9) (v := undef) rfl (Or.inr ⟨by rfl, rfl⟩) hS ?_
    try simp only [Act.put, nz]
    refine tkI (i := 10) (v := undef) rfl (Or.inr ⟨by rfl, rfl⟩) hS ?_
    try simp only [Act.put, nz]
    refine tkI (i := 11) (v := undef) rfl (Or.inr ⟨by rfl, rfl⟩) hS ?_
    try simp only [Act.put, nz]
    refine tkI (i := 12) (v := undef) rfl (Or.inr ⟨by rfl, rfl⟩) hS ?_
    try simp only [Act.put, nz]
    refine tkI (i := 13) (v := undef) rfl (Or.inr ⟨by rfl, rfl⟩) hS ?_
    try simp only [Act.put, nz]
    refine tkI (i := 14) (v := undef) rfl (Or.inr ⟨by rfl, rfl⟩) hS ?_
    try simp only [Act.put, nz]
    refine tkI (i := 15) (v := undef) rfl (Or.inr ⟨by rfl, rfl⟩) hS ?_
    try simp only [Act.put, nz]
    refine tkI (i := 16) (v := undef) rfl (Or.inr ⟨by rfl, rfl⟩) hS ?_
    try simp only [Act.put, nz]
    refine tkI (i := 17) (v := undef) rfl (Or.inr ⟨by rfl, rfl⟩) hS ?_
    try simp only [Act.put, nz]
    refine tkI (i := 18) (v := .bool false) rfl (Or.inl ⟨by rfl, fun w _ => by go_simp⟩) hS ?_
    try simp only [Act.put, nz]
    refine tkI (i := 19) (v := .bool false) rfl (Or.inl ⟨by rfl, fun w _ => by go_simp⟩) hS ?_
    try simp only [Act.put, nz]
    refine wpAnyH_done (by kernel_rfl) ?_ _
    go_wp2
    go_ret
    exact ⟨by rw [HK.out]; rfl, hS.2⟩
  have hw : IntKind.i64.wrap (n - z) = n - z := by rw [IntKind.wrap_i64]; omega
  by_cases h2 : a ≤ n - z
  · have HK : Hid (okR a z n = true) := by show _ = _; unfold okR; rw [decide_eq_true ha, decide_eq_true h1, decide_eq_true h2]; rfl
    refine wp_region_held_drew (S := fun w' => Row w' w.heap.size #[pd, .int .i64 a, .int .i64 z] 95 ∧ Below w.heap.size w w') (by kernel_rfl) ⟨r0, rb.drew⟩ fun hS => ?_
    clear r0 rb
    refine tkI (i := 0) (v := .pointer (some ⟨w.heap.size, 1, none⟩)) rfl (Or.inl ⟨by rfl, fun w _ => by go_simp⟩) hS ?_
    try simp only [Act.put, nz]
    refine tkI (i := 1) (v := .int .i64 a) rfl (Or.inl ⟨by rfl, fun w h => by have c := row_at h.1 1 _ rfl; go_simp⟩) hS ?_
    try simp only [Act.put, nz]
    refine tkI (i := 2) (v := .bool true) rfl (Or.inl ⟨by rfl, fun w _ => by go_simp⟩) hS ?_
    try simp only [Act.put, nz]
    refine tkI (i := 3) (v := .bool true) rfl (Or.inl ⟨by rfl, fun w _ => by go_simp⟩) hS ?_
    try simp only [Act.put, nz]
    refine tkI (i := 4) (v := .pointer (some ⟨w.heap.size, 2, none⟩)) rfl (Or.inl ⟨by rfl, fun w _ => by go_simp⟩) hS ?_
    try simp only [Act.put, nz]
    refine tkI (i := 5) (v := .int .i64 z) rfl (Or.inl ⟨by rfl, fun w h => by have c := row_at h.1 2 _ rfl; go_simp⟩) hS ?_
    try simp only [Act.put, nz]
    refine tkI (i := 6) (v := .bool true) rfl (Or.inl ⟨by rfl, fun w _ => by go_simp⟩) hS ?_
    try simp only [Act.put, nz]
    refine tkI (i := 7) (v := .bool true) rfl (Or.inl ⟨by rfl, fun w _ => by go_simp⟩) hS ?_
    try simp only [Act.put, nz]
    refine tkI (i := 8) (v := .bool true) rfl (Or.inl ⟨by rfl, fun w _ => by go_simp⟩) hS ?_
    try simp only [Act.put, nz]
    refine tkI (i := 9) (v := .pointer (some ⟨w.heap.size, 1, none⟩)) rfl (Or.inl ⟨by rfl, fun w _ => by go_simp⟩) hS ?_
    try simp only [Act.put, nz]
    refine tkI (i := 10) (v := .int .i64 a) rfl (Or.inl ⟨by rfl, fun w h => by have c := row_at h.1 1 _ rfl; go_simp⟩) hS ?_
    try simp only [Act.put, nz]
    refine tkI (i := 11) (v := .pointer (some ⟨w.heap.size, 0, none⟩)) rfl (Or.inl ⟨by rfl, fun w _ => by go_simp⟩) hS ?_
    try simp only [Act.put, nz]
    refine tkI (i := 12) (v := pd) rfl (Or.inl ⟨by rfl, fun w h => by have c := row_at h.1 0 _ rfl; go_simp⟩) hS ?_
    try simp only [Act.put, nz]
    refine tkI (i := 14) (v := .pointer (some ⟨w.heap.size, 2, none⟩)) rfl (Or.inl ⟨by rfl, fun w _ => by go_simp⟩) hS ?_
    try simp only [Act.put, nz]
    refine tkI (i := 15) (v := .int .i64 z) rfl (Or.inl ⟨by rfl, fun w h => by have c := row_at h.1 2 _ rfl; go_simp⟩) hS ?_
    try simp only [Act.put, nz]
    refine wpAnyH_ready (rs := [13]) (by kernel_rfl) (by simp) ?_
    refine AllReadyH.cons rfl (fun K hK => ?_) AllReadyH.nil
    go_simp
    go_at_call 62
    refine Calls.mono (HSZ.out _ hS.2) ?_
    rintro e wc ⟨rfl, rfl⟩
    refine hK.out _ _ (hS) fun hS => ?_
    try simp only [Act.put, nz]
    refine tkI (i := 16) (v := .int .i64 (n - z)) rfl (Or.inl ⟨by rfl, fun w _ => by go_simp⟩) hS ?_
    try simp only [Act.put, nz]
    refine tkI (i := 17) (v := .bool true) rfl (Or.inl ⟨by rfl, fun w _ => by go_simp⟩) hS ?_
    try simp only [Act.put, nz]
    refine tkI (i := 18) (v := .bool true) rfl (Or.inl ⟨by rfl, fun w _ => by go_simp⟩) hS ?_
    try simp only [Act.put, nz]
    refine tkI (i := 19) (v := .bool true) rfl (Or.inl ⟨by rfl, fun w _ => by go_simp⟩) hS ?_
    try simp only [Act.put, nz]
    refine wpAnyH_done (by kernel_rfl) ?_ _
    go_wp2
    go_ret
    exact ⟨by rw [HK.out]; rfl, hS.2⟩
  · have HK : Hid (okR a z n = false) := by show _ = _; unfold okR; rw [decide_eq_false h2]; simp
    refine wp_region_held_drew (S := fun w' => Row w' w.heap.size #[pd, .int .i64 a, .int .i64 z] 95 ∧ Below w.heap.size w w') (by kernel_rfl) ⟨r0, rb.drew⟩ fun hS => ?_
    clear r0 rb
    refine tkI (i := 0) (v := .pointer (some ⟨w.heap.size, 1, none⟩)) rfl (Or.inl ⟨by rfl, fun w _ => by go_simp⟩) hS ?_
    try simp only [Act.put, nz]
    refine tkI (i := 1) (v := .int .i64 a) rfl (Or.inl ⟨by rfl, fun w h => by have c := row_at h.1 1 _ rfl; go_simp⟩) hS ?_
    try simp only [Act.put, nz]
    refine tkI (i := 2) (v := .bool true) rfl (Or.inl ⟨by rfl, fun w _ => by go_simp⟩) hS ?_
    try simp only [Act.put, nz]
    refine tkI (i := 3) (v := .bool true) rfl (Or.inl ⟨by rfl, fun w _ => by go_simp⟩) hS ?_
    try simp only [Act.put, nz]
    refine tkI (i := 4) (v := .pointer (some ⟨w.heap.size, 2, none⟩)) rfl (Or.inl ⟨by rfl, fun w _ => by go_simp⟩) hS ?_
    try simp only [Act.put, nz]
    refine tkI (i := 5) (v := .int .i64 z) rfl (Or.inl ⟨by rfl, fun w h => by have c := row_at h.1 2 _ rfl; go_simp⟩) hS ?_
    try simp only [Act.put, nz]
    refine tkI (i := 6) (v := .bool true) rfl (Or.inl ⟨by rfl, fun w _ => by go_simp⟩) hS ?_
    try simp only [Act.put, nz]
    refine tkI (i := 7) (v := .bool true) rfl (Or.inl ⟨by rfl, fun w _ => by go_simp⟩) hS ?_
    try simp only [Act.put, nz]
    refine tkI (i := 8) (v := .bool true) rfl (Or.inl ⟨by rfl, fun w _ => by go_simp⟩) hS ?_
    try simp only [Act.put, nz]
    refine tkI (i := 9) (v := .pointer (some ⟨w.heap.size, 1, none⟩)) rfl (Or.inl ⟨by rfl, fun w _ => by go_simp⟩) hS ?_
    try simp only [Act.put, nz]
    refine tkI (i := 10) (v := .int .i64 a) rfl (Or.inl ⟨by rfl, fun w h => by have c := row_at h.1 1 _ rfl; go_simp⟩) hS ?_
    try simp only [Act.put, nz]
    refine tkI (i := 11) (v := .pointer (some ⟨w.heap.size, 0, none⟩)) rfl (Or.inl ⟨by rfl, fun w _ => by go_simp⟩) hS ?_
    try simp only [Act.put, nz]
    refine tkI (i := 12) (v := pd) rfl (Or.inl ⟨by rfl, fun w h => by have c := row_at h.1 0 _ rfl; go_simp⟩) hS ?_
    try simp only [Act.put, nz]
    refine tkI (i := 14) (v := .pointer (some ⟨w.heap.size, 2, none⟩)) rfl (Or.inl ⟨by rfl, fun w _ => by go_simp⟩) hS ?_
    try simp only [Act.put, nz]
    refine tkI (i := 15) (v := .int .i64 z) rfl (Or.inl ⟨by rfl, fun w h => by have c := row_at h.1 2 _ rfl; go_simp⟩) hS ?_
    try simp only [Act.put, nz]
    refine wpAnyH_ready (rs := [13]) (by kernel_rfl) (by simp) ?_
    refine AllReadyH.cons rfl (fun K hK => ?_) AllReadyH.nil
    go_simp
    go_at_call 62
    refine Calls.mono (HSZ.out _ hS.2) ?_
    rintro e wc ⟨rfl, rfl⟩
    refine hK.out _ _ (hS) fun hS => ?_
    try simp only [Act.put, nz]
    refine tkI (i := 16) (v := .int .i64 (n - z)) rfl (Or.inl ⟨by rfl, fun w _ => by go_simp⟩) hS ?_
    try simp only [Act.put, nz]
    refine tkI (i := 17) (v := .bool false) rfl (Or.inl ⟨by rfl, fun w _ => by go_simp⟩) hS ?_
    try simp only [Act.put, nz]
    refine tkI (i := 18) (v := .bool false) rfl (Or.inl ⟨by rfl, fun w _ => by go_simp⟩) hS ?_
    try simp only [Act.put, nz]
    refine tkI (i := 19) (v := .bool false) rfl (Or.inl ⟨by rfl, fun w _ => by go_simp⟩) hS ?_
    try simp only [Act.put, nz]
    refine wpAnyH_done (by kernel_rfl) ?_ _
    go_wp2
    go_ret
    exact ⟨by rw [HK.out]; rfl, hS.2⟩
def placeV (a z n : Int) : Int := a + n % z
set_option maxHeartbeats 2000000 in
theorem place_any (pd : Value) (a z n : Int) (w : World) (ha : 0 ≤ a ∧ a ≤ 4294967295) (hz : 1 ≤ z ∧ z ≤ 4294967295) (hn : 0 ≤ n ∧ n ≤ 4294967295) :
    Calls Try.prog 129 #[.agg #[pd, .int .i64 a, .int .i64 z], .int .u32 n] w fun e w' => e = .returned (.int .i64 (placeV a z n)) ∧ Below w.heap.size w w' := by
  have r0 : Row (w.alloc (.cells #[pd, .int .i64 a, .int .i64 z] 95)) w.heap.size #[pd, .int .i64 a, .int .i64 z] 95 := Row.new _ _ _
  have rb : Below w.heap.size w (w.alloc (.cells #[pd, .int .i64 a, .int .i64 z] 95)) := (Below.refl _ _).alloc (Nat.le_refl _) _
  have m0 : 0 ≤ n % z := Int.emod_nonneg _ (by omega)
  have m1 : n % z < z := Int.emod_lt_of_pos _ (by omega)
  have hrem : n.tmod z = n % z := Int.tmod_eq_emod_of_nonneg hn.1
  have w1 : IntKind.u64.wrap n = n := by rw [IntKind.wrap_u64]; omega
  have w2 : IntKind.u64.wrap z = z := by rw [IntKind.wrap_u64]; omega
  have w3 : IntKind.u64.wrap (n % z) = n % z := by rw [IntKind.wrap_u64]; omega
  have w4 : IntKind.i64.wrap (n % z) = n % z := by rw [IntKind.wrap_i64]; omega
  have w5 : IntKind.i64.wrap (a + n % z) = a + n % z := by rw [IntKind.wrap_i64]; omega
  have hz0 : ¬ z = 0 := by omega
  have HK : Hid (placeV a z n = a + n % z) := rfl
  go_enter Try.func129, Try.ntmps129
  go_upto_region 1 with fail
  generalize w.alloc (.cells #[pd, .int .i64 a, .int .i64 z] 95) = w1 at r0 rb ⊢
  refine wp_region_held_drew (S := fun w' => Row w' w.heap.size #[pd, .int .i64 a, .int .i64 z] 95 ∧ Below w.heap.size w w') (by kernel_rfl) ⟨r0, rb.drew⟩ fun hS => ?_
  clear r0 rb
  refine tkI (i := 0) (v := .pointer (some ⟨w.heap.size, 1, none⟩)) rfl (Or.inl ⟨by rfl, fun w _ => by go_simp⟩) hS ?_
  try simp only [Act.put, nz]
  refine tkI (i := 1) (v := .int .i64 a) rfl (Or.inl ⟨by rfl, fun w h => by have c := row_at h.1 1 _ rfl; go_simp⟩) hS ?_
  try simp only [Act.put, nz]
  refine tkI (i := 2) (v := .int .u32 n) rfl (Or.inl ⟨by rfl, fun w _ => by go_simp⟩) hS ?_
  try simp only [Act.put, nz]
  refine tkI (i := 3) (v := .int .u64 n) rfl (Or.inl ⟨by rfl, fun w _ => by go_simp⟩) hS ?_
  try simp only [Act.put, nz]
  refine tkI (i := 4) (v := .pointer (some ⟨w.heap.size, 2, none⟩)) rfl (Or.inl ⟨by rfl, fun w _ => by go_simp⟩) hS ?_
  try simp only [Act.put, nz]
  refine tkI (i := 5) (v := .int .i64 z) rfl (Or.inl ⟨by rfl, fun w h => by have c := row_at h.1 2 _ rfl; go_simp⟩) hS ?_
  try simp only [Act.put, nz]
  refine tkI (i := 6) (v := .int .u64 z) rfl (Or.inl ⟨by rfl, fun w _ => by go_simp⟩) hS ?_
  try simp only [Act.put, nz]
  refine tkI (i := 7) (v := .int .u64 (n % z)) rfl (Or.inl ⟨by rfl, fun w _ => by go_simp⟩) hS ?_
  try simp only [Act.put, nz]
  refine tkI (i := 8) (v := .int .i64 (n % z)) rfl (Or.inl ⟨by rfl, fun w _ => by go_simp⟩) hS ?_
  try simp only [Act.put, nz]
  refine tkI (i := 9) (v := .int .i64 (a + n % z)) rfl (Or.inl ⟨by rfl, fun w _ => by go_simp⟩) hS ?_
  try simp only [Act.put, nz]
  refine tkI (i := 10) (v := .int .i64 (a + n % z)) rfl (Or.inl ⟨by rfl, fun w _ => by go_simp⟩) hS ?_
  try simp only [Act.put, nz]
  refine wpAnyH_done (by kernel_rfl) ?_ _
  go_wp2
  go_ret
  exact ⟨by rw [HK.out]; rfl, hS.2⟩
set_option maxHeartbeats 2000000 in
theorem made_any (gl : Nat) (pd : Value) (l : Lg) (oa ob : Option Addr) (n m ca cb : Nat) (w : World) (hr : Row w gl (lcells pd (.slice oa n ca) (.slice ob m cb) l) 99) (hn : n ≤ 1000000000) (hm : m ≤ 1000000000) :
    Calls Try.prog 50 #[.pointer (some ⟨gl, 0, none⟩)] w fun e w' => e = .returned (.int .i64 ((n : Int) + m)) ∧ Below w.heap.size w w' := by
  have w1 : IntKind.i64.wrap ((n : Int) + m) = (n : Int) + m := by rw [IntKind.wrap_i64]; omega
  have rb : Below w.heap.size w w := Below.refl _ _
  unfold lcells at hr
  go_enter Try.func50, Try.ntmps50
  go_upto_region 1 with fail
  refine wp_region_held_drew (S := fun w' => Row w' gl #[pd, .int .i64 l.at_, .int .i64 l.size, .int .u32 l.ep, .slice oa n ca, .slice ob m cb, .string l.open_, .int .u32 l.next, .bool l.fresh, .int .u64 l.fin, .int .u64 l.dur] 99 ∧ Below w.heap.size w w') (by kernel_rfl) ⟨hr, rb.drew⟩ fun hS => ?_
  clear hr rb
  refine tkI (i := 0) (v := .pointer (some ⟨gl, 0, none⟩)) rfl (Or.inl ⟨by rfl, fun w _ => by go_simp⟩) hS ?_
  try simp only [Act.put, nz]
  refine tkI (i := 1) (v := .pointer (some ⟨gl, 0, none⟩)) rfl (Or.inl ⟨by rfl, fun w _ => by go_simp⟩) hS ?_
  try simp only [Act.put, nz]
  refine tkI (i := 2) (v := .pointer (some ⟨gl, 4, none⟩)) rfl (Or.inl ⟨by rfl, fun w _ => by go_simp⟩) hS ?_
  try simp only [Act.put, nz]
  refine tkI (i := 3) (v := .slice oa n ca) rfl (Or.inl ⟨by rfl, fun w h => by have c := row_at h.1 4 _ rfl; go_simp⟩) hS ?_
  try simp only [Act.put, nz]
  refine tkI (i := 4) (v := .int .i64 n) rfl (Or.inl ⟨by rfl, fun w _ => by go_simp⟩) hS ?_
  try simp only [Act.put, nz]
  refine tkI (i := 5) (v := .pointer (some ⟨gl, 0, none⟩)) rfl (Or.inl ⟨by rfl, fun w _ => by go_simp⟩) hS ?_
  try simp only [Act.put, nz]
  refine tkI (i := 6) (v := .pointer (some ⟨gl, 0, none⟩)) rfl (Or.inl ⟨by rfl, fun w _ => by go_simp⟩) hS ?_
  try simp only [Act.put, nz]
  refine tkI (i := 7) (v := .pointer (some ⟨gl, 5, none⟩)) rfl (Or.inl ⟨by rfl, fun w _ => by go_simp⟩) hS ?_
  try simp only [Act.put, nz]
  refine tkI (i := 8) (v := .slice ob m cb) rfl (Or.inl ⟨by rfl, fun w h => by have c := row_at h.1 5 _ rfl; go_simp⟩) hS ?_
  try simp only [Act.put, nz]
  refine tkI (i := 9) (v := .int .i64 m) rfl (Or.inl ⟨by rfl, fun w _ => by go_simp⟩) hS ?_
  try simp only [Act.put, nz]
  refine tkI (i := 10) (v := .int .i64 ((n : Int) + m)) rfl (Or.inl ⟨by rfl, fun w _ => by go_simp⟩) hS ?_
  try simp only [Act.put, nz]
  refine tkI (i := 11) (v := .int .i64 ((n : Int) + m)) rfl (Or.inl ⟨by rfl, fun w _ => by go_simp⟩) hS ?_
  try simp only [Act.put, nz]
  refine wpAnyH_done (by kernel_rfl) ?_ _
  go_wp2
  go_ret
  exact ⟨rfl, hS.2⟩
theorem wanted_any (b : Int) (w : World) (hb : 0 ≤ b ∧ b ≤ 1000000000000) : Calls Try.prog 51 #[.int .i64 b] w fun e w' => e = .returned (.int .i64 ((b + 213) / 214)) ∧ Below w.heap.size w w' := by
  have w1 : IntKind.i64.wrap (b + 214) = b + 214 := by rw [IntKind.wrap_i64]; omega
  have w2 : IntKind.i64.wrap (b + 214 - 1) = b + 213 := by rw [IntKind.wrap_i64]; omega
  have e1 : (b + 213).tdiv 214 = (b + 213) / 214 := Int.tdiv_eq_ediv_of_nonneg (by omega)
  have w3 : IntKind.i64.wrap ((b + 213) / 214) = (b + 213) / 214 := by rw [IntKind.wrap_i64]; omega
  go_enter Try.func51, Try.ntmps51
  go_wp2
  go_ret
  exact ⟨by simp, Below.refl _ _⟩
theorem built95 (x : Option Addr) (a z : Int) : Try.prog.built 95 [(0, .pointer x), (1, .int .i64 a), (2, .int .i64 z)] = some #[.pointer x, .int .i64 a, .int .i64 z] := by kernel_rfl
theorem built99 (x : Option Addr) (a z ep num fin : Int) : Try.prog.built 99 [(0, .agg #[.pointer x, .int .i64 a, .int .i64 z]), (1, .int .u32 ep), (5, .int .u32 num), (6, .bool true), (7, .int .u64 fin), (8, .int .u64 fin)] = some (lcells (.pointer x) (.slice none 0 0) (.slice none 0 0) ⟨a, z, ep, [], [], ByteArray.empty, num, true, fin, fin⟩) := by kernel_rfl
theorem follow_nil (num fin : Int) (w : World) : Calls Try.prog 68 #[.slice none 0 0, .int .u32 num, .int .u64 fin] w fun e w' => e = .returned (.bool true) ∧ Below w.heap.size w w' := by
  go_enter Try.func68, Try.ntmps68
  go_wp2
  go_loopw [12, 7] (fun i l wr => i = .int .i64 0 ∧ l = .int .u64 0 ∧ Below w.heap.size w wr) (fun _ _ _ => 0)
  case atStart => exact ⟨rfl, rfl, Below.refl _ _⟩
  case round =>
    obtain ⟨rfl, rfl, hb⟩ := hrel
    go_wp2
    go_ret
    exact ⟨rfl, hb⟩
def Made (w : World) (x : Option Addr) (a z ep num fin : Int) (ok : Bool) (e : Ending) (w' : World) : Prop :=
  Below w.heap.size w w' ∧ (ok = false → e = .returned (.pointer none)) ∧ (ok = true → ∃ gl, w.heap.size ≤ gl ∧ e = .returned (.pointer (some ⟨gl, 0, none⟩)) ∧ Row w' gl (lcells (.pointer x) (.slice none 0 0) (.slice none 0 0) ⟨a, z, ep, [], [], ByteArray.empty, num, true, fin, fin⟩) 99)
set_option maxHeartbeats 4000000 in
theorem lnew_nil (x : Option Addr) (a z ep num fin n : Int) (w : World) (hz : -9223372036854775808 ≤ z ∧ z ≤ 9223372036854775807) (hn : 0 ≤ n ∧ n ≤ 2048) (hs : ∀ wa, Below w.heap.size w wa → Calls Try.prog 62 #[.pointer x] wa fun e w' => e = .returned (.int .i64 n) ∧ w' = wa) :
    Calls Try.prog 35 #[.pointer x, .int .i64 a, .int .i64 z, .int .u32 ep, .slice none 0 0, .int .u32 num, .int .u64 fin] w fun e w' => Made w x a z ep num fin (okR a z n) e w' := by
  obtain ⟨PP, HPP⟩ : ∃ PP : Ending → World → Prop, Hid (PP = fun e w' => Made w x a z ep num fin (okR a z n) e w') := ⟨_, rfl⟩
  rw [← HPP.out]
  have hz98 := zero95
  have HRT : Hid (∀ wa, Below w.heap.size w wa → Calls Try.prog 67 #[.agg #[.pointer x, .int .i64 a, .int .i64 z]] wa fun e w' => e = .returned (.bool (okR a z n)) ∧ Below wa.heap.size wa w') := fun wa hb => right_any (.pointer x) a z n wa hz.2 ⟨hn.1, by omega⟩ (fun wb hb' => hs wb (hb.trans (hb'.mono hb.size)))
  have HFO : Hid _ := fun w => follow_nil num fin w
  have q0 : Row (w.alloc (.cells #[.pointer none, .int .i64 0, .int .i64 0] 95)) w.heap.size #[.pointer none, .int .i64 0, .int .i64 0] 95 := Row.new _ _ _
  have qb : Below w.heap.size w (w.alloc (.cells #[.pointer none, .int .i64 0, .int .i64 0] 95)) := (Below.refl _ _).alloc (Nat.le_refl _) _
  go_enter Try.func35, Try.ntmps35
  go_upto_region 2 with (first
  | (refine build_parts rfl 95 #[(0, .tmp 19), (1, .tmp 20), (2, .tmp 21)] rfl [(0, .pointer x), (1, .int .i64 a), (2, .int .i64 z)] rfl _ (built95 x a z) ?_)
  | (refine store_cells rfl 95 (.tmp 15) (.tmp 22) rfl w.heap.size #[.pointer x, .int .i64 a, .int .i64 z] rfl rfl 95 _ q0 3 size95 rfl rfl (by simp [Value.oneCell']) ?_))
  have r0 := q0.set #[.pointer x, .int .i64 a, .int .i64 z]
  have rb := below_setRow qb (Nat.le_refl _) #[.pointer x, .int .i64 a, .int .i64 z]
  clear q0 qb
  generalize (w.alloc (.cells #[.pointer none, .int .i64 0, .int .i64 0] 95)).setRow w.heap.size #[.pointer x, .int .i64 a, .int .i64 z] = w1 at r0 rb ⊢
  cases hk : okR a z n with
  | false =>
    have HK : Hid (∀ w', Below w.heap.size w w' → PP (.returned (.pointer none)) w') := fun w' h => by rw [HPP.out, hk]; exact ⟨h, fun _ => rfl, (fun h' => by cases h')⟩
    rw [hk] at HRT
    clear hk
    go_wp2_with (first
      | (refine load_cells rfl 95 (.tmp 15) rfl w.heap.size rfl 95 _ r0 3 Try.underlying95 rfl size95 rfl ?_)
      | (go_at_call 67; refine (HRT.out _ rb).mono ?_; clear HRT; rintro e w2 ⟨rfl, h2⟩))
    try go_ret
    exact HK.out _ (rb.trans (h2.mono rb.size))
  | true =>
    have h1 : 1 ≤ z := by unfold okR at hk; simp only [Bool.and_eq_true, decide_eq_true_eq] at hk; exact hk.2.1
    have hz0 : ¬ (0 : Int) > z := by omega
    have hz0' : ¬ z < 0 := by omega
    have HK : Hid (∀ w' gl, w.heap.size ≤ gl → Below w.heap.size w w' → Row w' gl (lcells (.pointer x) (.slice none 0 0) (.slice none 0 0) ⟨a, z, ep, [], [], ByteArray.empty, num, true, fin, fin⟩) 99 → PP (.returned (.pointer (some ⟨gl, 0, none⟩))) w') := fun w' gl hg h hr => by rw [HPP.out, hk]; exact ⟨h, (fun h' => by cases h'), fun _ => ⟨gl, hg, rfl, hr⟩⟩
    rw [hk] at HRT
    clear hk
    go_upto_region 4 with (first
      | (refine load_cells rfl 95 (.tmp 15) rfl w.heap.size rfl 95 _ r0 3 Try.underlying95 rfl size95 rfl ?_)
      | (go_at_call 67; refine (HRT.out _ rb).mono ?_; clear HRT; rintro e w2 ⟨rfl, h2⟩
         have s0 := r0.below h2 r0.lt
         have sb := rb.trans (h2.mono rb.size))
      | (go_at_call 68; refine (HFO.out _).mono ?_; clear HFO; rintro e w3 ⟨rfl, h3⟩
         have t0 := s0.below h3 s0.lt
         have tb := sb.trans (h3.mono sb.size)))
    go_upto_region 5 with (first
      | (refine load_cells rfl 95 (.tmp 15) rfl w.heap.size rfl 95 _ t0 3 Try.underlying95 rfl size95 rfl ?_)
      | (refine build_parts rfl 99 #[(0, .tmp 39), (1, .tmp 40), (5, .tmp 41), (6, .const (.bool true)), (7, .tmp 42), (8, .tmp 43)] rfl [(0, .agg #[.pointer x, .int .i64 a, .int .i64 z]), (1, .int .u32 ep), (5, .int .u32 num), (6, .bool true), (7, .int .u64 fin), (8, .int .u64 fin)] rfl _ (built99 x a z ep num fin) ?_))
    have u1 : Row (w3.alloc (.cells (lcells (.pointer x) (.slice none 0 0) (.slice none 0 0) ⟨a, z, ep, [], [], ByteArray.empty, num, true, fin, fin⟩) 99)) w3.heap.size (lcells (.pointer x) (.slice none 0 0) (.slice none 0 0) ⟨a, z, ep, [], [], ByteArray.empty, num, true, fin, fin⟩) 99 := Row.new _ _ _
    have ub := tb.alloc tb.size (.cells (lcells (.pointer x) (.slice none 0 0) (.slice none 0 0) ⟨a, z, ep, [], [], ByteArray.empty, num, true, fin, fin⟩) 99)
    have hle := tb.size
    clear r0 rb s0 sb t0 tb h2 h3
    generalize w3.alloc (.cells (lcells (.pointer x) (.slice none 0 0) (.slice none 0 0) ⟨a, z, ep, [], [], ByteArray.empty, num, true, fin, fin⟩) 99) = w4 at u1 ub ⊢
    generalize w3.heap.size = gl at u1 hle ⊢
    go_wp2
    go_loopw [48] (fun i wr => i = .int .i64 0 ∧ Row wr gl (lcells (.pointer x) (.slice none 0 0) (.slice none 0 0) ⟨a, z, ep, [], [], ByteArray.empty, num, true, fin, fin⟩) 99 ∧ Below w.heap.size w wr) (fun _ _ => 0)
    case atStart => exact ⟨rfl, u1, ub⟩
    case round =>
      clear u1 ub
      obtain ⟨rfl, u1, ub⟩ := hrel
      go_wp2
      try go_ret
      exact HK.out _ _ hle ub u1
end Go.Proofs.Ytehogiondcpbcaa
