/-
  Plain facts on slices of one-cell elements: what one holds, and a copy of it by append to a new one.
-/
import Derived.Test.YtcbjjofckhohjaaNil
import Derived.Laws.AppendOwnNone
namespace Go.Proofs.Ytcbjjofckhohjaa
open Go.ChangeShapes Go.WideShapes Go.ChangeAt Go.RowKit
set_option linter.unusedVariables false
set_option linter.unusedSimpArgs false
set_option maxRecDepth 20000

/-- A slice that holds these cells, one an element; a nil one holds none. -/
def Cel (w : World) (v : Value) (cs : List Value) : Prop :=
  (v = .slice none 0 0 ∧ cs = []) ∨ ∃ a cap, v = .slice (some a) cs.length cap ∧ ∀ j u, cs[j]? = some u → w.cell? (a.add j) = some u
theorem Cel.below {w w' : World} {v : Value} {cs : List Value} (h : Cel w v cs) (hb : ∀ a n c, v = .slice (some a) n c → w'.heap[a.block]? = w.heap[a.block]?) : Cel w' v cs := by
  rcases h with h | ⟨a, cap, rfl, h⟩
  · exact Or.inl h
  · refine Or.inr ⟨a, cap, rfl, fun j u hj => ?_⟩
    rw [← h j u hj]
    refine World.cell?_of_block ?_
    have : (a.add j).block = a.block := by unfold Addr.add; split <;> rfl
    rw [this]; exact hb a _ _ rfl
/-- .. which lies from a block on. -/
def High (B : Nat) (v : Value) : Prop := ∀ a n c, v = .slice (some a) n c → B ≤ a.block
theorem Cel.keep {w w' : World} {v : Value} {cs : List Value} (h : Cel w v cs) (hb : Below w.heap.size w w') : Cel w' v cs := by
  rcases h with h | ⟨a, cap, rfl, h⟩
  · exact Or.inl h
  · refine Or.inr ⟨a, cap, rfl, fun j u hj => ?_⟩
    have h0 := h j u hj
    rw [← h0]
    refine World.cell?_of_block (hb.block _ ?_)
    unfold World.cell? at h0
    by_cases q : (a.add j).block < w.heap.size
    · exact q
    · rw [Array.getElem?_eq_none (by omega)] at h0; cases h0
theorem Cel.of_owns {w : World} {base : Nat} {e : TypeId} {v : Value} {n : Nat} {cs : List Value} (h : w.ownsRow base e 1 v n cs) : Cel w v cs ∧ High base v := by
  have hc := fun g hg => h.cells (g := g) hg
  have hl := h.lt
  obtain ⟨h1, h2⟩ := h
  rcases h2 with ⟨rfl, rfl⟩ | ⟨g, cap, cur, rfl, hb, hg, _⟩
  · refine ⟨Or.inl ⟨rfl, List.eq_nil_of_length_eq_zero (by simpa using h1)⟩, fun a n c e => by cases e⟩
  · refine ⟨Or.inr ⟨⟨g, 0, none⟩, cap, by rw [h1, Nat.mul_one], hc g rfl⟩, fun a n c e => ?_⟩
    cases e
    exact (hl g rfl).1
theorem run_copy {P : Program} (w : World) (t ty e : TypeId) (i : TypeInfo) (z : Value) (bytes : Nat) (ht : P.underlying t = some (.slice e)) (hi : P.info? e = some i) (hz : i.zero = some z) (hs : i.size = 1) (hby : i.bytes = bytes) (hzs : z.cells.size = 1)
    (v : Value) (cs : List Value) (h : Cel w v cs) (h1 : ∀ u ∈ cs, u.oneCell' = true) (h63 : cs.length * bytes ≤ 140737488355328) (hp : 0 < bytes) :
    ∃ v' w', (Builtin.append_ #[t, t] ty #[.slice (some ⟨w.heap.size, 0, none⟩) 0 0, v]).run P (w.alloc (.cells #[] e)) = .ok v' w' ∧ Cel w' v' cs ∧ High w.heap.size v' ∧ Below w.heap.size w w' := by
  have hown : (w.alloc (.cells #[] e)).ownsRow w.heap.size e 1 (.slice (some ⟨w.heap.size, 0, none⟩) 0 0) 0 [] := World.ownsRow_made w #[] 0 (Nat.le_refl _) (Nat.zero_le _) rfl
  have hlen : cs.length ≤ 140737488355328 := by
    have : cs.length * 1 ≤ cs.length * bytes := Nat.mul_le_mul_left _ hp
    omega
  have b0 : Below w.heap.size w (w.alloc (.cells #[] e)) := (Below.refl _ _).alloc (Nat.le_refl _) _
  rcases h with ⟨rfl, rfl⟩ | ⟨a, cap, rfl, hc⟩
  · refine ⟨_, _, run_append_owned_none (P := P) (w := w.alloc (.cells #[] e)) w.heap.size t ty e i 1 ht hi _ 0 [] hown, ?_⟩
    have := Cel.of_owns hown
    exact ⟨this.1, this.2, b0⟩
  · have hc' : ∀ j u, cs[j]? = some u → (w.alloc (.cells #[] e)).cell? (a.add j) = some u := fun j u hj => by
      have h0 := hc j u hj
      have hlt : (a.add j).block < w.heap.size := by
        unfold World.cell? at h0
        by_cases q : (a.add j).block < w.heap.size
        · exact q
        · rw [Array.getElem?_eq_none (by omega)] at h0; cases h0
      rw [← h0]
      exact World.cell?_of_block (Below.heap_alloc _ _ _ hlt)
    obtain ⟨v', w', hr, h2, h3, h4, h5⟩ := run_append_own_at (P := P) (w.alloc (.cells #[] e)) w.heap.size t ty e i z 1 bytes ht hi hz hs hby hzs (by decide) _ 0 [] hown a cs.length cap cs (by simp) hc' h1 (by unfold maxLen; omega) (by simpa using h63) (by simp)
    refine ⟨v', w', hr, ?_⟩
    simp only [List.nil_append, Nat.zero_add] at h2
    have := Cel.of_owns h2
    refine ⟨this.1, this.2, b0.grown h3 (by simp) (fun k hk => ?_)⟩
    simp [Value.ownBlock] at hk
    omega
theorem info4 : (Try.prog.info? 4).map (fun i => (i.zero, i.size, i.bytes)) = some (some (.bool false), 1, 1) := by kernel_rfl
theorem info3 : (Try.prog.info? 3).map (fun i => (i.zero, i.size, i.bytes)) = some (some (.int .i64 0), 1, 8) := by kernel_rfl
/-- Behind copied. -/
def Cop (w : World) (cs : List Value) (e : Ending) (w' : World) : Prop := ∃ v', e = .returned v' ∧ Cel w' v' cs ∧ High w.heap.size v' ∧ Below w.heap.size w w'
theorem wp_copy {T : Value → World → Prop} {w : World} {o : Oper} {a : Act} {K : Act → World → Prop} {Q : Exit → Act → World → Prop} (s x : Operand) (t : TypeId)
    (ho : o.op = .call { callee := .builtin .append, args := #[s, x], argTypes := #[t, t] }) (sv v : Value) (hs : a.eval s = sv) (hx : a.eval x = v)
    (hr : ∀ ty, ∃ v' w', (Builtin.append_ #[t, t] ty #[sv, v]).run Try.prog w = .ok v' w' ∧ T v' w')
    (h : ∀ v' w', T v' w' → K (a.put o.dst v') w') : Oper.wp Try.prog o a w K Q := by
  obtain ⟨v', w', hrun, hT⟩ := hr o.type
  unfold Oper.wp
  simp [execOp, ho, resolve, invoke, builtin, hs, hx, hrun, Result.andThen]
  exact h v' w' hT
theorem wpList_copy {T : Value → World → Prop} {w : World} {ops : Array Oper} {rest : List Oper} {o : Oper} {a : Act} {Q : Exit → Act → World → Prop} (hgd : o.guard = none) (s x : Operand) (t : TypeId)
    (ho : o.op = .call { callee := .builtin .append, args := #[s, x], argTypes := #[t, t] }) (sv v : Value) (hs : a.eval s = sv) (hx : a.eval x = v)
    (hr : ∀ ty, ∃ v' w', (Builtin.append_ #[t, t] ty #[sv, v]).run Try.prog w = .ok v' w' ∧ T v' w')
    (h : ∀ v' w', T v' w' → wpList Try.prog ops Q rest (a.put o.dst v') w') : wpList Try.prog ops Q (o :: rest) a w := by
  refine wpList_plain hgd fun K hK => ?_
  obtain ⟨v', w', hrun, hT⟩ := hr o.type
  unfold Oper.wp
  simp [execOp, ho, resolve, invoke, builtin, hs, hx, hrun, Result.andThen]
  exact hK _ _ (h v' w' hT)
end Go.Proofs.Ytcbjjofckhohjaa
