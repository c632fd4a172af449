/-
  Plain facts on rows of bytes that a call owns: cut short, a text laid behind, as a string; rows of other types beside them stay.
-/
import Derived.Test.YtbpaffjoedihbaaJt
namespace Go.Proofs.Ytbpaffjoedihbaa
open Go.ChangeShapes Go.WideShapes Go.ChangeAt Go.RowKit Go.Lib
set_option linter.unusedVariables false
set_option linter.unusedSimpArgs false

def by_ (l : List Int) : List Value := l.map (Value.int .u8)
def OwnB (w : World) (base : Nat) (v : Value) (l : List Int) : Prop := w.ownsRow base 5 1 v l.length (by_ l)
theorem OwnB.form {w : World} {base : Nat} {v : Value} {l : List Int} (h : OwnB w base v l) : ∃ oa cap, v = .slice oa l.length cap := by
  rcases h.2 with ⟨rfl, h2⟩ | ⟨g, cap, cur, rfl, _⟩
  · exact ⟨none, 0, by rw [h2]⟩
  · exact ⟨_, cap, rfl⟩
theorem OwnB.shape {w : World} {base n cap : Nat} {oa : Option Addr} {l : List Int} (h : OwnB w base (.slice oa n cap) l) : n = l.length ∧ n ≤ cap ∧ ((oa = none ∧ n = 0 ∧ cap = 0) ∨ ∃ g, oa = some ⟨g, 0, none⟩) := by
  rcases h.2 with ⟨q, h2⟩ | ⟨g, cap', cur, q, hb, hc, hle, _⟩
  · cases q; exact ⟨h2.symm, Nat.le_refl _, Or.inl ⟨rfl, rfl, rfl⟩⟩
  · cases q; exact ⟨rfl, hle, Or.inr ⟨g, rfl⟩⟩
theorem OwnB.keep {w w' : World} {base : Nat} {v : Value} {l : List Int} (h : OwnB w base v l) (hb : Below w.heap.size w w') : OwnB w' base v l := by
  have hl := World.ownsRow.lt h
  obtain ⟨h1, h2⟩ := h
  refine ⟨h1, ?_⟩
  rcases h2 with h2 | ⟨g, cap, cur, rfl, hb', hc, rest⟩
  · exact Or.inl h2
  · have := hl g (by simp [Value.ownBlock])
    exact Or.inr ⟨g, cap, cur, rfl, hb', (hb.block g this.2).trans hc, rest⟩
theorem OwnB.cut {w : World} {base n cap : Nat} {oa : Option Addr} {l : List Int} (h : OwnB w base (.slice oa n cap) l) (k : Nat) (hk : k ≤ l.length) : OwnB w base (.slice oa k cap) (l.take k) := by
  have hlk : (l.take k).length = k := by simp; omega
  obtain ⟨h1, h2⟩ := h
  refine ⟨by simp [by_], ?_⟩
  rcases h2 with ⟨q, h2⟩ | ⟨g', cap', cur, q, hb, hc, hle, hmx, hsz, ht⟩
  · cases q
    have : k = 0 := by omega
    subst this
    exact Or.inl ⟨rfl, by simp⟩
  · cases q
    refine Or.inr ⟨g', cap, cur, by rw [hlk], hb, hc, by rw [hlk]; omega, hmx, hsz, ?_⟩
    rw [hlk]
    have e : (by_ l).take (k * 1) = by_ (l.take k) := by simp [by_, List.map_take]
    rw [← e, ← ht, List.take_take]
    congr 1
    omega
theorem str_cells (s : ByteArray) : strCells s = by_ (nums s) := by
  unfold strCells by_ nums
  rw [List.map_map]; rfl
theorem OwnB.snoc {w : World} {base : Nat} {v : Value} {l : List Int} (h : OwnB w base v l) (s : ByteArray) (hb : base ≤ w.heap.size) (hn : l.length + s.size ≤ 100000000) (ty : TypeId) :
    ∃ v' w', (Builtin.append_ #[63, 9] ty #[v, .string s]).run Try.prog w = .ok v' w' ∧ OwnB w' base v' (l ++ nums s) ∧ w.grownBy w' v.ownBlock := by
  have hi5 : (Try.prog.info? 5).map (fun i => (i.zero, i.size, i.bytes)) = some (some (.int .u8 0), 1, 1) := by kernel_rfl
  obtain ⟨i, hi, hz, hs, hby⟩ := St.info_parts hi5
  obtain ⟨v', w', hr, h2, h3, _⟩ := run_append_own_string (P := Try.prog) w base 63 9 ty 5 i Try.underlying63 Try.underlying9 hi hz hs hby v l.length (by_ l) h s (by unfold maxLen; omega) (by omega) hb
  refine ⟨v', w', hr, ?_, h3⟩
  unfold OwnB
  rw [List.length_append, nums_length]
  have e : by_ (l ++ nums s) = by_ l ++ strCells s := by rw [str_cells]; simp [by_]
  rw [e]; exact h2
theorem OwnB.text {w : World} {base : Nat} {oa : Option Addr} {n cap : Nat} {l : List Int} (h : OwnB w base (.slice oa n cap) l) :
    (Go.convert 63 9 (.slice oa n cap)).run Try.prog w = .ok (.string (strOfNums l)) w := by
  have hcs := fun g hg => World.ownsRow.cells h (g := g) hg
  rcases h.2 with ⟨q, h2⟩ | ⟨g, cap', cur, q, hb, hc, hle, _⟩
  · cases q
    have : l = [] := List.eq_nil_of_length_eq_zero h2
    subst this
    go_simp
    try rfl
  · cases q
    refine run_convert_bytes_arg (P := Try.prog) w 63 5 Try.underlying63 Try.underlying5 g 0 l.length cap l rfl ?_ 9 Try.underlying9
    intro i hi
    have := hcs g rfl i (.int .u8 l[i]) (by simp [by_, hi])
    simpa [Addr.add_mid, hi] using this
/-- Two rows of different types are two blocks. -/
theorem rows_apart {w : World} {b1 b2 s1 s2 n1 n2 : Nat} {e1 e2 : TypeId} {v1 v2 : Value} {x1 x2 : List Value} (h1 : w.ownsRow b1 e1 s1 v1 n1 x1) (h2 : w.ownsRow b2 e2 s2 v2 n2 x2) (he : e1 ≠ e2) (k : Nat) (hk : v1.ownBlock = some k) : v2.ownBlock ≠ some k := fun q => by
  rcases h1.2 with ⟨p, _⟩ | ⟨g, cap, cur, p, _, hc, _⟩
  · subst p; simp [Value.ownBlock] at hk
  · rcases h2.2 with ⟨p2, _⟩ | ⟨g2, cap2, cur2, p2, _, hc2, _⟩
    · subst p2; simp [Value.ownBlock] at q
    · subst p; subst p2
      simp [Value.ownBlock] at hk q
      subst hk; subst q
      rw [hc] at hc2
      simp at hc2
      exact he hc2.2
theorem row_apart {w : World} {b1 s1 n1 g : Nat} {e1 t : TypeId} {v1 : Value} {x1 : List Value} {cs : Array Value} (h1 : w.ownsRow b1 e1 s1 v1 n1 x1) (h2 : Row w g cs t) (he : e1 ≠ t) : v1.ownBlock ≠ some g := fun q => by
  rcases h1.2 with ⟨p, _⟩ | ⟨g', cap, cur, p, _, hc, _⟩
  · subst p; simp [Value.ownBlock] at q
  · subst p
    simp [Value.ownBlock] at q
    subst q
    have h2' : w.heap[g']? = some (.cells cs t (0, 0)) := h2
    rw [hc] at h2'
    simp at h2'
    exact he h2'.2
theorem ownsRow_grown {w w' : World} {b1 b2 s1 s2 n1 n2 : Nat} {e1 e2 : TypeId} {v1 v2 : Value} {x1 x2 : List Value} (h1 : w.ownsRow b1 e1 s1 v1 n1 x1) (h2 : w.ownsRow b2 e2 s2 v2 n2 x2) (he : e1 ≠ e2) (hg : w.grownBy w' v2.ownBlock) : w'.ownsRow b1 e1 s1 v1 n1 x1 := by
  have hl := World.ownsRow.lt h1
  have ha := rows_apart h1 h2 he
  obtain ⟨h11, h12⟩ := h1
  refine ⟨h11, ?_⟩
  rcases h12 with q | ⟨g, cap, cur, rfl, hb', hc, rest⟩
  · exact Or.inl q
  · have hk := hl g (by simp [Value.ownBlock])
    exact Or.inr ⟨g, cap, cur, rfl, hb', (hg.block g hk.2 (fun q => ha g (by simp [Value.ownBlock]) q.symm)).trans hc, rest⟩
/-- append of a text, by what its run leaves. -/
theorem wp_append2 {T : Value → World → Prop} {w : World} {o : Oper} {a : Act} {K : Act → World → Prop} {Q : Exit → Act → World → Prop} (s x : Operand) (t u : TypeId)
    (ho : o.op = .call { callee := .builtin .append, args := #[s, x], argTypes := #[t, u] }) (sv v : Value) (hs : a.eval s = sv) (hx : a.eval x = v)
    (hr : ∀ ty, ∃ v' w', (Builtin.append_ #[t, u] ty #[sv, v]).run Try.prog w = .ok v' w' ∧ T v' w')
    (h : ∀ v' w', T v' w' → K (a.put o.dst v') w') : Oper.wp Try.prog o a w K Q := by
  obtain ⟨v', w', hrun, hT⟩ := hr o.type
  unfold Oper.wp
  simp [execOp, ho, resolve, invoke, builtin, hs, hx, hrun, Result.andThen]
  exact h v' w' hT
end Go.Proofs.Ytbpaffjoedihbaa
