/-
  Plain facts for regions: a store into a map, a slice of one struct, an append to a slice of structs.
-/
import Derived.Test.YtcbjjofckhohjaaPcell
import Derived.Great.BuildSlice
import Derived.Maps.AppendAt
namespace Go.Proofs.Ytcbjjofckhohjaa
open Go.ChangeShapes Go.WideShapes Go.ChangeAt Go.RowKit
set_option linter.unusedVariables false
set_option linter.unusedSimpArgs false
set_option maxRecDepth 20000

theorem wp_update {P : Program} {o : Oper} {a : Act} {w : World} {K : Act → World → Prop} {Q : Exit → Act → World → Prop} (t : TypeId) (m x y : Operand) (ho : o.op = .mapUpdate t m x y) (mv kv vv : Value) (hm : a.eval m = mv) (hx : a.eval x = kv) (hy : a.eval y = vv)
    (w' : World) (hr : (Instr.mapUpdate t mv kv vv).run P w = .ok () w') (h : K (a.put o.dst undef) w') : Oper.wp P o a w K Q := by
  unfold Oper.wp
  simp [execOp, ho, hm, hx, hy, hr, Result.andThen]
  exact h
theorem bytes84 : ∃ i, Try.prog.info? 84 = some i ∧ i.zero = some (.agg (wcells 0 0 (zs 64))) ∧ i.size = 66 ∧ i.bytes = 80 := by
  have h := info84
  cases hq : Try.prog.info? 84 with
  | none => simp [hq] at h
  | some i => simp [hq] at h; exact ⟨i, rfl, h⟩
theorem wp_slice_one {o : Oper} {a : Act} {w : World} {K : Act → World → Prop} {Q : Exit → Act → World → Prop} (x : Operand) (ho : o.op = .buildSlice 73 1 #[(0, x)]) (b s : Int) (xs : List Int) (hl : xs.length = 64) (hx : a.eval x = .agg (wcells b s xs))
    (h : K (a.put o.dst (.slice (some ⟨w.heap.size, 0, none⟩) 1 1)) (w.alloc (.cells (wcells b s xs) 84))) : Oper.wp Try.prog o a w K Q := by
  obtain ⟨i, hi, hz, hs, _⟩ := bytes84
  refine wp_buildSlice 73 84 1 _ ho (wcells b s xs) i _ Try.underlying73 hi hz (by rw [hs]; decide) (by rw [hs]; decide) ?_ h
  have e1 : (#[(0, x)].map fun (i, x) => (i, a.eval x)).toList = [(0, .agg (wcells b s xs))] := by simp [hx]
  rw [e1, fill_step _ _ 0 (.agg (wcells b s xs)) _ 0 66 (by simp [hs]) (wcells_size b s xs hl) (by simp [hs])]
  unfold Instr.fill
  congr 1
  show (⟨splice _ 0 (wcells b s xs).toList⟩ : Array Value) = wcells b s xs
  have hc : (wcells b s xs).toList.length = 66 := by simpa using wcells_size b s xs hl
  unfold splice
  rw [List.drop_of_length_le (by rw [hc]; simp [hs])]
  simp
theorem pcells_snoc (l : List (Int × Int × List Int)) (q : Int × Int × List Int) : pcells (l ++ [q]) = pcells l ++ pcell q := by simp [pcells]
theorem pcell_one (q : Int × Int × List Int) : ∀ u ∈ pcell q, u.oneCell' = true := by
  intro u hu
  unfold pcell at hu
  simp at hu
  rcases hu with rfl | rfl | ⟨x, _, rfl⟩ <;> rfl
theorem wp_append_write {o : Oper} {a : Act} {w : World} {K : Act → World → Prop} {Q : Exit → Act → World → Prop} (s x : Operand) (ho : o.op = .call { callee := .builtin .append, args := #[s, x], argTypes := #[73, 73] })
    (g : Nat) (p : Value) (l : List (Int × Int × List Int)) (hs : a.eval s = p) (hown : w.ownsRow (g + 1) 84 66 p l.length (pcells l)) (Z : Nat) (q : Int × Int × List Int) (hx : a.eval x = .slice (some ⟨Z, 0, none⟩) 1 1)
    (hZ : Row w Z (pcell q).toArray 84) (hq : q.2.2.length = 64) (hl : l.length < 1000000000000) (hb : g + 1 ≤ w.heap.size)
    (h : ∀ r n cap w', w'.ownsRow (g + 1) 84 66 (.slice (some ⟨r, 0, none⟩) n cap) (l ++ [q]).length (pcells (l ++ [q])) → w.grownBy w' p.ownBlock → ((Value.slice (some ⟨r, 0, none⟩) n cap).ownBlock = p.ownBlock ∨ (Value.slice (some ⟨r, 0, none⟩) n cap).ownBlock = some w.heap.size) → K (a.put o.dst (.slice (some ⟨r, 0, none⟩) n cap)) w') : Oper.wp Try.prog o a w K Q := by
  obtain ⟨i, hi, hz, hsz, hby⟩ := bytes84
  obtain ⟨p', w', hr, h2, h3, h4, h5⟩ := run_append_own_at (P := Try.prog) w (g + 1) 73 o.type 84 i _ 66 80 Try.underlying73 hi hz hsz hby (wcells_size _ _ _ (zs_length 64)) (by decide) p l.length (pcells l) hown ⟨Z, 0, none⟩ 1 1 (pcell q)
    (by simp [pcell, hq]) (fun j u hj => by rw [Addr.add_mid, Nat.zero_add, cell_of_row w Z _ _ _ _ hZ]; simpa using hj) (pcell_one q) (by unfold maxLen; omega) (by omega) hb
  unfold Oper.wp execOp
  simp only [ho, resolve, invoke, builtin, Sem.run_bind, Sem.run_pure, Result.andThen_ok, List.map_toArray, List.map_cons, List.map_nil, hs, hx, hr]
  have h2' : w'.ownsRow (g + 1) 84 66 p' (l ++ [q]).length (pcells (l ++ [q])) := by rw [pcells_snoc, List.length_append]; exact h2
  rcases h2.2 with ⟨_, e0⟩ | ⟨r, cap, cur, rfl, _⟩
  · omega
  · exact h r _ cap w' h2' h3 h5
end Go.Proofs.Ytcbjjofckhohjaa
