/-
  Plain facts on pending writes as cells: a struct of a key and a sector, built, loaded whole and in its parts.
-/
import Derived.Test.YtcbjjofckhohjaaNew
import Derived.Deep.MidRow
namespace Go.Proofs.Ytcbjjofckhohjaa
open Go.ChangeShapes Go.WideShapes Go.ChangeAt Go.RowKit
set_option linter.unusedVariables false
set_option linter.unusedSimpArgs false
set_option maxRecDepth 20000

theorem splice_set {α : Type} (L : List α) (o : Nat) (x : α) (r : List α) (h : o < L.length) : splice (L.set o x) (o + 1) r = splice L o (x :: r) := by
  unfold splice
  have e1 : (L.set o x).take (o + 1) = L.take o ++ [x] := by
    rw [List.take_add_one, List.take_set_of_le (by omega)]
    simp [h]
  have e2 : (L.set o x).drop (o + 1 + r.length) = L.drop (o + (x :: r).length) := by
    rw [List.drop_set_of_lt (by omega)]
    simp; congr 1; omega
  rw [e1, e2]; simp
theorem fold_set : ∀ (l : List Value) (n off : Nat) (cs : Array Value), off + n + l.length ≤ cs.size → (l.zipIdx n).foldl (fun cs (p : Value × Nat) => cs.setIfInBounds (off + p.2) p.1) cs = (⟨splice cs.toList (off + n) l⟩ : Array Value)
  | [], n, off, cs, h => by simp [splice]
  | x :: r, n, off, cs, h => by
    rw [List.zipIdx_cons, List.foldl_cons, fold_set r (n + 1) off _ (by simp at h ⊢; omega)]
    congr 1
    simp only [Array.toList_setIfInBounds]
    have := splice_set cs.toList (off + n) x r (by simp at h ⊢; omega)
    rw [← this]; rfl
theorem fold_arr (v : Array Value) (off : Nat) (cs : Array Value) (h : off + v.size ≤ cs.size) : v.zipIdx.foldl (fun cs (p : Value × Nat) => cs.setIfInBounds (off + p.2) p.1) cs = (⟨splice cs.toList off v.toList⟩ : Array Value) := by
  rw [← Array.foldl_toList, Array.toList_zipIdx]
  exact fold_set v.toList 0 off cs (by simpa using h)

theorem fill_step (place : Nat → Option (Nat × Nat)) (cells : Array Value) (i : Nat) (v : Value) (rest : List (Nat × Value)) (off size : Nat) (hp : place i = some (off, size)) (h1 : v.cells.size = size) (h2 : off + size ≤ cells.size) :
    Instr.fill place cells ((i, v) :: rest) = Instr.fill place ⟨splice cells.toList off v.cells.toList⟩ rest := by
  have : ¬ (decide (v.cells.size ≠ size) || decide (off + v.cells.size > cells.size)) = true := by simp [h1]; omega
  rw [Instr.fill, hp]
  simp only []
  rw [if_neg this]
  have := fold_arr v.cells off cells (by omega)
  rw [← this]
/-- A pending write as cells. -/
def wcells (b s : Int) (xs : List Int) : Array Value := (pcell (b, s, xs)).toArray
theorem wcells_size (b s : Int) (xs : List Int) (h : xs.length = 64) : (wcells b s xs).size = 66 := by simp [wcells, pcell, h]
theorem wcells_one (b s : Int) (xs : List Int) : (wcells b s xs).all (·.oneCell') = true := by simp [wcells, pcell, Value.oneCell']
theorem info84 : (Try.prog.info? 84).map (fun i => (i.zero, i.size, i.bytes)) = some (some (.agg (wcells 0 0 (zs 64))), 66, 80) := by kernel_rfl
theorem size79 : (Try.prog.info? 79).map (·.size) = some 2 := by kernel_rfl
theorem size84 : (Try.prog.info? 84).map (·.size) = some 66 := by kernel_rfl
theorem zero84 (w : World) : (zeroValue 84).run Try.prog w = .ok (.agg (wcells 0 0 (zs 64))) w := (zero_of_info (P := Try.prog) (t := 84) (v := .agg (wcells 0 0 (zs 64))) (n := 66) (by kernel_rfl)).1 w
theorem built84 (b s : Int) (xs : List Int) (h : xs.length = 64) : Try.prog.built 84 [(0, .agg #[.int .i64 b, .int .i64 s]), (1, .agg (bs xs))] = some (wcells b s xs) := by
  unfold Program.built
  have h81 := info84
  cases hq : Try.prog.info? 84 with
  | none => simp [hq] at h81
  | some it =>
    simp [hq] at h81
    rw [Try.underlying84]
    cases h74 : Try.prog.info? 79 with
    | none => have := size79; simp [h74] at this
    | some i74 =>
      cases h71 : Try.prog.info? 81 with
      | none => have := size81; simp [h71] at this
      | some i71 =>
        have e74 := size79; have e71 := size81
        simp [h74] at e74; simp [h71] at e71
        simp [h74, h71, h81.1, e74, e71]
        have hz : (wcells 0 0 (zs 64)).size = 66 := wcells_size _ _ _ (zs_length 64)
        have hz2 : (⟨splice (wcells 0 0 (zs 64)).toList 0 #[Value.int .i64 b, Value.int .i64 s].toList⟩ : Array Value).size = 66 := by
          simp [splice, wcells, pcell, zs]
        have hz0 : (Value.agg (wcells 0 0 (zs 64))).cells = wcells 0 0 (zs 64) := rfl
        rw [hz0, fill_step _ _ 0 _ _ 0 2 rfl rfl (by omega), fill_step _ _ 1 _ _ 2 64 rfl (by show (bs xs).size = 64; rw [bs_size, h]) (by show 2 + 64 ≤ Array.size _; exact Nat.le_of_eq hz2.symm)]
        unfold Instr.fill
        congr 1
        show (⟨splice (splice (wcells 0 0 (zs 64)).toList 0 [Value.int .i64 b, Value.int .i64 s]) 2 (bs xs).toList⟩ : Array Value) = wcells b s xs
        unfold wcells pcell bs
        simp [splice, zs, h]
theorem build_two {P : Program} {ops : Array Oper} {rest : List Oper} {o : Oper} {a : Act} {w : World} {Q : Exit → Act → World → Prop} (hg : o.guard = none) (t : TypeId) (x y : Operand) (ho : o.op = .build t #[(0, x), (1, y)]) (u v : Value) (hx : a.eval x = u) (hy : a.eval y = v) (cs : Array Value)
    (hb : P.built t [(0, u), (1, v)] = some cs) (h : wpList P ops Q rest (a.put o.dst (.agg cs)) w) : wpList P ops Q (o :: rest) a w :=
  wpList_build hg t #[(0, x), (1, y)] ho (by simp [hx, hy, hb]) (by simpa [hx, hy, hb] using h)
/-- The parts of a struct that lies in a block of its own. -/
theorem range_key {w : World} {g : Nat} {b s : Int} {xs : List Int} {t : TypeId} (h : Row w g (wcells b s xs) t) : w.rangeAt g 0 [.int .i64 b, .int .i64 s] := by
  intro j v hv
  have : j = 0 ∨ j = 1 := by
    have := (List.getElem?_eq_some_iff.1 hv).1
    simp at this; omega
  rw [cell_of_row w g _ _ _ _ h]
  rcases this with rfl | rfl <;> simpa [wcells, pcell] using hv
theorem range_sec {w : World} {g : Nat} {b s : Int} {xs : List Int} {t : TypeId} (h : Row w g (wcells b s xs) t) : w.rangeAt g 2 (xs.map (Value.int .u8)) := by
  intro j v hv
  rw [cell_of_row w g _ _ _ _ h]
  simpa [wcells, pcell, Nat.add_comm 2 j] using hv
end Go.Proofs.Ytcbjjofckhohjaa
