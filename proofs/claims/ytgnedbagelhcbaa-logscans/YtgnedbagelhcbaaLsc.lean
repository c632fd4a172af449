/-
  Plain facts: a scan of a disk of which one operation fails.
-/
import Derived.Test.YtgnedbagelhcbaaLob
namespace Go.Proofs.Ytgnedbagelhcbaa
open Go.ChangeShapes Go.WideShapes Go.ChangeAt Go.RowKit
set_option linter.unusedVariables false
set_option linter.unusedSimpArgs false
set_option maxRecDepth 20000

/-- A disk of which just the operation fl fails. -/
structure Pl (d : Dsk) (n : Nat) (fl : Int) : Prop where
  size : d.n = n
  fuse : d.fuse = 0
  on : d.down = false
  fails : ∀ i, d.fails i = decide (i = fl)
theorem Well.pl {d : Dsk} {n : Nat} {k : Int} (h : Well d n k) (fl : Int) : Pl (d.plan [fl] 0) n fl := ⟨h.size, rfl, h.on, fun i => by show decide (i ∈ [fl]) = _; simp⟩
theorem read_pl {d : Dsk} {n : Nat} {fl : Int} (h : Pl d n fl) (k : Int) (hk : 0 ≤ k) (b : Int) (hb : 0 ≤ b ∧ b < n) : read (d.tick k) b = if k + 1 = fl then (zs 256, 3, d.tick (k + 1)) else (d.seen b, 0, d.tick (k + 1)) := by
  have hc : count (d.tick k) = if k + 1 = fl then (3, d.tick (k + 1)) else (0, d.tick (k + 1)) := by
    unfold count
    rw [if_neg (by show ¬ k + 1 = d.fuse; rw [h.fuse]; omega)]
    show (if d.fails (k + 1) = true then _ else _) = _
    rw [h.fails]
    by_cases hq : k + 1 = fl
    · rw [if_pos (decide_eq_true hq), if_pos hq]; rfl
    · rw [if_neg (by rw [decide_eq_false hq]; simp), if_neg hq]; rfl
  have ha : ask (d.tick k) b = if k + 1 = fl then (3, d.tick (k + 1)) else (0, d.tick (k + 1)) := by
    unfold ask
    rw [if_neg (by show ¬ d.down = true; rw [h.on]; simp), if_pos (by show 0 ≤ b ∧ b < (d.n : Int); rw [h.size]; exact hb), hc]
  unfold read
  rw [ha]
  by_cases hq : k + 1 = fl
  · rw [if_pos hq, if_pos hq, if_neg (by simp)]
  · rw [if_neg hq, if_neg hq, if_pos rfl]; rfl
theorem scanF_pl {d : Dsk} {n : Nat} {fl a z fst : Int} (h : Pl d n fl) (hk : okR a z n = true) : ∀ (r : Nat) (i k : Int) (acc : List Ck.O), 0 ≤ k → ∃ j cs E, scanF a z fst r i (d.tick k) acc = (cs, E, d.tick j) ∧ 0 ≤ j ∧ j ≤ k + r
  | 0, i, k, acc, h0 => ⟨k, acc, 0, rfl, h0, by omega⟩
  | r + 1, i, k, acc, h0 => by
    have e := read_pl h k h0 _ (place_in a z n (IntKind.u32.wrap (fst + i)) hk)
    by_cases hq : k + 1 = fl
    · rw [if_pos hq] at e
      rw [scanF_succ a z fst r i _ acc _ _ _ e, if_neg (by decide)]
      exact ⟨_, _, _, rfl, by omega, by omega⟩
    · rw [if_neg hq] at e
      rw [scanF_succ a z fst r i _ acc _ _ _ e, if_pos rfl]
      split
      · obtain ⟨j, cs, E, h1, h2, h3⟩ := scanF_pl h hk r (i + 1) (k + 1) (acc ++ [chkO (d.seen (placeV a z (IntKind.u32.wrap (fst + i))))]) (by omega)
        exact ⟨j, cs, E, h1, h2, by omega⟩
      · exact ⟨_, _, _, rfl, by omega, by omega⟩
/-- What a round of the statement's own scan finds. -/
theorem scan_round {d : Dsk} {n : Nat} {fl a z fst : Int} (h : Pl d n fl) (hk : okR a z n = true) (r k : Nat) (acc : List Ck.O) (R : List Ck.O × Int × Dsk) (hs : scanF a z fst (r + 1) k (d.tick k) acc = R) :
    ((k : Int) + 1 = fl → R.1 = [] ∧ R.2.1 = 3) ∧ (¬ (k : Int) + 1 = fl → (isB (d.seen (placeV a z (IntKind.u32.wrap (fst + k)))) = false ∨ uN (d.seen (placeV a z (IntKind.u32.wrap (fst + k)))) ≠ IntKind.u32.wrap (fst + k)) → R.1 = acc ∧ R.2.1 = 0) ∧
    (¬ (k : Int) + 1 = fl → isB (d.seen (placeV a z (IntKind.u32.wrap (fst + k)))) = true → uN (d.seen (placeV a z (IntKind.u32.wrap (fst + k)))) = IntKind.u32.wrap (fst + k) → scanF a z fst r (k + 1 : Nat) (d.tick (k + 1 : Nat)) (acc ++ [chkO (d.seen (placeV a z (IntKind.u32.wrap (fst + k))))]) = R) := by
  have e := read_pl h k (by omega) _ (place_in a z n (IntKind.u32.wrap (fst + k)) hk)
  refine ⟨fun hq => ?_, fun hq hb => ?_, fun hq hb hu => ?_⟩
  · rw [if_pos hq] at e
    rw [scanF_succ a z fst r k _ acc _ _ _ e, if_neg (by decide)] at hs
    rw [← hs]; exact ⟨rfl, rfl⟩
  · rw [if_neg hq] at e
    rw [scanF_succ a z fst r k _ acc _ _ _ e, if_pos rfl, if_neg] at hs
    · rw [← hs]; exact ⟨rfl, rfl⟩
    · rcases hb with hb | hb
      · rw [hb]; simp
      · rw [decide_eq_false hb]; simp
  · rw [if_neg hq] at e
    rw [scanF_succ a z fst r k _ acc _ _ _ e, if_pos rfl, if_pos (by rw [hb, hu]; simp)] at hs
    rw [← hs]; rfl
theorem okR_cases (a z : Int) (n : Nat) (h : okR a z n = false) : a < 0 ∨ (0 ≤ a ∧ z < 1) ∨ (0 ≤ a ∧ 1 ≤ z ∧ n < z) ∨ (0 ≤ a ∧ 1 ≤ z ∧ z ≤ n ∧ n - z < a) := by
  unfold okR at h
  simp at h
  by_cases h1 : 0 ≤ a
  · by_cases h2 : 1 ≤ z
    · have := h h1 h2
      by_cases h3 : z ≤ n
      · exact Or.inr (Or.inr (Or.inr ⟨h1, h2, h3, by omega⟩))
      · exact Or.inr (Or.inr (Or.inl ⟨h1, h2, by omega⟩))
    · exact Or.inr (Or.inl ⟨h1, by omega⟩)
  · exact Or.inl (by omega)
theorem yields_any {P : Program} {ops : Array Oper} {S : World → Prop} {o : Oper} {a : Act} (hw : Region.wanted o (yielded ops a.tmps) = true) (ty : TypeId) (x : Operand) (ho : o.op = .load ty x)
    (p : Addr) (hx : a.eval x = .pointer (some p)) (cs : List Value) (d : TypeDesc) (hc : ∀ w, S w → ∀ j v, cs[j]? = some v → w.cell? (p.add j) = some v)
    (hu : P.underlying ty = some d) (hd : d.isRow = true) (hi : (P.info? ty).map (·.size) = some cs.length) : YieldsIf P ops S o (.agg cs.toArray) a := by
  refine Or.inl ⟨hw, fun w hS => ?_⟩
  have hl : (loadCells p cs.length).run P w = .ok cs.toArray w := run_loadCells_list (P := P) w p cs (hc w hS)
  have hrun : (loadVar ty p).run P w = .ok (.agg cs.toArray) w := by
    cases hq : P.info? ty with
    | none => simp [hq] at hi
    | some i =>
      have hs : i.size = cs.length := by simpa [hq] using hi
      have hagg : (isAgg ty).run P w = .ok true w := by
        unfold isAgg
        rw [Sem.run_bind, run_underlying hu w]
        cases d <;> simp_all
      simp [loadVar, Sem.run_bind, hagg, sizeOf, typeInfo, hq, hs, hl]
  unfold execOp
  simp only [ho, hx, Instr.loadAt, Instr.sureAddr, Sem.run_bind, Sem.run_pure, Result.andThen_ok, hrun]
/-- A slice of chunks, place by place. -/
theorem Ck.Own.at {w : World} {base : Nat} {v : Value} {os : List Ck.O} (h : Ck.Own w base v os) (k : Nat) (hk : k < os.length) : ∃ pa cap c, v = .slice (some pa) os.length cap ∧ os[k]? = some c ∧ ∀ j u, c.cells[j]? = some u → w.cell? ((pa.add (k * 4)).add j) = some u := by
  obtain ⟨oa, cap, hv, hcell⟩ := (Ck.Own.olds h).open
  obtain ⟨a, c, rfl, h1, h2⟩ := hcell k hk
  exact ⟨a, cap, c, hv, h1, h2⟩
end Go.Proofs.Ytgnedbagelhcbaa
