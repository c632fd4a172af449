/-
  What Flush leaves, plainly: the ways through it.
-/
import Derived.Test.YtehogiondcpbcaaJq12
namespace Go.Proofs.Ytehogiondcpbcaa
open Go.ChangeShapes Go.WideShapes Go.ChangeAt Go.RowKit
set_option linter.unusedVariables false
set_option linter.unusedSimpArgs false
set_option maxRecDepth 20000
theorem sync_ops1 (d : Dsk) : (sync d).2.ops ≤ d.ops + 1 := by
  unfold sync
  have := count_ops1 d
  split
  · simp; omega
  · split
    · exact this
    · exact this
theorem layR_ops (a z : Int) (cs : List Ck.O) (d : Dsk) : (layR a z cs d).2.ops ≤ d.ops + cs.length + 1 := by
  unfold layR
  have h1 := wrS_ops a z cs d
  split
  · simp; omega
  · split
    · have := sync_ops1 (wrS a z cs d).2; omega
    · omega
theorem own_not65 {w : World} {base g : Nat} {v : Value} {xs : List Int} {cs : Array Value} (h : OwnU w base v xs) (hb : v.ownBlock = some g) (hr : Row w g cs 164) : False := by
  rcases h.2 with ⟨rfl, _⟩ | ⟨g', cap, cur, rfl, _, hc, _⟩
  · cases hb
  · cases hb
    unfold Row at hr
    rw [hc] at hr
    simp at hr
def FLoop (w : World) (gl gd : Nat) (F : Nat → Prop) (l : Lg) (d : Dsk) (N : Nat) (vs : Value) (L : Loc) (k : Nat) (w' : World) : Prop :=
  ∃ vl, LD w' gl gd vl vs L { l with last := l.last ++ (l.sealed.take k).map (·.off) } d N ∧ Off F w w' ∧ ∀ j, lfoot gl gd vl vs L j → F j ∨ w.heap.size ≤ j
theorem FLoop.step {w w7 w15 : World} {gl gd : Nat} {F : Nat → Prop} {a z ep nx fi du : Int} {la xs : List Int} {sl : List Ck.O} {op : ByteArray} {fr : Bool} {d : Dsk} {N : Nat} {vl v15 vs : Value} {L : Loc} {k : Nat} {x : Int}
    (hD : LD w7 gl gd vl vs L ⟨a, z, ep, xs, sl, op, nx, fr, fi, du⟩ d N) (hO : Off F w w7) (hF : ∀ j, lfoot gl gd vl vs L j → F j ∨ w.heap.size ≤ j) (o : Off (fun j => j = gl ∨ vl.ownBlock = some j) w7 w15) (hn : ∀ j, v15.ownBlock = some j → vl.ownBlock = some j ∨ w7.heap.size ≤ j)
    (own : OwnU w15 (gl + 1) v15 (xs ++ [x])) (r : Row w15 gl #[.pointer (some ⟨gd, 0, none⟩), .int .i64 a, .int .i64 z, .int .u32 ep, vl, vs, .string op, .int .u32 nx, .bool fr, .int .u64 fi, .int .u64 du] 99) (hx : xs ++ [x] = la ++ (sl.take (k + 1)).map (·.off)) (hw : w.heap.size ≤ w7.heap.size) :
    FLoop w gl gd F ⟨a, z, ep, la, sl, op, nx, fr, fi, du⟩ d N vs L (k + 1) (w15.setCell ⟨gl, 4, none⟩ v15) := by
  have O1 : Off (· = gl) w15 (w15.setCell ⟨gl, 4, none⟩ v15) := Off.of_setCell w15 ⟨gl, 4, none⟩ v15 rfl
  have O2 : Off (fun j => j = gl ∨ vl.ownBlock = some j) w7 (w15.setCell ⟨gl, 4, none⟩ v15) := o.trans O1 (fun j q => Or.inl (Or.inl q))
  have hvl : ∀ j, vs.ownBlock = some j → ¬ (j = gl ∨ vl.ownBlock = some j) := fun j q q2 => by
    rcases q2 with q2 | q2
    · have := (World.ownsRow.lt hD.sld j q).1; omega
    · exact own_apartU hD.last hD.sld q2 q
  have hft : ∀ j, foot gd L j → ¬ (j = gl ∨ vl.ownBlock = some j) := fun j q q2 => by
    rcases q2 with q2 | q2
    · subst q2; exact hD.ng q
    · exact hD.nl j q2 q
  have own2 : OwnU (w15.setCell ⟨gl, 4, none⟩ v15) (gl + 1) v15 (la ++ (sl.take (k + 1)).map (·.off)) := by
    rw [← hx]; exact own.off O1 (fun j q q2 => by have := (World.ownsRow.lt own j q).1; omega)
  refine ⟨v15, ⟨row_set r 4 v15, own2, hD.sld.off O2 hvl, hD.dsk.off O2 hft, hD.ng, fun j q q2 => ?_, hD.ns⟩, hO.trans O2 (fun j q => ?_), fun j q => ?_⟩
  · rcases hn j q with q3 | q3
    · exact hD.nl j q3 q2
    · have := hD.dsk.lt q2; omega
  · rcases q with q | q
    · exact hF j (Or.inl q)
    · exact hF j (Or.inr (Or.inl q))
  · rcases q with q | q | q | q
    · exact hF j (Or.inl q)
    · rcases hn j q with q3 | q3
      · exact hF j (Or.inr (Or.inl q3))
      · exact Or.inr (by omega)
    · exact hF j (Or.inr (Or.inr (Or.inl q)))
    · exact hF j (Or.inr (Or.inr (Or.inr q)))
def FWays (w : World) (gl gd : Nat) (F : Nat → Prop) (l : Lg) (d : Dsk) (N : Nat) (PP : Ending → World → Prop) : Prop :=
  (¬ (l.fresh = true ∧ l.sealed ≠ []) → ∀ E d3, layR l.at_ l.size (l.sealed.drop 0) d = (E, d3) → (E ≠ 0 → ∀ w', LStep w gl gd F l d3 (N + 4 * (l.sealed.length - 0)) w' → PP (.returned (.int .i64 E)) w') ∧ (E = 0 → ∀ w', LStep w gl gd F l.flushed d3 (N + 4 * (l.sealed.length - 0)) w' → PP (.returned (.int .i64 0)) w')) ∧
  ((l.fresh = true ∧ l.sealed ≠ []) → ∀ E d2, layR l.at_ l.size (l.sealed.take 1) d = (E, d2) → (E ≠ 0 → ∀ w', LStep w gl gd F l d2 (N + 4 * (1 - 0)) w' → PP (.returned (.int .i64 E)) w') ∧ (E = 0 → ∀ E3 d3, layR l.at_ l.size (l.sealed.drop 1) d2 = (E3, d3) → (E3 ≠ 0 → ∀ w', LStep w gl gd F { l with fresh := false } d3 (N + 4 * (1 - 0) + 4 * (l.sealed.length - 1)) w' → PP (.returned (.int .i64 E3)) w') ∧ (E3 = 0 → ∀ w', LStep w gl gd F (Lg.flushed { l with fresh := false }) d3 (N + 4 * (1 - 0) + 4 * (l.sealed.length - 1)) w' → PP (.returned (.int .i64 0)) w')))
theorem fways (w : World) (gl gd : Nat) (F : Nat → Prop) (l : Lg) (d : Dsk) (N : Nat) (hN : N + 4 * l.sealed.length + 8 < 1000000000000) : FWays w gl gd F l d N (fun e w' => e = .returned (.int .i64 (flushC l d).1) ∧ LStep w gl gd F (flushC l d).2.1 (flushC l d).2.2 (N + 4 * (l.sealed.length + 1)) w') := by
  refine ⟨fun hc E d3 hl => ?_, fun hc E d2 hl => ⟨fun hE w' h => ?_, fun hE E3 d3 hl3 => ?_⟩⟩
  · have e1 : flushC l d = restR l 0 d := by unfold flushC; rw [if_neg hc]
    refine ⟨fun hE w' h => ?_, fun hE w' h => ?_⟩
    · have e2 : restR l 0 d = (E, l, d3) := by unfold restR; rw [hl, if_neg hE]
      rw [e1, e2]; exact ⟨rfl, h.grow (by omega) (by omega)⟩
    · have e2 : restR l 0 d = (0, l.flushed, d3) := by unfold restR; rw [hl, if_pos hE]
      rw [e1, e2]; exact ⟨rfl, h.grow (by omega) (by omega)⟩
  · have e1 : flushC l d = (E, l, d2) := by unfold flushC; rw [if_pos hc, hl, if_neg hE]
    rw [e1]; exact ⟨rfl, h.grow (by omega) (by omega)⟩
  · have hln : l.sealed.length ≠ 0 := fun q => hc.2 (List.eq_nil_of_length_eq_zero q)
    have e1 : flushC l d = restR { l with fresh := false } 1 d2 := by unfold flushC; rw [if_pos hc, hl, if_pos hE]
    refine ⟨fun hE3 w' h => ?_, fun hE3 w' h => ?_⟩
    · have e2 : restR { l with fresh := false } 1 d2 = (E3, { l with fresh := false }, d3) := by unfold restR; simp only [hl3, if_neg hE3]
      rw [e1, e2]; exact ⟨rfl, h.grow (by omega) (by omega)⟩
    · have e2 : restR { l with fresh := false } 1 d2 = (0, Lg.flushed { l with fresh := false }, d3) := by unfold restR; simp only [hl3, if_pos hE3]
      rw [e1, e2]; exact ⟨rfl, h.grow (by omega) (by omega)⟩
end Go.Proofs.Ytehogiondcpbcaa
