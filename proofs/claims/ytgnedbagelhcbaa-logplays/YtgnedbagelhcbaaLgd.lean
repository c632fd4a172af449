/-
  A log and its disk in memory; what stays so behind seal and lay.
-/
import Derived.Test.YtgnedbagelhcbaaLgc
import Derived.Test.YtgnedbagelhcbaaLgf
namespace Go.Proofs.Ytgnedbagelhcbaa
open Go.ChangeShapes Go.WideShapes Go.ChangeAt Go.RowKit
set_option linter.unusedVariables false
set_option linter.unusedSimpArgs false
set_option maxRecDepth 20000
theorem info25u : (Try.prog.info? 25).map (fun i => (i.zero, i.size, i.bytes)) = some (some (.int .u64 0), 1, 8) := by kernel_rfl
theorem OwnU.off {F : Nat → Prop} {w w' : World} {base : Nat} {v : Value} {xs : List Int} (h : OwnU w base v xs) (ho : Off F w w') (hF : ∀ j, v.ownBlock = some j → ¬ F j) : OwnU w' base v xs := by
  have hl := World.ownsRow.lt h
  obtain ⟨h1, h2⟩ := h
  refine ⟨h1, ?_⟩
  rcases h2 with h2 | ⟨g, cap, cur, rfl, hb', hc, rest⟩
  · exact Or.inl h2
  · exact Or.inr ⟨g, cap, cur, rfl, hb', (ho.block g (hl g rfl).2 (hF g rfl)).trans hc, rest⟩
theorem OwnU.snocQ {w : World} {base : Nat} {v : Value} {xs : List Int} (h : OwnU w base v xs) (ty : TypeId) (X : Nat) (x : Int) (hX : Row w X #[.int .u64 x] 25) (hb : base ≤ w.heap.size) (hn : xs.length ≤ 1000000) :
    ∃ v' w', (Builtin.append_ #[100, 100] ty #[v, .slice (some ⟨X, 0, none⟩) 1 1]).run Try.prog w = .ok v' w' ∧ (OwnU w' base v' (xs ++ [x]) ∧ w.grownBy w' v.ownBlock ∧ (v'.ownBlock = v.ownBlock ∨ v'.ownBlock = some w.heap.size)) := by
  obtain ⟨i, hi, hz, hs, hby⟩ := Ck.info_parts info25u
  obtain ⟨v', w', hr, h2, h3, h4, h5⟩ := run_append_own_at (P := Try.prog) w base 100 ty 25 i _ 1 8 Try.underlying100 hi hz hs hby rfl (by decide) v xs.length (xs.map (Value.int .u64)) h ⟨X, 0, none⟩ 1 1 [.int .u64 x] rfl (fun j u hj => by rw [Addr.add_mid, Nat.zero_add, cell_of_row w X j _ _ _ hX, ← hj, List.getElem?_toArray]) (fun u hu => by simp at hu; subst hu; rfl) (by unfold maxLen; omega) (by omega) hb
  refine ⟨v', w', hr, ?_, h3, h5⟩
  unfold OwnU
  rw [List.map_append, List.length_append]
  exact h2
theorem own_apartU {w : World} {b b' g : Nat} {v v' : Value} {xs : List Int} {os : List Ck.O} (h : OwnU w b v xs) (h' : Ck.Own w b' v' os) (hb : v.ownBlock = some g) (hb' : v'.ownBlock = some g) : False := by
  rcases h.2 with ⟨rfl, _⟩ | ⟨g1, cap, cur, rfl, _, hc, _⟩
  · cases hb
  · cases hb
    rcases h'.2 with ⟨rfl, _⟩ | ⟨g2, cap2, cur2, rfl, _, hc2, _⟩
    · cases hb'
    · cases hb'
      rw [hc] at hc2
      simp at hc2
structure LD (w : World) (gl gd : Nat) (vl vs : Value) (L : Loc) (l : Lg) (d : Dsk) (N : Nat) : Prop where
  row : Row w gl (lcells (.pointer (some ⟨gd, 0, none⟩)) vl vs l) 102
  last : OwnU w (gl + 1) vl l.last
  sld : Ck.Own w (gl + 1) vs l.sealed
  dsk : DAt w gd d L N
  ng : ¬ foot gd L gl
  nl : ∀ j, vl.ownBlock = some j → ¬ foot gd L j
  ns : ∀ j, vs.ownBlock = some j → ¬ foot gd L j
def lfoot (gl gd : Nat) (vl vs : Value) (L : Loc) (j : Nat) : Prop := j = gl ∨ vl.ownBlock = some j ∨ vs.ownBlock = some j ∨ foot gd L j
def LStep (w : World) (gl gd : Nat) (F : Nat → Prop) (l : Lg) (d : Dsk) (N : Nat) (w' : World) : Prop :=
  ∃ vl vs L, LD w' gl gd vl vs L l d N ∧ Off F w w' ∧ ∀ j, lfoot gl gd vl vs L j → F j ∨ w.heap.size ≤ j
theorem LD.lt {w : World} {gl gd : Nat} {vl vs : Value} {L : Loc} {l : Lg} {d : Dsk} {N : Nat} (h : LD w gl gd vl vs L l d N) {j : Nat} (hj : lfoot gl gd vl vs L j) : j < w.heap.size := by
  rcases hj with rfl | q | q | q
  · exact h.row.lt
  · exact (World.ownsRow.lt h.last j q).2
  · exact (World.ownsRow.lt h.sld j q).2
  · exact h.dsk.lt q
theorem LD.off {F : Nat → Prop} {w w' : World} {gl gd : Nat} {vl vs : Value} {L : Loc} {l : Lg} {d : Dsk} {N : Nat} (h : LD w gl gd vl vs L l d N) (ho : Off F w w') (hF : ∀ j, lfoot gl gd vl vs L j → ¬ F j) : LD w' gl gd vl vs L l d N :=
  ⟨h.row.off ho (hF _ (Or.inl rfl)), h.last.off ho (fun j q => hF j (Or.inr (Or.inl q))), h.sld.off ho (fun j q => hF j (Or.inr (Or.inr (Or.inl q)))), h.dsk.off ho (fun j q => hF j (Or.inr (Or.inr (Or.inr q)))), h.ng, h.nl, h.ns⟩
theorem LD.below {w w' : World} {gl gd : Nat} {vl vs : Value} {L : Loc} {l : Lg} {d : Dsk} {N : Nat} (h : LD w gl gd vl vs L l d N) (hb : Below w.heap.size w w') : LD w' gl gd vl vs L l d N :=
  h.off (Off.of_below (F := fun _ => False) hb) (fun _ _ q => q)
theorem LStep.refl {w : World} {gl gd : Nat} {vl vs : Value} {L : Loc} {l : Lg} {d : Dsk} {N : Nat} (h : LD w gl gd vl vs L l d N) : LStep w gl gd (lfoot gl gd vl vs L) l d N w := ⟨vl, vs, L, h, Off.refl _ _, fun _ q => Or.inl q⟩
theorem LStep.below {w wa wb : World} {gl gd : Nat} {F : Nat → Prop} {l : Lg} {d : Dsk} {N : Nat} (h : LStep w gl gd F l d N wa) (hb : Below wa.heap.size wa wb) : LStep w gl gd F l d N wb := by
  obtain ⟨vl, vs, L, h1, h2, h3⟩ := h
  exact ⟨vl, vs, L, h1.below hb, h2.trans (Off.of_below (F := fun _ => False) hb) (fun _ q => q.elim), h3⟩
theorem LStep.grow {w wa : World} {gl gd : Nat} {F : Nat → Prop} {l : Lg} {d : Dsk} {N M : Nat} (h : LStep w gl gd F l d N wa) (hm : N ≤ M) (hM : M < 1000000000000) : LStep w gl gd F l d M wa := by
  obtain ⟨vl, vs, L, h1, h2, h3⟩ := h
  exact ⟨vl, vs, L, ⟨h1.row, h1.last, h1.sld, h1.dsk.grow hm hM, h1.ng, h1.nl, h1.ns⟩, h2, h3⟩
theorem LStep.seal {w wr : World} {gl gd : Nat} {F : Nat → Prop} {l : Lg} {d : Dsk} {M : Nat} (h : LStep w gl gd F l d M wr) (N : Nat) (hN : N ≤ l.open_.size) (hs : l.sealed.length ≤ 900) (hf : (l.open_.size : Int) ≤ l.fin ∧ l.fin ≤ 18446744073709551615) (hx : 0 ≤ l.next ∧ l.next ≤ 4294967295) (hsz : l.open_.size ≤ 1000000000) :
    Calls Try.prog 46 #[.pointer (some ⟨gl, 0, none⟩), .int .i64 N] wr fun e w' => e = .returned (.tuple #[]) ∧ LStep w gl gd F (l.seal N) d M w' := by
  obtain ⟨vl, vs, L, h1, h2, h3⟩ := h
  refine (seal_any wr gl _ vl vs l N h1.row h1.sld hN hs hf hx hsz).mono ?_
  rintro e w' ⟨rfl, vs2, k1, k2, k3, k4⟩
  have hnew : ∀ j, vs2.ownBlock = some j → vs.ownBlock = some j ∨ wr.heap.size ≤ j := k4
  refine ⟨rfl, vl, vs2, L, ⟨k1, h1.last.off k3 (fun j q => ?_), k2, h1.dsk.off k3 (fun j q => ?_), h1.ng, h1.nl, fun j q q2 => ?_⟩, h2.trans k3 (fun j q => ?_), fun j q => ?_⟩
  · rintro (q2 | q2)
    · have := (World.ownsRow.lt h1.last j q).1; omega
    · exact own_apartU h1.last h1.sld q q2
  · rintro (q2 | q2)
    · subst q2; exact h1.ng q
    · exact h1.ns j q2 q
  · rcases hnew j q with q3 | q3
    · exact h1.ns j q3 q2
    · have := h1.dsk.lt q2; omega
  · rcases q with q | q
    · exact h3 j (Or.inl q)
    · exact h3 j (Or.inr (Or.inr (Or.inl q)))
  · rcases q with q | q | q | q
    · exact h3 j (Or.inl q)
    · exact h3 j (Or.inr (Or.inl q))
    · rcases hnew j q with q3 | q3
      · exact h3 j (Or.inr (Or.inr (Or.inl q3)))
      · have := h2.size; exact Or.inr (by omega)
    · exact h3 j (Or.inr (Or.inr (Or.inr q)))
theorem LStep.lay {w wr : World} {gl gd : Nat} {F : Nat → Prop} {l : Lg} {d : Dsk} {M : Nat} (h : LStep w gl gd F l d M wr) (f t : Nat) (hok : ∀ c ∈ l.sealed, c.Ok) (hf : f ≤ t) (ht : t ≤ l.sealed.length) (hs : l.sealed.length ≤ 100000) (ha : 0 ≤ l.at_ ∧ l.at_ ≤ 4294967295) (hz : 1 ≤ l.size ∧ l.size ≤ 4294967295) (hop : d.ops + l.sealed.length + 2 < 9223372036854775806) (hN : M + 4 * l.sealed.length + 4 < 1000000000000) :
    Calls Try.prog 49 #[.pointer (some ⟨gl, 0, none⟩), .int .i64 f, .int .i64 t] wr fun e w' => e = .returned (.int .i64 (layR l.at_ l.size ((l.sealed.drop f).take (t - f)) d).1) ∧ LStep w gl gd F l (layR l.at_ l.size ((l.sealed.drop f).take (t - f)) d).2 (M + 4 * (t - f)) w' := by
  obtain ⟨vl, vs, L, h1, h2, h3⟩ := h
  refine (lay_any wr gl gd vl vs l d L M f t h1.row h1.sld h1.dsk h1.ng h1.ns hok hf ht hs ha hz hop hN).mono ?_
  rintro e w' ⟨rfl, L2, k1, k2, k3⟩
  refine ⟨rfl, vl, vs, L2, ⟨h1.row.off k2 h1.ng, h1.last.off k2 h1.nl, h1.sld.off k2 h1.ns, k1, fun q => ?_, fun j q q2 => ?_, fun j q q2 => ?_⟩, h2.trans k2 (fun j q => h3 j (Or.inr (Or.inr (Or.inr q)))), fun j q => ?_⟩
  · rcases k3 gl q with q | q
    · exact h1.ng q
    · have := h1.row.lt; omega
  · rcases k3 j q2 with q3 | q3
    · exact h1.nl j q q3
    · have := (World.ownsRow.lt h1.last j q).2; omega
  · rcases k3 j q2 with q3 | q3
    · exact h1.ns j q q3
    · have := (World.ownsRow.lt h1.sld j q).2; omega
  · rcases q with q | q | q | q
    · exact h3 j (Or.inl q)
    · exact h3 j (Or.inr (Or.inl q))
    · exact h3 j (Or.inr (Or.inr (Or.inl q)))
    · rcases k3 j q with q3 | q3
      · exact h3 j (Or.inr (Or.inr (Or.inr q3)))
      · have := h2.size; exact Or.inr (by omega)
theorem LStep.set {w wr : World} {gl gd : Nat} {F : Nat → Prop} {l l2 : Lg} {d : Dsk} {M : Nat} {vl vs : Value} {L : Loc} (h1 : LD wr gl gd vl vs L l d M) (h2 : Off F w wr) (h3 : ∀ j, lfoot gl gd vl vs L j → F j ∨ w.heap.size ≤ j) (k : Nat) (v : Value) (vs2 : Value)
    (hr : Row (wr.setCell ⟨gl, k, none⟩ v) gl (lcells (.pointer (some ⟨gd, 0, none⟩)) vl vs2 l2) 102) (hl : l2.last = l.last) (hs : (vs2 = vs ∧ l2.sealed = l.sealed) ∨ (vs2 = .slice none 0 0 ∧ l2.sealed = [])) : LD (wr.setCell ⟨gl, k, none⟩ v) gl gd vl vs2 L l2 d M ∧ Off F w (wr.setCell ⟨gl, k, none⟩ v) ∧ ∀ j, lfoot gl gd vl vs2 L j → F j ∨ w.heap.size ≤ j := by
  have O : Off (· = gl) wr (wr.setCell ⟨gl, k, none⟩ v) := Off.of_setCell wr ⟨gl, k, none⟩ v rfl
  have e1 : OwnU (wr.setCell ⟨gl, k, none⟩ v) (gl + 1) vl l2.last := by rw [hl]; exact h1.last.off O (fun j q q2 => by have := (World.ownsRow.lt h1.last j q).1; omega)
  have e2 : DAt (wr.setCell ⟨gl, k, none⟩ v) gd d L M := h1.dsk.off O (fun j q q2 => by subst q2; exact h1.ng q)
  have e3 : Off F w (wr.setCell ⟨gl, k, none⟩ v) := h2.trans O (fun j q => by subst q; exact h3 _ (Or.inl rfl))
  rcases hs with ⟨rfl, hs⟩ | ⟨rfl, hs⟩
  · exact ⟨⟨hr, e1, by rw [hs]; exact h1.sld.off O (fun j q q2 => by have := (World.ownsRow.lt h1.sld j q).1; omega), e2, h1.ng, h1.nl, h1.ns⟩, e3, h3⟩
  · refine ⟨⟨hr, e1, by rw [hs]; exact OwnCk.nil _ _, e2, h1.ng, h1.nl, fun j q => by cases q⟩, e3, fun j q => ?_⟩
    rcases q with q | q | q | q
    · exact h3 j (Or.inl q)
    · exact h3 j (Or.inr (Or.inl q))
    · cases q
    · exact h3 j (Or.inr (Or.inr (Or.inr q)))
def Lg.closed (l : Lg) : Lg := if l.open_.size = 0 then l else l.seal l.open_.size
def Lg.flushed (l : Lg) : Lg := { l with last := l.last ++ l.sealed.map (·.off), sealed := [], dur := l.fin }
def restR (l : Lg) (f : Nat) (d : Dsk) : Int × Lg × Dsk :=
  if (layR l.at_ l.size (l.sealed.drop f) d).1 = 0 then (0, l.flushed, (layR l.at_ l.size (l.sealed.drop f) d).2) else ((layR l.at_ l.size (l.sealed.drop f) d).1, l, (layR l.at_ l.size (l.sealed.drop f) d).2)
def flushC (l : Lg) (d : Dsk) : Int × Lg × Dsk :=
  if l.fresh = true ∧ l.sealed ≠ [] then
    if (layR l.at_ l.size (l.sealed.take 1) d).1 = 0 then restR { l with fresh := false } 1 (layR l.at_ l.size (l.sealed.take 1) d).2 else ((layR l.at_ l.size (l.sealed.take 1) d).1, l, (layR l.at_ l.size (l.sealed.take 1) d).2)
  else restR l 0 d
def flushR (l : Lg) (d : Dsk) : Int × Lg × Dsk := flushC l.closed d
theorem count_ops1 (d : Dsk) : (count d).2.ops ≤ d.ops + 1 := by
  unfold count; split
  · simp
  · split <;> simp
end Go.Proofs.Ytgnedbagelhcbaa
