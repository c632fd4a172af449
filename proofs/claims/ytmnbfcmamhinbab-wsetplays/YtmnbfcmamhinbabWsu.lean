/-
  Proved here: lists of page numbers in memory of their own; which bases a script of writings leaves.
-/
import Derived.Test.YtmnbfcmamhinbabWsq
namespace Go.Proofs.Ytmnbfcmamhinbab.Ws
open Go.ChangeShapes Go.WideShapes Go.ChangeAt Go.RowKit
open Go.Deep Go.Maps
set_option linter.unusedVariables false
set_option linter.unusedSimpArgs false
set_option maxRecDepth 20000

theorem info40u : (Try.prog.info? 40).map (fun i => (i.zero, i.size, i.bytes)) = some (some (.int .u16 0), 1, 2) := by kernel_rfl
def flatU (xs : List Int) : List Value := xs.map (Value.int .u16)
/-- A list of page numbers in memory of its own. -/
def OwnU (w : World) (base : Nat) (v : Value) (xs : List Int) : Prop := w.ownsRow base 40 1 v xs.length (flatU xs)
theorem OwnU.empty (w : World) (base : Nat) : OwnU w base (.slice none 0 0) [] := ⟨rfl, Or.inl ⟨rfl, rfl⟩⟩
theorem OwnU.off {F : Nat → Prop} {w w' : World} {base : Nat} {v : Value} {xs : List Int} (h : OwnU w base v xs) (ho : Off F w w') (hF : ∀ g cs, Row w g cs 40 → ¬ F g) : OwnU w' base v xs := by
  have hl := World.ownsRow.lt h
  obtain ⟨h1, h2⟩ := h
  refine ⟨h1, ?_⟩
  rcases h2 with h2 | ⟨g, cap, cur, rfl, hb', hc, rest⟩
  · exact Or.inl h2
  · have := hl g (by simp [Value.ownBlock])
    exact Or.inr ⟨g, cap, cur, rfl, hb', (ho.block g this.2 (hF g cur hc)).trans hc, rest⟩
theorem OwnU.keep {w w' : World} {base : Nat} {v : Value} {xs : List Int} (h : OwnU w base v xs) (hb : Below w.heap.size w w') : OwnU w' base v xs := h.off (F := fun _ => False) (Off.of_below hb) (fun _ _ _ q => q)
theorem OwnU.form {w : World} {base : Nat} {v : Value} {xs : List Int} (h : OwnU w base v xs) : ∃ oa cap, v = .slice oa xs.length cap ∧ ∀ i x, xs[i]? = some x → ∃ g, oa = some ⟨g, 0, none⟩ ∧ w.cell? ⟨g, i, none⟩ = some (.int .u16 x) := by
  have hc := fun g hg => World.ownsRow.cells h (g := g) hg
  rcases h.2 with ⟨rfl, h2⟩ | ⟨g, cap, cur, rfl, _⟩
  · refine ⟨Option.none, 0, by rw [h2], fun i b hb => ?_⟩
    rw [List.eq_nil_of_length_eq_zero h2] at hb; simp at hb
  · refine ⟨_, cap, rfl, fun i b hb => ⟨g, rfl, ?_⟩⟩
    have := hc g rfl i (.int .u16 b) (by unfold flatU; rw [List.getElem?_map, hb]; rfl)
    rw [Addr.add_mid, Nat.zero_add] at this
    exact this
theorem OwnU.lt {w : World} {base : Nat} {v : Value} {xs : List Int} (h : OwnU w base v xs) : ∀ k, v.ownBlock = some k → base ≤ k := fun k hk => (World.ownsRow.lt h k hk).1
theorem OwnU.row {w : World} {base : Nat} {v : Value} {xs : List Int} (h : OwnU w base v xs) : ∀ k, v.ownBlock = some k → ∃ cs, Row w k cs 40 := fun k hk => by
  rcases h.2 with ⟨rfl, h2⟩ | ⟨g, cap, cur, rfl, hb', hc, rest⟩
  · simp [Value.ownBlock] at hk
  · simp [Value.ownBlock] at hk; subst hk; exact ⟨cur, hc⟩
theorem OwnB.row {w : World} {base : Nat} {v : Value} {bl : List (List Int)} (h : OwnB w base v bl) : ∀ k, v.ownBlock = some k → ∃ cs, Row w k cs 42 := fun k hk => by
  rcases h.2.2 with ⟨rfl, h2⟩ | ⟨g, cap, cur, rfl, hb', hc, rest⟩
  · simp [Value.ownBlock] at hk
  · simp [Value.ownBlock] at hk; subst hk; exact ⟨cur, hc⟩
theorem OwnU.snoc {w : World} {base : Nat} {v : Value} {xs : List Int} (h : OwnU w base v xs) (ty : TypeId) (X : Nat) (x : Int) (hX : Row w X #[.int .u16 x] 40) (hb : base ≤ w.heap.size) (hn : xs.length ≤ 1000) :
    ∃ v' w', (Builtin.append_ #[56, 56] ty #[v, .slice (some ⟨X, 0, Option.none⟩) 1 1]).run Try.prog w = .ok v' w' ∧ OwnU w' base v' (xs ++ [x]) ∧ w.grownBy w' v.ownBlock := by
  obtain ⟨i, hi, hz, hs, hby⟩ := info_parts info40u
  obtain ⟨v', w', hr, h2, h3, h4, h5⟩ := run_append_own_at (P := Try.prog) w base 56 ty 40 i _ 1 2 Try.underlying56 hi hz hs hby rfl (by decide) v xs.length (flatU xs) h ⟨X, 0, Option.none⟩ 1 1 [.int .u16 x] rfl (fun j u hj => by rw [Addr.add_mid, Nat.zero_add, cell_of_row w X j _ _ _ hX, ← hj, List.getElem?_toArray]) (fun u hu => by simp at hu; subst hu; rfl) (by unfold maxLen; omega) (by omega) hb
  refine ⟨v', w', hr, ?_, h3⟩
  unfold OwnU flatU
  rw [List.map_append, List.length_append]
  exact h2
theorem Row.un {w : World} {g : Nat} {cs ds : Array Value} {t u : TypeId} (h : Row w g cs t) (h' : Row w g ds u) (hn : t ≠ u) : False := by
  unfold Row at h h'
  rw [h] at h'
  simp at h'
  exact hn h'.2
theorem row_nomap {w : World} {g n : Nat} {cs : Array Value} {t : TypeId} {D : DataW (List Int)} (h : Row w g cs t) (h' : w.ownsMap Try.prog 40 wrR g n D) : False := by
  obtain ⟨es, clock, hb, _⟩ := h'
  unfold Row at h
  rw [h] at hb
  cases hb
/-- What a script has left: the pages in the order in which they came, and what they were. -/
structure Came (L : List (Int × List Int)) (at_ : List Int) (bl : List (List Int)) : Prop where
  nodup : at_.Nodup
  len : bl.length = at_.length
  has : ∀ p, hasP L p = true ↔ p ∈ at_
  base : ∀ (k : Nat) (p : Int) (b : List Int), at_[k]? = some p → bl[k]? = some b → baseP (atP L p) = b
  size : L.length = at_.length
theorem Came.nil : Came [] [] [] := ⟨List.nodup_nil, rfl, fun p => by simp [hasP], fun k p b h => by simp at h, rfl⟩
theorem baseP_splice (ys : List Int) (h : ys.length = 128) (of : Nat) (xs : List Int) : baseP (splice ys (64 + of) xs) = baseP ys := by
  unfold baseP splice
  rw [List.drop_zero, List.drop_zero, List.take_append_of_le_length (by rw [List.length_take]; omega), List.take_take, Nat.min_eq_left (by omega)]
theorem wrote_base {L : List (Int × List Int)} {o : Wo} (ho : o.Ok) (hw : Wr (atP L o.pg)) : baseP (wroteP L o.pg o.b o.off o.t) = if hasP L o.pg = true then baseP (atP L o.pg) else o.b := by
  unfold wroteP
  rw [baseP_splice _ (by split; exact hw.1; rw [List.length_append, ho.2.1])]
  split
  · rfl
  · unfold baseP
    rw [List.drop_zero, List.take_append_of_le_length (by rw [ho.2.1]; exact Nat.le_refl _), List.take_of_length_le (by rw [ho.2.1]; exact Nat.le_refl _)]
/-- A writing that was refused, or of a page that was there. -/
theorem Came.old {L : List (Int × List Int)} {at_ : List Int} {bl : List (List Int)} (c : Came L at_ bl) (hr : L.Pairwise fun p q => p.1 < q.1) {o : Wo} (ho : o.Ok) (hw : Wr (atP L o.pg)) (h : ¬ (wrE L o = 0 ∧ hasP L o.pg = false)) : Came (wrL L o) at_ bl := by
  unfold wrL
  split
  · rename_i h0
    have hh : hasP L o.pg = true := by cases e : hasP L o.pg with | true => rfl | false => exact absurd ⟨h0, e⟩ h
    refine ⟨c.nodup, c.len, fun p => ?_, fun k p b h1 h2 => ?_, ?_⟩
    · by_cases q : p = o.pg
      · subst q; rw [(put_same hr _ _).2, ← c.has, hh]
      · rw [(put_other hr _ _ q).2]; exact c.has p
    · by_cases q : p = o.pg
      · subst q
        rw [(put_same hr _ _).1, wrote_base ho hw, if_pos hh]
        exact c.base k _ b h1 h2
      · rw [(put_other hr _ _ q).1]; exact c.base k p b h1 h2
    · rw [put_length hr, if_pos hh]; exact c.size
  · exact c
theorem Came.new {L : List (Int × List Int)} {at_ : List Int} {bl : List (List Int)} (c : Came L at_ bl) (hr : L.Pairwise fun p q => p.1 < q.1) {o : Wo} (ho : o.Ok) (hw : Wr (atP L o.pg)) (h0 : wrE L o = 0) (hh : hasP L o.pg = false) : Came (wrL L o) (at_ ++ [o.pg]) (bl ++ [o.b]) := by
  have hn : o.pg ∉ at_ := fun q => by rw [(c.has _).2 q] at hh; cases hh
  unfold wrL
  rw [if_pos h0]
  refine ⟨?_, by simp [c.len], fun p => ?_, fun k p b h1 h2 => ?_, ?_⟩
  · rw [List.nodup_append]
    exact ⟨c.nodup, by simp, fun a ha b hb => by simp at hb; subst hb; exact fun e => hn (e ▸ ha)⟩
  · by_cases q : p = o.pg
    · subst q; rw [(put_same hr _ _).2]; simp
    · rw [(put_other hr _ _ q).2, c.has]; simp [q]
  · by_cases hk : k < at_.length
    · rw [List.getElem?_append_left hk] at h1
      rw [List.getElem?_append_left (by rw [c.len]; exact hk)] at h2
      have q : p ≠ o.pg := fun e => hn (e ▸ List.mem_of_getElem? h1)
      rw [(put_other hr _ _ q).1]; exact c.base k p b h1 h2
    · rw [List.getElem?_append_right (by omega)] at h1
      rw [List.getElem?_append_right (by rw [c.len]; omega), c.len] at h2
      have hz : k - at_.length = 0 := by
        have := (List.getElem?_eq_some_iff.1 h1).1
        simp at this; exact this
      rw [hz] at h1 h2
      simp at h1 h2
      subst h1 h2
      rw [(put_same hr _ _).1, wrote_base ho hw, if_neg (by rw [hh]; decide)]
  · rw [put_length hr, if_neg (by rw [hh]; decide), c.size]; simp
end Go.Proofs.Ytmnbfcmamhinbab.Ws
