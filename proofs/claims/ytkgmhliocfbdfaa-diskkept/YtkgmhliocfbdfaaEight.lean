/-
  Plain facts on a disk of eight blocks under any calls; what a crash leaves that keeps all or nothing; a list of like Booleans.
-/
import Derived.Test.YtkgmhliocfbdfaaWld
import Derived.Deep.OwnRows
namespace Go.Proofs.Ytkgmhliocfbdfaa
open Go.ChangeShapes Go.WideShapes Go.ChangeAt Go.RowKit
set_option linter.unusedVariables false
set_option linter.unusedSimpArgs false

/-- A disk of eight blocks, its operations counted. -/
structure Eight (d : Dsk) (k : Int) : Prop where
  size : d.n = 8
  lo : 0 ≤ d.ops
  hi : d.ops ≤ k
theorem Eight.up {d : Dsk} {k : Int} (h : Eight d k) : Eight d (k + 1) := ⟨h.size, h.lo, by have := h.hi; omega⟩
theorem count_eight {d : Dsk} {k : Int} (h : Eight d k) : Eight (count d).2 (k + 1) := by
  have h0 := h.lo; have h1 := h.hi
  unfold count
  split
  · exact ⟨h.size, by show 0 ≤ d.ops + 1; omega, by show d.ops + 1 ≤ k + 1; omega⟩
  · split <;> exact ⟨h.size, by show 0 ≤ d.ops + 1; omega, by show d.ops + 1 ≤ k + 1; omega⟩
theorem ask_eight {d : Dsk} {k : Int} (h : Eight d k) (b : Int) : Eight (ask d b).2 (k + 1) := by
  unfold ask
  split
  · exact h.up
  · split
    · exact count_eight h
    · exact h.up
theorem act_eight {d : Dsk} {k : Int} (h : Eight d k) (hk : 0 ≤ k) (c : Call) : Eight (act d c).2.2 (k + 1) := by
  unfold act
  by_cases k0 : c.kd = 0
  · rw [if_pos k0]
    unfold read
    split <;> exact ask_eight h _
  rw [if_neg k0]
  by_cases k1 : c.kd = 1
  · rw [if_pos k1]
    unfold writ
    have hh := ask_eight h c.b
    split
    · exact ⟨hh.size, hh.lo, hh.hi⟩
    · exact hh
  rw [if_neg k1]
  by_cases k2 : c.kd = 2
  · rw [if_pos k2]
    unfold sync
    have hh := count_eight h
    split
    · exact h.up
    · split
      · exact ⟨hh.size, hh.lo, hh.hi⟩
      · exact hh
  rw [if_neg k2]
  by_cases k3 : c.kd = 3
  · rw [if_pos k3]
    exact ⟨h.size, by simp [Dsk.plan], by show (0 : Int) ≤ k + 1; omega⟩
  rw [if_neg k3]
  by_cases k4 : c.kd = 4
  · rw [if_pos k4]
    exact ⟨h.size, by simp [Dsk.crash], by show (0 : Int) ≤ k + 1; omega⟩
  rw [if_neg k4]
  exact h.up
theorem kept_all (ps : List (Int × Int × List Int)) (bl : List Bool) : ∀ k, k ≤ ps.length → (∀ j, j < k → bl.getD j false = true) → kept ps bl k = ps.take k
  | 0, _, _ => by simp [kept]
  | k + 1, hk, h => by
    unfold kept
    rw [if_pos (h k (by omega)), kept_all ps bl k (by omega) (fun j hj => h j (by omega)), List.take_add_one, List.getD_eq_getElem?_getD]
    simp [show k < ps.length by omega]
theorem kept_none (ps : List (Int × Int × List Int)) (bl : List Bool) : ∀ k, (∀ j, j < k → bl.getD j false = false) → kept ps bl k = []
  | 0, _ => rfl
  | k + 1, h => by
    unfold kept
    rw [if_neg (by rw [h k (by omega)]; simp), kept_none ps bl k (fun j hj => h j (by omega))]
theorem crash_seen (d : Dsk) (all : Bool) (b : Int) : (d.crash (List.replicate d.pend.length all)).seen b = if all then d.seen b else d.sure.block b := by
  unfold Dsk.seen Dsk.crash
  show (over (over d.sure (kept d.pend (List.replicate d.pend.length all) d.pend.length)) []).block b = _
  cases all
  · rw [kept_none _ _ _ (fun j hj => by simp [List.getD, hj])]; rfl
  · rw [kept_all _ _ _ (Nat.le_refl _) (fun j hj => by simp [List.getD, hj]), List.take_length]; rfl
/-- A disk with another count. -/
def Dsk.tick (d : Dsk) (k : Int) : Dsk := ⟨d.n, d.sure, d.pend, d.down, k, d.fuse, d.fails⟩
/-- What a read behind a crash answers. -/
theorem crash_read (d : Dsk) (bl : List Bool) (k b : Int) (hk : 0 ≤ k) (hb : 0 ≤ b ∧ b < d.n) : read ((d.crash bl).tick k) b = ((d.crash bl).seen b, 0, (d.crash bl).tick (k + 1)) := by
  have hc : count ((d.crash bl).tick k) = (0, (d.crash bl).tick (k + 1)) := by
    unfold count
    rw [if_neg (by simp [Dsk.crash, Dsk.tick]; omega), if_neg (by simp [Dsk.crash, Dsk.tick])]
    rfl
  have ha : ask ((d.crash bl).tick k) b = (0, (d.crash bl).tick (k + 1)) := by
    unfold ask
    rw [if_neg (by simp [Dsk.crash, Dsk.tick])]
    refine (if_pos ?_).trans hc
    exact hb
  unfold read
  rw [ha]; rfl
/-- A disk among other blocks. -/
structure Dw (w wr : World) (G : Nat) (d : Dsk) (L : Loc) (N : Nat) : Prop where
  at_ : DAt wr G d L N
  below : Below w.heap.size w wr
  foot : ∀ j, foot G L j → w.heap.size ≤ j
theorem Dw.step {w wr wr' : World} {G : Nat} {d d' : Dsk} {L : Loc} {N N' : Nat} (h : Dw w wr G d L N) (hc : Crashed wr G d' L N' wr') : ∃ L', Dw w wr' G d' L' N' ∧ ∀ P n k f, Grid wr P n k f → ¬ Go.Proofs.Ytkgmhliocfbdfaa.foot G L P → Grid wr' P n k f ∧ ¬ Go.Proofs.Ytkgmhliocfbdfaa.foot G L' P := by
  obtain ⟨L', D, O, F⟩ := hc
  refine ⟨L', ⟨D, h.below.trans (O.below h.below.size h.foot), fun j hj => ?_⟩, fun P n k f hg hp => ⟨hg.off O hp, fun q => ?_⟩⟩
  · rcases F j hj with q | q
    · exact h.foot j q
    · exact Nat.le_trans h.below.size q
  · rcases F P q with q | q
    · exact hp q
    · have := hg.lt; omega
theorem Dw.down {w wr wr' : World} {G : Nat} {d : Dsk} {L : Loc} {N : Nat} (h : Dw w wr G d L N) (hb : Below wr.heap.size wr wr') : Dw w wr' G d L N :=
  ⟨h.at_.below hb, h.below.trans (hb.mono h.below.size), h.foot⟩
theorem Dw.grow {w wr : World} {G : Nat} {d : Dsk} {L : Loc} {N M : Nat} (h : Dw w wr G d L N) (hm : N ≤ M) (hM : M < 1000000000000) : Dw w wr G d L M := { h with at_ := h.at_.grow hm hM }
theorem Dw.cells {w wr : World} {G : Nat} {d : Dsk} {L : Loc} {N : Nat} (h : Dw w wr G d L N) (P o : Nat) (vs : List Value) (hP : ¬ Go.Proofs.Ytkgmhliocfbdfaa.foot G L P) (hw : w.heap.size ≤ P) : Dw w (wr.setCells P o vs) G d L N :=
  have O := off_setCells P vs o wr
  ⟨h.at_.off O (fun j hj q => hP (q ▸ hj)), h.below.trans (O.below h.below.size (fun k e => by rw [e]; exact hw)), h.foot⟩
theorem Dw.cell {w wr : World} {G : Nat} {d : Dsk} {L : Loc} {N : Nat} (h : Dw w wr G d L N) (P o : Nat) (v : Value) (hP : ¬ Go.Proofs.Ytkgmhliocfbdfaa.foot G L P) (hw : w.heap.size ≤ P) : Dw w (wr.setCell ⟨P, o, none⟩ v) G d L N :=
  h.cells P o [v] hP hw
/-- Booleans, the first k of which are alike. -/
structure Alls (w : World) (K n k : Nat) (b : Bool) : Prop where
  row : ∃ cs, Row w K cs 4 ∧ cs.size = n ∧ ∀ j, j < k → cs[j]? = some (.bool b)
theorem Alls.kept {w w' : World} {K n k : Nat} {b : Bool} (h : Alls w K n k b) (e : w'.heap[K]? = w.heap[K]?) : Alls w' K n k b := by
  obtain ⟨cs, h1, h2, h3⟩ := h.row
  exact ⟨cs, e.trans h1, h2, h3⟩
theorem Alls.put {w : World} {K n k : Nat} {b : Bool} (h : Alls w K n k b) (hk : k < n) : Alls (w.setCell ⟨K, k, none⟩ (.bool b)) K n (k + 1) b := by
  obtain ⟨cs, h1, h2, h3⟩ := h.row
  refine ⟨_, row_set h1 k _, by simpa using h2, fun j hj => ?_⟩
  by_cases e : j = k
  · subst e; simp [Array.getElem?_setIfInBounds, h2, hk]
  · rw [Array.getElem?_setIfInBounds, if_neg (by omega)]; exact h3 j (by omega)
theorem Alls.cell {w : World} {K n k : Nat} {b : Bool} (h : Alls w K n k b) (j : Nat) (hj : j < n) : ∃ v, w.cell? ⟨K, j, none⟩ = some v ∧ w.frozen? ⟨K, j, none⟩ = false := by
  obtain ⟨cs, h1, h2, h3⟩ := h.row
  exact ⟨cs[j], by rw [cell_of_row w K j _ _ _ h1, Array.getElem?_eq_getElem], row_frozen h1 j⟩
theorem Alls.cel {w : World} {K n : Nat} {b : Bool} (h : Alls w K n n b) : Cel w (.slice (some ⟨K, 0, none⟩) n n) ((List.replicate n b).map .bool) := by
  obtain ⟨cs, h1, h2, h3⟩ := h.row
  refine Or.inr ⟨⟨K, 0, none⟩, n, by simp, fun j u hj => ?_⟩
  have hjn : j < n := by
    have := (List.getElem?_eq_some_iff.1 hj).1
    simpa using this
  rw [Addr.add_mid, Nat.zero_add, cell_of_row w K j _ _ _ h1, h3 j hjn]
  rw [List.getElem?_map, List.getElem?_replicate, if_pos hjn] at hj
  exact hj
end Go.Proofs.Ytkgmhliocfbdfaa
