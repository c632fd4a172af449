/-
  Plain facts of disks: what is seen, what a crash keeps, and disks whose power stays.
-/
import Derived.Test.YtgnedbagelhcbaaLgg
import Derived.Test.YtgnedbagelhcbaaJd
namespace Go.Proofs.Ytgnedbagelhcbaa
open Go.ChangeShapes Go.WideShapes Go.ChangeAt Go.RowKit
set_option linter.unusedVariables false
set_option linter.unusedSimpArgs false
set_option maxRecDepth 20000
def Dsk.tick (d : Dsk) (k : Int) : Dsk := ⟨d.n, d.sure, d.pend, d.down, k, d.fuse, d.fails⟩
structure Well (d : Dsk) (n : Nat) (k : Int) : Prop where
  size : d.n = n
  fuse : d.fuse = 0
  on : d.down = false
  fails : ∀ i, d.fails i = false
  lo : 0 ≤ d.ops
  hi : d.ops ≤ k
theorem count_well {d : Dsk} {n : Nat} {k : Int} (h : Well d n k) : count d = (0, d.tick (d.ops + 1)) := by
  have h0 := h.lo
  unfold count
  rw [if_neg (by rw [h.fuse]; omega), if_neg (by rw [h.fails]; simp)]
  rfl
theorem Well.tick {d : Dsk} {n : Nat} {k : Int} (h : Well d n k) : Well (d.tick (d.ops + 1)) n (k + 1) :=
  ⟨h.size, h.fuse, h.on, h.fails, by have := h.lo; show 0 ≤ d.ops + 1; omega, by have := h.hi; show d.ops + 1 ≤ k + 1; omega⟩
theorem writ_well {d : Dsk} {n : Nat} {k : Int} (h : Well d n k) (b : Int) (hb : 0 ≤ b ∧ b < n) (x : List Int) : writ d b x = (0, (d.tick (d.ops + 1)).wrote b x 4) := by
  have ha : ask d b = (0, d.tick (d.ops + 1)) := by
    unfold ask
    rw [if_neg (by rw [h.on]; simp), if_pos ⟨hb.1, by rw [h.size]; exact hb.2⟩, count_well h]
  unfold writ
  rw [ha]; rfl
theorem sync_well {d : Dsk} {n : Nat} {k : Int} (h : Well d n k) : sync d = (0, (d.tick (d.ops + 1)).synced) := by
  unfold sync
  rw [if_neg (by rw [h.on]; simp), count_well h]; rfl
theorem Well.wrote {d : Dsk} {n : Nat} {k : Int} (h : Well d n k) (b : Int) (x : List Int) : Well (d.wrote b x 4) n k := ⟨h.size, h.fuse, h.on, h.fails, h.lo, h.hi⟩
theorem Well.synced {d : Dsk} {n : Nat} {k : Int} (h : Well d n k) : Well d.synced n k := ⟨h.size, h.fuse, h.on, h.fails, h.lo, h.hi⟩
theorem Well.mono {d : Dsk} {n : Nat} {k l : Int} (h : Well d n k) (hl : k ≤ l) : Well d n l := ⟨h.size, h.fuse, h.on, h.fails, h.lo, by have := h.hi; omega⟩
theorem wrote_sure (d : Dsk) (b : Int) (x : List Int) : ∀ k, (d.wrote b x k).sure = d.sure
  | 0 => rfl
  | k + 1 => wrote_sure d b x k
theorem kept_mem (ps : List (Int × Int × List Int)) (bl : List Bool) : ∀ k, k ≤ ps.length → ∀ q ∈ kept ps bl k, q ∈ ps
  | 0, _, q, h => by cases h
  | k + 1, hk, q, h => by
    unfold kept at h
    split at h
    · rcases List.mem_append.1 h with h | h
      · exact kept_mem ps bl k (by omega) q h
      · simp at h
        have : ps.getD k (0, 0, []) ∈ ps := by
          rw [List.getD_eq_getElem?_getD, List.getElem?_eq_getElem (by omega)]; exact List.getElem_mem _
        simp [List.getD_eq_getElem?_getD] at this
        rw [h]; exact this
    · exact kept_mem ps bl k (by omega) q h
theorem over_out : ∀ (ps : List (Int × Int × List Int)) (f : Secs) (b : Int), (∀ q ∈ ps, q.1 ≠ b) → ∀ s, over f ps b s = f b s
  | [], f, b, _, s => rfl
  | q :: r, f, b, h, s => by
    show over (f.put q.1 q.2.1 q.2.2) r b s = _
    rw [over_out r _ b (fun p hp => h p (List.mem_cons_of_mem _ hp)) s]
    unfold Secs.put
    rw [if_neg (fun e => h q (List.mem_cons_self ..) e.1.symm)]
theorem block_out (f : Secs) (ps : List (Int × Int × List Int)) (b : Int) (h : ∀ q ∈ ps, q.1 ≠ b) : (over f ps).block b = f.block b := by
  unfold Secs.block
  congr 1
  funext i
  unfold Secs.get
  rw [over_out ps f b h]
theorem crash_out (d : Dsk) (bl : List Bool) (b : Int) (h : ∀ q ∈ d.pend, q.1 ≠ b) : (d.crash bl).seen b = d.sure.block b := by
  show (over (over d.sure (kept d.pend bl d.pend.length)) []).block b = _
  exact block_out _ _ b (fun q hq => h q (kept_mem _ _ _ (Nat.le_refl _) q hq))
theorem seen_none (d : Dsk) (h : d.pend = []) (b : Int) : d.seen b = d.sure.block b := by unfold Dsk.seen; rw [h]; rfl
end Go.Proofs.Ytgnedbagelhcbaa
