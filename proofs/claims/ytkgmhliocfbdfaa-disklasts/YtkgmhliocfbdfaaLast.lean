/-
  Plain facts on a disk without faults; what a crash leaves of blocks that were not written; lists of bytes and of Booleans that came in; flags.
-/
import Derived.Test.YtkgmhliocfbdfaaEight
namespace Go.Proofs.Ytkgmhliocfbdfaa
open Go.ChangeShapes Go.WideShapes Go.ChangeAt Go.RowKit
open Go.Deep
set_option linter.unusedVariables false
set_option linter.unusedSimpArgs false

/-- A disk with power, without a fuse and without faults. -/
structure Well (d : Dsk) (n : Nat) (k : Int) : Prop where
  size : d.n = n
  fuse : d.fuse = 0
  on : d.down = false
  fails : ∀ i, d.fails i = false
  lo : 0 ≤ d.ops
  hi : d.ops ≤ k
theorem count_well {d : Dsk} {n : Nat} {k : Int} (h : Well d n k) : count d = (0, d.tick (d.ops + 1)) := by
  have h0 := h.lo
  unfold count
  rw [if_neg (by rw [h.fuse]; omega), if_neg (by rw [h.fails]; simp)]
  rfl
theorem Well.tick {d : Dsk} {n : Nat} {k : Int} (h : Well d n k) : Well (d.tick (d.ops + 1)) n (k + 1) :=
  ⟨h.size, h.fuse, h.on, h.fails, by have := h.lo; show 0 ≤ d.ops + 1; omega, by have := h.hi; show d.ops + 1 ≤ k + 1; omega⟩
theorem writ_well {d : Dsk} {n : Nat} {k : Int} (h : Well d n k) (b : Int) (hb : 0 ≤ b ∧ b < n) (x : List Int) : writ d b x = (0, (d.tick (d.ops + 1)).wrote b x 4) := by
  have ha : ask d b = (0, d.tick (d.ops + 1)) := by
    unfold ask
    rw [if_neg (by rw [h.on]; simp), if_pos ⟨hb.1, by rw [h.size]; exact hb.2⟩, count_well h]
  unfold writ
  rw [ha]; rfl
theorem sync_well {d : Dsk} {n : Nat} {k : Int} (h : Well d n k) : sync d = (0, (d.tick (d.ops + 1)).synced) := by
  unfold sync
  rw [if_neg (by rw [h.on]; simp), count_well h]; rfl
theorem Well.wrote {d : Dsk} {n : Nat} {k : Int} (h : Well d n k) (b : Int) (x : List Int) : Well (d.wrote b x 4) n k := ⟨h.size, h.fuse, h.on, h.fails, h.lo, h.hi⟩
theorem Well.synced {d : Dsk} {n : Nat} {k : Int} (h : Well d n k) : Well d.synced n k := ⟨h.size, h.fuse, h.on, h.fails, h.lo, h.hi⟩
theorem Well.mono {d : Dsk} {n : Nat} {k l : Int} (h : Well d n k) (hl : k ≤ l) : Well d n l := ⟨h.size, h.fuse, h.on, h.fails, h.lo, by have := h.hi; omega⟩
theorem wrote_mem (d : Dsk) (b : Int) (x : List Int) : ∀ k q, q ∈ (d.wrote b x k).pend → q ∈ d.pend ∨ q.1 = b
  | 0, q, h => Or.inl h
  | k + 1, q, h => by
    have h' : q ∈ (d.wrote b x k).pend ++ [(b, (k : Int), cut x k)] := h
    rcases List.mem_append.1 h' with h' | h'
    · exact wrote_mem d b x k q h'
    · simp at h'; exact Or.inr (by rw [h'])
theorem wrote_sure (d : Dsk) (b : Int) (x : List Int) : ∀ k, (d.wrote b x k).sure = d.sure
  | 0 => rfl
  | k + 1 => wrote_sure d b x k
theorem kept_mem (ps : List (Int × Int × List Int)) (bl : List Bool) : ∀ k, k ≤ ps.length → ∀ q ∈ kept ps bl k, q ∈ ps
  | 0, _, q, h => by cases h
  | k + 1, hk, q, h => by
    unfold kept at h
    split at h
    · rcases List.mem_append.1 h with h | h
      · exact kept_mem ps bl k (by omega) q h
      · simp at h
        have : ps.getD k (0, 0, []) ∈ ps := by
          rw [List.getD_eq_getElem?_getD, List.getElem?_eq_getElem (by omega)]; exact List.getElem_mem _
        simp [List.getD_eq_getElem?_getD] at this
        rw [h]; exact this
    · exact kept_mem ps bl k (by omega) q h
theorem over_out : ∀ (ps : List (Int × Int × List Int)) (f : Secs) (b : Int), (∀ q ∈ ps, q.1 ≠ b) → ∀ s, over f ps b s = f b s
  | [], f, b, _, s => rfl
  | q :: r, f, b, h, s => by
    show over (f.put q.1 q.2.1 q.2.2) r b s = _
    rw [over_out r _ b (fun p hp => h p (List.mem_cons_of_mem _ hp)) s]
    unfold Secs.put
    rw [if_neg (fun e => h q (List.mem_cons_self ..) e.1.symm)]
theorem block_out (f : Secs) (ps : List (Int × Int × List Int)) (b : Int) (h : ∀ q ∈ ps, q.1 ≠ b) : (over f ps).block b = f.block b := by
  unfold Secs.block
  congr 1
  funext i
  unfold Secs.get
  rw [over_out ps f b h]
/-- What a crash leaves of a block that was not written since. -/
theorem crash_out (d : Dsk) (bl : List Bool) (b : Int) (h : ∀ q ∈ d.pend, q.1 ≠ b) : (d.crash bl).seen b = d.sure.block b := by
  show (over (over d.sure (kept d.pend bl d.pend.length)) []).block b = _
  exact block_out _ _ b (fun q hq => h q (kept_mem _ _ _ (Nat.le_refl _) q hq))
theorem seen_none (d : Dsk) (h : d.pend = []) (b : Int) : d.seen b = d.sure.block b := by unfold Dsk.seen; rw [h]; rfl
/-- Flags. -/
structure Flags (w : World) (K : Nat) (n : Nat) (ov : Nat → Bool) : Prop where
  row : ∃ cs, Row w K cs 4 ∧ cs.size = n ∧ ∀ j, j < n → cs[j]? = some (.bool (ov j))
theorem Flags.kept {w w' : World} {K n : Nat} {ov : Nat → Bool} (h : Flags w K n ov) (e : w'.heap[K]? = w.heap[K]?) : Flags w' K n ov := by
  obtain ⟨cs, h1, h2, h3⟩ := h.row
  exact ⟨cs, e.trans h1, h2, h3⟩
theorem Flags.lt {w : World} {K n : Nat} {ov : Nat → Bool} (h : Flags w K n ov) : K < w.heap.size := by
  obtain ⟨cs, h1, h2, h3⟩ := h.row; exact h1.lt
theorem Flags.off {F : Nat → Prop} {w w' : World} {K n : Nat} {ov : Nat → Bool} (h : Flags w K n ov) (o : Off F w w') (hF : ¬ F K) : Flags w' K n ov := h.kept (o.block K h.lt hF)
theorem Flags.below {w w' : World} {K n : Nat} {ov : Nat → Bool} (h : Flags w K n ov) (b : Below w.heap.size w w') : Flags w' K n ov := h.kept (b.block K h.lt)
theorem Flags.at_ {w : World} {K n : Nat} {ov : Nat → Bool} (h : Flags w K n ov) (j : Nat) (hj : j < n) : w.cell? ⟨K, j, none⟩ = some (.bool (ov j)) := by
  obtain ⟨cs, h1, h2, h3⟩ := h.row
  rw [cell_of_row w K j _ _ _ h1, h3 j hj]
theorem Flags.fr {w : World} {K n : Nat} {ov : Nat → Bool} (h : Flags w K n ov) (j : Nat) : w.frozen? ⟨K, j, none⟩ = false := by
  obtain ⟨cs, h1, h2, h3⟩ := h.row
  exact row_frozen h1 j
theorem Flags.put {w : World} {K n : Nat} {ov : Nat → Bool} (h : Flags w K n ov) (y : Nat) : Flags (w.setCell ⟨K, y, none⟩ (.bool true)) K n (fun j => ov j || decide (j = y)) := by
  obtain ⟨cs, h1, h2, h3⟩ := h.row
  refine ⟨_, row_set h1 y _, by simpa using h2, fun j hj => ?_⟩
  by_cases e : j = y
  · subst e; simp [Array.getElem?_setIfInBounds, h2, hj]
  · rw [Array.getElem?_setIfInBounds, if_neg (by omega), h3 j hj]; simp [e]
/-- What a crash may leave: only of blocks that are flagged something is pending. -/
def Marked (d : Dsk) (ov : Nat → Bool) : Prop := ∀ q ∈ d.pend, 0 ≤ q.1 ∧ ov q.1.toNat = true
theorem Marked.more {d : Dsk} {ov : Nat → Bool} (h : Marked d ov) (y : Nat) (x : List Int) : Marked (d.wrote y x 4) (fun j => ov j || decide (j = y)) := fun q hq => by
  rcases wrote_mem d y x 4 q hq with q' | q'
  · have := h q q'; exact ⟨this.1, by simp [this.2]⟩
  · rw [q']; simp
/-- Bytes, as numbers, as they came in. -/
def Bys (w : World) (v : Value) (l : List Nat) : Prop := Cel w v (l.map fun (y : Nat) => Value.int .u8 (y : Int)) ∧ (∀ y ∈ l, y < 256) ∧ l.length ≤ 140737488355328
theorem bytes5 : Try.prog.bytesOf 5 = 1 := by kernel_rfl
section
variable {H : Type} {enc : TypeId × Value → H}
theorem open_u8s {w : World} {base : Nat} {v : Value} {d : DataW H} {p : List MemPlace} (hv : Value.okWide Try.prog w .any base 49 v) (h : DataW.Trod enc Try.prog w 0 (fun _ => true) true 49 v d p) (hs : (d.weights Try.prog 49).all (· ≤ reachBytes) = true) :
    ∃ l : List Nat, Bys w v l := by
  obtain ⟨fuel, hf⟩ := h
  obtain ⟨av, lv, cv, rfl⟩ := okWide_slice Try.underlying49 hv
  rcases open_ints Try.underlying49 Try.underlying5 cells5 hf with ⟨q, _⟩ | ⟨a, len, cap, zs, q, _, hle, _, hzl, hx, hc, hw⟩
  · have q' : Value.slice av lv cv = .slice none 0 0 := by simpa [Value.cells] using q
    exact ⟨[], Or.inl ⟨q', rfl⟩, fun z hz => (by cases hz), by simp⟩
  · have q' : Value.slice av lv cv = .slice (some a) len cap := by simpa [Value.cells] using q
    rw [q']
    simp at hzl
    have hlz : (zs.take len).length = len := by simp; omega
    have hwz : ∀ z ∈ zs, 0 ≤ z ∧ z ≤ 255 := fun z hz => bounds_u8 (hw z hz)
    refine ⟨(zs.take len).map Int.toNat, Or.inr ⟨a, cap, by rw [List.length_map, List.length_map, hlz], fun j u hj => ?_⟩, fun y hy => ?_, ?_⟩
    · rw [List.map_map, List.getElem?_map, List.getElem?_take] at hj
      by_cases hjl : j < len
      · rw [if_pos hjl, List.getElem?_eq_getElem (by omega)] at hj
        simp at hj
        have := hwz zs[j] (List.getElem_mem _)
        rw [hc j (by omega), ← hj]
        simp [List.getD, show j < zs.length by omega]
        omega
      · rw [if_neg hjl] at hj; simp at hj
    · obtain ⟨z, hz, rfl⟩ := List.mem_map.1 hy
      have := hwz z (List.mem_of_mem_take hz)
      omega
    · simp only [Prod.mk.injEq] at hx
      rw [hx.1] at hs
      simp [DataW.weights, Try.underlying49, bytes5, lits] at hs
      have := hs.1
      unfold reachBytes at this
      rw [List.length_map, hlz]
      omega
theorem open_boolsv {w : World} {base : Nat} {v : Value} {d : DataW H} {p : List MemPlace} (hv : Value.okWide Try.prog w .any base 31 v) (h : DataW.Trod enc Try.prog w 0 (fun _ => true) true 31 v d p) (hs : (d.weights Try.prog 31).all (· ≤ reachBytes) = true) :
    ∃ bl : List Bool, Cel w v (bl.map .bool) ∧ bl.length ≤ 140737488355328 := by
  obtain ⟨fuel, hf⟩ := h
  obtain ⟨av, lv, cv, rfl⟩ := okWide_slice Try.underlying31 hv
  rcases open_bools Try.underlying31 Try.underlying4 cells4 hf with ⟨q, _⟩ | ⟨a, len, cap, B, q, _, hle, _, hx, hc⟩
  · have q' : Value.slice av lv cv = .slice none 0 0 := by simpa [Value.cells] using q
    exact ⟨[], Or.inl ⟨q', rfl⟩, by simp⟩
  · have q' : Value.slice av lv cv = .slice (some a) len cap := by simpa [Value.cells] using q
    rw [q']
    refine ⟨(List.range len).map B, Or.inr ⟨a, cap, by simp, fun j u hj => ?_⟩, ?_⟩
    · rw [List.getElem?_map, List.getElem?_map] at hj
      by_cases hjl : j < len
      · rw [List.getElem?_range hjl] at hj
        simp at hj
        rw [hc j (by omega), ← hj]
      · rw [List.getElem?_eq_none (by simp; omega)] at hj; simp at hj
    · simp only [Prod.mk.injEq] at hx
      rw [hx.1] at hs
      simp [DataW.weights, Try.underlying31, bytes4, boolRow] at hs
      have := hs.1
      unfold reachBytes at this
      simp
      omega
end
theorem Bys.open {w : World} {v : Value} {l : List Nat} (h : Bys w v l) : ∃ oa cap, v = .slice oa l.length cap ∧ l.length ≤ 140737488355328 ∧ ∀ i, i < l.length → ∃ (a : Addr) (y : Nat), oa = some a ∧ y < 256 ∧ w.cell? (a.add i) = some (.int .u8 (y : Int)) := by
  obtain ⟨hc, hy, hl⟩ := h
  rcases hc with ⟨rfl, e⟩ | ⟨a, cap, rfl, h3⟩
  · have : l = [] := by simpa using e
    subst this
    exact ⟨none, 0, rfl, by simp, fun i hi => absurd hi (by simp)⟩
  · refine ⟨some a, cap, by simp, hl, fun i hi => ⟨a, l[i], rfl, hy _ (List.getElem_mem _), h3 i _ ?_⟩⟩
    simp [hi]
set_option maxRecDepth 100000 in
theorem zero52 (w : World) : (zeroValue 52).run Try.prog w = .ok (.agg (bs (zs 65536))) w := (zero_of_info (P := Try.prog) (t := 52) (v := .agg (bs (zs 65536))) (n := 65536) (by kernel_rfl)).1 w
theorem size52 : (Try.prog.info? 52).map (·.size) = some 65536 := by kernel_rfl
end Go.Proofs.Ytkgmhliocfbdfaa
