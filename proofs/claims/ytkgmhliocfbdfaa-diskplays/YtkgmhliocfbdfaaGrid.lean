/-
  Plain facts on blocks that stand side by side in one array, and on disks that neither fall nor stop.
-/
import Derived.Test.YtkgmhliocfbdfaaScr
import Derived.Deep.CutBlock
import Derived.Deep.MidRow
namespace Go.Proofs.Ytkgmhliocfbdfaa
open Go.ChangeShapes Go.WideShapes Go.ChangeAt Go.RowKit
set_option linter.unusedVariables false
set_option linter.unusedSimpArgs false

/-- Blocks of 256 bytes, side by side: room for n, the first k are laid. -/
structure Grid (w : World) (g n k : Nat) (f : Nat → List Int) : Prop where
  row : ∃ cs t, Row w g cs t ∧ cs.size = 256 * n
  got : ∀ j, j < k → w.rangeAt g (256 * j) ((f j).map (Value.int .u8))
theorem off_setCells (g : Nat) : ∀ (vs : List Value) (o : Nat) (w : World), Off (· = g) w (w.setCells g o vs)
  | [], _, w => Off.refl _ _
  | v :: r, o, w => by
    rw [World.setCells]
    exact (Off.of_setCell (F := (· = g)) w ⟨g, o, none⟩ v rfl).trans (off_setCells g r (o + 1) _) (fun j h => Or.inl h)
theorem row_setCells (g n : Nat) : ∀ (vs : List Value) (o : Nat) (w : World), (∃ cs t, Row w g cs t ∧ cs.size = n) → ∃ cs t, Row (w.setCells g o vs) g cs t ∧ cs.size = n
  | [], _, w, h => h
  | v :: r, o, w, ⟨cs, t, h, hs⟩ => by
    rw [World.setCells]
    exact row_setCells g n r (o + 1) _ ⟨_, t, row_set h o v, by simpa using hs⟩
theorem Grid.lt {w : World} {g n k : Nat} {f : Nat → List Int} (h : Grid w g n k f) : g < w.heap.size := by
  obtain ⟨cs, t, h, _⟩ := h.row; exact h.lt
theorem Grid.start {w : World} {g n : Nat} {cs : Array Value} {t : TypeId} (h : Row w g cs t) (hs : cs.size = 256 * n) (f : Nat → List Int) : Grid w g n 0 f := ⟨⟨cs, t, h, hs⟩, fun j hj => absurd hj (by omega)⟩
theorem Grid.there {w : World} {g n k : Nat} {f : Nat → List Int} (h : Grid w g n k f) (i : Nat) (hi : i < n) : w.there g (256 * i) 256 := fun j hj => by
  obtain ⟨cs, t, h, hs⟩ := h.row
  refine ⟨?_, row_frozen h _⟩
  rw [cell_of_row w g _ _ _ _ h, Array.getElem?_eq_getElem (by omega)]; rfl
theorem Grid.put {w : World} {g n k : Nat} {f : Nat → List Int} (h : Grid w g n k f) (hk : k < n) (hf : ∀ j, j < n → (f j).length = 256) : Grid (w.setCells g (256 * k) ((f k).map (Value.int .u8))) g n (k + 1) f := by
  refine ⟨row_setCells g _ _ _ _ h.row, fun j hj => ?_⟩
  by_cases e : j = k
  · subst e
    exact World.rangeAt_setCells_same _ _ _ _ (by rw [List.length_map, hf _ hk]; exact h.there j hk)
  · refine World.rangeAt_setCells_apart (h.got j (by omega)) _ _ _ (Or.inr (Or.inl ?_))
    rw [List.length_map, hf _ (by omega)]; omega
theorem Grid.kept {w w' : World} {g n k : Nat} {f : Nat → List Int} (h : Grid w g n k f) (e : w'.heap[g]? = w.heap[g]?) : Grid w' g n k f := by
  refine ⟨?_, fun j hj i v hv => ?_⟩
  · obtain ⟨cs, t, h, hs⟩ := h.row
    exact ⟨cs, t, e.trans h, hs⟩
  · rw [← h.got j hj i v hv]
    exact World.cell?_of_block e
theorem Grid.off {F : Nat → Prop} {w w' : World} {g n k : Nat} {f : Nat → List Int} (h : Grid w g n k f) (o : Off F w w') (hF : ¬ F g) : Grid w' g n k f := h.kept (o.block g h.lt hF)
theorem Grid.below {w w' : World} {g n k : Nat} {f : Nat → List Int} (h : Grid w g n k f) (b : Below w.heap.size w w') : Grid w' g n k f := h.kept (b.block g h.lt)
theorem Grid.drew {w : World} {g n k : Nat} {f : Nat → List Int} (h : Grid w g n k f) : Grid w.drew g n k f := h.kept rfl
theorem size55 : (Try.prog.info? 55).map (·.size) = some 2048 := by kernel_rfl
theorem zero55 (w : World) : (zeroValue 55).run Try.prog w = .ok (.agg (bs (zs 2048))) w := (zero_of_info (P := Try.prog) (t := 55) (v := .agg (bs (zs 2048))) (n := 2048) (by kernel_rfl)).1 w
theorem bs_toList (xs : List Int) : (bs xs).toList = xs.map (Value.int .u8) := by simp [bs]

/-- A disk of eight blocks that has power and no fuse. -/
structure Calm (d : Dsk) (k : Int) : Prop where
  size : d.n = 8
  fuse : d.fuse = 0
  on : d.down = false
  lo : 0 ≤ d.ops
  hi : d.ops ≤ k
theorem count_calm {d : Dsk} {k : Int} (h : Calm d k) : Calm (count d).2 (k + 1) := by
  have h0 := h.lo; have h1 := h.hi
  unfold count
  rw [if_neg (by rw [h.fuse]; omega)]
  by_cases e : d.fails (d.ops + 1) = true
  · rw [if_pos e]; exact ⟨h.size, h.fuse, h.on, by show 0 ≤ d.ops + 1; omega, by show d.ops + 1 ≤ k + 1; omega⟩
  · rw [if_neg e]; exact ⟨h.size, h.fuse, h.on, by show 0 ≤ d.ops + 1; omega, by show d.ops + 1 ≤ k + 1; omega⟩
theorem Calm.up {d : Dsk} {k : Int} (h : Calm d k) : Calm d (k + 1) := ⟨h.size, h.fuse, h.on, h.lo, by have := h.hi; omega⟩
theorem ask_calm {d : Dsk} {k : Int} (h : Calm d k) (b : Int) : Calm (ask d b).2 (k + 1) := by
  unfold ask
  rw [if_neg (by rw [h.on]; simp)]
  split
  · exact count_calm h
  · exact h.up
theorem act_calm {d : Dsk} {k : Int} (h : Calm d k) (c : Call) (hc : c.kd < 3) : Calm (act d c).2.2 (k + 1) := by
  unfold act
  by_cases k0 : c.kd = 0
  · rw [if_pos k0]
    unfold read
    split <;> exact ask_calm h _
  rw [if_neg k0]
  by_cases k1 : c.kd = 1
  · rw [if_pos k1]
    unfold writ
    have hh := ask_calm h c.b
    split
    · exact ⟨hh.size, hh.fuse, hh.on, hh.lo, hh.hi⟩
    · exact hh
  rw [if_neg k1]
  by_cases k2 : c.kd = 2
  · rw [if_pos k2]
    unfold sync
    rw [if_neg (by rw [h.on]; simp)]
    have hh := count_calm h
    split
    · exact ⟨hh.size, hh.fuse, hh.on, hh.lo, hh.hi⟩
    · exact hh
  rw [if_neg k2, if_neg (by omega)]
  by_cases k4 : c.kd = 4
  · omega
  rw [if_neg k4]
  exact h.up
/-- What an operation that is planned to fail does. -/
theorem act_fail {d : Dsk} {k : Int} (h : Calm d k) (c : Call) (h0 : 0 ≤ c.kd) (h2 : c.kd ≤ 2) (hb : 0 ≤ c.b ∧ c.b ≤ 7) : act (d.plan [1] 0) c = (zs 256, 3, { d.plan [1] 0 with ops := 1 }) := by
  have hc : count (d.plan [1] 0) = (3, { d.plan [1] 0 with ops := 1 }) := by
    unfold count
    rw [if_neg (by simp [Dsk.plan]), if_pos (by simp [Dsk.plan])]
    rfl
  have hd : (d.plan [1] 0).down = false := h.on
  have hn : (d.plan [1] 0).n = 8 := h.size
  have ha : ask (d.plan [1] 0) c.b = (3, { d.plan [1] 0 with ops := 1 }) := by
    unfold ask
    rw [if_neg (by rw [hd]; simp), if_pos ⟨hb.1, by rw [hn]; have := hb.2; omega⟩, hc]
  unfold act
  have k : c.kd = 0 ∨ c.kd = 1 ∨ c.kd = 2 := by omega
  rcases k with k | k | k
  · rw [if_pos k]; unfold read; rw [ha]; rfl
  · rw [if_neg (by omega), if_pos k]; unfold writ; rw [ha]; rfl
  · rw [if_neg (by omega), if_neg (by omega), if_pos k]; unfold sync; rw [if_neg (by rw [hd]; simp), hc]; rfl
end Go.Proofs.Ytkgmhliocfbdfaa
