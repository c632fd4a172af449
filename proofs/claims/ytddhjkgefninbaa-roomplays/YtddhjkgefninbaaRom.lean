/-
  Proved here: how a room lies in memory; what room.New makes, what Note and Page do.
-/
import Derived.Test.YtddhjkgefninbaaFull
import Derived.OwnWalk
namespace Go.Proofs.Ytddhjkgefninbaa
open Go.ChangeShapes Go.WideShapes Go.ChangeAt Go.RowKit
set_option linter.unusedVariables false
set_option linter.unusedSimpArgs false
set_option maxRecDepth 20000

structure Off (F : Nat → Prop) (w w' : World) : Prop where
  os : w'.os = w.os
  tape : w'.tape = w.tape
  output : w'.output = w.output
  size : w.heap.size ≤ w'.heap.size
  block : ∀ k, k < w.heap.size → ¬ F k → w'.heap[k]? = w.heap[k]?
theorem Off.refl (F : Nat → Prop) (w : World) : Off F w w := ⟨rfl, rfl, rfl, Nat.le_refl _, fun _ _ _ => rfl⟩
theorem Off.trans {F F' : Nat → Prop} {a b c : World} (h : Off F a b) (k : Off F' b c) (hF : ∀ j, F' j → F j ∨ a.heap.size ≤ j) : Off F a c :=
  ⟨k.os.trans h.os, k.tape.trans h.tape, k.output.trans h.output, Nat.le_trans h.size k.size, fun i hi hn => (k.block i (Nat.lt_of_lt_of_le hi h.size) (fun q => by
    rcases hF i q with q | q
    · exact hn q
    · omega)).trans (h.block i hi hn)⟩
theorem Off.mono {F F' : Nat → Prop} {a b : World} (h : Off F a b) (hF : ∀ j, F j → F' j ∨ a.heap.size ≤ j) : Off F' a b :=
  ⟨h.os, h.tape, h.output, h.size, fun i hi hn => h.block i hi (fun q => by
    rcases hF i q with q | q
    · exact hn q
    · omega)⟩
theorem Off.of_below {F : Nat → Prop} {a b : World} (h : Below a.heap.size a b) : Off F a b := ⟨h.os, h.tape, h.output, h.size, fun i hi _ => h.block i hi⟩
theorem Off.of_grown {F : Nat → Prop} {a b : World} {row : Option Nat} (h : a.grownBy b row) (hF : ∀ k, row = some k → F k) : Off F a b :=
  ⟨h.os, h.tape, h.output, h.size, fun i hi hn => h.block i hi (fun q => hn (hF i q.symm))⟩
theorem Off.of_setCell {F : Nat → Prop} (w : World) (p : Addr) (v : Value) (hF : F p.block) : Off F w (w.setCell p v) :=
  ⟨rfl, rfl, rfl, by simp [World.setCell], fun k _ hk => Below.heap_setCell _ _ _ _ (fun q => hk (q ▸ hF))⟩
theorem Off.of_setRow {F : Nat → Prop} (w : World) (g : Nat) (cs : Array Value) (hF : F g) : Off F w (w.setRow g cs) :=
  ⟨rfl, rfl, rfl, by simp [World.setRow], fun k _ hk => setRow_other w g k cs (fun q => hk (q ▸ hF))⟩
theorem Off.drew {F : Nat → Prop} {a b : World} (h : Off F a b) : Off F a b.drew := ⟨h.os, h.tape, h.output, h.size, h.block⟩
theorem Off.below {F : Nat → Prop} {a b : World} (h : Off F a b) {B : Nat} (hB : B ≤ a.heap.size) (hF : ∀ k, F k → B ≤ k) : Below B a b :=
  ⟨h.os, h.tape, h.output, h.size, fun k hk => h.block k (by omega) (fun q => by have := hF k q; omega)⟩
theorem Row.off {F : Nat → Prop} {w w' : World} {g : Nat} {cs : Array Value} {t : TypeId} (h : Row w g cs t) (ho : Off F w w') (hg : ¬ F g) : Row w' g cs t := by
  have hl := h.lt
  unfold Row at h ⊢; rw [ho.block g hl hg]; exact h

/-- A page, as it was noted. -/
structure Pge where
  lsn : Int
  v : Value
  os : List O
def Pge.zero : Pge := ⟨0, .slice none 0 0, []⟩
def Pge.cells (p : Pge) : List Value := [.int .u64 p.lsn, p.v]
def pcells (ps : List Pge) : List Value := ps.flatMap Pge.cells
theorem pcells_cons (p : Pge) (ps : List Pge) : pcells (p :: ps) = p.cells ++ pcells ps := rfl
theorem pcells_length (ps : List Pge) : (pcells ps).length = ps.length * 2 := by
  induction ps with
  | nil => rfl
  | cons p r ih => rw [pcells_cons, List.length_append, ih]; simp [Pge.cells]; omega
theorem pcells_at {ps : List Pge} {i : Nat} {p : Pge} (h : ps[i]? = some p) (j : Nat) (hj : j < 2) : (pcells ps)[i * 2 + j]? = p.cells[j]? := by
  induction ps generalizing i with
  | nil => simp at h
  | cons z r ih =>
    rw [pcells_cons]
    cases i with
    | zero =>
      simp at h; subst h
      rw [List.getElem?_append_left (by simp [Pge.cells]; omega)]; simp
    | succ k =>
      rw [List.getElem?_append_right (by simp [Pge.cells]; omega)]
      rw [show (k + 1) * 2 + j - z.cells.length = k * 2 + j by simp [Pge.cells]; omega]
      exact ih (by simpa using h)
theorem pcells_set {ps : List Pge} {i : Nat} {p q : Pge} (h : ps[i]? = some p) : ((pcells ps).set (i * 2) (.int .u64 q.lsn)).set (i * 2 + 1) q.v = pcells (ps.set i q) := by
  induction ps generalizing i with
  | nil => simp at h
  | cons z r ih =>
    cases i with
    | zero => rfl
    | succ k =>
      rw [pcells_cons, List.set_append_right _ _ (by simp [Pge.cells]; omega), List.set_append_right _ _ (by simp [Pge.cells]; omega)]
      rw [show (k + 1) * 2 - z.cells.length = k * 2 by simp [Pge.cells]; omega, show (k + 1) * 2 + 1 - z.cells.length = k * 2 + 1 by simp [Pge.cells]; omega]
      rw [List.set_cons_succ, pcells_cons, ih (by simpa using h)]
theorem Row.ne {w : World} {g k : Nat} {cs ds : Array Value} {t u : TypeId} (h : Row w g cs t) (h' : Row w k ds u) (hn : t ≠ u) : g ≠ k := by
  rintro rfl
  unfold Row at h h'
  rw [h] at h'
  simp at h'
  exact hn h'.2
theorem Own.off {F : Nat → Prop} {w w' : World} {base : Nat} {v : Value} {os : List O} (h : Own w base v os) (ho : Off F w w') (hF : ∀ g cs, Row w g cs 50 → ¬ F g) : Own w' base v os := by
  have hl := World.ownsRow.lt h
  obtain ⟨h1, h2⟩ := h
  refine ⟨h1, ?_⟩
  rcases h2 with h2 | ⟨g, cap, cur, rfl, hb', hc, rest⟩
  · exact Or.inl h2
  · have := hl g (by simp [Value.ownBlock])
    exact Or.inr ⟨g, cap, cur, rfl, hb', (ho.block g this.2 (hF g cur hc)).trans hc, rest⟩
/-- A room in memory. -/
structure RAt (w : World) (g a : Nat) (ps : List Pge) (l : Nat) : Prop where
  room : Row w g #[.slice (some ⟨a, 0, none⟩) ps.length ps.length, .int .i64 l] 54
  arr : Row w a (pcells ps).toArray 33
  olds : ∀ p ∈ ps, Own w 0 p.v p.os
  len : ∀ p ∈ ps, p.os.length ≤ 1000
  lt : l < ps.length
  small : ps.length ≤ 32
/-- Its two blocks. -/
def two (g a : Nat) (k : Nat) : Prop := k = g ∨ k = a
theorem RAt.ne {w : World} {g a : Nat} {ps : List Pge} {l : Nat} (c : RAt w g a ps l) : g ≠ a := c.room.ne c.arr (by decide)
theorem RAt.apart {w : World} {g a : Nat} {ps : List Pge} {l : Nat} (c : RAt w g a ps l) (k : Nat) (cs : Array Value) (h : Row w k cs 50) : ¬ two g a k := by
  rintro (rfl | rfl)
  · exact h.ne c.room (by decide) rfl
  · exact h.ne c.arr (by decide) rfl
theorem RAt.off {F : Nat → Prop} {w w' : World} {g a : Nat} {ps : List Pge} {l : Nat} (c : RAt w g a ps l) (ho : Off F w w') (hF : ∀ k, two g a k → ¬ F k) (hF2 : ∀ k cs, Row w k cs 50 → ¬ F k) : RAt w' g a ps l :=
  { c with room := c.room.off ho (hF _ (Or.inl rfl)), arr := c.arr.off ho (hF _ (Or.inr rfl)), olds := fun p hp => (c.olds p hp).off ho hF2 }
theorem RAt.below {w w' : World} {g a : Nat} {ps : List Pge} {l : Nat} (c : RAt w g a ps l) (hb : Below w.heap.size w w') : RAt w' g a ps l :=
  c.off (F := fun _ => False) (Off.of_below hb) (fun _ _ q => q) (fun _ _ _ q => q)
theorem RAt.at {w : World} {g a : Nat} {ps : List Pge} {l : Nat} (c : RAt w g a ps l) {i : Nat} {p : Pge} (hp : ps[i]? = some p) : ∀ j u, [Value.int .u64 p.lsn, p.v][j]? = some u → w.cell? ((⟨a, i * 2, none⟩ : Addr).add j) = some u := by
  intro j u hj
  have hj2 : j < 2 := by have := (List.getElem?_eq_some_iff.1 hj).1; simpa using this
  have h1 := pcells_at hp j hj2
  have e : (⟨a, i * 2, none⟩ : Addr).add j = ⟨a, i * 2 + j, none⟩ := by
    unfold Addr.add
    split
    · rename_i q; subst q; rfl
    · rfl
  rw [e]
  refine row_at c.arr _ _ ?_
  rw [List.getElem?_toArray, h1]; exact hj
theorem RAt.setLast {w : World} {g a : Nat} {ps : List Pge} {l : Nat} (c : RAt w g a ps l) (k : Nat) (hk : k < ps.length) : RAt (w.setCell ⟨g, 1, none⟩ (.int .i64 k)) g a ps k :=
  { c with
    room := row_set c.room 1 _
    arr := row_setCell_other c.arr (fun e => c.ne e.symm) _ _
    olds := fun p hp => (c.olds p hp).off (Off.of_setCell (F := two g a) w ⟨g, 1, none⟩ (.int .i64 k) (Or.inl rfl)) c.apart
    lt := hk }
theorem RAt.put {w : World} {g a : Nat} {ps : List Pge} {l : Nat} (c : RAt w g a ps l) {i : Nat} {p : Pge} (hp : ps[i]? = some p) (q : Pge) (hq : Own w 0 q.v q.os) (hl : q.os.length ≤ 1000) : RAt (w.setCells a (i * 2) [.int .u64 q.lsn, q.v]) g a (ps.set i q) l ∧ Off (two g a) w (w.setCells a (i * 2) [.int .u64 q.lsn, q.v]) := by
  have e : w.setCells a (i * 2) [.int .u64 q.lsn, q.v] = (w.setCell ⟨a, i * 2, none⟩ (.int .u64 q.lsn)).setCell ⟨a, i * 2 + 1, none⟩ q.v := rfl
  have o1 : Off (two g a) w (w.setCell ⟨a, i * 2, none⟩ (.int .u64 q.lsn)) := Off.of_setCell w _ _ (Or.inr rfl)
  have o2 : Off (two g a) (w.setCell ⟨a, i * 2, none⟩ (.int .u64 q.lsn)) ((w.setCell ⟨a, i * 2, none⟩ (.int .u64 q.lsn)).setCell ⟨a, i * 2 + 1, none⟩ q.v) := Off.of_setCell _ _ _ (Or.inr rfl)
  have o3 := o1.trans o2 (fun j hj => Or.inl hj)
  rw [e]
  refine ⟨?_, o3⟩
  have r1 := row_set (row_set c.arr (i * 2) (.int .u64 q.lsn)) (i * 2 + 1) q.v
  rw [List.setIfInBounds_toArray, List.setIfInBounds_toArray, pcells_set hp] at r1
  exact { room := by rw [List.length_set]; exact row_setCell_other (row_setCell_other c.room c.ne _ _) c.ne _ _
          arr := r1
          olds := fun z hz => by
            rcases List.mem_or_eq_of_mem_set hz with y | y
            · exact (c.olds z y).off o3 c.apart
            · rw [y]; exact hq.off o3 c.apart
          len := fun z hz => by
            rcases List.mem_or_eq_of_mem_set hz with y | y
            · exact c.len z y
            · rw [y]; exact hl
          lt := by rw [List.length_set]; exact c.lt
          small := by rw [List.length_set]; exact c.small }
theorem RAt.there {w : World} {g a : Nat} {ps : List Pge} {l : Nat} (c : RAt w g a ps l) {i : Nat} (hi : i < ps.length) : w.there a (i * 2) 2 := fun j hj => by
  refine ⟨?_, row_frozen c.arr _⟩
  rw [cell_of_row w a _ _ _ _ c.arr, Array.getElem?_eq_getElem (by rw [List.size_toArray, pcells_length]; omega)]; rfl

theorem has_any {w : World} {g a : Nat} {ps : List Pge} {l : Nat} (c : RAt w g a ps l) (i : Int) :
    Calls Try.prog 16 #[.pointer (some ⟨g, 0, none⟩), .int .i64 i] w fun e w' => e = .returned (.bool (decide (0 ≤ i ∧ i < ps.length))) ∧ w' = w := by
  have c0 := row_at c.room 0 _ rfl
  by_cases h0 : 0 ≤ i
  · have e : decide (0 ≤ i ∧ i < (ps.length : Int)) = decide (i < (ps.length : Int)) := by simp [h0]
    rw [e]
    go_enter Try.func16, Try.ntmps16
    go_wp2
    go_ret
    exact ⟨rfl, rfl⟩
  · have e : decide (0 ≤ i ∧ i < (ps.length : Int)) = false := by simp [h0]
    rw [e]
    go_enter Try.func16, Try.ntmps16
    go_wp2
    go_ret
    exact ⟨rfl, rfl⟩
theorem has_nil (i : Int) (w : World) : Calls Try.prog 16 #[.pointer none, .int .i64 i] w fun e w' => e = .returned (.bool false) ∧ w' = w := by
  go_enter Try.func16, Try.ntmps16
  go_wp2
  go_ret
  exact ⟨rfl, rfl⟩
theorem new_none (n : Int) (hn : ¬ (1 ≤ n ∧ n ≤ 32)) (w : World) : Calls Try.prog 4 #[.int .i64 n] w fun e w' => e = .returned (.pointer none) ∧ w' = w := by
  by_cases h : n < 1
  · clear hn
    go_enter Try.func4, Try.ntmps4
    go_wp2
    go_ret
    exact ⟨rfl, rfl⟩
  · have h' : n > 32 := by omega
    clear hn
    go_enter Try.func4, Try.ntmps4
    go_wp2
    go_ret
    exact ⟨rfl, rfl⟩
theorem info33 : (Try.prog.info? 33).map (fun i => (i.zero, i.size, i.bytes)) = some (some (.agg #[.int .u64 0, .slice none 0 0]), 2, 32) := by kernel_rfl
theorem made_pcells (n : Nat) : (madeCells #[.int .u64 0, .slice none 0 0] (n * 2)).toList = pcells (List.replicate n Pge.zero) := by
  apply List.ext_getElem?
  intro m
  by_cases hm : m < n * 2
  · have e : m = m / 2 * 2 + m % 2 := by omega
    have hx : (List.replicate n Pge.zero)[m / 2]? = some Pge.zero := by rw [List.getElem?_replicate, if_pos (by omega)]
    have h2 := pcells_at hx (m % 2) (by omega)
    rw [← e] at h2
    rw [h2]
    have h3 : m % 2 = 0 ∨ m % 2 = 1 := by omega
    simp [madeCells, hm]
    rcases h3 with h3 | h3 <;> rw [h3] <;> rfl
  · rw [List.getElem?_eq_none (by simp [madeCells]; omega), List.getElem?_eq_none (by rw [pcells_length, List.length_replicate]; omega)]
def Newed (w : World) (n : Nat) (e : Ending) (w' : World) : Prop := ∃ g a, e = .returned (.pointer (some ⟨g, 0, none⟩)) ∧ w.heap.size ≤ g ∧ w.heap.size ≤ a ∧ RAt w' g a (List.replicate n Pge.zero) 0 ∧ Below w.heap.size w w'
theorem new_some (n : Nat) (h1 : 1 ≤ n) (h2 : n ≤ 32) (w : World) : Calls Try.prog 4 #[.int .i64 n] w fun e w' => Newed w n e w' := by
  obtain ⟨i, hi, hz, hs, hb⟩ := info_parts info33
  have k1 : ¬ (n : Int) < 1 := by omega
  have k2 : ¬ (n : Int) > 32 := by omega
  go_enter Try.func4, Try.ntmps4
  go_wp2_with (at_make; refine wpList_make_full w rfl (.tmp 9) (.tmp 9) 27 rfl w.heap.size 33 i _ 2 Try.underlying27 hi hz hs .i64 .i64 n n n rfl rfl rfl rfl (by rw [hb]; omega) (by unfold maxLen; omega) (Nat.le_refl _) ?_; intro w1 own1 gr1)
  go_ret
  have hlt := own1.lt _ rfl
  have hsz := hlt.2
  have hrow : Row w1 w.heap.size (pcells (List.replicate n Pge.zero)).toArray 33 := by
    rcases own1.2 with ⟨q, _⟩ | ⟨g, cap, cur, q, _, hr, hc1, hc2, hc3, hc4⟩
    · cases q
    · simp only [Value.slice.injEq, Option.some.injEq, Addr.mk.injEq] at q
      obtain ⟨⟨rfl, _⟩, _, rfl⟩ := q
      have e : cur.toList = pcells (List.replicate n Pge.zero) := by
        rw [← made_pcells, ← List.take_of_length_le (l := cur.toList) (i := n * 2) (by rw [Array.length_toList, hc3]; omega), hc4]
        rfl
      unfold Row
      rw [hr, ← e]
  have b1 : Below w.heap.size w w1 := ⟨gr1.os, gr1.tape, gr1.output, gr1.size, fun k hk => gr1.block k hk (by simp)⟩
  refine ⟨w1.heap.size, w.heap.size, rfl, gr1.size, Nat.le_refl _, ?_, b1.alloc b1.size _⟩
  have hl : (List.replicate n Pge.zero).length = n := List.length_replicate
  exact { room := by rw [hl]; exact Row.new _ _ _, arr := hrow.alloc _, olds := fun p hp => by rw [List.eq_of_mem_replicate hp]; exact ⟨rfl, Or.inl ⟨rfl, rfl⟩⟩,
          len := fun p hp => by rw [List.eq_of_mem_replicate hp]; show 0 ≤ 1000; omega
          lt := by omega, small := by omega }
set_option maxHeartbeats 1000000 in
theorem rcloned_any (lsn : Int) (v : Value) (os : List O) (w : World) (h : Olds w v os) (hn : os.length ≤ 1000000000) : Calls Try.prog 17 #[.agg #[.int .u64 lsn, v]] w fun e w' => CopU w lsn os e w' := by
  obtain ⟨oa, cap, rfl, _⟩ := h.open
  obtain ⟨n, HN⟩ : ∃ n, Hid (os.length = n) := ⟨_, rfl⟩
  rw [HN.out] at h ⊢
  have r0 : Row ((w.alloc (.cells #[.int .u64 lsn, .slice oa n cap] 33)).alloc (.cells #[.int .u64 0, .slice none 0 0] 33)) w.heap.size #[.int .u64 lsn, .slice oa n cap] 33 := (Row.new _ _ _).alloc _
  have r1 : Row ((w.alloc (.cells #[.int .u64 lsn, .slice oa n cap] 33)).alloc (.cells #[.int .u64 0, .slice none 0 0] 33)) (w.heap.size + 1) #[.int .u64 0, .slice none 0 0] 33 := by have := Row.new (w.alloc (.cells #[.int .u64 lsn, .slice oa n cap] 33)) #[.int .u64 0, .slice none 0 0] 33; simpa using this
  have ab : Below w.heap.size w ((w.alloc (.cells #[.int .u64 lsn, .slice oa n cap] 33)).alloc (.cells #[.int .u64 0, .slice none 0 0] 33)) := ((Below.refl _ _).alloc (Nat.le_refl _) _).alloc (by simp) _
  have hz := zero33
  have hsz : Hid (((w.alloc (.cells #[.int .u64 lsn, .slice oa n cap] 33)).alloc (.cells #[.int .u64 0, .slice none 0 0] 33)).heap.size = w.heap.size + 2) := by simp [Hid]
  go_enter Try.func17, Try.ntmps17
  go_upto_region 1 with fail
  generalize (w.alloc (.cells #[.int .u64 lsn, .slice oa n cap] 33)).alloc (.cells #[.int .u64 0, .slice none 0 0] 33) = w1 at r0 r1 ab hsz ⊢
  refine wp_region_held_drew (S := fun w' => Row w' w.heap.size #[.int .u64 lsn, .slice oa n cap] 33) (by kernel_rfl) r0 fun hS => ?_
  refine wpAnyH_take (i := 0) (v := .pointer (some ⟨w.heap.size, 0, none⟩)) rfl (by kernel_rfl) (by kernel_rfl) (by kernel_rfl) (fun _ _ _ h => h) (Or.inl ⟨by rfl, fun w _ => by go_simp⟩) hS ?_
  try simp only [Act.put, List.getElem_toArray, List.getElem_cons_zero, List.getElem_cons_succ, List.setIfInBounds_toArray, List.set_cons_zero, List.set_cons_succ]
  refine wpAnyH_take (i := 1) (v := .int .u64 lsn) rfl (by kernel_rfl) (by kernel_rfl) (by kernel_rfl) (fun _ _ _ h => h) (Or.inl ⟨by rfl, fun w h => by have c := row_at h 0 _ rfl; go_simp⟩) hS ?_
  try simp only [Act.put, List.getElem_toArray, List.getElem_cons_zero, List.getElem_cons_succ, List.setIfInBounds_toArray, List.set_cons_zero, List.set_cons_succ]
  refine wpAnyH_take (i := 2) (v := .pointer (some ⟨w.heap.size, 1, none⟩)) rfl (by kernel_rfl) (by kernel_rfl) (by kernel_rfl) (fun _ _ _ h => h) (Or.inl ⟨by rfl, fun w _ => by go_simp⟩) hS ?_
  try simp only [Act.put, List.getElem_toArray, List.getElem_cons_zero, List.getElem_cons_succ, List.setIfInBounds_toArray, List.set_cons_zero, List.set_cons_succ]
  refine wpAnyH_take (i := 3) (v := .slice oa n cap) rfl (by kernel_rfl) (by kernel_rfl) (by kernel_rfl) (fun _ _ _ h => h) (Or.inl ⟨by rfl, fun w h => by have c := row_at h 1 _ rfl; go_simp⟩) hS ?_
  try simp only [Act.put, List.getElem_toArray, List.getElem_cons_zero, List.getElem_cons_succ, List.setIfInBounds_toArray, List.set_cons_zero, List.set_cons_succ]
  refine wpAnyH_ready (rs := [4]) (by kernel_rfl) (by simp) ?_
  refine AllReadyH.cons rfl (fun K hK => ?_) AllReadyH.nil
  go_simp
  go_at_call 20
  refine (clone_any _ os _ (h.keep (ab.trans (Below.refl _ _).drew)) hn).mono ?_
  rintro e wc ⟨v', rfl, hO, hcb⟩
  refine hK.out _ _ (hS.below hcb hS.lt) fun hS => ?_
  try simp only [Act.put, List.getElem_toArray, List.getElem_cons_zero, List.getElem_cons_succ, List.setIfInBounds_toArray, List.set_cons_zero, List.set_cons_succ]
  have r2 := Row.below (w := w1.drew) r1 hcb r1.lt
  obtain ⟨oa', cap', rfl⟩ := hO.form
  have bc : Below w.heap.size w wc := (ab.trans (Below.refl _ _).drew).trans (hcb.mono (by simp [hsz.out]))
  have hO2 : Own wc (w.heap.size + 2) (.slice oa' os.length cap') os := hO.base (by simp [hsz.out])
  refine wpAnyH_take (i := 5) (v := .agg #[.int .u64 lsn, .slice oa' os.length cap']) rfl (by kernel_rfl) (by kernel_rfl) (by kernel_rfl) (fun _ _ _ h => h) (Or.inl ⟨by rfl, fun w _ => by go_simp⟩) hS ?_
  try simp only [Act.put, List.getElem_toArray, List.getElem_cons_zero, List.getElem_cons_succ, List.setIfInBounds_toArray, List.set_cons_zero, List.set_cons_succ]
  refine wpAnyH_ready (rs := [6]) (by kernel_rfl) (by simp) ?_
  refine AllReadyH.cons rfl (fun K hK => step_cells rfl 33 (.tmp 2) (.tmp 8) rfl (w.heap.size + 1) #[.int .u64 lsn, .slice oa' os.length cap'] rfl rfl 33 _ r2 2 size33 rfl rfl (by simp [Value.oneCell']) (hK.out _ _ (hS.other (by omega) _) fun hS => ?_)) AllReadyH.nil
  try simp only [Act.put, List.getElem_toArray, List.getElem_cons_zero, List.getElem_cons_succ, List.setIfInBounds_toArray, List.set_cons_zero, List.set_cons_succ]
  refine wpAnyH_done (by kernel_rfl) ?_ _
  go_wp2
  refine bodyPost_ret (v := .agg #[.int .u64 lsn, .slice oa' os.length cap']) ?_ rfl ⟨_, rfl, (hO2.setRow (w.heap.size + 1) (by omega) _).base (by omega), below_setRow bc (by omega) _⟩
  exact ret_cell (fn := Try.f17) rfl _ _ (w.heap.size + 1) 33 #[.int .u64 lsn, .slice oa' os.length cap'] _ rfl (r2.set _) Try.underlying33 rfl size33
theorem note_out (r : Value) (hr : ∃ q, r = .pointer q) (i : Int) (lsn : Int) (v : Value) (w : World) (hh : ∀ w, Below 0 w w → True) (h : Calls Try.prog 16 #[r, .int .i64 i] (w.alloc (.cells #[.int .u64 lsn, v] 33)) fun e w' => e = .returned (.bool false) ∧ w' = w.alloc (.cells #[.int .u64 lsn, v] 33)) :
    Calls Try.prog 6 #[r, .int .i64 i, .agg #[.int .u64 lsn, v]] w fun e w' => e = .returned (.tuple #[]) ∧ Below w.heap.size w w' := by
  obtain ⟨q, rfl⟩ := hr
  have ab : Below w.heap.size w (w.alloc (.cells #[.int .u64 lsn, v] 33)) := (Below.refl _ _).alloc (Nat.le_refl _) _
  go_enter Try.func6, Try.ntmps6
  go_wp2_with (go_at_call 16; refine h.mono ?_; rintro e w' ⟨rfl, rfl⟩)
  first
    | (go_end0; exact ⟨rfl, ab⟩)
    | (refine bodyPost_ret (results_none rfl _ _ _) rfl ?_; exact ⟨rfl, ab⟩)
def Noted (w : World) (g a : Nat) (ps : List Pge) (l : Nat) (i : Nat) (lsn : Int) (os : List O) (e : Ending) (w' : World) : Prop := ∃ v', e = .returned (.tuple #[]) ∧ RAt w' g a (ps.set i ⟨lsn, v', os⟩) l ∧ Off (two g a) w w'
set_option maxHeartbeats 1000000 in
theorem note_in {w : World} {g a : Nat} {ps : List Pge} {l : Nat} (c : RAt w g a ps l) (i : Nat) (hi : i < ps.length) (lsn : Int) (v : Value) (os : List O) (ho : Olds w v os) (hl : os.length ≤ 1000) :
    Calls Try.prog 6 #[.pointer (some ⟨g, 0, none⟩), .int .i64 i, .agg #[.int .u64 lsn, v]] w fun e w' => Noted w g a ps l i lsn os e w' := by
  obtain ⟨p, hp⟩ : ∃ p, ps[i]? = some p := ⟨ps[i], List.getElem?_eq_getElem hi⟩
  obtain ⟨oa, cap, rfl, _⟩ := ho.open
  obtain ⟨m, HM⟩ : ∃ m, Hid (os.length = m) := ⟨_, rfl⟩
  obtain ⟨n, HN⟩ : ∃ n, Hid (ps.length = n) := ⟨_, rfl⟩
  rw [HM.out] at ho ⊢
  have ab : Below w.heap.size w (w.alloc (.cells #[.int .u64 lsn, .slice oa m cap] 33)) := (Below.refl _ _).alloc (Nat.le_refl _) _
  have r0 : Row (w.alloc (.cells #[.int .u64 lsn, .slice oa m cap] 33)) w.heap.size #[.int .u64 lsn, .slice oa m cap] 33 := Row.new _ _ _
  have c1 := c.below ab
  have ho1 := ho.keep ab
  have hh := has_any c1 i
  rw [decide_eq_true (⟨by omega, by omega⟩)] at hh
  have hga : Hid (g < w.heap.size ∧ a < w.heap.size) := ⟨c.room.lt, c.arr.lt⟩
  go_enter Try.func6, Try.ntmps6
  go_upto_region 2 with (go_at_call 16; refine hh.mono ?_; rintro e w' ⟨rfl, rfl⟩)
  clear hh
  generalize w.alloc (.cells #[.int .u64 lsn, .slice oa m cap] 33) = w1 at r0 ab c1 ho1 ⊢
  refine wp_region_held_drew (S := fun w' => Row w' w.heap.size #[.int .u64 lsn, .slice oa m cap] 33 ∧ Row w' g #[.slice (some ⟨a, 0, none⟩) ps.length ps.length, .int .i64 l] 54) (by kernel_rfl) ⟨r0, c1.room⟩ fun hS => ?_
  refine wpAnyH_take (i := 0) (v := .pointer (some ⟨g, 0, none⟩)) rfl (by kernel_rfl) (by kernel_rfl) (by kernel_rfl) (fun _ _ _ h => h) (Or.inl ⟨by rfl, fun w _ => by go_simp⟩) hS ?_
  try simp only [Act.put, List.getElem_toArray, List.getElem_cons_zero, List.getElem_cons_succ, List.setIfInBounds_toArray, List.set_cons_zero, List.set_cons_succ]
  refine wpAnyH_take (i := 1) (v := .pointer (some ⟨g, 0, none⟩)) rfl (by kernel_rfl) (by kernel_rfl) (by kernel_rfl) (fun _ _ _ h => h) (Or.inl ⟨by rfl, fun w _ => by go_simp⟩) hS ?_
  try simp only [Act.put, List.getElem_toArray, List.getElem_cons_zero, List.getElem_cons_succ, List.setIfInBounds_toArray, List.set_cons_zero, List.set_cons_succ]
  refine wpAnyH_take (i := 2) (v := .pointer (some ⟨g, 0, none⟩)) rfl (by kernel_rfl) (by kernel_rfl) (by kernel_rfl) (fun _ _ _ h => h) (Or.inl ⟨by rfl, fun w _ => by go_simp⟩) hS ?_
  try simp only [Act.put, List.getElem_toArray, List.getElem_cons_zero, List.getElem_cons_succ, List.setIfInBounds_toArray, List.set_cons_zero, List.set_cons_succ]
  refine wpAnyH_take (i := 3) (v := .slice (some ⟨a, 0, none⟩) ps.length ps.length) rfl (by kernel_rfl) (by kernel_rfl) (by kernel_rfl) (fun _ _ _ h => h) (Or.inl ⟨by rfl, fun w h => by have c := row_at h.2 0 _ rfl; go_simp⟩) hS ?_
  try simp only [Act.put, List.getElem_toArray, List.getElem_cons_zero, List.getElem_cons_succ, List.setIfInBounds_toArray, List.set_cons_zero, List.set_cons_succ]
  refine wpAnyH_take (i := 4) (v := .int .i64 i) rfl (by kernel_rfl) (by kernel_rfl) (by kernel_rfl) (fun _ _ _ h => h) (Or.inl ⟨by rfl, fun w _ => by go_simp⟩) hS ?_
  try simp only [Act.put, List.getElem_toArray, List.getElem_cons_zero, List.getElem_cons_succ, List.setIfInBounds_toArray, List.set_cons_zero, List.set_cons_succ]
  refine wpAnyH_take (i := 5) (v := .agg #[.int .u64 lsn, .slice oa m cap]) rfl (by kernel_rfl) (by kernel_rfl) (by kernel_rfl) (fun _ _ _ h => h) (yields_st (by rfl) 33 (.tmp 5) rfl (w.heap.size) rfl 33 #[.int .u64 lsn, .slice oa m cap] (fun w h => h.1) Try.underlying33 rfl size33) hS ?_
  try simp only [Act.put, List.getElem_toArray, List.getElem_cons_zero, List.getElem_cons_succ, List.setIfInBounds_toArray, List.set_cons_zero, List.set_cons_succ]
  refine wpAnyH_ready (rs := [6]) (by kernel_rfl) (by simp) ?_
  refine AllReadyH.cons rfl (fun K hK => ?_) AllReadyH.nil
  go_simp
  go_at_call 17
  refine (rcloned_any lsn _ os _ (ho1.keep (Below.refl _ _).drew) (by omega)).mono ?_
  rintro e wc ⟨v', rfl, hO, hcb⟩
  refine hK.out _ _ ⟨hS.1.below hcb hS.1.lt, hS.2.below hcb hS.2.lt⟩ fun hS => ?_
  try simp only [Act.put, List.getElem_toArray, List.getElem_cons_zero, List.getElem_cons_succ, List.setIfInBounds_toArray, List.set_cons_zero, List.set_cons_succ]
  have cw : RAt wc g a ps l := (c1.below (Below.refl _ _).drew).below hcb
  have bw : Below w.heap.size w wc := ab.drew.trans (hcb.mono ab.drew.size)
  obtain ⟨c2, o2⟩ := cw.put hp ⟨lsn, v', os⟩ (hO.base (Nat.zero_le _)) hl
  have o3 : Off (two g a) w (wc.setCells a (i * 2) [.int .u64 lsn, v']) := (Off.of_below (F := two g a) bw).trans o2 (fun _ h => Or.inl h)
  have th := cw.there hi
  obtain ⟨oa', cap', rfl⟩ := hO.form
  have hrm := c2.room
  rw [List.length_set] at hrm
  refine wpAnyH_take (i := 7) (v := .pointer (some ⟨a, i * 2, none⟩)) rfl (by kernel_rfl) (by kernel_rfl) (by kernel_rfl) (fun _ _ _ h => h) (Or.inl ⟨by rfl, fun w _ => by go_simp⟩) hS ?_
  try simp only [Act.put, List.getElem_toArray, List.getElem_cons_zero, List.getElem_cons_succ, List.setIfInBounds_toArray, List.set_cons_zero, List.set_cons_succ]
  refine wpAnyH_ready (rs := [8]) (by kernel_rfl) (by simp) ?_
  refine AllReadyH.cons rfl (fun K hK => step_of rfl (wp_store_mid 33 (.tmp 16) (.tmp 15) rfl a (i * 2) #[.int .u64 lsn, .slice oa' os.length cap'] rfl rfl th size33 (by simp [Value.oneCell']) (hK.out _ _ ⟨hS.1.off o2 (by rintro (q | q) <;> have := hga.out <;> omega), hrm⟩ fun hS => ?_))) AllReadyH.nil
  try simp only [Act.put, List.getElem_toArray, List.getElem_cons_zero, List.getElem_cons_succ, List.setIfInBounds_toArray, List.set_cons_zero, List.set_cons_succ]
  refine wpAnyH_done (by kernel_rfl) ?_ _
  go_wp2
  first
    | (go_end0; exact ⟨_, rfl, c2, o3⟩)
    | (refine bodyPost_ret (results_none rfl _ _ _) rfl ?_; exact ⟨_, rfl, c2, o3⟩)
end Go.Proofs.Ytddhjkgefninbaa
