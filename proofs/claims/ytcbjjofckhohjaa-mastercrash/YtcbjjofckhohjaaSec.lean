/-
  Plain facts on maps whose keys are arrays of two numbers and whose elements are arrays of 64 bytes: what such a map holds, key by key; made, asked, stored into.
-/
import Derived.Test.YtcbjjofckhohjaaCut
import Derived.Maps.RangeWalk
import Derived.Maps.Ext
import Derived.Maps.OwnOps
import Derived.DeepKeys4
namespace Go.Proofs.Ytcbjjofckhohjaa
open Go.ChangeShapes Go.WideShapes Go.ChangeAt Go.RowKit
set_option linter.unusedVariables false
set_option linter.unusedSimpArgs false
set_option maxRecDepth 20000

theorem laidD : laidOutB Try.prog = true := by kernel_rfl
theorem law79 : Maps.Keyed Try.prog 79 := Maps.Keyed.of_law (deep_law_laid (P := Try.prog) laidD (m := 5) (by decide) (k := 79) (by decide +kernel) (by kernel_rfl) (by kernel_rfl))
theorem law3 : Maps.Keyed Try.prog 3 := Maps.int_keyed Try.underlying3
theorem keyType79 : Try.prog.keyType 79 = true := by kernel_rfl
theorem cells79 : Try.prog.cellsOf 79 = 2 := by kernel_rfl
theorem cells3 : Try.prog.cellsOf 3 = 1 := by kernel_rfl
theorem types_some : 0 < Try.prog.types.size := by decide +kernel
theorem types_pos : ∃ m, Try.prog.types.size = m + 1 := ⟨Try.prog.types.size - 1, by have := types_some; omega⟩
/-- A key: a block's number and a sector's. -/
def pk (b s : Int) : Value := .agg #[.int .i64 b, .int .i64 s]
def kl (b s : Int) : Lit := .string (keyBytes [.int .i64 b, .int .i64 s])
def Wf (b : Int) : Prop := (Lit.int .i64 b).wf = true
theorem key_mk {b s : Int} (hb : Wf b) (hs : Wf s) : keyOf Try.prog 79 (pk b s) = some (kl b s) := by
  obtain ⟨m, hm⟩ := types_pos
  have hb' : (Lit.int .i64 b).wf = true := hb
  have hs' : (Lit.int .i64 s).wf = true := hs
  simp only [keyOf, pk, kl, Try.underlying79, keyType79, Value.formed, cells79, hm, Program.keyLits, Value.cells, cells3]
  simp [List.range_succ, List.mapM_cons, Program.keyLits, Try.underlying3, hb', hs', cells3]
theorem key_inv {v : Value} {l : Lit} (h : keyOf Try.prog 79 v = some l) : ∃ b s, v = pk b s ∧ Wf b ∧ Wf s ∧ l = kl b s := by
  obtain ⟨m, hm⟩ := types_pos
  cases v with
  | agg cs =>
    simp only [keyOf, Try.underlying79, keyType79, Value.formed, cells79, hm, Program.keyLits, Value.cells, cells3] at h
    obtain ⟨cs⟩ := cs
    by_cases hc : cs.length = 2
    · match cs, hc with
      | [x, y], _ =>
        simp [List.range_succ, List.mapM_cons, Program.keyLits, Try.underlying3, cells3] at h
        cases x with
        | int q n =>
          by_cases hx : q = .i64 ∧ (Lit.int .i64 n).wf = true
          · cases y with
            | int q' n' =>
              by_cases hy : q' = .i64 ∧ (Lit.int .i64 n').wf = true
              · obtain ⟨rfl, hx⟩ := hx
                obtain ⟨rfl, hy⟩ := hy
                simp [hx, hy] at h
                exact ⟨n, n', rfl, hx, hy, h.symm⟩
              · simp [hx, hy] at h
            | _ => simp [hx] at h
          · simp [hx] at h
        | _ => simp at h
    · simp [hc] at h
  | _ => simp [keyOf, Try.underlying79, Value.formed] at h
theorem kl_inj {b s b' s' : Int} (hb : Wf b) (hs : Wf s) (hb' : Wf b') (hs' : Wf s') (h : kl b s = kl b' s') : b = b' ∧ s = s' := by
  have := law79.inj (key_mk hb hs) (by rw [h]; exact key_mk hb' hs')
  simp [pk] at this
  exact this

/-- A sector's bytes, read off a value. -/
def byteOf? : Value → Option Int
  | .int .u8 x => if 0 ≤ x ∧ x ≤ 255 then some x else none
  | _ => none
def secOf (v : Value) : Option (List Int) :=
  match v with
  | .agg cs => if cs.size = 64 then cs.toList.mapM byteOf? else none
  | _ => none
def secR (v : Value) : Option (DataW (List Int) × List MemPlace) := (secOf v).map fun xs => (.held xs, [])
/-- A sector: 64 bytes. -/
def Sec (xs : List Int) : Prop := xs.length = 64 ∧ Bytes xs
theorem bytes_mapM : ∀ (xs : List Int), Bytes xs → (xs.map (Value.int .u8)).mapM byteOf? = some xs
  | [], _ => rfl
  | x :: r, h => by
    have hx := h x (by simp)
    have ih := bytes_mapM r (fun y hy => h y (by simp [hy]))
    rw [List.map_cons, List.mapM_cons, ih]
    simp [byteOf?, hx.1, hx.2]
theorem mapM_bytes : ∀ (cs : List Value) (xs : List Int), cs.mapM byteOf? = some xs → cs = xs.map (Value.int .u8) ∧ Bytes xs
  | [], xs, h => by simp at h; subst h; exact ⟨rfl, fun y hy => nomatch hy⟩
  | c :: r, xs, h => by
    rw [List.mapM_cons] at h
    cases hc : byteOf? c with
    | none => simp [hc] at h
    | some x =>
      cases hr : r.mapM byteOf? with
      | none => simp [hc, hr] at h
      | some ys =>
        simp [hc, hr] at h
        subst h
        obtain ⟨e, hb⟩ := mapM_bytes r ys hr
        have hx : c = .int .u8 x ∧ 0 ≤ x ∧ x ≤ 255 := by
          unfold byteOf? at hc
          split at hc
          · split at hc
            · rename_i h1
              cases hc; exact ⟨rfl, h1⟩
            · cases hc
          · cases hc
        refine ⟨by rw [hx.1, e]; rfl, fun y hy => ?_⟩
        rcases List.mem_cons.1 hy with rfl | hy
        · exact hx.2
        · exact hb y hy
theorem secR_mk {xs : List Int} (h : Sec xs) : secR (.agg (bs xs)) = some (.held xs, []) := by
  have : secOf (.agg (bs xs)) = some xs := by
    unfold secOf
    simp only [bs_size, h.1]
    exact bytes_mapM xs h.2
  unfold secR; rw [this]; rfl
theorem secR_inv {v : Value} {y : DataW (List Int) × List MemPlace} (h : secR v = some y) : ∃ xs, Sec xs ∧ v = .agg (bs xs) ∧ y = (.held xs, []) := by
  unfold secR at h
  cases hs : secOf v with
  | none => simp [hs] at h
  | some xs =>
    simp [hs] at h
    unfold secOf at hs
    split at hs
    · split at hs
      · rename_i cs hc
        obtain ⟨e, hb⟩ := mapM_bytes _ _ hs
        refine ⟨xs, ⟨?_, hb⟩, ?_, h.symm⟩
        · have := congrArg List.length e; simp at this; omega
        · unfold bs; rw [← e]
      · cases hs
    · cases hs

/-- Which sectors a map holds. -/
abbrev Secs := Int → Int → Option (List Int)
def SMap (w : World) (a n : Nat) (f : Secs) : Prop :=
  ∃ D, w.ownsMap Try.prog 79 secR a n D ∧ ∀ b s, Wf b → Wf s → (f b s = none → Maps.has D (kl b s) = false) ∧ ∀ xs, f b s = some xs → Sec xs ∧ ∀ z, D.atKey (kl b s) z = .held xs
theorem kl_key {b s : Int} (hb : Wf b) (hs : Wf s) : WideAt.IsKeyLit (kl b s) := law79.key (key_mk hb hs)
theorem SMap.lt {w : World} {a n : Nat} {f : Secs} (h : SMap w a n f) : a < w.heap.size := by
  obtain ⟨D, hD, _⟩ := h; exact hD.lt
theorem SMap.kept {w w' : World} {a n : Nat} {f : Secs} (h : SMap w a n f) (e : w'.heap[a]? = w.heap[a]?) : SMap w' a n f := by
  obtain ⟨D, ⟨es, clock, hb, F, hs, hD⟩, h⟩ := h
  exact ⟨D, ⟨es, clock, e.trans hb, F, hs, hD⟩, h⟩
theorem SMap.mono {w : World} {a n m : Nat} {f : Secs} (h : SMap w a n f) (hm : n ≤ m) : SMap w a m f := by
  obtain ⟨D, hD, h⟩ := h; exact ⟨D, hD.mono hm, h⟩
theorem SMap.made (w : World) : SMap (w.alloc (.map #[] 0)) w.heap.size 0 (fun _ _ => none) :=
  ⟨_, World.ownsMap_made w _ _ _, fun b s _ _ => ⟨fun _ => rfl, fun xs h => by cases h⟩⟩
/-- A map with one sector more. -/
def Secs.put (f : Secs) (b s : Int) (xs : List Int) : Secs := fun b' s' => if b' = b ∧ s' = s then some xs else f b' s'
theorem SMap.put {w w' : World} {a n m : Nat} {f : Secs} {D : DataW (List Int)} (h : ∀ b s, Wf b → Wf s → (f b s = none → Maps.has D (kl b s) = false) ∧ ∀ xs, f b s = some xs → Sec xs ∧ ∀ z, D.atKey (kl b s) z = .held xs)
    (hm : Maps.IsMap D) {b s : Int} (hb : Wf b) (hs : Wf s) {xs : List Int} (hx : Sec xs) (h' : w'.ownsMap Try.prog 79 secR a m (D.put (kl b s) (.held xs))) : SMap w' a m (f.put b s xs) := by
  refine ⟨_, h', fun b' s' hb' hs' => ?_⟩
  unfold Secs.put
  by_cases e : b' = b ∧ s' = s
  · obtain ⟨rfl, rfl⟩ := e
    rw [if_pos ⟨rfl, rfl⟩]
    exact ⟨fun q => (by cases q), fun ys q => (by cases q; exact ⟨hx, fun z => Maps.atKey_put_same hm (kl_key hb hs) _ z⟩)⟩
  · rw [if_neg e]
    have hne : kl b' s' ≠ kl b s := fun q => e (kl_inj hb' hs' hb hs q)
    refine ⟨fun q => ?_, fun ys q => ?_⟩
    · rw [Maps.has_put_other hne]; exact (h b' s' hb' hs').1 q
    · obtain ⟨h1, h2⟩ := (h b' s' hb' hs').2 ys q
      exact ⟨h1, fun z => by rw [Maps.atKey_put_other hne]; exact h2 z⟩
theorem SMap.sec {w : World} {a n : Nat} {f : Secs} (h : SMap w a n f) {b s : Int} (hb : Wf b) (hs : Wf s) {xs : List Int} (e : f b s = some xs) : Sec xs := by
  obtain ⟨D, _, h⟩ := h; exact ((h b s hb hs).2 xs e).1

theorem zs_sec : Sec (zs 64) := ⟨zs_length 64, by intro y hy; unfold zs at hy; obtain ⟨_, rfl⟩ := List.mem_replicate.1 hy; omega⟩
/-- What a map tells of a sector: noughts where there is none. -/
def Secs.get (f : Secs) (b s : Int) : List Int := (f b s).getD (zs 64)
theorem SMap.look {w : World} {a n : Nat} {f : Secs} (h : SMap w a n f) {b s : Int} (hb : Wf b) (hs : Wf s) :
    (Instr.lookup 72 (.map (some a)) (pk b s) false).run Try.prog w = .ok (.agg (bs (f.get b s))) w := by
  obtain ⟨D, hD, h⟩ := h
  obtain ⟨v, ps, hrun, hv⟩ := hD.lookup law79 Try.underlying72 (zero81 w) (secR_mk zs_sec) (key_mk hb hs)
  obtain ⟨xs, hx, rfl, hy⟩ := secR_inv hv
  rw [hrun]
  unfold Secs.get
  cases hf : f b s with
  | none =>
    rw [Maps.atKey_of_not_has ((h b s hb hs).1 hf)] at hy
    cases hy; rfl
  | some ys =>
    rw [((h b s hb hs).2 ys hf).2] at hy
    cases hy; rfl
/-- What the element's zero, or the element itself, is told with 'ok'. -/
theorem SMap.look_ok {w : World} {a n : Nat} {f : Secs} (h : SMap w a n f) {b s : Int} (hb : Wf b) (hs : Wf s) :
    (Instr.lookup 72 (.map (some a)) (pk b s) true).run Try.prog w = .ok (.tuple #[.agg (bs (f.get b s)), .bool (f b s).isSome]) w := by
  obtain ⟨D, hD, h⟩ := h
  obtain ⟨v, ps, hrun, hv⟩ := hD.look_ok law79 Try.underlying72 (zero81 w) (secR_mk zs_sec) (key_mk hb hs)
  obtain ⟨xs, hx, rfl, hy⟩ := secR_inv hv
  rw [hrun]
  unfold Secs.get
  cases hf : f b s with
  | none =>
    rw [Maps.atKey_of_not_has ((h b s hb hs).1 hf)] at hy
    rw [(h b s hb hs).1 hf]
    cases hy; rfl
  | some ys =>
    have h2 := ((h b s hb hs).2 ys hf).2
    rw [h2] at hy
    rw [Maps.has_true_of_atKey h2]
    cases hy; rfl
/-- 'm[k] = v'. -/
theorem SMap.store {w : World} {a n : Nat} {f : Secs} (h : SMap w a n f) (hn : n < maxLen) {b s : Int} (hb : Wf b) (hs : Wf s) {xs : List Int} (hx : Sec xs) :
    ∃ w', (Instr.mapUpdate 72 (.map (some a)) (pk b s) (.agg (bs xs))).run Try.prog w = .ok () w' ∧ SMap w' a (n + 1) (f.put b s xs) ∧ w.grownBy w' (some a) ∧ w'.heap.size = w.heap.size := by
  obtain ⟨D, hD, h⟩ := h
  obtain ⟨w', hrun, ho, ht⟩ := hD.store law79 Try.underlying72 hn (key_mk hb hs) (secR_mk hx)
  refine ⟨w', hrun, SMap.put (w := w) (n := n) h hD.isMap hb hs hx ho, ht.grown, ?_⟩
  obtain ⟨_, _, _, _, _, rfl⟩ := ht
  simp [ChangeMaps.setBlock]
/-- A range over such a map that is under way: which keys are still to come, and how many. -/
def SRng (w : World) (a r n : Nat) (f : Secs) (left : Int → Int → Bool) (cnt : Nat) : Prop :=
  ∃ D lf, w.ranges Try.prog 79 secR a r n D lf cnt ∧ (∀ b s, Wf b → Wf s → (f b s = none → Maps.has D (kl b s) = false) ∧ ∀ xs, f b s = some xs → Sec xs ∧ ∀ z, D.atKey (kl b s) z = .held xs) ∧ ∀ b s, Wf b → Wf s → lf (kl b s) = left b s
theorem SRng.map {w : World} {a r n : Nat} {f : Secs} {left : Int → Int → Bool} {cnt : Nat} (h : SRng w a r n f left cnt) : SMap w a n f := by
  obtain ⟨D, lf, hr, hf, _⟩ := h; exact ⟨D, hr.owns, hf⟩
theorem SRng.left_eq {w : World} {a r n : Nat} {f : Secs} {left : Int → Int → Bool} {cnt : Nat} (h : SRng w a r n f left cnt) : w.rangeLeft a r = cnt := by
  obtain ⟨D, lf, hr, hf, _⟩ := h; exact hr.left_eq
theorem SRng.lt {w : World} {a r n : Nat} {f : Secs} {left : Int → Int → Bool} {cnt : Nat} (h : SRng w a r n f left cnt) : r < w.heap.size := by
  obtain ⟨D, lf, hr, hf, _⟩ := h; exact hr.lt
theorem SRng.ne {w : World} {a r n : Nat} {f : Secs} {left : Int → Int → Bool} {cnt : Nat} (h : SRng w a r n f left cnt) : r ≠ a := by
  obtain ⟨D, lf, hr, hf, _⟩ := h; exact hr.ne
theorem SRng.kept {w w' : World} {a r n : Nat} {f : Secs} {left : Int → Int → Bool} {cnt : Nat} (h : SRng w a r n f left cnt) (e : w'.heap[a]? = w.heap[a]?) (e' : w'.heap[r]? = w.heap[r]?) : SRng w' a r n f left cnt := by
  obtain ⟨D, lf, ⟨es, clock, since, seen, c0, hb, F, hs, hD, hr, rest⟩, hf, hl⟩ := h
  exact ⟨D, lf, ⟨es, clock, since, seen, c0, e.trans hb, F, hs, hD, e'.trans hr, rest⟩, hf, hl⟩

/-- Nothing but some blocks, and new ones, has turned. -/
structure Off (F : Nat → Prop) (w w' : World) : Prop where
  os : w'.os = w.os
  tape : w'.tape = w.tape
  output : w'.output = w.output
  size : w.heap.size ≤ w'.heap.size
  block : ∀ k, k < w.heap.size → ¬ F k → w'.heap[k]? = w.heap[k]?
theorem Off.refl (F : Nat → Prop) (w : World) : Off F w w := ⟨rfl, rfl, rfl, Nat.le_refl _, fun _ _ _ => rfl⟩
theorem Off.trans {F F' : Nat → Prop} {a b c : World} (h : Off F a b) (k : Off F' b c) (hF : ∀ j, F' j → F j ∨ a.heap.size ≤ j) : Off F a c :=
  ⟨k.os.trans h.os, k.tape.trans h.tape, k.output.trans h.output, Nat.le_trans h.size k.size, fun i hi hn => (k.block i (Nat.lt_of_lt_of_le hi h.size) (fun q => by
    rcases hF i q with q | q
    · exact hn q
    · omega)).trans (h.block i hi hn)⟩
theorem Off.mono {F F' : Nat → Prop} {a b : World} (h : Off F a b) (hF : ∀ j, F j → F' j ∨ a.heap.size ≤ j) : Off F' a b :=
  ⟨h.os, h.tape, h.output, h.size, fun i hi hn => h.block i hi (fun q => by
    rcases hF i q with q | q
    · exact hn q
    · omega)⟩
theorem Off.of_below {F : Nat → Prop} {a b : World} (h : Below a.heap.size a b) : Off F a b := ⟨h.os, h.tape, h.output, h.size, fun i hi _ => h.block i hi⟩
theorem Off.of_grown {F : Nat → Prop} {a b : World} {row : Option Nat} (h : a.grownBy b row) (hF : ∀ k, row = some k → F k) : Off F a b :=
  ⟨h.os, h.tape, h.output, h.size, fun i hi hn => h.block i hi (fun q => hn (hF i q.symm))⟩
theorem Off.of_setCell {F : Nat → Prop} (w : World) (p : Addr) (v : Value) (hF : F p.block) : Off F w (w.setCell p v) :=
  ⟨rfl, rfl, rfl, by simp [World.setCell], fun k _ hk => Below.heap_setCell _ _ _ _ (fun q => hk (q ▸ hF))⟩
theorem Off.of_setRow {F : Nat → Prop} (w : World) (g : Nat) (cs : Array Value) (hF : F g) : Off F w (w.setRow g cs) :=
  ⟨rfl, rfl, rfl, by simp [World.setRow], fun k _ hk => setRow_other w g k cs (fun q => hk (q ▸ hF))⟩
theorem Off.drew {F : Nat → Prop} {a b : World} (h : Off F a b) : Off F a b.drew := ⟨h.os, h.tape, h.output, h.size, h.block⟩
theorem Off.below {F : Nat → Prop} {a b : World} (h : Off F a b) {B : Nat} (hB : B ≤ a.heap.size) (hF : ∀ k, F k → B ≤ k) : Below B a b :=
  ⟨h.os, h.tape, h.output, h.size, fun k hk => h.block k (by omega) (fun q => by have := hF k q; omega)⟩
theorem Row.off {F : Nat → Prop} {w w' : World} {g : Nat} {cs : Array Value} {t : TypeId} (h : Row w g cs t) (ho : Off F w w') (hg : ¬ F g) : Row w' g cs t := by
  have hl := h.lt
  unfold Row at h ⊢; rw [ho.block g hl hg]; exact h
theorem SMap.off {F : Nat → Prop} {w w' : World} {a n : Nat} {f : Secs} (h : SMap w a n f) (ho : Off F w w') (hg : ¬ F a) : SMap w' a n f := h.kept (ho.block a h.lt hg)

/-- A set of numbers in a map[int]struct{}, or in none. -/
def FMap (w : World) (v : Value) (f : Int → Bool) : Prop :=
  (v = .map none ∧ ∀ i, f i = false) ∨ ∃ m n D, v = .map (some m) ∧ w.ownsMap (H := Unit) Try.prog 3 unitElem m n D ∧ ∀ i, Wf i → Maps.has D (.int .i64 i) = f i
theorem zero85 (w : World) : (zeroValue 85).run Try.prog w = .ok (.agg #[]) w := (zero_of_info (P := Try.prog) (t := 85) (v := .agg #[]) (n := 0) (by kernel_rfl)).1 w
theorem FMap.look {w : World} {v : Value} {f : Int → Bool} (h : FMap w v f) {i : Int} (hi : Wf i) :
    (Instr.lookup 74 v (.int .i64 i) true).run Try.prog w = .ok (.tuple #[.agg #[], .bool (f i)]) w := by
  rcases h with ⟨rfl, hf⟩ | ⟨m, n, D, rfl, hD, hf⟩
  · rw [Maps.look_nil true law3 Try.underlying74 (zero85 w) (Maps.keyOf_int_mk Try.underlying3 hi), hf i]; rfl
  · obtain ⟨v, ps, hrun, hv⟩ := hD.look_ok law3 Try.underlying74 (zero85 w) unitElem_mk (Maps.keyOf_int_mk Try.underlying3 hi)
    obtain ⟨rfl, _⟩ := unitElem_inv hv
    rw [hrun, hf i hi]
theorem FMap.kept {w w' : World} {v : Value} {f : Int → Bool} (h : FMap w v f) (e : ∀ m, v = .map (some m) → m < w.heap.size → w'.heap[m]? = w.heap[m]?) : FMap w' v f := by
  rcases h with h | ⟨m, n, D, rfl, hD, hf⟩
  · exact Or.inl h
  · have hl := hD.lt
    obtain ⟨es, clock, hb, F, hs, hd⟩ := hD
    exact Or.inr ⟨m, n, D, rfl, ⟨es, clock, (e m rfl hl).trans hb, F, hs, hd⟩, hf⟩
theorem FMap.off {F : Nat → Prop} {w w' : World} {v : Value} {f : Int → Bool} (h : FMap w v f) (ho : Off F w w') (hg : ∀ m, v = .map (some m) → ¬ F m) : FMap w' v f :=
  h.kept fun m e hl => ho.block m hl (hg m e)
theorem FMap.none (w : World) : FMap w (.map none) (fun _ => false) := Or.inl ⟨rfl, fun _ => rfl⟩
/-- A set of numbers in a map that is there, with a bound on how many there are. -/
def NMap (w : World) (m n : Nat) (f : Int → Bool) : Prop := ∃ D, w.ownsMap (H := Unit) Try.prog 3 unitElem m n D ∧ ∀ i, Wf i → Maps.has D (.int .i64 i) = f i
theorem NMap.fmap {w : World} {m n : Nat} {f : Int → Bool} (h : NMap w m n f) : FMap w (.map (some m)) f := by
  obtain ⟨D, h1, h2⟩ := h; exact Or.inr ⟨m, n, D, rfl, h1, h2⟩
theorem NMap.lt {w : World} {m n : Nat} {f : Int → Bool} (h : NMap w m n f) : m < w.heap.size := by
  obtain ⟨D, h1, h2⟩ := h; exact h1.lt
theorem NMap.made (w : World) : NMap (w.alloc (.map #[] 0)) w.heap.size 0 (fun _ => false) := ⟨_, World.ownsMap_made w _ _ _, fun _ _ => rfl⟩
theorem NMap.kept {w w' : World} {m n : Nat} {f : Int → Bool} (h : NMap w m n f) (e : w'.heap[m]? = w.heap[m]?) : NMap w' m n f := by
  obtain ⟨D, ⟨es, clock, hb, F, hs, hD⟩, h⟩ := h
  exact ⟨D, ⟨es, clock, e.trans hb, F, hs, hD⟩, h⟩
theorem wf_key {i : Int} (hi : Wf i) : WideAt.IsKeyLit (.int .i64 i) := law3.key (Maps.keyOf_int_mk Try.underlying3 hi)
theorem NMap.store {w : World} {m n : Nat} {f : Int → Bool} (h : NMap w m n f) (hn : n < maxLen) {x : Int} (hx : Wf x) :
    ∃ w', (Instr.mapUpdate 74 (.map (some m)) (.int .i64 x) (.agg #[])).run Try.prog w = .ok () w' ∧ NMap w' m (n + 1) (fun i => f i || decide (i = x)) ∧ w.grownBy w' (some m) ∧ w'.heap.size = w.heap.size := by
  obtain ⟨D, hD, h⟩ := h
  obtain ⟨w', hrun, ho, ht⟩ := hD.store law3 Try.underlying74 hn (Maps.keyOf_int_mk Try.underlying3 hx) unitElem_mk
  refine ⟨w', hrun, ⟨_, ho, fun i hi => ?_⟩, ht.grown, ?_⟩
  · by_cases e : i = x
    · subst e
      rw [Maps.has_put_same hD.isMap (wf_key hi)]; simp
    · rw [Maps.has_put_other (fun q => e (by cases q; rfl)), h i hi]; simp [e]
  · obtain ⟨_, _, _, _, _, rfl⟩ := ht
    simp [ChangeMaps.setBlock]
end Go.Proofs.Ytcbjjofckhohjaa
