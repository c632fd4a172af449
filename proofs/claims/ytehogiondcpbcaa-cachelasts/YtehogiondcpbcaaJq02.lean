/-
  Plain facts on maps whose keys are arrays of two numbers and whose elements are arrays of 64 bytes: what such a map holds, key by key; made, asked, stored into. Plain facts: a map of numbers keyed by pages, as a function. A disk as the document tells it, and as it lies in memory: its fields, the two maps of sectors, the writes that are pending, the set of operations that fail; what its small calls do. Proved here: what disk.count, askBlock, Pending and forget do with a disk.
-/
import Derived.Test.YtehogiondcpbcaaJq01
import Derived.Maps.RangeWalk
import Derived.Maps.Ext
import Derived.Maps.OwnOps
import Derived.DeepKeys4
namespace Go.Proofs.Ytehogiondcpbcaa
open Go.ChangeShapes Go.WideShapes Go.ChangeAt Go.RowKit
set_option linter.unusedVariables false
set_option linter.unusedSimpArgs false
set_option maxRecDepth 20000
theorem laidD : laidOutB Try.prog = true := by kernel_rfl
theorem law90 : Maps.Keyed Try.prog 90 := Maps.Keyed.of_law (deep_law_laid (P := Try.prog) laidD (m := 5) (by decide) (k := 90) (by decide +kernel) (by kernel_rfl) (by kernel_rfl))
theorem law3 : Maps.Keyed Try.prog 3 := Maps.int_keyed Try.underlying3
theorem keyType90 : Try.prog.keyType 90 = true := by kernel_rfl
theorem cells90 : Try.prog.cellsOf 90 = 2 := by kernel_rfl
theorem cells3 : Try.prog.cellsOf 3 = 1 := by kernel_rfl
theorem types_some : 0 < Try.prog.types.size := by decide +kernel
theorem types_pos : ∃ m, Try.prog.types.size = m + 1 := ⟨Try.prog.types.size - 1, by have := types_some; omega⟩
def pk (b s : Int) : Value := .agg #[.int .i64 b, .int .i64 s]
def kl (b s : Int) : Lit := .string (keyBytes [.int .i64 b, .int .i64 s])
def Wf (b : Int) : Prop := (Lit.int .i64 b).wf = true
theorem key_mk {b s : Int} (hb : Wf b) (hs : Wf s) : keyOf Try.prog 90 (pk b s) = some (kl b s) := by
  obtain ⟨m, hm⟩ := types_pos
  have hb' : (Lit.int .i64 b).wf = true := hb
  have hs' : (Lit.int .i64 s).wf = true := hs
  simp only [keyOf, pk, kl, Try.underlying90, keyType90, Value.formed, cells90, hm, Program.keyLits, Value.cells, cells3]
  simp [List.range_succ, List.mapM_cons, Program.keyLits, Try.underlying3, hb', hs', cells3]
theorem key_inv {v : Value} {l : Lit} (h : keyOf Try.prog 90 v = some l) : ∃ b s, v = pk b s ∧ Wf b ∧ Wf s ∧ l = kl b s := by
  obtain ⟨m, hm⟩ := types_pos
  cases v with
  | agg cs =>
    simp only [keyOf, Try.underlying90, keyType90, Value.formed, cells90, hm, Program.keyLits, Value.cells, cells3] at h
    obtain ⟨cs⟩ := cs
    by_cases hc : cs.length = 2
    · match cs, hc with
      | [x, y], _ =>
        simp [List.range_succ, List.mapM_cons, Program.keyLits, Try.underlying3, cells3] at h
        cases x with
        | int q n =>
          by_cases hx : q = .i64 ∧ (Lit.int .i64 n).wf = true
          · cases y with
            | int q' n' =>
              by_cases hy : q' = .i64 ∧ (Lit.int .i64 n').wf = true
              · obtain ⟨rfl, hx⟩ := hx
                obtain ⟨rfl, hy⟩ := hy
                simp [hx, hy] at h
                exact ⟨n, n', rfl, hx, hy, h.symm⟩
              · simp [hx, hy] at h
            | _ => simp [hx] at h
          · simp [hx] at h
        | _ => simp at h
    · simp [hc] at h
  | _ => simp [keyOf, Try.underlying90, Value.formed] at h
theorem kl_inj {b s b' s' : Int} (hb : Wf b) (hs : Wf s) (hb' : Wf b') (hs' : Wf s') (h : kl b s = kl b' s') : b = b' ∧ s = s' := by
  have := law90.inj (key_mk hb hs) (by rw [h]; exact key_mk hb' hs')
  simp [pk] at this
  exact this
def byteOf? : Value → Option Int
  | .int .u8 x => if 0 ≤ x ∧ x ≤ 255 then some x else none
  | _ => none
def secOf (v : Value) : Option (List Int) :=
  match v with
  | .agg cs => if cs.size = 64 then cs.toList.mapM byteOf? else none
  | _ => none
def secR (v : Value) : Option (DataW (List Int) × List MemPlace) := (secOf v).map fun xs => (.held xs, [])
def Sec (xs : List Int) : Prop := xs.length = 64 ∧ Bytes xs
theorem bytes_mapM : ∀ (xs : List Int), Bytes xs → (xs.map (Value.int .u8)).mapM byteOf? = some xs
  | [], _ => rfl
  | x :: r, h => by
    have hx := h x (by simp)
    have ih := bytes_mapM r (fun y hy => h y (by simp [hy]))
    rw [List.map_cons, List.mapM_cons, ih]
    simp [byteOf?, hx.1, hx.2]
theorem mapM_bytes : ∀ (cs : List Value) (xs : List Int), cs.mapM byteOf? = some xs → cs = xs.map (Value.int .u8) ∧ Bytes xs
  | [], xs, h => by simp at h; subst h; exact ⟨rfl, fun y hy => nomatch hy⟩
  | c :: r, xs, h => by
    rw [List.mapM_cons] at h
    cases hc : byteOf? c with
    | none => simp [hc] at h
    | some x =>
      cases hr : r.mapM byteOf? with
      | none => simp [hc, hr] at h
      | some ys =>
        simp [hc, hr] at h
        subst h
        obtain ⟨e, hb⟩ := mapM_bytes r ys hr
        have hx : c = .int .u8 x ∧ 0 ≤ x ∧ x ≤ 255 := by
          unfold byteOf? at hc
          split at hc
          · split at hc
            · rename_i h1
              cases hc; exact ⟨rfl, h1⟩
            · cases hc
          · cases hc
        refine ⟨by rw [hx.1, e]; rfl, fun y hy => ?_⟩
        rcases List.mem_cons.1 hy with rfl | hy
        · exact hx.2
        · exact hb y hy
theorem secR_mk {xs : List Int} (h : Sec xs) : secR (.agg (bs xs)) = some (.held xs, []) := by
  have : secOf (.agg (bs xs)) = some xs := by
    unfold secOf
    simp only [bs_size, h.1]
    exact bytes_mapM xs h.2
  unfold secR; rw [this]; rfl
theorem secR_inv {v : Value} {y : DataW (List Int) × List MemPlace} (h : secR v = some y) : ∃ xs, Sec xs ∧ v = .agg (bs xs) ∧ y = (.held xs, []) := by
  unfold secR at h
  cases hs : secOf v with
  | none => simp [hs] at h
  | some xs =>
    simp [hs] at h
    unfold secOf at hs
    split at hs
    · split at hs
      · rename_i cs hc
        obtain ⟨e, hb⟩ := mapM_bytes _ _ hs
        refine ⟨xs, ⟨?_, hb⟩, ?_, h.symm⟩
        · have := congrArg List.length e; simp at this; omega
        · unfold bs; rw [← e]
      · cases hs
    · cases hs
abbrev Secs := Int → Int → Option (List Int)
def SMap (w : World) (a n : Nat) (f : Secs) : Prop :=
  ∃ D, w.ownsMap Try.prog 90 secR a n D ∧ ∀ b s, Wf b → Wf s → (f b s = none → Maps.has D (kl b s) = false) ∧ ∀ xs, f b s = some xs → Sec xs ∧ ∀ z, D.atKey (kl b s) z = .held xs
theorem kl_key {b s : Int} (hb : Wf b) (hs : Wf s) : WideAt.IsKeyLit (kl b s) := law90.key (key_mk hb hs)
theorem SMap.lt {w : World} {a n : Nat} {f : Secs} (h : SMap w a n f) : a < w.heap.size := by
  obtain ⟨D, hD, _⟩ := h; exact hD.lt
theorem SMap.kept {w w' : World} {a n : Nat} {f : Secs} (h : SMap w a n f) (e : w'.heap[a]? = w.heap[a]?) : SMap w' a n f := by
  obtain ⟨D, ⟨es, clock, hb, F, hs, hD⟩, h⟩ := h
  exact ⟨D, ⟨es, clock, e.trans hb, F, hs, hD⟩, h⟩
theorem SMap.mono {w : World} {a n m : Nat} {f : Secs} (h : SMap w a n f) (hm : n ≤ m) : SMap w a m f := by
  obtain ⟨D, hD, h⟩ := h; exact ⟨D, hD.mono hm, h⟩
theorem SMap.made (w : World) : SMap (w.alloc (.map #[] 0)) w.heap.size 0 (fun _ _ => none) :=
  ⟨_, World.ownsMap_made w _ _ _, fun b s _ _ => ⟨fun _ => rfl, fun xs h => by cases h⟩⟩
def Secs.put (f : Secs) (b s : Int) (xs : List Int) : Secs := fun b' s' => if b' = b ∧ s' = s then some xs else f b' s'
theorem SMap.put {w w' : World} {a n m : Nat} {f : Secs} {D : DataW (List Int)} (h : ∀ b s, Wf b → Wf s → (f b s = none → Maps.has D (kl b s) = false) ∧ ∀ xs, f b s = some xs → Sec xs ∧ ∀ z, D.atKey (kl b s) z = .held xs)
    (hm : Maps.IsMap D) {b s : Int} (hb : Wf b) (hs : Wf s) {xs : List Int} (hx : Sec xs) (h' : w'.ownsMap Try.prog 90 secR a m (D.put (kl b s) (.held xs))) : SMap w' a m (f.put b s xs) := by
  refine ⟨_, h', fun b' s' hb' hs' => ?_⟩
  unfold Secs.put
  by_cases e : b' = b ∧ s' = s
  · obtain ⟨rfl, rfl⟩ := e
    rw [if_pos ⟨rfl, rfl⟩]
    exact ⟨fun q => (by cases q), fun ys q => (by cases q; exact ⟨hx, fun z => Maps.atKey_put_same hm (kl_key hb hs) _ z⟩)⟩
  · rw [if_neg e]
    have hne : kl b' s' ≠ kl b s := fun q => e (kl_inj hb' hs' hb hs q)
    refine ⟨fun q => ?_, fun ys q => ?_⟩
    · rw [Maps.has_put_other hne]; exact (h b' s' hb' hs').1 q
    · obtain ⟨h1, h2⟩ := (h b' s' hb' hs').2 ys q
      exact ⟨h1, fun z => by rw [Maps.atKey_put_other hne]; exact h2 z⟩
theorem SMap.sec {w : World} {a n : Nat} {f : Secs} (h : SMap w a n f) {b s : Int} (hb : Wf b) (hs : Wf s) {xs : List Int} (e : f b s = some xs) : Sec xs := by
  obtain ⟨D, _, h⟩ := h; exact ((h b s hb hs).2 xs e).1
theorem zs_sec : Sec (zs 64) := ⟨zs_length 64, by intro y hy; unfold zs at hy; obtain ⟨_, rfl⟩ := List.mem_replicate.1 hy; omega⟩
def Secs.get (f : Secs) (b s : Int) : List Int := (f b s).getD (zs 64)
theorem SMap.look {w : World} {a n : Nat} {f : Secs} (h : SMap w a n f) {b s : Int} (hb : Wf b) (hs : Wf s) :
    (Instr.lookup 84 (.map (some a)) (pk b s) false).run Try.prog w = .ok (.agg (bs (f.get b s))) w := by
  obtain ⟨D, hD, h⟩ := h
  obtain ⟨v, ps, hrun, hv⟩ := hD.lookup law90 Try.underlying84 (zero79 w) (secR_mk zs_sec) (key_mk hb hs)
  obtain ⟨xs, hx, rfl, hy⟩ := secR_inv hv
  rw [hrun]
  unfold Secs.get
  cases hf : f b s with
  | none =>
    rw [Maps.atKey_of_not_has ((h b s hb hs).1 hf)] at hy
    cases hy; rfl
  | some ys =>
    rw [((h b s hb hs).2 ys hf).2] at hy
    cases hy; rfl
theorem SMap.look_ok {w : World} {a n : Nat} {f : Secs} (h : SMap w a n f) {b s : Int} (hb : Wf b) (hs : Wf s) :
    (Instr.lookup 84 (.map (some a)) (pk b s) true).run Try.prog w = .ok (.tuple #[.agg (bs (f.get b s)), .bool (f b s).isSome]) w := by
  obtain ⟨D, hD, h⟩ := h
  obtain ⟨v, ps, hrun, hv⟩ := hD.look_ok law90 Try.underlying84 (zero79 w) (secR_mk zs_sec) (key_mk hb hs)
  obtain ⟨xs, hx, rfl, hy⟩ := secR_inv hv
  rw [hrun]
  unfold Secs.get
  cases hf : f b s with
  | none =>
    rw [Maps.atKey_of_not_has ((h b s hb hs).1 hf)] at hy
    rw [(h b s hb hs).1 hf]
    cases hy; rfl
  | some ys =>
    have h2 := ((h b s hb hs).2 ys hf).2
    rw [h2] at hy
    rw [Maps.has_true_of_atKey h2]
    cases hy; rfl
theorem SMap.store {w : World} {a n : Nat} {f : Secs} (h : SMap w a n f) (hn : n < maxLen) {b s : Int} (hb : Wf b) (hs : Wf s) {xs : List Int} (hx : Sec xs) :
    ∃ w', (Instr.mapUpdate 84 (.map (some a)) (pk b s) (.agg (bs xs))).run Try.prog w = .ok () w' ∧ SMap w' a (n + 1) (f.put b s xs) ∧ w.grownBy w' (some a) ∧ w'.heap.size = w.heap.size := by
  obtain ⟨D, hD, h⟩ := h
  obtain ⟨w', hrun, ho, ht⟩ := hD.store law90 Try.underlying84 hn (key_mk hb hs) (secR_mk hx)
  refine ⟨w', hrun, SMap.put (w := w) (n := n) h hD.isMap hb hs hx ho, ht.grown, ?_⟩
  obtain ⟨_, _, _, _, _, rfl⟩ := ht
  simp [ChangeMaps.setBlock]
def SRng (w : World) (a r n : Nat) (f : Secs) (left : Int → Int → Bool) (cnt : Nat) : Prop :=
  ∃ D lf, w.ranges Try.prog 90 secR a r n D lf cnt ∧ (∀ b s, Wf b → Wf s → (f b s = none → Maps.has D (kl b s) = false) ∧ ∀ xs, f b s = some xs → Sec xs ∧ ∀ z, D.atKey (kl b s) z = .held xs) ∧ ∀ b s, Wf b → Wf s → lf (kl b s) = left b s
theorem SRng.map {w : World} {a r n : Nat} {f : Secs} {left : Int → Int → Bool} {cnt : Nat} (h : SRng w a r n f left cnt) : SMap w a n f := by
  obtain ⟨D, lf, hr, hf, _⟩ := h; exact ⟨D, hr.owns, hf⟩
theorem SRng.left_eq {w : World} {a r n : Nat} {f : Secs} {left : Int → Int → Bool} {cnt : Nat} (h : SRng w a r n f left cnt) : w.rangeLeft a r = cnt := by
  obtain ⟨D, lf, hr, hf, _⟩ := h; exact hr.left_eq
theorem SRng.lt {w : World} {a r n : Nat} {f : Secs} {left : Int → Int → Bool} {cnt : Nat} (h : SRng w a r n f left cnt) : r < w.heap.size := by
  obtain ⟨D, lf, hr, hf, _⟩ := h; exact hr.lt
theorem SRng.ne {w : World} {a r n : Nat} {f : Secs} {left : Int → Int → Bool} {cnt : Nat} (h : SRng w a r n f left cnt) : r ≠ a := by
  obtain ⟨D, lf, hr, hf, _⟩ := h; exact hr.ne
theorem SRng.kept {w w' : World} {a r n : Nat} {f : Secs} {left : Int → Int → Bool} {cnt : Nat} (h : SRng w a r n f left cnt) (e : w'.heap[a]? = w.heap[a]?) (e' : w'.heap[r]? = w.heap[r]?) : SRng w' a r n f left cnt := by
  obtain ⟨D, lf, ⟨es, clock, since, seen, c0, hb, F, hs, hD, hr, rest⟩, hf, hl⟩ := h
  exact ⟨D, lf, ⟨es, clock, since, seen, c0, e.trans hb, F, hs, hD, e'.trans hr, rest⟩, hf, hl⟩
structure Off (F : Nat → Prop) (w w' : World) : Prop where
  os : w'.os = w.os
  tape : w'.tape = w.tape
  output : w'.output = w.output
  size : w.heap.size ≤ w'.heap.size
  block : ∀ k, k < w.heap.size → ¬ F k → w'.heap[k]? = w.heap[k]?
theorem Off.refl (F : Nat → Prop) (w : World) : Off F w w := ⟨rfl, rfl, rfl, Nat.le_refl _, fun _ _ _ => rfl⟩
theorem Off.trans {F F' : Nat → Prop} {a b c : World} (h : Off F a b) (k : Off F' b c) (hF : ∀ j, F' j → F j ∨ a.heap.size ≤ j) : Off F a c :=
  ⟨k.os.trans h.os, k.tape.trans h.tape, k.output.trans h.output, Nat.le_trans h.size k.size, fun i hi hn => (k.block i (Nat.lt_of_lt_of_le hi h.size) (fun q => by
    rcases hF i q with q | q
    · exact hn q
    · omega)).trans (h.block i hi hn)⟩
theorem Off.mono {F F' : Nat → Prop} {a b : World} (h : Off F a b) (hF : ∀ j, F j → F' j ∨ a.heap.size ≤ j) : Off F' a b :=
  ⟨h.os, h.tape, h.output, h.size, fun i hi hn => h.block i hi (fun q => by
    rcases hF i q with q | q
    · exact hn q
    · omega)⟩
theorem Off.of_below {F : Nat → Prop} {a b : World} (h : Below a.heap.size a b) : Off F a b := ⟨h.os, h.tape, h.output, h.size, fun i hi _ => h.block i hi⟩
theorem Off.of_grown {F : Nat → Prop} {a b : World} {row : Option Nat} (h : a.grownBy b row) (hF : ∀ k, row = some k → F k) : Off F a b :=
  ⟨h.os, h.tape, h.output, h.size, fun i hi hn => h.block i hi (fun q => hn (hF i q.symm))⟩
theorem Off.of_setCell {F : Nat → Prop} (w : World) (p : Addr) (v : Value) (hF : F p.block) : Off F w (w.setCell p v) :=
  ⟨rfl, rfl, rfl, by simp [World.setCell], fun k _ hk => Below.heap_setCell _ _ _ _ (fun q => hk (q ▸ hF))⟩
theorem Off.of_setRow {F : Nat → Prop} (w : World) (g : Nat) (cs : Array Value) (hF : F g) : Off F w (w.setRow g cs) :=
  ⟨rfl, rfl, rfl, by simp [World.setRow], fun k _ hk => setRow_other w g k cs (fun q => hk (q ▸ hF))⟩
theorem Off.drew {F : Nat → Prop} {a b : World} (h : Off F a b) : Off F a b.drew := ⟨h.os, h.tape, h.output, h.size, h.block⟩
theorem Off.below {F : Nat → Prop} {a b : World} (h : Off F a b) {B : Nat} (hB : B ≤ a.heap.size) (hF : ∀ k, F k → B ≤ k) : Below B a b :=
  ⟨h.os, h.tape, h.output, h.size, fun k hk => h.block k (by omega) (fun q => by have := hF k q; omega)⟩
theorem Row.off {F : Nat → Prop} {w w' : World} {g : Nat} {cs : Array Value} {t : TypeId} (h : Row w g cs t) (ho : Off F w w') (hg : ¬ F g) : Row w' g cs t := by
  have hl := h.lt
  unfold Row at h ⊢; rw [ho.block g hl hg]; exact h
theorem SMap.off {F : Nat → Prop} {w w' : World} {a n : Nat} {f : Secs} (h : SMap w a n f) (ho : Off F w w') (hg : ¬ F a) : SMap w' a n f := h.kept (ho.block a h.lt hg)
def FMap (w : World) (v : Value) (f : Int → Bool) : Prop :=
  (v = .map none ∧ ∀ i, f i = false) ∨ ∃ m n D, v = .map (some m) ∧ w.ownsMap (H := Unit) Try.prog 3 unitElem m n D ∧ ∀ i, Wf i → Maps.has D (.int .i64 i) = f i
theorem zero132 (w : World) : (zeroValue 132).run Try.prog w = .ok (.agg #[]) w := (zero_of_info (P := Try.prog) (t := 132) (v := .agg #[]) (n := 0) (by kernel_rfl)).1 w
theorem FMap.look {w : World} {v : Value} {f : Int → Bool} (h : FMap w v f) {i : Int} (hi : Wf i) :
    (Instr.lookup 86 v (.int .i64 i) true).run Try.prog w = .ok (.tuple #[.agg #[], .bool (f i)]) w := by
  rcases h with ⟨rfl, hf⟩ | ⟨m, n, D, rfl, hD, hf⟩
  · rw [Maps.look_nil true law3 Try.underlying86 (zero132 w) (Maps.keyOf_int_mk Try.underlying3 hi), hf i]; rfl
  · obtain ⟨v, ps, hrun, hv⟩ := hD.look_ok law3 Try.underlying86 (zero132 w) unitElem_mk (Maps.keyOf_int_mk Try.underlying3 hi)
    obtain ⟨rfl, _⟩ := unitElem_inv hv
    rw [hrun, hf i hi]
theorem FMap.kept {w w' : World} {v : Value} {f : Int → Bool} (h : FMap w v f) (e : ∀ m, v = .map (some m) → m < w.heap.size → w'.heap[m]? = w.heap[m]?) : FMap w' v f := by
  rcases h with h | ⟨m, n, D, rfl, hD, hf⟩
  · exact Or.inl h
  · have hl := hD.lt
    obtain ⟨es, clock, hb, F, hs, hd⟩ := hD
    exact Or.inr ⟨m, n, D, rfl, ⟨es, clock, (e m rfl hl).trans hb, F, hs, hd⟩, hf⟩
theorem FMap.off {F : Nat → Prop} {w w' : World} {v : Value} {f : Int → Bool} (h : FMap w v f) (ho : Off F w w') (hg : ∀ m, v = .map (some m) → ¬ F m) : FMap w' v f :=
  h.kept fun m e hl => ho.block m hl (hg m e)
theorem FMap.none (w : World) : FMap w (.map none) (fun _ => false) := Or.inl ⟨rfl, fun _ => rfl⟩
def NMap (w : World) (m n : Nat) (f : Int → Bool) : Prop := ∃ D, w.ownsMap (H := Unit) Try.prog 3 unitElem m n D ∧ ∀ i, Wf i → Maps.has D (.int .i64 i) = f i
theorem NMap.fmap {w : World} {m n : Nat} {f : Int → Bool} (h : NMap w m n f) : FMap w (.map (some m)) f := by
  obtain ⟨D, h1, h2⟩ := h; exact Or.inr ⟨m, n, D, rfl, h1, h2⟩
theorem NMap.lt {w : World} {m n : Nat} {f : Int → Bool} (h : NMap w m n f) : m < w.heap.size := by
  obtain ⟨D, h1, h2⟩ := h; exact h1.lt
theorem NMap.made (w : World) : NMap (w.alloc (.map #[] 0)) w.heap.size 0 (fun _ => false) := ⟨_, World.ownsMap_made w _ _ _, fun _ _ => rfl⟩
theorem NMap.kept {w w' : World} {m n : Nat} {f : Int → Bool} (h : NMap w m n f) (e : w'.heap[m]? = w.heap[m]?) : NMap w' m n f := by
  obtain ⟨D, ⟨es, clock, hb, F, hs, hD⟩, h⟩ := h
  exact ⟨D, ⟨es, clock, e.trans hb, F, hs, hD⟩, h⟩
theorem wf_key {i : Int} (hi : Wf i) : WideAt.IsKeyLit (.int .i64 i) := law3.key (Maps.keyOf_int_mk Try.underlying3 hi)
theorem NMap.store {w : World} {m n : Nat} {f : Int → Bool} (h : NMap w m n f) (hn : n < maxLen) {x : Int} (hx : Wf x) :
    ∃ w', (Instr.mapUpdate 86 (.map (some m)) (.int .i64 x) (.agg #[])).run Try.prog w = .ok () w' ∧ NMap w' m (n + 1) (fun i => f i || decide (i = x)) ∧ w.grownBy w' (some m) ∧ w'.heap.size = w.heap.size := by
  obtain ⟨D, hD, h⟩ := h
  obtain ⟨w', hrun, ho, ht⟩ := hD.store law3 Try.underlying86 hn (Maps.keyOf_int_mk Try.underlying3 hx) unitElem_mk
  refine ⟨w', hrun, ⟨_, ho, fun i hi => ?_⟩, ht.grown, ?_⟩
  · by_cases e : i = x
    · subst e
      rw [Maps.has_put_same hD.isMap (wf_key hi)]; simp
    · rw [Maps.has_put_other (fun q => e (by cases q; rfl)), h i hi]; simp [e]
  · obtain ⟨_, _, _, _, _, rfl⟩ := ht
    simp [ChangeMaps.setBlock]
theorem law31 : Maps.Keyed Try.prog 31 := Maps.Keyed.of_law (deep_law_laid (P := Try.prog) laidD (m := 5) (by decide) (k := 31) (by decide +kernel) (by kernel_rfl) (by kernel_rfl))
theorem keyType31 : Try.prog.keyType 31 = true := by kernel_rfl
theorem cells31 : Try.prog.cellsOf 31 = 2 := by kernel_rfl
theorem cells4i : Try.prog.cellsOf 4 = 1 := by kernel_rfl
theorem cells29 : Try.prog.cellsOf 29 = 1 := by kernel_rfl
def idv (u : Bool) (k : Int) : Value := .agg #[.bool u, .int .u16 k]
def idl (u : Bool) (k : Int) : Lit := .string (keyBytes [.bool u, .int .u16 k])
def WfU (k : Int) : Prop := (Lit.int .u16 k).wf = true
theorem lits4 (m : Nat) (u : Bool) : Try.prog.keyLits (m + 1) 4 [.bool u] = some [.bool u] := by
  unfold Program.keyLits
  rw [Try.underlying4]
theorem lits29 (m : Nat) {k : Int} (hk : WfU k) : Try.prog.keyLits (m + 1) 29 [.int .u16 k] = some [.int .u16 k] := by
  unfold Program.keyLits
  rw [Try.underlying29]
  have hk' : (Lit.int .u16 k).wf = true := hk
  simp only [hk', and_self, if_true]
theorem formed31 (u : Bool) (k : Int) : (idv u k).formed Try.prog 31 = true := by
  unfold Value.formed
  rw [Try.underlying31]
  simp only [idv, cells31]
  rfl
theorem lits31 (m : Nat) (u : Bool) {k : Int} (hk : WfU k) : Try.prog.keyLits (m + 2) 31 [.bool u, .int .u16 k] = some [.bool u, .int .u16 k] := by
  unfold Program.keyLits
  rw [Try.underlying31]
  have hall : (#[({ name := "Undo", type := 4, offset := 0, embedded := false, tag := "", pkgPath := "", byteOffset := 0 } : Field), { name := "No", type := 29, offset := 1, embedded := false, tag := "", pkgPath := "", byteOffset := 2 }].all (·.name != "_")) = true := by decide +kernel
  simp only [cells31, hall, List.length_cons, List.length_nil, and_self, if_true]
  simp only [List.mapM_cons, List.mapM_nil, cells4i, cells29, List.drop_zero, List.drop_succ_cons, List.take_succ_cons, List.take_zero, lits4, lits29 _ hk]
  rfl
theorem id_mk {u : Bool} {k : Int} (hk : WfU k) : keyOf Try.prog 31 (idv u k) = some (idl u k) := by
  obtain ⟨m, hm⟩ := types_pos
  unfold keyOf
  rw [Try.underlying31]
  simp only [keyType31, formed31, Bool.and_self, if_true]
  rw [hm]
  show (Try.prog.keyLits (m + 1 + 1) 31 [.bool u, .int .u16 k]).map _ = _
  rw [lits31 m u hk]
  rfl
theorem idl_inj {u u' : Bool} {k k' : Int} (hk : WfU k) (hk' : WfU k') (h : idl u k = idl u' k') : u = u' ∧ k = k' := by
  have := law31.inj (id_mk hk) (by rw [h]; exact id_mk hk')
  simp [idv] at this
  exact this
theorem idl_key {u : Bool} {k : Int} (hk : WfU k) : WideAt.IsKeyLit (idl u k) := law31.key (id_mk hk)
def numR (v : Value) : Option (DataW Int × List MemPlace) := match v with | .int .i64 x => some (.held x, []) | _ => none
theorem numR_inv {v : Value} {y : DataW Int × List MemPlace} (h : numR v = some y) : ∃ x, v = .int .i64 x ∧ y = (.held x, []) := by
  unfold numR at h
  split at h
  · rename_i x; exact ⟨x, rfl, by injection h with h; exact h.symm⟩
  · cases h
abbrev Ids := Bool → Int → Option Int
def WMap (w : World) (a n : Nat) (f : Ids) : Prop :=
  ∃ D, w.ownsMap Try.prog 31 numR a n D ∧ ∀ u k, WfU k → (f u k = none → Maps.has D (idl u k) = false) ∧ ∀ x, f u k = some x → ∀ z, D.atKey (idl u k) z = .held x
theorem WMap.lt {w : World} {a n : Nat} {f : Ids} (h : WMap w a n f) : a < w.heap.size := by
  obtain ⟨D, hD, _⟩ := h; exact hD.lt
theorem WMap.kept {w w' : World} {a n : Nat} {f : Ids} (h : WMap w a n f) (e : w'.heap[a]? = w.heap[a]?) : WMap w' a n f := by
  obtain ⟨D, ⟨es, clock, hb, F, hs, hD⟩, h⟩ := h
  exact ⟨D, ⟨es, clock, e.trans hb, F, hs, hD⟩, h⟩
theorem WMap.off {F : Nat → Prop} {w w' : World} {a n : Nat} {f : Ids} (h : WMap w a n f) (ho : Off F w w') (hg : ¬ F a) : WMap w' a n f := h.kept (ho.block a h.lt hg)
theorem WMap.made (w : World) : WMap (w.alloc (.map #[] 0)) w.heap.size 0 (fun _ _ => none) :=
  ⟨_, World.ownsMap_made w _ _ _, fun u k _ => ⟨fun _ => rfl, fun x h => by cases h⟩⟩
theorem WMap.is {w : World} {a n : Nat} {f : Ids} (h : WMap w a n f) : ∃ es cl, w.heap[a]? = some (.map es cl) := by
  obtain ⟨D, ⟨es, clock, hb, _⟩, _⟩ := h; exact ⟨es, clock, hb⟩
theorem zero3w (w : World) : (zeroValue 3).run Try.prog w = .ok (.int .i64 0) w := (zero_of_info (P := Try.prog) (t := 3) (v := .int .i64 0) (n := 1) (by kernel_rfl)).1 w
def Ids.put (f : Ids) (u : Bool) (k : Int) (x : Int) : Ids := fun u' k' => if u' = u ∧ k' = k then some x else f u' k'
def Ids.del (f : Ids) (u : Bool) (k : Int) : Ids := fun u' k' => if u' = u ∧ k' = k then none else f u' k'
theorem WMap.look_ok {w : World} {a n : Nat} {f : Ids} (h : WMap w a n f) {u : Bool} {k : Int} (hk : WfU k) :
    (Instr.lookup 115 (.map (some a)) (idv u k) true).run Try.prog w = .ok (.tuple #[.int .i64 ((f u k).getD 0), .bool (f u k).isSome]) w := by
  obtain ⟨D, hD, h⟩ := h
  obtain ⟨v, ps, hrun, hv⟩ := hD.look_ok law31 Try.underlying115 (zero3w w) (rfl : numR (.int .i64 0) = some (.held 0, [])) (id_mk hk)
  obtain ⟨x, rfl, hy⟩ := numR_inv hv
  rw [hrun]
  cases hf : f u k with
  | none =>
    rw [Maps.atKey_of_not_has ((h u k hk).1 hf)] at hy
    rw [(h u k hk).1 hf]
    cases hy; rfl
  | some y =>
    have h2 := (h u k hk).2 y hf
    rw [h2] at hy
    rw [Maps.has_true_of_atKey h2]
    cases hy; rfl
theorem WMap.look {w : World} {a n : Nat} {f : Ids} (h : WMap w a n f) {u : Bool} {k : Int} (hk : WfU k) :
    (Instr.lookup 115 (.map (some a)) (idv u k) false).run Try.prog w = .ok (.int .i64 ((f u k).getD 0)) w := by
  obtain ⟨D, hD, h⟩ := h
  obtain ⟨v, ps, hrun, hv⟩ := hD.lookup law31 Try.underlying115 (zero3w w) (rfl : numR (.int .i64 0) = some (.held 0, [])) (id_mk hk)
  obtain ⟨x, rfl, hy⟩ := numR_inv hv
  rw [hrun]
  cases hf : f u k with
  | none =>
    rw [Maps.atKey_of_not_has ((h u k hk).1 hf)] at hy
    cases hy; rfl
  | some y =>
    rw [(h u k hk).2 y hf] at hy
    cases hy; rfl
theorem WMap.store {w : World} {a n : Nat} {f : Ids} (h : WMap w a n f) (hn : n < maxLen) {u : Bool} {k : Int} (hk : WfU k) (x : Int) :
    ∃ w', (Instr.mapUpdate 115 (.map (some a)) (idv u k) (.int .i64 x)).run Try.prog w = .ok () w' ∧ WMap w' a (n + 1) (f.put u k x) ∧ w.grownBy w' (some a) ∧ w'.heap.size = w.heap.size := by
  obtain ⟨D, hD, h⟩ := h
  obtain ⟨w', hrun, ho, ht⟩ := hD.store law31 Try.underlying115 hn (id_mk hk) (rfl : numR (.int .i64 x) = some (.held x, []))
  refine ⟨w', hrun, ⟨_, ho, fun u' k' hk' => ?_⟩, ht.grown, ?_⟩
  · unfold Ids.put
    by_cases e : u' = u ∧ k' = k
    · obtain ⟨rfl, rfl⟩ := e
      rw [if_pos ⟨rfl, rfl⟩]
      exact ⟨fun q => (by cases q), fun y q => (by cases q; exact fun z => Maps.atKey_put_same hD.isMap (idl_key hk) _ z)⟩
    · rw [if_neg e]
      have hne : idl u' k' ≠ idl u k := fun q => e (idl_inj hk' hk q)
      refine ⟨fun q => ?_, fun y q z => ?_⟩
      · rw [Maps.has_put_other hne]; exact (h u' k' hk').1 q
      · rw [Maps.atKey_put_other hne]; exact (h u' k' hk').2 y q z
  · obtain ⟨_, _, _, _, _, rfl⟩ := ht
    simp [ChangeMaps.setBlock]
theorem WMap.dropped {w w' : World} {a n : Nat} {f : Ids} {D : DataW Int} (h : ∀ u k, WfU k → (f u k = none → Maps.has D (idl u k) = false) ∧ ∀ x, f u k = some x → ∀ z, D.atKey (idl u k) z = .held x) (hm : Maps.IsMap D) {u : Bool} {k : Int} (hk : WfU k)
    (h' : w'.ownsMap Try.prog 31 numR a n (D.del (idl u k))) : WMap w' a n (f.del u k) := by
  refine ⟨_, h', fun u' k' hk' => ?_⟩
  unfold Ids.del
  by_cases e : u' = u ∧ k' = k
  · obtain ⟨rfl, rfl⟩ := e
    rw [if_pos ⟨rfl, rfl⟩]
    exact ⟨fun _ => Maps.has_del_same, fun x q => (by cases q)⟩
  · rw [if_neg e]
    have hne : idl u' k' ≠ idl u k := fun q => e (idl_inj hk' hk q)
    refine ⟨fun q => ?_, fun y q z => ?_⟩
    · rw [Maps.has_del_other hne]; exact (h u' k' hk').1 q
    · rw [Maps.atKey_del_other hne]; exact (h u' k' hk').2 y q z
structure Dsk where
  n : Nat
  sure : Secs
  pend : List (Int × Int × List Int)
  down : Bool
  ops : Int
  fuse : Int
  fails : Int → Bool
def over (f : Secs) : List (Int × Int × List Int) → Secs
  | [] => f
  | q :: r => over (f.put q.1 q.2.1 q.2.2) r
structure Loc where
  a : Nat
  b : Nat
  p : Value
  f : Value
def dcells (d : Dsk) (L : Loc) : Array Value := #[.int .i64 d.n, .map (some L.a), .map (some L.b), L.p, .bool d.down, .int .i64 d.ops, .int .i64 d.fuse, L.f]
def foot (g : Nat) (L : Loc) (k : Nat) : Prop := k = g ∨ k = L.a ∨ k = L.b ∨ L.p.ownBlock = some k ∨ L.f = .map (some k)
def pcell (q : Int × Int × List Int) : List Value := .int .i64 q.1 :: .int .i64 q.2.1 :: q.2.2.map (Value.int .u8)
def pcells (l : List (Int × Int × List Int)) : List Value := l.flatMap pcell
structure DAt (w : World) (g : Nat) (d : Dsk) (L : Loc) (N : Nat) : Prop where
  row : Row w g (dcells d L) 88
  sure : ∃ s, SMap w L.a s d.sure ∧ s + d.pend.length ≤ N
  fresh : SMap w L.b d.pend.length (over (fun _ _ => none) d.pend)
  ab : L.a ≠ L.b
  pend : w.ownsRow (g + 1) 136 66 L.p d.pend.length (pcells d.pend)
  fails : FMap w L.f d.fails
  fa : L.f ≠ .map (some L.a)
  fb : L.f ≠ .map (some L.b)
  big : N < 1000000000000
  okp : ∀ q ∈ d.pend, 0 ≤ q.1 ∧ q.1 < d.n ∧ 0 ≤ q.2.1 ∧ q.2.1 < 4 ∧ Sec q.2.2
  small : 1 ≤ d.n ∧ d.n ≤ 2048
  opsn : 0 ≤ d.ops
  fusew : Wf d.fuse
theorem wf_of {i : Int} (h : -9223372036854775808 ≤ i) (h' : i ≤ 9223372036854775807) : Wf i := WalkArith.wf_i64 ⟨h, h'⟩
theorem Row.map_ne {w : World} {g a n : Nat} {cs : Array Value} {t : TypeId} {f : Secs} (h : Row w g cs t) (hm : SMap w a n f) : a ≠ g := by
  rintro rfl
  obtain ⟨D, ⟨es, clock, hb, _⟩, _⟩ := hm
  unfold Row at h
  rw [h] at hb; cases hb
theorem DAt.ag {w : World} {g : Nat} {d : Dsk} {L : Loc} {N : Nat} (h : DAt w g d L N) : L.a ≠ g := by
  obtain ⟨s, hs, _⟩ := h.sure; exact h.row.map_ne hs
theorem DAt.bg {w : World} {g : Nat} {d : Dsk} {L : Loc} {N : Nat} (h : DAt w g d L N) : L.b ≠ g := h.row.map_ne h.fresh
theorem DAt.fg {w : World} {g : Nat} {d : Dsk} {L : Loc} {N : Nat} (h : DAt w g d L N) : L.f ≠ .map (some g) := by
  intro e
  rcases h.fails with ⟨q, _⟩ | ⟨m, n, D, q, ⟨es, clock, hb, _⟩, _⟩
  · rw [q] at e; cases e
  · rw [q] at e; cases e
    have := h.row
    unfold Row at this
    rw [this] at hb; cases hb
theorem DAt.pg {w : World} {g : Nat} {d : Dsk} {L : Loc} {N : Nat} (h : DAt w g d L N) : L.p.ownBlock ≠ some g := by
  intro e
  have := (h.pend.lt g e).1
  omega
theorem DAt.pm {w : World} {g : Nat} {d : Dsk} {L : Loc} {N : Nat} (h : DAt w g d L N) {k : Nat} {es : Array MapEntry} {c : Nat} (hk : w.heap[k]? = some (.map es c)) : L.p.ownBlock ≠ some k := by
  intro e
  rcases h.pend.2 with ⟨q, _⟩ | ⟨r, cap, cur, q, _, hr, _⟩
  · rw [q] at e; cases e
  · rw [q] at e
    simp [Value.ownBlock] at e
    subst e
    rw [hr] at hk; cases hk
theorem SMap.block {w : World} {a n : Nat} {f : Secs} (h : SMap w a n f) : ∃ es c, w.heap[a]? = some (.map es c) := by
  obtain ⟨D, ⟨es, clock, hb, _⟩, _⟩ := h; exact ⟨es, clock, hb⟩
theorem DAt.pa {w : World} {g : Nat} {d : Dsk} {L : Loc} {N : Nat} (h : DAt w g d L N) : L.p.ownBlock ≠ some L.a := by
  obtain ⟨s, hs, _⟩ := h.sure
  obtain ⟨es, c, hb⟩ := hs.block; exact h.pm hb
theorem DAt.pb {w : World} {g : Nat} {d : Dsk} {L : Loc} {N : Nat} (h : DAt w g d L N) : L.p.ownBlock ≠ some L.b := by
  obtain ⟨es, c, hb⟩ := h.fresh.block; exact h.pm hb
theorem DAt.lt {w : World} {g : Nat} {d : Dsk} {L : Loc} {N : Nat} (h : DAt w g d L N) {k : Nat} (hk : foot g L k) : k < w.heap.size := by
  rcases hk with rfl | rfl | rfl | e | e
  · exact h.row.lt
  · obtain ⟨s, hs, _⟩ := h.sure; exact hs.lt
  · exact h.fresh.lt
  · exact (h.pend.lt k e).2
  · rcases h.fails with ⟨q, _⟩ | ⟨m, n, D, q, hD, _⟩
    · rw [q] at e; cases e
    · rw [q] at e; cases e; exact hD.lt
theorem ownsRow_kept {w w' : World} {base : Nat} {e : TypeId} {size : Nat} {v : Value} {n : Nat} {xs : List Value} (h : w.ownsRow base e size v n xs) (hk : ∀ k, v.ownBlock = some k → k < w.heap.size → w'.heap[k]? = w.heap[k]?) : w'.ownsRow base e size v n xs := by
  have hl := h.lt
  obtain ⟨h1, h2⟩ := h
  refine ⟨h1, ?_⟩
  rcases h2 with h2 | ⟨g, cap, cur, rfl, hb, hc, rest⟩
  · exact Or.inl h2
  · have := hl g (by simp [Value.ownBlock])
    exact Or.inr ⟨g, cap, cur, rfl, hb, (hk g (by simp [Value.ownBlock]) this.2).trans hc, rest⟩
theorem DAt.off {F : Nat → Prop} {w w' : World} {g : Nat} {d : Dsk} {L : Loc} {N : Nat} (h : DAt w g d L N) (ho : Off F w w') (hF : ∀ k, foot g L k → ¬ F k) : DAt w' g d L N :=
  { h with
    row := h.row.off ho (hF _ (Or.inl rfl))
    sure := by obtain ⟨s, hs, hle⟩ := h.sure; exact ⟨s, hs.off ho (hF _ (Or.inr (Or.inl rfl))), hle⟩
    fresh := h.fresh.off ho (hF _ (Or.inr (Or.inr (Or.inl rfl))))
    pend := ownsRow_kept h.pend fun k e hl => ho.block k hl (hF _ (Or.inr (Or.inr (Or.inr (Or.inl e)))))
    fails := h.fails.off ho fun m e => hF _ (Or.inr (Or.inr (Or.inr (Or.inr e)))) }
theorem DAt.below {w w' : World} {g : Nat} {d : Dsk} {L : Loc} {N : Nat} (h : DAt w g d L N) (hb : Below w.heap.size w w') : DAt w' g d L N :=
  h.off (F := fun _ => False) (Off.of_below hb) fun _ _ q => q
theorem DAt.drew {w : World} {g : Nat} {d : Dsk} {L : Loc} {N : Nat} (h : DAt w g d L N) : DAt w.drew g d L N := h.below (Below.refl _ _).drew
theorem DAt.alloc {w : World} {g : Nat} {d : Dsk} {L : Loc} {N : Nat} (h : DAt w g d L N) (o : Obj) : DAt (w.alloc o) g d L N := h.below ((Below.refl _ _).alloc (Nat.le_refl _) _)
theorem DAt.upd {w w' : World} {g : Nat} {d d' : Dsk} {L : Loc} {N : Nat} (h : DAt w g d L N) (ho : Off (· = g) w w') (hr : Row w' g (dcells d' L) 88) (h1 : d'.sure = d.sure) (h2 : d'.pend = d.pend) (h3 : d'.fails = d.fails) (h4 : d'.n = d.n) (h5 : 0 ≤ d'.ops) (h6 : Wf d'.fuse) : DAt w' g d' L N :=
  { h with
    row := hr
    sure := by obtain ⟨s, hs, hle⟩ := h.sure; exact ⟨s, by rw [h1]; exact hs.off ho h.ag, by rw [h2]; exact hle⟩
    fresh := by rw [h2]; exact h.fresh.off ho h.bg
    pend := by rw [h2]; exact ownsRow_kept h.pend fun k e hl => ho.block k hl (fun q => h.pg (q ▸ e))
    fails := by rw [h3]; exact h.fails.off ho fun m e q => h.fg (q ▸ e)
    okp := by rw [h2, h4]; exact h.okp
    small := by rw [h4]; exact h.small
    opsn := h5
    fusew := h6 }
theorem DAt.setOps {w : World} {g : Nat} {d : Dsk} {L : Loc} {N : Nat} (h : DAt w g d L N) (o : Int) (ho : 0 ≤ o) : DAt (w.setCell ⟨g, 5, none⟩ (.int .i64 o)) g { d with ops := o } L N :=
  h.upd (Off.of_setCell _ _ _ rfl) (row_set h.row 5 _) rfl rfl rfl rfl ho h.fusew
theorem DAt.setFuse {w : World} {g : Nat} {d : Dsk} {L : Loc} {N : Nat} (h : DAt w g d L N) (o : Int) (ho : Wf o) : DAt (w.setCell ⟨g, 6, none⟩ (.int .i64 o)) g { d with fuse := o } L N :=
  h.upd (Off.of_setCell _ _ _ rfl) (row_set h.row 6 _) rfl rfl rfl rfl h.opsn ho
theorem DAt.setDown {w : World} {g : Nat} {d : Dsk} {L : Loc} {N : Nat} (h : DAt w g d L N) (b : Bool) : DAt (w.setCell ⟨g, 4, none⟩ (.bool b)) g { d with down := b } L N :=
  h.upd (Off.of_setCell _ _ _ rfl) (row_set h.row 4 _) rfl rfl rfl rfl h.opsn h.fusew
def count (d : Dsk) : Int × Dsk :=
  if d.ops + 1 = d.fuse then (4, { d with ops := d.ops + 1, down := true }) else if d.fails (d.ops + 1) then (3, { d with ops := d.ops + 1 }) else (0, { d with ops := d.ops + 1 })
theorem size_any {w : World} {g : Nat} {d : Dsk} {L : Loc} {N : Nat} (h : DAt w g d L N) :
    Calls Try.prog 62 #[.pointer (some ⟨g, 0, none⟩)] w fun e w' => e = .returned (.int .i64 d.n) ∧ w' = w := by
  have c0 := row_at h.row 0 (.int .i64 d.n) rfl
  go_enter Try.func62, Try.ntmps62
  go_wp2
  go_ret
  exact ⟨rfl, rfl⟩
theorem down_any {w : World} {g : Nat} {d : Dsk} {L : Loc} {N : Nat} (h : DAt w g d L N) :
    Calls Try.prog 90 #[.pointer (some ⟨g, 0, none⟩)] w fun e w' => e = .returned (.bool d.down) ∧ w' = w := by
  have c0 := row_at h.row 4 (.bool d.down) rfl
  go_enter Try.func90, Try.ntmps90
  go_wp2
  go_ret
  exact ⟨rfl, rfl⟩
theorem has_any {w : World} {g : Nat} {d : Dsk} {L : Loc} {N : Nat} (h : DAt w g d L N) (b : Int) :
    Calls Try.prog 40 #[.pointer (some ⟨g, 0, none⟩), .int .i64 b] w fun e w' => e = .returned (.bool (decide (0 ≤ b ∧ b < d.n))) ∧ w' = w := by
  by_cases h0 : 0 ≤ b
  · have e : decide (0 ≤ b ∧ b < (d.n : Int)) = decide (b < (d.n : Int)) := by simp [h0]
    rw [e]
    go_enter Try.func40, Try.ntmps40
    go_wp2_with (go_at_call 62; refine (size_any h).mono ?_; rintro e w' ⟨rfl, rfl⟩)
    go_ret
    exact ⟨rfl, rfl⟩
  · have e : decide (0 ≤ b ∧ b < (d.n : Int)) = false := by simp [h0]
    rw [e]
    go_enter Try.func40, Try.ntmps40
    go_wp2
    go_ret
    exact ⟨rfl, rfl⟩
theorem count_walk1 (w : World) (g : Nat) (q o : Int) (ho : q < 9223372036854775806) (h0 : 0 ≤ q) (HO : Hid (q + 1 = o))
    (c5 : w.cell? ⟨g, 5, none⟩ = some (.int .i64 q)) (f5 : w.frozen? ⟨g, 5, none⟩ = false) (w1 : World) (e1 : w.setCell ⟨g, 5, none⟩ (.int .i64 o) = w1)
    (c5' : w1.cell? ⟨g, 5, none⟩ = some (.int .i64 o)) (c6' : w1.cell? ⟨g, 6, none⟩ = some (.int .i64 o)) (dn : Bool) (c4' : w1.cell? ⟨g, 4, none⟩ = some (.bool dn)) (f4' : w1.frozen? ⟨g, 4, none⟩ = false) :
    Calls Try.prog 91 #[.pointer (some ⟨g, 0, none⟩)] w fun e w' => e = .returned (.int .i64 4) ∧ w' = (w1.drew).setCell ⟨g, 4, none⟩ (.bool true) := by
  have hw' : IntKind.i64.wrap (q + 1) = o := by rw [IntKind.wrap_i64, ← HO.out]; omega
  go_enter Try.func91, Try.ntmps91
  go_wp2
  go_region
  go_wp2
  go_ret
  exact ⟨rfl, rfl⟩
theorem count_walk2 (w : World) (g : Nat) (q o : Int) (ho : q < 9223372036854775806) (h0 : 0 ≤ q) (HO : Hid (q + 1 = o))
    (c5 : w.cell? ⟨g, 5, none⟩ = some (.int .i64 q)) (f5 : w.frozen? ⟨g, 5, none⟩ = false) (w1 : World) (e1 : w.setCell ⟨g, 5, none⟩ (.int .i64 o) = w1)
    (c5' : w1.cell? ⟨g, 5, none⟩ = some (.int .i64 o)) (fu : Int) (hf : ¬ o = fu) (c6' : w1.cell? ⟨g, 6, none⟩ = some (.int .i64 fu)) (fb : Bool) (lf : Value) (c7' : w1.cell? ⟨g, 7, none⟩ = some lf)
    (hg : g < w1.heap.size) (hlk : ∀ w', Below w1.heap.size w1 w' → (Instr.lookup 86 lf (.int .i64 o) true).run Try.prog w' = .ok (.tuple #[.agg #[], .bool fb]) w') :
    Calls Try.prog 91 #[.pointer (some ⟨g, 0, none⟩)] w fun e w' => e = .returned (.int .i64 (if fb then 3 else 0)) ∧ Below w1.heap.size w1 w' := by
  have hw' : IntKind.i64.wrap (q + 1) = o := by rw [IntKind.wrap_i64, ← HO.out]; omega
  have hz := zero132
  go_enter Try.func91, Try.ntmps91
  go_wp2
  go_region
  go_wp2
  refine wp_region_held_drew (S := Below w1.heap.size w1) (by kernel_rfl) ((Below.refl _ _).drew.drew) fun hS => ?_
  refine tkI (i := 0) (v := .pointer (some ⟨g, 0, none⟩)) rfl (Or.inl ⟨by rfl, fun w _ => by rfl⟩) hS ?_
  try simp only [Act.put, nz]
  refine tkI (i := 1) (v := .pointer (some ⟨g, 0, none⟩)) rfl (Or.inl ⟨by rfl, fun w _ => by go_simp⟩) hS ?_
  try simp only [Act.put, nz]
  refine tkI (i := 2) (v := .pointer (some ⟨g, 7, none⟩)) rfl (Or.inl ⟨by rfl, fun w _ => by go_simp⟩) hS ?_
  try simp only [Act.put, nz]
  refine tkI (i := 3) (v := lf) rfl (Or.inl ⟨by rfl, fun w h => by have c := (show w.cell? ⟨g, 7, none⟩ = some (lf) from (h.cell (by simp; exact hg)).trans c7'); go_simp⟩) hS ?_
  try simp only [Act.put, nz]
  refine tkI (i := 4) (v := .pointer (some ⟨g, 0, none⟩)) rfl (Or.inl ⟨by rfl, fun w _ => by rfl⟩) hS ?_
  try simp only [Act.put, nz]
  refine tkI (i := 5) (v := .pointer (some ⟨g, 0, none⟩)) rfl (Or.inl ⟨by rfl, fun w _ => by go_simp⟩) hS ?_
  try simp only [Act.put, nz]
  refine tkI (i := 6) (v := .pointer (some ⟨g, 5, none⟩)) rfl (Or.inl ⟨by rfl, fun w _ => by go_simp⟩) hS ?_
  try simp only [Act.put, nz]
  refine tkI (i := 7) (v := .int .i64 o) rfl (Or.inl ⟨by rfl, fun w h => by have c := (show w.cell? ⟨g, 5, none⟩ = some (.int .i64 o) from (h.cell (by simp; exact hg)).trans c5'); go_simp⟩) hS ?_
  try simp only [Act.put, nz]
  refine tkI (i := 8) (v := .tuple #[.agg #[], .bool fb]) rfl (Or.inl ⟨by rfl, fun w h => by have c := hlk w h; go_simp⟩) hS ?_
  try simp only [Act.put, nz]
  refine tkI (i := 9) (v := .tuple #[.agg #[], .bool fb]) rfl (Or.inl ⟨by rfl, fun w _ => by rfl⟩) hS ?_
  try simp only [Act.put, nz]
  refine tkI (i := 10) (v := .agg #[]) rfl (Or.inl ⟨by rfl, fun w _ => by go_simp⟩) hS ?_
  try simp only [Act.put, nz]
  refine tkI (i := 11) (v := .bool fb) rfl (Or.inl ⟨by rfl, fun w _ => by go_simp⟩) hS ?_
  try simp only [Act.put, nz]
  refine wpAnyH_ready (rs := [12]) (by kernel_rfl) (by simp) ?_
  refine AllReadyH.cons rfl (fun K hK => ?_) AllReadyH.nil
  go_simp
  refine hK.out _ _ (hS.alloc hS.size _) fun hS => ?_
  try simp only [Act.put, nz]
  refine wpAnyH_ready (rs := [13]) (by kernel_rfl) (by simp) ?_
  refine AllReadyH.cons rfl (fun K hK => ?_) AllReadyH.nil
  go_simp
  refine hK.out _ _ hS fun hS => ?_
  try simp only [Act.put, nz]
  refine tkI (i := 14) (v := .bool fb) rfl (Or.inl ⟨by rfl, fun w _ => by rfl⟩) hS ?_
  try simp only [Act.put, nz]
  refine wpAnyH_done (by kernel_rfl) ?_ _
  cases fb with
  | true => go_wp2; go_ret; exact ⟨rfl, hS⟩
  | false => go_wp2; go_ret; exact ⟨rfl, hS⟩
theorem DAt.glt {w : World} {g : Nat} {d : Dsk} {L : Loc} {N : Nat} (h : DAt w g d L N) : g < w.heap.size := h.row.lt
theorem count_any {w : World} {g : Nat} {d : Dsk} {L : Loc} {N : Nat} (h : DAt w g d L N) (ho : d.ops < 9223372036854775806) :
    Calls Try.prog 91 #[.pointer (some ⟨g, 0, none⟩)] w fun e w' => e = .returned (.int .i64 (count d).1) ∧ DAt w' g (count d).2 L N ∧ Off (· = g) w w' := by
  have h0 := h.opsn
  have h1 := h.setOps (d.ops + 1) (by omega)
  have o1 : Off (· = g) w (w.setCell ⟨g, 5, none⟩ (.int .i64 (d.ops + 1))) := Off.of_setCell _ _ _ rfl
  have c5 := row_at h.row 5 (.int .i64 d.ops) rfl
  have f5 := row_frozen h.row 5
  have c5' := row_at h1.row 5 (.int .i64 (d.ops + 1)) rfl
  have c6' := row_at h1.row 6 (.int .i64 d.fuse) rfl
  have c4' := row_at h1.row 4 (.bool d.down) rfl
  have c7' := row_at h1.row 7 L.f rfl
  have f4' := row_frozen h1.row 4
  by_cases hf : d.ops + 1 = d.fuse
  · rw [← hf] at c6'
    have hc : count d = (4, { d with ops := d.ops + 1, down := true }) := by unfold count; rw [if_pos hf]
    refine (count_walk1 w g d.ops (d.ops + 1) ho h0 rfl c5 f5 _ rfl c5' c6' d.down c4' f4').mono ?_
    rintro e w' ⟨rfl, rfl⟩
    rw [hc]
    exact ⟨rfl, h1.drew.setDown true, o1.drew.trans (Off.of_setCell (F := (· = g)) _ _ _ rfl) (fun j hj => Or.inl hj)⟩
  · have hlk : ∀ w', Below (w.setCell ⟨g, 5, none⟩ (.int .i64 (d.ops + 1))).heap.size (w.setCell ⟨g, 5, none⟩ (.int .i64 (d.ops + 1))) w' → (Instr.lookup 86 L.f (.int .i64 (d.ops + 1)) true).run Try.prog w' = .ok (.tuple #[.agg #[], .bool (d.fails (d.ops + 1))]) w' :=
      fun w' hb => (h1.below hb).fails.look (wf_of (by omega) (by omega))
    refine (count_walk2 w g d.ops (d.ops + 1) ho h0 rfl c5 f5 _ rfl c5' d.fuse hf c6' (d.fails (d.ops + 1)) L.f c7' h1.glt hlk).mono ?_
    rintro e w' ⟨rfl, hb⟩
    have o2 : Off (· = g) w w' := o1.trans (Off.of_below (F := (· = g)) hb) (fun j hj => Or.inl hj)
    unfold count
    rw [if_neg hf]
    cases hfl : d.fails (d.ops + 1) with
    | true => exact ⟨rfl, h1.below hb, o2⟩
    | false => exact ⟨rfl, h1.below hb, o2⟩
def ask (d : Dsk) (b : Int) : Int × Dsk := if d.down then (4, d) else if 0 ≤ b ∧ b < d.n then count d else (1, d)
theorem ask_any {w : World} {g : Nat} {d : Dsk} {L : Loc} {N : Nat} (h : DAt w g d L N) (ho : d.ops < 9223372036854775806) (b : Int) :
    Calls Try.prog 64 #[.pointer (some ⟨g, 0, none⟩), .int .i64 b] w fun e w' => e = .returned (.int .i64 (ask d b).1) ∧ DAt w' g (ask d b).2 L N ∧ Off (· = g) w w' := by
  have r0 := Off.refl (· = g) w
  by_cases hd : d.down = true
  · have e : ask d b = (4, d) := by unfold ask; rw [if_pos hd]
    rw [e]
    go_enter Try.func64, Try.ntmps64
    go_wp2_with (go_at_call 90; refine (down_any h).mono ?_; rw [hd]; rintro e w' ⟨rfl, rfl⟩)
    go_ret
    exact ⟨rfl, h, r0⟩
  · have hd' : d.down = false := by simpa using hd
    by_cases hb : 0 ≤ b ∧ b < (d.n : Int)
    · have e : ask d b = count d := by unfold ask; rw [if_neg hd, if_pos hb]
      rw [e]
      have hc := count_any h ho
      generalize count d = c at hc ⊢
      have hb' : decide (0 ≤ b ∧ b < (d.n : Int)) = true := decide_eq_true hb
      clear hb
      go_enter Try.func64, Try.ntmps64
      go_wp2_with (first
        | (go_at_call 90; refine (down_any h).mono ?_; rw [hd']; rintro e w' ⟨rfl, rfl⟩)
        | (go_at_call 40; refine (has_any h b).mono ?_; rw [hb']; rintro e w' ⟨rfl, rfl⟩)
        | (go_at_call 91; refine hc.mono ?_; rintro e w' ⟨rfl, hD, hO⟩))
      go_ret
      exact ⟨rfl, hD, hO⟩
    · have e : ask d b = (1, d) := by unfold ask; rw [if_neg hd, if_neg hb]
      rw [e]
      have hb' : decide (0 ≤ b ∧ b < (d.n : Int)) = false := decide_eq_false hb
      clear hb
      go_enter Try.func64, Try.ntmps64
      go_wp2_with (first
        | (go_at_call 90; refine (down_any h).mono ?_; rw [hd']; rintro e w' ⟨rfl, rfl⟩)
        | (go_at_call 40; refine (has_any h b).mono ?_; rw [hb']; rintro e w' ⟨rfl, rfl⟩))
      go_ret
      exact ⟨rfl, h, r0⟩
end Go.Proofs.Ytehogiondcpbcaa
