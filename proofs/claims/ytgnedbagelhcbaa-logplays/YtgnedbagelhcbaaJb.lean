/-
  Proved here: seal.Cut of a block of 256 bytes is its sector or noughts, and seal.Lay is the block with another sector or as it was. Plain facts on maps whose keys are arrays of two numbers and whose elements are arrays of 64 bytes: what such a map holds, key by key; made, asked, stored into. A disk as the document tells it, and as it lies in memory: its fields, the two maps of sectors, the writes that are pending, the set of operations that fail; what its small calls do. Proved here: what disk.count, askBlock, Pending and forget do with a disk. Proved here: what disk.Sure and disk.Seen tell of a block. Plain facts on blocks and their four sectors, and on writes that lie over what was there. Proved here: what disk.Seen tells of a block: all writes over what lasts. Proved here: what disk.Read answers and leaves, what Sure and Seen tell of no block, and all of these of a disk that is not there.
-/
import Derived.Test.YtgnedbagelhcbaaText
import Derived.Maps.RangeWalk
import Derived.Maps.Ext
import Derived.Maps.OwnOps
import Derived.DeepKeys4
namespace Go.Proofs.Ytgnedbagelhcbaa
open Go.ChangeShapes Go.WideShapes Go.ChangeAt Go.RowKit
set_option linter.unusedVariables false
set_option linter.unusedSimpArgs false
set_option maxRecDepth 20000
theorem within_any (i : Int) (w : World) :
    Calls Try.prog 77 #[.int .i64 i] w fun e w' => e = .returned (.bool (decide (0 ≤ i ∧ i < 4))) ∧ w' = w := by
  by_cases h : 0 ≤ i
  · by_cases h' : i < 4
    · go_enter Try.func77, Try.ntmps77
      go_wp2
      go_ret
      exact ⟨by simp [h, h'], rfl⟩
    · go_enter Try.func77, Try.ntmps77
      go_wp2
      go_ret
      exact ⟨by simp [h, h'], rfl⟩
  · have e : decide (0 ≤ i ∧ i < 4) = false := by simp [h]
    rw [e]
    go_enter Try.func77, Try.ntmps77
    go_wp2
    go_ret
    exact ⟨rfl, rfl⟩
def cut (b : List Int) (i : Nat) : List Int := (b.drop (64 * i)).take 64
theorem cut_length (b : List Int) (i : Nat) (hb : b.length = 256) (hi : i < 4) : (cut b i).length = 64 := by simp [cut]; omega
def lay (b : List Int) (i : Nat) (s : List Int) : List Int := splice b (64 * i) s
theorem lay_length (b : List Int) (i : Nat) (s : List Int) (hb : b.length = 256) (hs : s.length = 64) (hi : i < 4) : (lay b i s).length = 256 := by
  unfold lay; rw [length_splice _ _ _ (by omega)]; exact hb
theorem splice_whole (l m : List Int) (h : l.length = m.length) : splice l 0 m = m := by simp [splice, h]
theorem cut_is (b : List Int) (i so : Nat) (hb : b.length = 256) (hi : i < 4) (hs : so = 64 * i) : splice (zs 64) 0 ((b.drop so).take 64) = cut b i := by
  subst hs
  rw [splice_whole _ _ (by simp [zs]; omega)]; rfl
theorem cut_in (b : List Int) (hb : b.length = 256) (i : Nat) (hi : i < 4) (w : World) :
    Calls Try.prog 57 #[.agg (bs b), .int .i64 i] w fun e w' => e = .returned (.agg (bs (cut b i))) ∧ Below w.heap.size w w' := by
  have hz := zero114
  have hl := cut_length b i hb hi
  have hc := fun so => cut_is b i so hb hi
  generalize cut b i = S at hl hc ⊢
  have HC : Hid (∀ so, so = 64 * i → splice (zs 64) 0 ((b.drop so).take 64) = S) := hc
  clear hc
  have hi' : i = 0 ∨ i = 1 ∨ i = 2 ∨ i = 3 := by omega
  have e0 : IntKind.i64.wrap 0 = 0 := by decide
  have e1 : IntKind.i64.wrap 64 = 64 := by decide
  have e2 : IntKind.i64.wrap 128 = 128 := by decide
  have e3 : IntKind.i64.wrap 192 = 192 := by decide
  rcases hi' with hi0 | hi0 | hi0 | hi0
  all_goals
    go_enter Try.func57, Try.ntmps57
    go_wp2_with (go_at_call 77; refine (within_any _ _).mono ?_; (try simp only [Int.cast_ofNat_Int, Int.reduceLE, Int.reduceLT]); rintro e w' ⟨rfl, rfl⟩)
    obtain ⟨w1, hw1⟩ : ∃ w1, w1 = (((w.alloc (Obj.cells (bs b) 56)).alloc (Obj.cells (bs (zs 64)) 114)).alloc (Obj.cells (bs (zs 64)) 114)) := ⟨_, rfl⟩
    have r0 : Row w1 w.heap.size (bs b) 56 := by rw [hw1]; exact ((Row.new _ _ _).alloc _).alloc _
    have r1 : Row w1 (w.heap.size + 1) (bs (zs 64)) 114 := by rw [hw1]; have := (Row.new (w.alloc (Obj.cells (bs b) 56)) (bs (zs 64)) 114).alloc (Obj.cells (bs (zs 64)) 114); simpa using this
    have r2 : Row w1 (w.heap.size + 1 + 1) (bs (zs 64)) 114 := by rw [hw1]; have := (Row.new ((w.alloc (Obj.cells (bs b) 56)).alloc (Obj.cells (bs (zs 64)) 114)) (bs (zs 64)) 114); simpa using this
    have hb1 : Below w.heap.size w w1 := by rw [hw1]; exact ((((Below.refl _ _).alloc (Nat.le_refl _) _).alloc (by simp) _).alloc (by simp; omega) _)
    rw [← hw1]
    clear hw1
    have hA : 0 + 64 ≤ (zs 64).length := by rw [zs_length]; decide
    go_region_law (refine step_copy rfl (.tmp 8) (.tmp 11) 72 72 rfl 5 Try.underlying72 size5 (w.heap.size + 1 + 1) 0 64 64 w.heap.size _ _ _ rfl rfl (zs 64) b 114 56 r2 r0 64 rfl hA (by omega) S (HC.out _ (by omega)) ?_)
    have r2' : Row (w1.drew.setRow (w.heap.size + 1 + 1) (bs S)) (w.heap.size + 1 + 1) (bs S) 114 := r2.set (bs S)
    have r1' : Row (w1.drew.setRow (w.heap.size + 1 + 1) (bs S)) (w.heap.size + 1) (bs (zs 64)) 114 := r1.other (show w.heap.size + 1 ≠ w.heap.size + 1 + 1 by omega) (bs S)
    have hb2 : Below w.heap.size w (w1.drew.setRow (w.heap.size + 1 + 1) (bs S)) := below_setRow hb1.drew (by omega) _
    clear r0 r1 r2 hb1
    generalize w1.drew.setRow (w.heap.size + 1 + 1) (bs S) = w2 at r1' r2' hb2 ⊢
    go_wp2_with (first
      | (refine load_row rfl 114 (.tmp 5) rfl (w.heap.size + 1 + 1) rfl 114 (bs S) r2' 64 5 Try.underlying114 size114 (by rw [bs_size, hl]) ?_)
      | (refine store_row rfl 114 (.tmp 4) (.tmp 13) rfl (w.heap.size + 1) S rfl rfl 114 _ r1' 64 size114 (by rw [bs_size, zs_length]) hl ?_))
    refine bodyPost_ret (v := .agg (bs S)) ?_ rfl ⟨rfl, below_setRow hb2 (by omega) _⟩
    exact ret_row (fn := Try.f57) rfl _ _ (w.heap.size + 1) 114 (bs S) 64 5 rfl (r1'.set _) Try.underlying114 size114 (by rw [bs_size, hl])
theorem lay_is (b : List Int) (i so : Nat) (s : List Int) (hs : s.length = 64) (ho : so = 64 * i) : splice b so ((s.drop 0).take 64) = lay b i s := by
  subst ho
  rw [List.drop_zero, List.take_of_length_le (by omega)]; rfl
theorem lay_in (b s : List Int) (hb : b.length = 256) (hs : s.length = 64) (i : Nat) (hi : i < 4) (w : World) :
    Calls Try.prog 54 #[.agg (bs b), .int .i64 i, .agg (bs s)] w fun e w' => e = .returned (.agg (bs (lay b i s))) ∧ Below w.heap.size w w' := by
  have hz := zero56
  have hl := lay_length b i s hb hs hi
  have hc := fun so => lay_is b i so s hs
  generalize lay b i s = S at hl hc ⊢
  have HC : Hid (∀ so, so = 64 * i → splice b so ((s.drop 0).take 64) = S) := hc
  clear hc
  have hi' : i = 0 ∨ i = 1 ∨ i = 2 ∨ i = 3 := by omega
  have e0 : IntKind.i64.wrap 0 = 0 := by decide
  have e1 : IntKind.i64.wrap 64 = 64 := by decide
  have e2 : IntKind.i64.wrap 128 = 128 := by decide
  have e3 : IntKind.i64.wrap 192 = 192 := by decide
  rcases hi' with hi0 | hi0 | hi0 | hi0
  all_goals
    go_enter Try.func54, Try.ntmps54
    go_wp2_with (go_at_call 77; refine (within_any _ _).mono ?_; (try simp only [Int.cast_ofNat_Int, Int.reduceLE, Int.reduceLT]); rintro e w' ⟨rfl, rfl⟩)
    obtain ⟨w1, hw1⟩ : ∃ w1, w1 = (((w.alloc (Obj.cells (bs b) 56)).alloc (Obj.cells (bs s) 114)).alloc (Obj.cells (bs (zs 256)) 56)) := ⟨_, rfl⟩
    have r0 : Row w1 w.heap.size (bs b) 56 := by rw [hw1]; exact ((Row.new _ _ _).alloc _).alloc _
    have r1 : Row w1 (w.heap.size + 1) (bs s) 114 := by rw [hw1]; have := (Row.new (w.alloc (Obj.cells (bs b) 56)) (bs s) 114).alloc (Obj.cells (bs (zs 256)) 56); simpa using this
    have r2 : Row w1 (w.heap.size + 1 + 1) (bs (zs 256)) 56 := by rw [hw1]; have := (Row.new ((w.alloc (Obj.cells (bs b) 56)).alloc (Obj.cells (bs s) 114)) (bs (zs 256)) 56); simpa using this
    have hb1 : Below w.heap.size w w1 := by rw [hw1]; exact ((((Below.refl _ _).alloc (Nat.le_refl _) _).alloc (by simp) _).alloc (by simp; omega) _)
    rw [← hw1]
    clear hw1
    go_region_law (refine step_copy rfl (.tmp 11) (.tmp 12) 72 72 rfl 5 Try.underlying72 size5 w.heap.size _ _ _ (w.heap.size + 1) 0 64 64 rfl rfl b s 56 114 r0 r1 64 rfl (by omega) (by omega) S (HC.out _ (by omega)) ?_)
    all_goals
      have r2' : Row (w1.drew.setRow w.heap.size (bs S)) (w.heap.size + 1 + 1) (bs (zs 256)) 56 := r2.other (show w.heap.size + 1 + 1 ≠ w.heap.size by omega) (bs S)
      have r0' : Row (w1.drew.setRow w.heap.size (bs S)) w.heap.size (bs S) 56 := r0.set (bs S)
      have hb2 : Below w.heap.size w (w1.drew.setRow w.heap.size (bs S)) := below_setRow hb1.drew (by omega) _
      clear r0 r1 r2 hb1
      generalize w1.drew.setRow w.heap.size (bs S) = w2 at r0' r2' hb2 ⊢
      go_wp2_with (first
        | (refine load_row rfl 56 (.tmp 3) rfl w.heap.size rfl 56 (bs S) r0' 256 5 Try.underlying56 size56 (by rw [bs_size, hl]) ?_)
        | (refine store_row rfl 56 (.tmp 6) (.tmp 14) rfl (w.heap.size + 1 + 1) S rfl rfl 56 _ r2' 256 size56 (by rw [bs_size, zs_length]) hl ?_))
      refine bodyPost_ret (v := .agg (bs S)) ?_ rfl ⟨rfl, below_setRow hb2 (by omega) _⟩
      exact ret_row (fn := Try.f54) rfl _ _ (w.heap.size + 1 + 1) 56 (bs S) 256 5 rfl (r2'.set _) Try.underlying56 size56 (by rw [bs_size, hl])
end Go.Proofs.Ytgnedbagelhcbaa
namespace Go.Proofs.Ytgnedbagelhcbaa
open Go.ChangeShapes Go.WideShapes Go.ChangeAt Go.RowKit
set_option linter.unusedVariables false
set_option linter.unusedSimpArgs false
set_option maxRecDepth 20000
theorem laidD : laidOutB Try.prog = true := by kernel_rfl
theorem law117 : Maps.Keyed Try.prog 117 := Maps.Keyed.of_law (deep_law_laid (P := Try.prog) laidD (m := 5) (by decide) (k := 117) (by decide +kernel) (by kernel_rfl) (by kernel_rfl))
theorem law3 : Maps.Keyed Try.prog 3 := Maps.int_keyed Try.underlying3
theorem keyType117 : Try.prog.keyType 117 = true := by kernel_rfl
theorem cells117 : Try.prog.cellsOf 117 = 2 := by kernel_rfl
theorem cells3 : Try.prog.cellsOf 3 = 1 := by kernel_rfl
theorem types_some : 0 < Try.prog.types.size := by decide +kernel
theorem types_pos : ∃ m, Try.prog.types.size = m + 1 := ⟨Try.prog.types.size - 1, by have := types_some; omega⟩
def pk (b s : Int) : Value := .agg #[.int .i64 b, .int .i64 s]
def kl (b s : Int) : Lit := .string (keyBytes [.int .i64 b, .int .i64 s])
def Wf (b : Int) : Prop := (Lit.int .i64 b).wf = true
theorem key_mk {b s : Int} (hb : Wf b) (hs : Wf s) : keyOf Try.prog 117 (pk b s) = some (kl b s) := by
  obtain ⟨m, hm⟩ := types_pos
  have hb' : (Lit.int .i64 b).wf = true := hb
  have hs' : (Lit.int .i64 s).wf = true := hs
  simp only [keyOf, pk, kl, Try.underlying117, keyType117, Value.formed, cells117, hm, Program.keyLits, Value.cells, cells3]
  simp [List.range_succ, List.mapM_cons, Program.keyLits, Try.underlying3, hb', hs', cells3]
theorem key_inv {v : Value} {l : Lit} (h : keyOf Try.prog 117 v = some l) : ∃ b s, v = pk b s ∧ Wf b ∧ Wf s ∧ l = kl b s := by
  obtain ⟨m, hm⟩ := types_pos
  cases v with
  | agg cs =>
    simp only [keyOf, Try.underlying117, keyType117, Value.formed, cells117, hm, Program.keyLits, Value.cells, cells3] at h
    obtain ⟨cs⟩ := cs
    by_cases hc : cs.length = 2
    · match cs, hc with
      | [x, y], _ =>
        simp [List.range_succ, List.mapM_cons, Program.keyLits, Try.underlying3, cells3] at h
        cases x with
        | int q n =>
          by_cases hx : q = .i64 ∧ (Lit.int .i64 n).wf = true
          · cases y with
            | int q' n' =>
              by_cases hy : q' = .i64 ∧ (Lit.int .i64 n').wf = true
              · obtain ⟨rfl, hx⟩ := hx
                obtain ⟨rfl, hy⟩ := hy
                simp [hx, hy] at h
                exact ⟨n, n', rfl, hx, hy, h.symm⟩
              · simp [hx, hy] at h
            | _ => simp [hx] at h
          · simp [hx] at h
        | _ => simp at h
    · simp [hc] at h
  | _ => simp [keyOf, Try.underlying117, Value.formed] at h
theorem kl_inj {b s b' s' : Int} (hb : Wf b) (hs : Wf s) (hb' : Wf b') (hs' : Wf s') (h : kl b s = kl b' s') : b = b' ∧ s = s' := by
  have := law117.inj (key_mk hb hs) (by rw [h]; exact key_mk hb' hs')
  simp [pk] at this
  exact this
def byteOf? : Value → Option Int
  | .int .u8 x => if 0 ≤ x ∧ x ≤ 255 then some x else none
  | _ => none
def secOf (v : Value) : Option (List Int) :=
  match v with
  | .agg cs => if cs.size = 64 then cs.toList.mapM byteOf? else none
  | _ => none
def secR (v : Value) : Option (DataW (List Int) × List MemPlace) := (secOf v).map fun xs => (.held xs, [])
def Sec (xs : List Int) : Prop := xs.length = 64 ∧ Bytes xs
theorem bytes_mapM : ∀ (xs : List Int), Bytes xs → (xs.map (Value.int .u8)).mapM byteOf? = some xs
  | [], _ => rfl
  | x :: r, h => by
    have hx := h x (by simp)
    have ih := bytes_mapM r (fun y hy => h y (by simp [hy]))
    rw [List.map_cons, List.mapM_cons, ih]
    simp [byteOf?, hx.1, hx.2]
theorem mapM_bytes : ∀ (cs : List Value) (xs : List Int), cs.mapM byteOf? = some xs → cs = xs.map (Value.int .u8) ∧ Bytes xs
  | [], xs, h => by simp at h; subst h; exact ⟨rfl, fun y hy => nomatch hy⟩
  | c :: r, xs, h => by
    rw [List.mapM_cons] at h
    cases hc : byteOf? c with
    | none => simp [hc] at h
    | some x =>
      cases hr : r.mapM byteOf? with
      | none => simp [hc, hr] at h
      | some ys =>
        simp [hc, hr] at h
        subst h
        obtain ⟨e, hb⟩ := mapM_bytes r ys hr
        have hx : c = .int .u8 x ∧ 0 ≤ x ∧ x ≤ 255 := by
          unfold byteOf? at hc
          split at hc
          · split at hc
            · rename_i h1
              cases hc; exact ⟨rfl, h1⟩
            · cases hc
          · cases hc
        refine ⟨by rw [hx.1, e]; rfl, fun y hy => ?_⟩
        rcases List.mem_cons.1 hy with rfl | hy
        · exact hx.2
        · exact hb y hy
theorem secR_mk {xs : List Int} (h : Sec xs) : secR (.agg (bs xs)) = some (.held xs, []) := by
  have : secOf (.agg (bs xs)) = some xs := by
    unfold secOf
    simp only [bs_size, h.1]
    exact bytes_mapM xs h.2
  unfold secR; rw [this]; rfl
theorem secR_inv {v : Value} {y : DataW (List Int) × List MemPlace} (h : secR v = some y) : ∃ xs, Sec xs ∧ v = .agg (bs xs) ∧ y = (.held xs, []) := by
  unfold secR at h
  cases hs : secOf v with
  | none => simp [hs] at h
  | some xs =>
    simp [hs] at h
    unfold secOf at hs
    split at hs
    · split at hs
      · rename_i cs hc
        obtain ⟨e, hb⟩ := mapM_bytes _ _ hs
        refine ⟨xs, ⟨?_, hb⟩, ?_, h.symm⟩
        · have := congrArg List.length e; simp at this; omega
        · unfold bs; rw [← e]
      · cases hs
    · cases hs
abbrev Secs := Int → Int → Option (List Int)
def SMap (w : World) (a n : Nat) (f : Secs) : Prop :=
  ∃ D, w.ownsMap Try.prog 117 secR a n D ∧ ∀ b s, Wf b → Wf s → (f b s = none → Maps.has D (kl b s) = false) ∧ ∀ xs, f b s = some xs → Sec xs ∧ ∀ z, D.atKey (kl b s) z = .held xs
theorem kl_key {b s : Int} (hb : Wf b) (hs : Wf s) : WideAt.IsKeyLit (kl b s) := law117.key (key_mk hb hs)
theorem SMap.lt {w : World} {a n : Nat} {f : Secs} (h : SMap w a n f) : a < w.heap.size := by
  obtain ⟨D, hD, _⟩ := h; exact hD.lt
theorem SMap.kept {w w' : World} {a n : Nat} {f : Secs} (h : SMap w a n f) (e : w'.heap[a]? = w.heap[a]?) : SMap w' a n f := by
  obtain ⟨D, ⟨es, clock, hb, F, hs, hD⟩, h⟩ := h
  exact ⟨D, ⟨es, clock, e.trans hb, F, hs, hD⟩, h⟩
theorem SMap.mono {w : World} {a n m : Nat} {f : Secs} (h : SMap w a n f) (hm : n ≤ m) : SMap w a m f := by
  obtain ⟨D, hD, h⟩ := h; exact ⟨D, hD.mono hm, h⟩
theorem SMap.made (w : World) : SMap (w.alloc (.map #[] 0)) w.heap.size 0 (fun _ _ => none) :=
  ⟨_, World.ownsMap_made w _ _ _, fun b s _ _ => ⟨fun _ => rfl, fun xs h => by cases h⟩⟩
def Secs.put (f : Secs) (b s : Int) (xs : List Int) : Secs := fun b' s' => if b' = b ∧ s' = s then some xs else f b' s'
theorem SMap.put {w w' : World} {a n m : Nat} {f : Secs} {D : DataW (List Int)} (h : ∀ b s, Wf b → Wf s → (f b s = none → Maps.has D (kl b s) = false) ∧ ∀ xs, f b s = some xs → Sec xs ∧ ∀ z, D.atKey (kl b s) z = .held xs)
    (hm : Maps.IsMap D) {b s : Int} (hb : Wf b) (hs : Wf s) {xs : List Int} (hx : Sec xs) (h' : w'.ownsMap Try.prog 117 secR a m (D.put (kl b s) (.held xs))) : SMap w' a m (f.put b s xs) := by
  refine ⟨_, h', fun b' s' hb' hs' => ?_⟩
  unfold Secs.put
  by_cases e : b' = b ∧ s' = s
  · obtain ⟨rfl, rfl⟩ := e
    rw [if_pos ⟨rfl, rfl⟩]
    exact ⟨fun q => (by cases q), fun ys q => (by cases q; exact ⟨hx, fun z => Maps.atKey_put_same hm (kl_key hb hs) _ z⟩)⟩
  · rw [if_neg e]
    have hne : kl b' s' ≠ kl b s := fun q => e (kl_inj hb' hs' hb hs q)
    refine ⟨fun q => ?_, fun ys q => ?_⟩
    · rw [Maps.has_put_other hne]; exact (h b' s' hb' hs').1 q
    · obtain ⟨h1, h2⟩ := (h b' s' hb' hs').2 ys q
      exact ⟨h1, fun z => by rw [Maps.atKey_put_other hne]; exact h2 z⟩
theorem SMap.sec {w : World} {a n : Nat} {f : Secs} (h : SMap w a n f) {b s : Int} (hb : Wf b) (hs : Wf s) {xs : List Int} (e : f b s = some xs) : Sec xs := by
  obtain ⟨D, _, h⟩ := h; exact ((h b s hb hs).2 xs e).1
theorem zs_sec : Sec (zs 64) := ⟨zs_length 64, by intro y hy; unfold zs at hy; obtain ⟨_, rfl⟩ := List.mem_replicate.1 hy; omega⟩
def Secs.get (f : Secs) (b s : Int) : List Int := (f b s).getD (zs 64)
theorem SMap.look {w : World} {a n : Nat} {f : Secs} (h : SMap w a n f) {b s : Int} (hb : Wf b) (hs : Wf s) :
    (Instr.lookup 91 (.map (some a)) (pk b s) false).run Try.prog w = .ok (.agg (bs (f.get b s))) w := by
  obtain ⟨D, hD, h⟩ := h
  obtain ⟨v, ps, hrun, hv⟩ := hD.lookup law117 Try.underlying91 (zero114 w) (secR_mk zs_sec) (key_mk hb hs)
  obtain ⟨xs, hx, rfl, hy⟩ := secR_inv hv
  rw [hrun]
  unfold Secs.get
  cases hf : f b s with
  | none =>
    rw [Maps.atKey_of_not_has ((h b s hb hs).1 hf)] at hy
    cases hy; rfl
  | some ys =>
    rw [((h b s hb hs).2 ys hf).2] at hy
    cases hy; rfl
theorem SMap.look_ok {w : World} {a n : Nat} {f : Secs} (h : SMap w a n f) {b s : Int} (hb : Wf b) (hs : Wf s) :
    (Instr.lookup 91 (.map (some a)) (pk b s) true).run Try.prog w = .ok (.tuple #[.agg (bs (f.get b s)), .bool (f b s).isSome]) w := by
  obtain ⟨D, hD, h⟩ := h
  obtain ⟨v, ps, hrun, hv⟩ := hD.look_ok law117 Try.underlying91 (zero114 w) (secR_mk zs_sec) (key_mk hb hs)
  obtain ⟨xs, hx, rfl, hy⟩ := secR_inv hv
  rw [hrun]
  unfold Secs.get
  cases hf : f b s with
  | none =>
    rw [Maps.atKey_of_not_has ((h b s hb hs).1 hf)] at hy
    rw [(h b s hb hs).1 hf]
    cases hy; rfl
  | some ys =>
    have h2 := ((h b s hb hs).2 ys hf).2
    rw [h2] at hy
    rw [Maps.has_true_of_atKey h2]
    cases hy; rfl
theorem SMap.store {w : World} {a n : Nat} {f : Secs} (h : SMap w a n f) (hn : n < maxLen) {b s : Int} (hb : Wf b) (hs : Wf s) {xs : List Int} (hx : Sec xs) :
    ∃ w', (Instr.mapUpdate 91 (.map (some a)) (pk b s) (.agg (bs xs))).run Try.prog w = .ok () w' ∧ SMap w' a (n + 1) (f.put b s xs) ∧ w.grownBy w' (some a) ∧ w'.heap.size = w.heap.size := by
  obtain ⟨D, hD, h⟩ := h
  obtain ⟨w', hrun, ho, ht⟩ := hD.store law117 Try.underlying91 hn (key_mk hb hs) (secR_mk hx)
  refine ⟨w', hrun, SMap.put (w := w) (n := n) h hD.isMap hb hs hx ho, ht.grown, ?_⟩
  obtain ⟨_, _, _, _, _, rfl⟩ := ht
  simp [ChangeMaps.setBlock]
def SRng (w : World) (a r n : Nat) (f : Secs) (left : Int → Int → Bool) (cnt : Nat) : Prop :=
  ∃ D lf, w.ranges Try.prog 117 secR a r n D lf cnt ∧ (∀ b s, Wf b → Wf s → (f b s = none → Maps.has D (kl b s) = false) ∧ ∀ xs, f b s = some xs → Sec xs ∧ ∀ z, D.atKey (kl b s) z = .held xs) ∧ ∀ b s, Wf b → Wf s → lf (kl b s) = left b s
theorem SRng.map {w : World} {a r n : Nat} {f : Secs} {left : Int → Int → Bool} {cnt : Nat} (h : SRng w a r n f left cnt) : SMap w a n f := by
  obtain ⟨D, lf, hr, hf, _⟩ := h; exact ⟨D, hr.owns, hf⟩
theorem SRng.left_eq {w : World} {a r n : Nat} {f : Secs} {left : Int → Int → Bool} {cnt : Nat} (h : SRng w a r n f left cnt) : w.rangeLeft a r = cnt := by
  obtain ⟨D, lf, hr, hf, _⟩ := h; exact hr.left_eq
theorem SRng.lt {w : World} {a r n : Nat} {f : Secs} {left : Int → Int → Bool} {cnt : Nat} (h : SRng w a r n f left cnt) : r < w.heap.size := by
  obtain ⟨D, lf, hr, hf, _⟩ := h; exact hr.lt
theorem SRng.ne {w : World} {a r n : Nat} {f : Secs} {left : Int → Int → Bool} {cnt : Nat} (h : SRng w a r n f left cnt) : r ≠ a := by
  obtain ⟨D, lf, hr, hf, _⟩ := h; exact hr.ne
theorem SRng.kept {w w' : World} {a r n : Nat} {f : Secs} {left : Int → Int → Bool} {cnt : Nat} (h : SRng w a r n f left cnt) (e : w'.heap[a]? = w.heap[a]?) (e' : w'.heap[r]? = w.heap[r]?) : SRng w' a r n f left cnt := by
  obtain ⟨D, lf, ⟨es, clock, since, seen, c0, hb, F, hs, hD, hr, rest⟩, hf, hl⟩ := h
  exact ⟨D, lf, ⟨es, clock, since, seen, c0, e.trans hb, F, hs, hD, e'.trans hr, rest⟩, hf, hl⟩
structure Off (F : Nat → Prop) (w w' : World) : Prop where
  os : w'.os = w.os
  tape : w'.tape = w.tape
  output : w'.output = w.output
  size : w.heap.size ≤ w'.heap.size
  block : ∀ k, k < w.heap.size → ¬ F k → w'.heap[k]? = w.heap[k]?
theorem Off.refl (F : Nat → Prop) (w : World) : Off F w w := ⟨rfl, rfl, rfl, Nat.le_refl _, fun _ _ _ => rfl⟩
theorem Off.trans {F F' : Nat → Prop} {a b c : World} (h : Off F a b) (k : Off F' b c) (hF : ∀ j, F' j → F j ∨ a.heap.size ≤ j) : Off F a c :=
  ⟨k.os.trans h.os, k.tape.trans h.tape, k.output.trans h.output, Nat.le_trans h.size k.size, fun i hi hn => (k.block i (Nat.lt_of_lt_of_le hi h.size) (fun q => by
    rcases hF i q with q | q
    · exact hn q
    · omega)).trans (h.block i hi hn)⟩
theorem Off.mono {F F' : Nat → Prop} {a b : World} (h : Off F a b) (hF : ∀ j, F j → F' j ∨ a.heap.size ≤ j) : Off F' a b :=
  ⟨h.os, h.tape, h.output, h.size, fun i hi hn => h.block i hi (fun q => by
    rcases hF i q with q | q
    · exact hn q
    · omega)⟩
theorem Off.of_below {F : Nat → Prop} {a b : World} (h : Below a.heap.size a b) : Off F a b := ⟨h.os, h.tape, h.output, h.size, fun i hi _ => h.block i hi⟩
theorem Off.of_grown {F : Nat → Prop} {a b : World} {row : Option Nat} (h : a.grownBy b row) (hF : ∀ k, row = some k → F k) : Off F a b :=
  ⟨h.os, h.tape, h.output, h.size, fun i hi hn => h.block i hi (fun q => hn (hF i q.symm))⟩
theorem Off.of_setCell {F : Nat → Prop} (w : World) (p : Addr) (v : Value) (hF : F p.block) : Off F w (w.setCell p v) :=
  ⟨rfl, rfl, rfl, by simp [World.setCell], fun k _ hk => Below.heap_setCell _ _ _ _ (fun q => hk (q ▸ hF))⟩
theorem Off.of_setRow {F : Nat → Prop} (w : World) (g : Nat) (cs : Array Value) (hF : F g) : Off F w (w.setRow g cs) :=
  ⟨rfl, rfl, rfl, by simp [World.setRow], fun k _ hk => setRow_other w g k cs (fun q => hk (q ▸ hF))⟩
theorem Off.drew {F : Nat → Prop} {a b : World} (h : Off F a b) : Off F a b.drew := ⟨h.os, h.tape, h.output, h.size, h.block⟩
theorem Off.below {F : Nat → Prop} {a b : World} (h : Off F a b) {B : Nat} (hB : B ≤ a.heap.size) (hF : ∀ k, F k → B ≤ k) : Below B a b :=
  ⟨h.os, h.tape, h.output, h.size, fun k hk => h.block k (by omega) (fun q => by have := hF k q; omega)⟩
theorem Row.off {F : Nat → Prop} {w w' : World} {g : Nat} {cs : Array Value} {t : TypeId} (h : Row w g cs t) (ho : Off F w w') (hg : ¬ F g) : Row w' g cs t := by
  have hl := h.lt
  unfold Row at h ⊢; rw [ho.block g hl hg]; exact h
theorem SMap.off {F : Nat → Prop} {w w' : World} {a n : Nat} {f : Secs} (h : SMap w a n f) (ho : Off F w w') (hg : ¬ F a) : SMap w' a n f := h.kept (ho.block a h.lt hg)
def FMap (w : World) (v : Value) (f : Int → Bool) : Prop :=
  (v = .map none ∧ ∀ i, f i = false) ∨ ∃ m n D, v = .map (some m) ∧ w.ownsMap (H := Unit) Try.prog 3 unitElem m n D ∧ ∀ i, Wf i → Maps.has D (.int .i64 i) = f i
theorem zero111 (w : World) : (zeroValue 111).run Try.prog w = .ok (.agg #[]) w := (zero_of_info (P := Try.prog) (t := 111) (v := .agg #[]) (n := 0) (by kernel_rfl)).1 w
theorem FMap.look {w : World} {v : Value} {f : Int → Bool} (h : FMap w v f) {i : Int} (hi : Wf i) :
    (Instr.lookup 93 v (.int .i64 i) true).run Try.prog w = .ok (.tuple #[.agg #[], .bool (f i)]) w := by
  rcases h with ⟨rfl, hf⟩ | ⟨m, n, D, rfl, hD, hf⟩
  · rw [Maps.look_nil true law3 Try.underlying93 (zero111 w) (Maps.keyOf_int_mk Try.underlying3 hi), hf i]; rfl
  · obtain ⟨v, ps, hrun, hv⟩ := hD.look_ok law3 Try.underlying93 (zero111 w) unitElem_mk (Maps.keyOf_int_mk Try.underlying3 hi)
    obtain ⟨rfl, _⟩ := unitElem_inv hv
    rw [hrun, hf i hi]
theorem FMap.kept {w w' : World} {v : Value} {f : Int → Bool} (h : FMap w v f) (e : ∀ m, v = .map (some m) → m < w.heap.size → w'.heap[m]? = w.heap[m]?) : FMap w' v f := by
  rcases h with h | ⟨m, n, D, rfl, hD, hf⟩
  · exact Or.inl h
  · have hl := hD.lt
    obtain ⟨es, clock, hb, F, hs, hd⟩ := hD
    exact Or.inr ⟨m, n, D, rfl, ⟨es, clock, (e m rfl hl).trans hb, F, hs, hd⟩, hf⟩
theorem FMap.off {F : Nat → Prop} {w w' : World} {v : Value} {f : Int → Bool} (h : FMap w v f) (ho : Off F w w') (hg : ∀ m, v = .map (some m) → ¬ F m) : FMap w' v f :=
  h.kept fun m e hl => ho.block m hl (hg m e)
theorem FMap.none (w : World) : FMap w (.map none) (fun _ => false) := Or.inl ⟨rfl, fun _ => rfl⟩
def NMap (w : World) (m n : Nat) (f : Int → Bool) : Prop := ∃ D, w.ownsMap (H := Unit) Try.prog 3 unitElem m n D ∧ ∀ i, Wf i → Maps.has D (.int .i64 i) = f i
theorem NMap.fmap {w : World} {m n : Nat} {f : Int → Bool} (h : NMap w m n f) : FMap w (.map (some m)) f := by
  obtain ⟨D, h1, h2⟩ := h; exact Or.inr ⟨m, n, D, rfl, h1, h2⟩
theorem NMap.lt {w : World} {m n : Nat} {f : Int → Bool} (h : NMap w m n f) : m < w.heap.size := by
  obtain ⟨D, h1, h2⟩ := h; exact h1.lt
theorem NMap.made (w : World) : NMap (w.alloc (.map #[] 0)) w.heap.size 0 (fun _ => false) := ⟨_, World.ownsMap_made w _ _ _, fun _ _ => rfl⟩
theorem NMap.kept {w w' : World} {m n : Nat} {f : Int → Bool} (h : NMap w m n f) (e : w'.heap[m]? = w.heap[m]?) : NMap w' m n f := by
  obtain ⟨D, ⟨es, clock, hb, F, hs, hD⟩, h⟩ := h
  exact ⟨D, ⟨es, clock, e.trans hb, F, hs, hD⟩, h⟩
theorem wf_key {i : Int} (hi : Wf i) : WideAt.IsKeyLit (.int .i64 i) := law3.key (Maps.keyOf_int_mk Try.underlying3 hi)
theorem NMap.store {w : World} {m n : Nat} {f : Int → Bool} (h : NMap w m n f) (hn : n < maxLen) {x : Int} (hx : Wf x) :
    ∃ w', (Instr.mapUpdate 93 (.map (some m)) (.int .i64 x) (.agg #[])).run Try.prog w = .ok () w' ∧ NMap w' m (n + 1) (fun i => f i || decide (i = x)) ∧ w.grownBy w' (some m) ∧ w'.heap.size = w.heap.size := by
  obtain ⟨D, hD, h⟩ := h
  obtain ⟨w', hrun, ho, ht⟩ := hD.store law3 Try.underlying93 hn (Maps.keyOf_int_mk Try.underlying3 hx) unitElem_mk
  refine ⟨w', hrun, ⟨_, ho, fun i hi => ?_⟩, ht.grown, ?_⟩
  · by_cases e : i = x
    · subst e
      rw [Maps.has_put_same hD.isMap (wf_key hi)]; simp
    · rw [Maps.has_put_other (fun q => e (by cases q; rfl)), h i hi]; simp [e]
  · obtain ⟨_, _, _, _, _, rfl⟩ := ht
    simp [ChangeMaps.setBlock]
end Go.Proofs.Ytgnedbagelhcbaa
namespace Go.Proofs.Ytgnedbagelhcbaa
open Go.ChangeShapes Go.WideShapes Go.ChangeAt Go.RowKit
set_option linter.unusedVariables false
set_option linter.unusedSimpArgs false
set_option maxRecDepth 20000
structure Dsk where
  n : Nat
  sure : Secs
  pend : List (Int × Int × List Int)
  down : Bool
  ops : Int
  fuse : Int
  fails : Int → Bool
def over (f : Secs) : List (Int × Int × List Int) → Secs
  | [] => f
  | q :: r => over (f.put q.1 q.2.1 q.2.2) r
structure Loc where
  a : Nat
  b : Nat
  p : Value
  f : Value
def dcells (d : Dsk) (L : Loc) : Array Value := #[.int .i64 d.n, .map (some L.a), .map (some L.b), L.p, .bool d.down, .int .i64 d.ops, .int .i64 d.fuse, L.f]
def foot (g : Nat) (L : Loc) (k : Nat) : Prop := k = g ∨ k = L.a ∨ k = L.b ∨ L.p.ownBlock = some k ∨ L.f = .map (some k)
def pcell (q : Int × Int × List Int) : List Value := .int .i64 q.1 :: .int .i64 q.2.1 :: q.2.2.map (Value.int .u8)
def pcells (l : List (Int × Int × List Int)) : List Value := l.flatMap pcell
structure DAt (w : World) (g : Nat) (d : Dsk) (L : Loc) (N : Nat) : Prop where
  row : Row w g (dcells d L) 95
  sure : ∃ s, SMap w L.a s d.sure ∧ s + d.pend.length ≤ N
  fresh : SMap w L.b d.pend.length (over (fun _ _ => none) d.pend)
  ab : L.a ≠ L.b
  pend : w.ownsRow (g + 1) 124 66 L.p d.pend.length (pcells d.pend)
  fails : FMap w L.f d.fails
  fa : L.f ≠ .map (some L.a)
  fb : L.f ≠ .map (some L.b)
  big : N < 1000000000000
  okp : ∀ q ∈ d.pend, 0 ≤ q.1 ∧ q.1 < d.n ∧ 0 ≤ q.2.1 ∧ q.2.1 < 4 ∧ Sec q.2.2
  small : 1 ≤ d.n ∧ d.n ≤ 2048
  opsn : 0 ≤ d.ops
  fusew : Wf d.fuse
theorem wf_of {i : Int} (h : -9223372036854775808 ≤ i) (h' : i ≤ 9223372036854775807) : Wf i := WalkArith.wf_i64 ⟨h, h'⟩
theorem Row.map_ne {w : World} {g a n : Nat} {cs : Array Value} {t : TypeId} {f : Secs} (h : Row w g cs t) (hm : SMap w a n f) : a ≠ g := by
  rintro rfl
  obtain ⟨D, ⟨es, clock, hb, _⟩, _⟩ := hm
  unfold Row at h
  rw [h] at hb; cases hb
theorem DAt.ag {w : World} {g : Nat} {d : Dsk} {L : Loc} {N : Nat} (h : DAt w g d L N) : L.a ≠ g := by
  obtain ⟨s, hs, _⟩ := h.sure; exact h.row.map_ne hs
theorem DAt.bg {w : World} {g : Nat} {d : Dsk} {L : Loc} {N : Nat} (h : DAt w g d L N) : L.b ≠ g := h.row.map_ne h.fresh
theorem DAt.fg {w : World} {g : Nat} {d : Dsk} {L : Loc} {N : Nat} (h : DAt w g d L N) : L.f ≠ .map (some g) := by
  intro e
  rcases h.fails with ⟨q, _⟩ | ⟨m, n, D, q, ⟨es, clock, hb, _⟩, _⟩
  · rw [q] at e; cases e
  · rw [q] at e; cases e
    have := h.row
    unfold Row at this
    rw [this] at hb; cases hb
theorem DAt.pg {w : World} {g : Nat} {d : Dsk} {L : Loc} {N : Nat} (h : DAt w g d L N) : L.p.ownBlock ≠ some g := by
  intro e
  have := (h.pend.lt g e).1
  omega
theorem DAt.pm {w : World} {g : Nat} {d : Dsk} {L : Loc} {N : Nat} (h : DAt w g d L N) {k : Nat} {es : Array MapEntry} {c : Nat} (hk : w.heap[k]? = some (.map es c)) : L.p.ownBlock ≠ some k := by
  intro e
  rcases h.pend.2 with ⟨q, _⟩ | ⟨r, cap, cur, q, _, hr, _⟩
  · rw [q] at e; cases e
  · rw [q] at e
    simp [Value.ownBlock] at e
    subst e
    rw [hr] at hk; cases hk
theorem SMap.block {w : World} {a n : Nat} {f : Secs} (h : SMap w a n f) : ∃ es c, w.heap[a]? = some (.map es c) := by
  obtain ⟨D, ⟨es, clock, hb, _⟩, _⟩ := h; exact ⟨es, clock, hb⟩
theorem DAt.pa {w : World} {g : Nat} {d : Dsk} {L : Loc} {N : Nat} (h : DAt w g d L N) : L.p.ownBlock ≠ some L.a := by
  obtain ⟨s, hs, _⟩ := h.sure
  obtain ⟨es, c, hb⟩ := hs.block; exact h.pm hb
theorem DAt.pb {w : World} {g : Nat} {d : Dsk} {L : Loc} {N : Nat} (h : DAt w g d L N) : L.p.ownBlock ≠ some L.b := by
  obtain ⟨es, c, hb⟩ := h.fresh.block; exact h.pm hb
theorem DAt.lt {w : World} {g : Nat} {d : Dsk} {L : Loc} {N : Nat} (h : DAt w g d L N) {k : Nat} (hk : foot g L k) : k < w.heap.size := by
  rcases hk with rfl | rfl | rfl | e | e
  · exact h.row.lt
  · obtain ⟨s, hs, _⟩ := h.sure; exact hs.lt
  · exact h.fresh.lt
  · exact (h.pend.lt k e).2
  · rcases h.fails with ⟨q, _⟩ | ⟨m, n, D, q, hD, _⟩
    · rw [q] at e; cases e
    · rw [q] at e; cases e; exact hD.lt
theorem ownsRow_kept {w w' : World} {base : Nat} {e : TypeId} {size : Nat} {v : Value} {n : Nat} {xs : List Value} (h : w.ownsRow base e size v n xs) (hk : ∀ k, v.ownBlock = some k → k < w.heap.size → w'.heap[k]? = w.heap[k]?) : w'.ownsRow base e size v n xs := by
  have hl := h.lt
  obtain ⟨h1, h2⟩ := h
  refine ⟨h1, ?_⟩
  rcases h2 with h2 | ⟨g, cap, cur, rfl, hb, hc, rest⟩
  · exact Or.inl h2
  · have := hl g (by simp [Value.ownBlock])
    exact Or.inr ⟨g, cap, cur, rfl, hb, (hk g (by simp [Value.ownBlock]) this.2).trans hc, rest⟩
theorem DAt.off {F : Nat → Prop} {w w' : World} {g : Nat} {d : Dsk} {L : Loc} {N : Nat} (h : DAt w g d L N) (ho : Off F w w') (hF : ∀ k, foot g L k → ¬ F k) : DAt w' g d L N :=
  { h with
    row := h.row.off ho (hF _ (Or.inl rfl))
    sure := by obtain ⟨s, hs, hle⟩ := h.sure; exact ⟨s, hs.off ho (hF _ (Or.inr (Or.inl rfl))), hle⟩
    fresh := h.fresh.off ho (hF _ (Or.inr (Or.inr (Or.inl rfl))))
    pend := ownsRow_kept h.pend fun k e hl => ho.block k hl (hF _ (Or.inr (Or.inr (Or.inr (Or.inl e)))))
    fails := h.fails.off ho fun m e => hF _ (Or.inr (Or.inr (Or.inr (Or.inr e)))) }
theorem DAt.below {w w' : World} {g : Nat} {d : Dsk} {L : Loc} {N : Nat} (h : DAt w g d L N) (hb : Below w.heap.size w w') : DAt w' g d L N :=
  h.off (F := fun _ => False) (Off.of_below hb) fun _ _ q => q
theorem DAt.drew {w : World} {g : Nat} {d : Dsk} {L : Loc} {N : Nat} (h : DAt w g d L N) : DAt w.drew g d L N := h.below (Below.refl _ _).drew
theorem DAt.alloc {w : World} {g : Nat} {d : Dsk} {L : Loc} {N : Nat} (h : DAt w g d L N) (o : Obj) : DAt (w.alloc o) g d L N := h.below ((Below.refl _ _).alloc (Nat.le_refl _) _)
theorem DAt.upd {w w' : World} {g : Nat} {d d' : Dsk} {L : Loc} {N : Nat} (h : DAt w g d L N) (ho : Off (· = g) w w') (hr : Row w' g (dcells d' L) 95) (h1 : d'.sure = d.sure) (h2 : d'.pend = d.pend) (h3 : d'.fails = d.fails) (h4 : d'.n = d.n) (h5 : 0 ≤ d'.ops) (h6 : Wf d'.fuse) : DAt w' g d' L N :=
  { h with
    row := hr
    sure := by obtain ⟨s, hs, hle⟩ := h.sure; exact ⟨s, by rw [h1]; exact hs.off ho h.ag, by rw [h2]; exact hle⟩
    fresh := by rw [h2]; exact h.fresh.off ho h.bg
    pend := by rw [h2]; exact ownsRow_kept h.pend fun k e hl => ho.block k hl (fun q => h.pg (q ▸ e))
    fails := by rw [h3]; exact h.fails.off ho fun m e q => h.fg (q ▸ e)
    okp := by rw [h2, h4]; exact h.okp
    small := by rw [h4]; exact h.small
    opsn := h5
    fusew := h6 }
theorem DAt.setOps {w : World} {g : Nat} {d : Dsk} {L : Loc} {N : Nat} (h : DAt w g d L N) (o : Int) (ho : 0 ≤ o) : DAt (w.setCell ⟨g, 5, none⟩ (.int .i64 o)) g { d with ops := o } L N :=
  h.upd (Off.of_setCell _ _ _ rfl) (row_set h.row 5 _) rfl rfl rfl rfl ho h.fusew
theorem DAt.setFuse {w : World} {g : Nat} {d : Dsk} {L : Loc} {N : Nat} (h : DAt w g d L N) (o : Int) (ho : Wf o) : DAt (w.setCell ⟨g, 6, none⟩ (.int .i64 o)) g { d with fuse := o } L N :=
  h.upd (Off.of_setCell _ _ _ rfl) (row_set h.row 6 _) rfl rfl rfl rfl h.opsn ho
theorem DAt.setDown {w : World} {g : Nat} {d : Dsk} {L : Loc} {N : Nat} (h : DAt w g d L N) (b : Bool) : DAt (w.setCell ⟨g, 4, none⟩ (.bool b)) g { d with down := b } L N :=
  h.upd (Off.of_setCell _ _ _ rfl) (row_set h.row 4 _) rfl rfl rfl rfl h.opsn h.fusew
def count (d : Dsk) : Int × Dsk :=
  if d.ops + 1 = d.fuse then (4, { d with ops := d.ops + 1, down := true }) else if d.fails (d.ops + 1) then (3, { d with ops := d.ops + 1 }) else (0, { d with ops := d.ops + 1 })
theorem size_any {w : World} {g : Nat} {d : Dsk} {L : Loc} {N : Nat} (h : DAt w g d L N) :
    Calls Try.prog 70 #[.pointer (some ⟨g, 0, none⟩)] w fun e w' => e = .returned (.int .i64 d.n) ∧ w' = w := by
  have c0 := row_at h.row 0 (.int .i64 d.n) rfl
  go_enter Try.func70, Try.ntmps70
  go_wp2
  go_ret
  exact ⟨rfl, rfl⟩
theorem ops_any {w : World} {g : Nat} {d : Dsk} {L : Loc} {N : Nat} (h : DAt w g d L N) :
    Calls Try.prog 28 #[.pointer (some ⟨g, 0, none⟩)] w fun e w' => e = .returned (.int .i64 d.ops) ∧ w' = w := by
  have c0 := row_at h.row 5 (.int .i64 d.ops) rfl
  go_enter Try.func28, Try.ntmps28
  go_wp2
  go_ret
  exact ⟨rfl, rfl⟩
theorem down_any {w : World} {g : Nat} {d : Dsk} {L : Loc} {N : Nat} (h : DAt w g d L N) :
    Calls Try.prog 79 #[.pointer (some ⟨g, 0, none⟩)] w fun e w' => e = .returned (.bool d.down) ∧ w' = w := by
  have c0 := row_at h.row 4 (.bool d.down) rfl
  go_enter Try.func79, Try.ntmps79
  go_wp2
  go_ret
  exact ⟨rfl, rfl⟩
theorem has_any {w : World} {g : Nat} {d : Dsk} {L : Loc} {N : Nat} (h : DAt w g d L N) (b : Int) :
    Calls Try.prog 53 #[.pointer (some ⟨g, 0, none⟩), .int .i64 b] w fun e w' => e = .returned (.bool (decide (0 ≤ b ∧ b < d.n))) ∧ w' = w := by
  by_cases h0 : 0 ≤ b
  · have e : decide (0 ≤ b ∧ b < (d.n : Int)) = decide (b < (d.n : Int)) := by simp [h0]
    rw [e]
    go_enter Try.func53, Try.ntmps53
    go_wp2_with (go_at_call 70; refine (size_any h).mono ?_; rintro e w' ⟨rfl, rfl⟩)
    go_ret
    exact ⟨rfl, rfl⟩
  · have e : decide (0 ≤ b ∧ b < (d.n : Int)) = false := by simp [h0]
    rw [e]
    go_enter Try.func53, Try.ntmps53
    go_wp2
    go_ret
    exact ⟨rfl, rfl⟩
end Go.Proofs.Ytgnedbagelhcbaa
namespace Go.Proofs.Ytgnedbagelhcbaa
open Go.ChangeShapes Go.WideShapes Go.ChangeAt Go.RowKit
set_option linter.unusedVariables false
set_option linter.unusedSimpArgs false
set_option maxRecDepth 20000
theorem count_walk1 (w : World) (g : Nat) (q o : Int) (ho : q < 9223372036854775806) (h0 : 0 ≤ q) (HO : Hid (q + 1 = o))
    (c5 : w.cell? ⟨g, 5, none⟩ = some (.int .i64 q)) (f5 : w.frozen? ⟨g, 5, none⟩ = false) (w1 : World) (e1 : w.setCell ⟨g, 5, none⟩ (.int .i64 o) = w1)
    (c5' : w1.cell? ⟨g, 5, none⟩ = some (.int .i64 o)) (c6' : w1.cell? ⟨g, 6, none⟩ = some (.int .i64 o)) (dn : Bool) (c4' : w1.cell? ⟨g, 4, none⟩ = some (.bool dn)) (f4' : w1.frozen? ⟨g, 4, none⟩ = false) :
    Calls Try.prog 80 #[.pointer (some ⟨g, 0, none⟩)] w fun e w' => e = .returned (.int .i64 4) ∧ w' = (w1.drew).setCell ⟨g, 4, none⟩ (.bool true) := by
  have hw' : IntKind.i64.wrap (q + 1) = o := by rw [IntKind.wrap_i64, ← HO.out]; omega
  go_enter Try.func80, Try.ntmps80
  go_wp2
  go_region
  go_wp2
  go_ret
  exact ⟨rfl, rfl⟩
theorem count_walk2 (w : World) (g : Nat) (q o : Int) (ho : q < 9223372036854775806) (h0 : 0 ≤ q) (HO : Hid (q + 1 = o))
    (c5 : w.cell? ⟨g, 5, none⟩ = some (.int .i64 q)) (f5 : w.frozen? ⟨g, 5, none⟩ = false) (w1 : World) (e1 : w.setCell ⟨g, 5, none⟩ (.int .i64 o) = w1)
    (c5' : w1.cell? ⟨g, 5, none⟩ = some (.int .i64 o)) (fu : Int) (hf : ¬ o = fu) (c6' : w1.cell? ⟨g, 6, none⟩ = some (.int .i64 fu)) (fb : Bool) (lf : Value) (c7' : w1.cell? ⟨g, 7, none⟩ = some lf)
    (hg : g < w1.heap.size) (hlk : ∀ w', Below w1.heap.size w1 w' → (Instr.lookup 93 lf (.int .i64 o) true).run Try.prog w' = .ok (.tuple #[.agg #[], .bool fb]) w') :
    Calls Try.prog 80 #[.pointer (some ⟨g, 0, none⟩)] w fun e w' => e = .returned (.int .i64 (if fb then 3 else 0)) ∧ Below w1.heap.size w1 w' := by
  have hw' : IntKind.i64.wrap (q + 1) = o := by rw [IntKind.wrap_i64, ← HO.out]; omega
  have hz := zero111
  go_enter Try.func80, Try.ntmps80
  go_wp2
  go_region
  go_wp2
  refine wp_region_held_drew (S := Below w1.heap.size w1) (by kernel_rfl) ((Below.refl _ _).drew.drew) fun hS => ?_
  refine wpAnyH_take (i := 0) (v := .pointer (some ⟨g, 0, none⟩)) rfl (by kernel_rfl) (by kernel_rfl) (by kernel_rfl) (fun _ _ _ h => h) (Or.inl ⟨by rfl, fun w _ => by rfl⟩) hS ?_
  try simp only [Act.put, nz0, nz1, nz2, nz3, nz4, nz5]
  refine wpAnyH_take (i := 1) (v := .pointer (some ⟨g, 0, none⟩)) rfl (by kernel_rfl) (by kernel_rfl) (by kernel_rfl) (fun _ _ _ h => h) (Or.inl ⟨by rfl, fun w _ => by go_simp⟩) hS ?_
  try simp only [Act.put, nz0, nz1, nz2, nz3, nz4, nz5]
  refine wpAnyH_take (i := 2) (v := .pointer (some ⟨g, 7, none⟩)) rfl (by kernel_rfl) (by kernel_rfl) (by kernel_rfl) (fun _ _ _ h => h) (Or.inl ⟨by rfl, fun w _ => by go_simp⟩) hS ?_
  try simp only [Act.put, nz0, nz1, nz2, nz3, nz4, nz5]
  refine wpAnyH_take (i := 3) (v := lf) rfl (by kernel_rfl) (by kernel_rfl) (by kernel_rfl) (fun _ _ _ h => h) (Or.inl ⟨by rfl, fun w h => by have c := (show w.cell? ⟨g, 7, none⟩ = some (lf) from (h.cell (by simp; exact hg)).trans c7'); go_simp⟩) hS ?_
  try simp only [Act.put, nz0, nz1, nz2, nz3, nz4, nz5]
  refine wpAnyH_take (i := 4) (v := .pointer (some ⟨g, 0, none⟩)) rfl (by kernel_rfl) (by kernel_rfl) (by kernel_rfl) (fun _ _ _ h => h) (Or.inl ⟨by rfl, fun w _ => by rfl⟩) hS ?_
  try simp only [Act.put, nz0, nz1, nz2, nz3, nz4, nz5]
  refine wpAnyH_take (i := 5) (v := .pointer (some ⟨g, 0, none⟩)) rfl (by kernel_rfl) (by kernel_rfl) (by kernel_rfl) (fun _ _ _ h => h) (Or.inl ⟨by rfl, fun w _ => by go_simp⟩) hS ?_
  try simp only [Act.put, nz0, nz1, nz2, nz3, nz4, nz5]
  refine wpAnyH_take (i := 6) (v := .pointer (some ⟨g, 5, none⟩)) rfl (by kernel_rfl) (by kernel_rfl) (by kernel_rfl) (fun _ _ _ h => h) (Or.inl ⟨by rfl, fun w _ => by go_simp⟩) hS ?_
  try simp only [Act.put, nz0, nz1, nz2, nz3, nz4, nz5]
  refine wpAnyH_take (i := 7) (v := .int .i64 o) rfl (by kernel_rfl) (by kernel_rfl) (by kernel_rfl) (fun _ _ _ h => h) (Or.inl ⟨by rfl, fun w h => by have c := (show w.cell? ⟨g, 5, none⟩ = some (.int .i64 o) from (h.cell (by simp; exact hg)).trans c5'); go_simp⟩) hS ?_
  try simp only [Act.put, nz0, nz1, nz2, nz3, nz4, nz5]
  refine wpAnyH_take (i := 8) (v := .tuple #[.agg #[], .bool fb]) rfl (by kernel_rfl) (by kernel_rfl) (by kernel_rfl) (fun _ _ _ h => h) (Or.inl ⟨by rfl, fun w h => by have c := hlk w h; go_simp⟩) hS ?_
  try simp only [Act.put, nz0, nz1, nz2, nz3, nz4, nz5]
  refine wpAnyH_take (i := 9) (v := .tuple #[.agg #[], .bool fb]) rfl (by kernel_rfl) (by kernel_rfl) (by kernel_rfl) (fun _ _ _ h => h) (Or.inl ⟨by rfl, fun w _ => by rfl⟩) hS ?_
  try simp only [Act.put, nz0, nz1, nz2, nz3, nz4, nz5]
  refine wpAnyH_take (i := 10) (v := .agg #[]) rfl (by kernel_rfl) (by kernel_rfl) (by kernel_rfl) (fun _ _ _ h => h) (Or.inl ⟨by rfl, fun w _ => by go_simp⟩) hS ?_
  try simp only [Act.put, nz0, nz1, nz2, nz3, nz4, nz5]
  refine wpAnyH_take (i := 11) (v := .bool fb) rfl (by kernel_rfl) (by kernel_rfl) (by kernel_rfl) (fun _ _ _ h => h) (Or.inl ⟨by rfl, fun w _ => by go_simp⟩) hS ?_
  try simp only [Act.put, nz0, nz1, nz2, nz3, nz4, nz5]
  refine wpAnyH_ready (rs := [12]) (by kernel_rfl) (by simp) ?_
  refine AllReadyH.cons rfl (fun K hK => ?_) AllReadyH.nil
  go_simp
  refine hK.out _ _ (hS.alloc hS.size _) fun hS => ?_
  try simp only [Act.put, nz0, nz1, nz2, nz3, nz4, nz5]
  refine wpAnyH_ready (rs := [13]) (by kernel_rfl) (by simp) ?_
  refine AllReadyH.cons rfl (fun K hK => ?_) AllReadyH.nil
  go_simp
  refine hK.out _ _ hS fun hS => ?_
  try simp only [Act.put, nz0, nz1, nz2, nz3, nz4, nz5]
  refine wpAnyH_take (i := 14) (v := .bool fb) rfl (by kernel_rfl) (by kernel_rfl) (by kernel_rfl) (fun _ _ _ h => h) (Or.inl ⟨by rfl, fun w _ => by rfl⟩) hS ?_
  try simp only [Act.put, nz0, nz1, nz2, nz3, nz4, nz5]
  refine wpAnyH_done (by kernel_rfl) ?_ _
  cases fb with
  | true => go_wp2; go_ret; exact ⟨rfl, hS⟩
  | false => go_wp2; go_ret; exact ⟨rfl, hS⟩
theorem DAt.glt {w : World} {g : Nat} {d : Dsk} {L : Loc} {N : Nat} (h : DAt w g d L N) : g < w.heap.size := h.row.lt
theorem count_any {w : World} {g : Nat} {d : Dsk} {L : Loc} {N : Nat} (h : DAt w g d L N) (ho : d.ops < 9223372036854775806) :
    Calls Try.prog 80 #[.pointer (some ⟨g, 0, none⟩)] w fun e w' => e = .returned (.int .i64 (count d).1) ∧ DAt w' g (count d).2 L N ∧ Off (· = g) w w' := by
  have h0 := h.opsn
  have h1 := h.setOps (d.ops + 1) (by omega)
  have o1 : Off (· = g) w (w.setCell ⟨g, 5, none⟩ (.int .i64 (d.ops + 1))) := Off.of_setCell _ _ _ rfl
  have c5 := row_at h.row 5 (.int .i64 d.ops) rfl
  have f5 := row_frozen h.row 5
  have c5' := row_at h1.row 5 (.int .i64 (d.ops + 1)) rfl
  have c6' := row_at h1.row 6 (.int .i64 d.fuse) rfl
  have c4' := row_at h1.row 4 (.bool d.down) rfl
  have c7' := row_at h1.row 7 L.f rfl
  have f4' := row_frozen h1.row 4
  by_cases hf : d.ops + 1 = d.fuse
  · rw [← hf] at c6'
    have hc : count d = (4, { d with ops := d.ops + 1, down := true }) := by unfold count; rw [if_pos hf]
    refine (count_walk1 w g d.ops (d.ops + 1) ho h0 rfl c5 f5 _ rfl c5' c6' d.down c4' f4').mono ?_
    rintro e w' ⟨rfl, rfl⟩
    rw [hc]
    exact ⟨rfl, h1.drew.setDown true, o1.drew.trans (Off.of_setCell (F := (· = g)) _ _ _ rfl) (fun j hj => Or.inl hj)⟩
  · have hlk : ∀ w', Below (w.setCell ⟨g, 5, none⟩ (.int .i64 (d.ops + 1))).heap.size (w.setCell ⟨g, 5, none⟩ (.int .i64 (d.ops + 1))) w' → (Instr.lookup 93 L.f (.int .i64 (d.ops + 1)) true).run Try.prog w' = .ok (.tuple #[.agg #[], .bool (d.fails (d.ops + 1))]) w' :=
      fun w' hb => (h1.below hb).fails.look (wf_of (by omega) (by omega))
    refine (count_walk2 w g d.ops (d.ops + 1) ho h0 rfl c5 f5 _ rfl c5' d.fuse hf c6' (d.fails (d.ops + 1)) L.f c7' h1.glt hlk).mono ?_
    rintro e w' ⟨rfl, hb⟩
    have o2 : Off (· = g) w w' := o1.trans (Off.of_below (F := (· = g)) hb) (fun j hj => Or.inl hj)
    unfold count
    rw [if_neg hf]
    cases hfl : d.fails (d.ops + 1) with
    | true => exact ⟨rfl, h1.below hb, o2⟩
    | false => exact ⟨rfl, h1.below hb, o2⟩
def ask (d : Dsk) (b : Int) : Int × Dsk := if d.down then (4, d) else if 0 ≤ b ∧ b < d.n then count d else (1, d)
theorem ask_any {w : World} {g : Nat} {d : Dsk} {L : Loc} {N : Nat} (h : DAt w g d L N) (ho : d.ops < 9223372036854775806) (b : Int) :
    Calls Try.prog 56 #[.pointer (some ⟨g, 0, none⟩), .int .i64 b] w fun e w' => e = .returned (.int .i64 (ask d b).1) ∧ DAt w' g (ask d b).2 L N ∧ Off (· = g) w w' := by
  have r0 := Off.refl (· = g) w
  by_cases hd : d.down = true
  · have e : ask d b = (4, d) := by unfold ask; rw [if_pos hd]
    rw [e]
    go_enter Try.func56, Try.ntmps56
    go_wp2_with (go_at_call 79; refine (down_any h).mono ?_; rw [hd]; rintro e w' ⟨rfl, rfl⟩)
    go_ret
    exact ⟨rfl, h, r0⟩
  · have hd' : d.down = false := by simpa using hd
    by_cases hb : 0 ≤ b ∧ b < (d.n : Int)
    · have e : ask d b = count d := by unfold ask; rw [if_neg hd, if_pos hb]
      rw [e]
      have hc := count_any h ho
      generalize count d = c at hc ⊢
      have hb' : decide (0 ≤ b ∧ b < (d.n : Int)) = true := decide_eq_true hb
      clear hb
      go_enter Try.func56, Try.ntmps56
      go_wp2_with (first
        | (go_at_call 79; refine (down_any h).mono ?_; rw [hd']; rintro e w' ⟨rfl, rfl⟩)
        | (go_at_call 53; refine (has_any h b).mono ?_; rw [hb']; rintro e w' ⟨rfl, rfl⟩)
        | (go_at_call 80; refine hc.mono ?_; rintro e w' ⟨rfl, hD, hO⟩))
      go_ret
      exact ⟨rfl, hD, hO⟩
    · have e : ask d b = (1, d) := by unfold ask; rw [if_neg hd, if_neg hb]
      rw [e]
      have hb' : decide (0 ≤ b ∧ b < (d.n : Int)) = false := decide_eq_false hb
      clear hb
      go_enter Try.func56, Try.ntmps56
      go_wp2_with (first
        | (go_at_call 79; refine (down_any h).mono ?_; rw [hd']; rintro e w' ⟨rfl, rfl⟩)
        | (go_at_call 53; refine (has_any h b).mono ?_; rw [hb']; rintro e w' ⟨rfl, rfl⟩))
      go_ret
      exact ⟨rfl, h, r0⟩
end Go.Proofs.Ytgnedbagelhcbaa
namespace Go.Proofs.Ytgnedbagelhcbaa
open Go.ChangeShapes Go.WideShapes Go.ChangeAt Go.RowKit
set_option linter.unusedVariables false
set_option linter.unusedSimpArgs false
set_option maxRecDepth 20000
def blk (f : Nat → List Int) : Nat → List Int
  | 0 => zs 256
  | k + 1 => lay (blk f k) k (f k)
theorem lay_at (C s : List Int) (hb : C.length = 256) (hs : s.length = 64) (i : Nat) (hi : i < 4) (C' : List Int) (hC : lay C i s = C') (w : World) :
    Calls Try.prog 54 #[.agg (bs C), .int .i64 i, .agg (bs s)] w fun e w' => e = .returned (.agg (bs C')) ∧ Below w.heap.size w w' := by
  subst hC; exact lay_in C s hb hs i hi w
theorem SMap.get_sec {w : World} {a n : Nat} {f : Secs} (h : SMap w a n f) {b s : Int} (hb : Wf b) (hs : Wf s) : Sec (f.get b s) := by
  unfold Secs.get
  cases e : f b s with
  | none => exact zs_sec
  | some xs => exact h.sec hb hs e
def Secs.block (f : Secs) (b : Int) : List Int := blk (fun i => f.get b i) 4
set_option maxHeartbeats 1000000 in
theorem sure_in {w : World} {g : Nat} {d : Dsk} {L : Loc} {N : Nat} (hd : DAt w g d L N) (b : Int) (hb : 0 ≤ b ∧ b < d.n) :
    Calls Try.prog 31 #[.pointer (some ⟨g, 0, none⟩), .int .i64 b] w fun e w' => e = .returned (.agg (bs (d.sure.block b))) ∧ Below w.heap.size w w' := by
  have hn := hd.small
  have wb : Wf b := wf_of (by omega) (by omega)
  have hb' : decide (0 ≤ b ∧ b < (d.n : Int)) = true := decide_eq_true hb
  clear hb
  obtain ⟨sN, hsu, _⟩ := hd.sure
  obtain ⟨F, HF⟩ : ∃ F : Nat → List Int, Hid (∀ i : Nat, d.sure.get b (i : Int) = F i) := ⟨fun i => d.sure.get b (i : Int), fun _ => rfl⟩
  have hFl : ∀ i, i < 4 → (F i).length = 64 := fun i hi => by rw [← HF.out i]; exact (hsu.get_sec wb (wf_of (by omega) (by omega))).1
  have hlk : Hid (∀ (k : Nat), k < 4 → ∀ w', Below w.heap.size w w' → (Instr.lookup 91 (.map (some L.a)) (.agg #[.int .i64 b, .int .i64 k]) false).run Try.prog w' = .ok (.agg (bs (F k))) w') := fun k hk w' hb => by
    obtain ⟨s', hs', _⟩ := (hd.below hb).sure
    rw [← HF.out k]; exact hs'.look wb (wf_of (by omega) (by omega))
  have hlk := hlk.out
  have hblk : Hid (d.sure.block b = blk F 4) := by
    show _ = _
    unfold Secs.block
    congr 1; funext i; exact HF.out i
  rw [hblk.out]
  have hz := zero56
  have a0 : Row ((w.alloc (.cells (bs (zs 256)) 56)).alloc (.cells (bs (zs 256)) 56)) w.heap.size (bs (zs 256)) 56 := (Row.new _ _ _).alloc _
  have a1 : Row ((w.alloc (.cells (bs (zs 256)) 56)).alloc (.cells (bs (zs 256)) 56)) (w.heap.size + 1) (bs (zs 256)) 56 := by have := Row.new (w.alloc (.cells (bs (zs 256)) 56)) (bs (zs 256)) 56; simpa using this
  have ab : Below w.heap.size w ((w.alloc (.cells (bs (zs 256)) 56)).alloc (.cells (bs (zs 256)) 56)) := ((Below.refl _ _).alloc (Nat.le_refl _) _).alloc (by simp) _
  have HFL : Hid (∀ i, i < 4 → (F i).length = 64) := hFl
  have hbl : Hid (∀ k, k ≤ 4 → (blk F k).length = 256) := fun k hk => by
    induction k with
    | zero => exact zs_length 256
    | succ k ih => exact lay_length _ _ _ (ih (by omega)) (HFL.out k (by omega)) (by omega)
  clear hFl hsu
  have HLK : Hid _ := hlk
  clear hlk
  go_enter Try.func31, Try.ntmps31
  go_wp2_with (go_at_call 53; refine (has_any (hd.below ab) b).mono ?_; rw [hb']; rintro e w' ⟨rfl, rfl⟩)
  generalize (w.alloc (.cells (bs (zs 256)) 56)).alloc (.cells (bs (zs 256)) 56) = w1 at a0 a1 ab ⊢
  go_loopw [12] (fun c wr => ∃ k : Nat, c = .int .i64 k ∧ k ≤ 4 ∧ Row wr w.heap.size (bs (zs 256)) 56 ∧ Row wr (w.heap.size + 1) (bs (blk F k)) 56 ∧ Below w.heap.size w wr) (fun c _ => 4 - (intOf c).toNat)
  case atStart => exact ⟨0, rfl, by omega, a0, a1, ab⟩
  case round =>
    clear a0 a1 ab
    obtain ⟨k, rfl, hk4, r0, r1, rb⟩ := hrel
    by_cases hk : k < 4
    · have hCl := hbl.out k (by omega)
      have hCl' := hbl.out (k + 1) (by omega)
      have hFl := HFL.out k hk
      have hlk := HLK.out
      obtain ⟨C, HCC⟩ : ∃ C, Hid (blk F k = C) := ⟨_, rfl⟩
      obtain ⟨C', HCC'⟩ : ∃ C', Hid (blk F (k + 1) = C') := ⟨_, rfl⟩
      have HC : Hid (lay C k (F k) = C') := by show _ = _; rw [← HCC.out, ← HCC'.out]; rfl
      rw [HCC.out] at r1 hCl
      rw [HCC'.out] at hCl'
      have r0 : Row wr.drew w.heap.size (bs (zs 256)) 56 := r0
      have r1 : Row wr.drew (w.heap.size + 1) (bs C) 56 := r1
      go_wp2
      refine wp_region_held_drew (S := Below w.heap.size w) (by kernel_rfl) rb.drew fun hS => ?_
      refine wpAnyH_take (i := 1) (v := .int .i64 k) rfl (by kernel_rfl) (by kernel_rfl) (by kernel_rfl) (fun _ _ _ h => h) (Or.inl ⟨by rfl, fun w _ => by rfl⟩) hS ?_
      try simp only [Act.put, nz0, nz1, nz2, nz3, nz4, nz5]
      refine wpAnyH_take (i := 2) (v := .pointer (some ⟨g, 0, none⟩)) rfl (by kernel_rfl) (by kernel_rfl) (by kernel_rfl) (fun _ _ _ h => h) (Or.inl ⟨by rfl, fun w _ => by rfl⟩) hS ?_
      try simp only [Act.put, nz0, nz1, nz2, nz3, nz4, nz5]
      refine wpAnyH_take (i := 3) (v := .pointer (some ⟨g, 0, none⟩)) rfl (by kernel_rfl) (by kernel_rfl) (by kernel_rfl) (fun _ _ _ h => h) (Or.inl ⟨by rfl, fun w _ => by go_simp⟩) hS ?_
      try simp only [Act.put, nz0, nz1, nz2, nz3, nz4, nz5]
      refine wpAnyH_take (i := 4) (v := .pointer (some ⟨g, 1, none⟩)) rfl (by kernel_rfl) (by kernel_rfl) (by kernel_rfl) (fun _ _ _ h => h) (Or.inl ⟨by rfl, fun w _ => by go_simp⟩) hS ?_
      try simp only [Act.put, nz0, nz1, nz2, nz3, nz4, nz5]
      refine wpAnyH_take (i := 5) (v := .map (some L.a)) rfl (by kernel_rfl) (by kernel_rfl) (by kernel_rfl) (fun _ _ _ h => h) (Or.inl ⟨by rfl, fun w h => by have c := (row_at (hd.below h).row 1 (.map (some L.a)) rfl); go_simp⟩) hS ?_
      try simp only [Act.put, nz0, nz1, nz2, nz3, nz4, nz5]
      refine wpAnyH_take (i := 6) (v := .int .i64 b) rfl (by kernel_rfl) (by kernel_rfl) (by kernel_rfl) (fun _ _ _ h => h) (Or.inl ⟨by rfl, fun w _ => by rfl⟩) hS ?_
      try simp only [Act.put, nz0, nz1, nz2, nz3, nz4, nz5]
      refine wpAnyH_take (i := 7) (v := .int .i64 k) rfl (by kernel_rfl) (by kernel_rfl) (by kernel_rfl) (fun _ _ _ h => h) (Or.inl ⟨by rfl, fun w _ => by rfl⟩) hS ?_
      try simp only [Act.put, nz0, nz1, nz2, nz3, nz4, nz5]
      refine wpAnyH_take (i := 8) (v := .agg #[.int .i64 b, .int .i64 k]) rfl (by kernel_rfl) (by kernel_rfl) (by kernel_rfl) (fun _ _ _ h => h) (Or.inl ⟨by rfl, fun w _ => by go_simp⟩) hS ?_
      try simp only [Act.put, nz0, nz1, nz2, nz3, nz4, nz5]
      refine wpAnyH_take (i := 9) (v := .agg (bs (F k))) rfl (by kernel_rfl) (by kernel_rfl) (by kernel_rfl) (fun _ _ _ h => h) (Or.inl ⟨by rfl, fun w h => by have c := hlk k hk w h; go_simp⟩) hS ?_
      try simp only [Act.put, nz0, nz1, nz2, nz3, nz4, nz5]
      refine wpAnyH_ready (rs := [0]) (by kernel_rfl) (by simp) ?_
      refine AllReadyH.cons rfl (fun K hK => step_load rfl 56 (.tmp 5) rfl (w.heap.size + 1) rfl 56 (bs C) r1 256 5 Try.underlying56 size56 (by rw [bs_size, hCl]) (hK.out _ _ (hS) fun hS => ?_)) AllReadyH.nil
      try simp only [Act.put, nz0, nz1, nz2, nz3, nz4, nz5]
      refine wpAnyH_ready (rs := [10]) (by kernel_rfl) (by simp) ?_
      refine AllReadyH.cons rfl (fun K hK => ?_) AllReadyH.nil
      go_simp
      go_at_call 54
      refine (lay_at C (F k) hCl hFl k hk C' HC.out _).mono ?_
      rintro e wc ⟨rfl, hcb⟩
      refine hK.out _ _ (hS.trans (hcb.mono hS.size)) fun hS => ?_
      try simp only [Act.put, nz0, nz1, nz2, nz3, nz4, nz5]
      have q1 := r1.below hcb r1.lt
      have q0 := r0.below hcb r0.lt
      have z1 : Row (wc.setRow (w.heap.size + 1) (bs C')) (w.heap.size + 1) (bs C') 56 := q1.set _
      have z0 : Row (wc.setRow (w.heap.size + 1) (bs C')) w.heap.size (bs (zs 256)) 56 := q0.other (by omega) _
      refine wpAnyH_ready (rs := [11]) (by kernel_rfl) (by simp) ?_
      refine AllReadyH.cons rfl (fun K hK => step_store rfl 56 (.tmp 5) (.tmp 25) rfl (w.heap.size + 1) C' rfl rfl 56 _ q1 256 size56 (by rw [bs_size, hCl]) hCl' (hK.out _ _ (below_setRow hS (by omega) _) fun hS => ?_)) AllReadyH.nil
      try simp only [Act.put, nz0, nz1, nz2, nz3, nz4, nz5]
      refine wpAnyH_done (by kernel_rfl) ?_ _
      go_wp2
      go_roundw
      case rel => exact ⟨k + 1, by go_num, by omega, z0, by rw [HCC'.out]; exact z1, hS⟩
      case measure => simp [intOf]; omega
    · have e4 : k = 4 := by omega
      subst e4
      have hl4 := hbl.out 4 (by omega)
      obtain ⟨C, HCC⟩ : ∃ C, Hid (blk F 4 = C) := ⟨_, rfl⟩
      rw [HCC.out] at r1 hl4
      go_wp2_with (first
        | (refine load_row rfl 56 (.tmp 5) rfl (w.heap.size + 1) rfl 56 (bs C) r1 256 5 Try.underlying56 size56 (by rw [bs_size, hl4]) ?_)
        | (refine store_row rfl 56 (.tmp 4) (.tmp 27) rfl w.heap.size C rfl rfl 56 _ r0 256 size56 (by rw [bs_size, zs_length]) hl4 ?_))
      rw [HCC.out]
      refine bodyPost_ret (v := .agg (bs C)) ?_ rfl ⟨rfl, below_setRow rb (Nat.le_refl _) _⟩
      exact ret_row (fn := Try.f31) rfl _ _ w.heap.size 56 (bs C) 256 5 rfl (r0.set _) Try.underlying56 size56 (by rw [bs_size, hl4])
end Go.Proofs.Ytgnedbagelhcbaa
namespace Go.Proofs.Ytgnedbagelhcbaa
open Go.ChangeShapes Go.WideShapes Go.ChangeAt Go.RowKit
set_option linter.unusedVariables false
set_option linter.unusedSimpArgs false
set_option maxRecDepth 20000
theorem over_or (f : Secs) : ∀ (ps : List (Int × Int × List Int)) (b s : Int), over f ps b s = ((over (fun _ _ => none) ps b s).or (f b s)) := by
  suffices h : ∀ (ps : List (Int × Int × List Int)) (f g : Secs) (b s : Int), over (fun b s => (g b s).or (f b s)) ps b s = (over g ps b s).or (f b s) by
    intro ps b s
    have := h ps f (fun _ _ => none) b s
    simpa using this
  intro ps
  induction ps with
  | nil => intro f g b s; rfl
  | cons q r ih =>
    intro f g b s
    have e : Secs.put (fun b s => (g b s).or (f b s)) q.1 q.2.1 q.2.2 = fun b s => ((g.put q.1 q.2.1 q.2.2) b s).or (f b s) := by
      funext b s
      unfold Secs.put
      split <;> rfl
    show over (Secs.put (fun b s => (g b s).or (f b s)) q.1 q.2.1 q.2.2) r b s = (over (g.put q.1 q.2.1 q.2.2) r b s).or (f b s)
    rw [e]; exact ih f _ b s
theorem over_append (f : Secs) : ∀ (ps qs : List (Int × Int × List Int)), over f (ps ++ qs) = over (over f ps) qs
  | [], qs => rfl
  | q :: r, qs => over_append (f.put q.1 q.2.1 q.2.2) r qs
theorem lay_getD (B : List Int) (hB : B.length = 256) (i : Nat) (hi : i < 4) (s : List Int) (hs : s.length = 64) (j : Nat) : (lay B i s).getD j 0 = if 64 * i ≤ j ∧ j < 64 * i + 64 then s.getD (j - 64 * i) 0 else B.getD j 0 := by
  unfold lay
  rw [splice_getD _ _ _ _ (by omega), hs]
  by_cases h1 : j < 64 * i
  · rw [if_pos h1, if_neg (by omega)]
  · rw [if_neg h1]
    by_cases h2 : j < 64 * i + 64
    · rw [if_pos h2, if_pos ⟨by omega, h2⟩]
    · rw [if_neg h2, if_neg (by omega)]
theorem blk_getD (f : Nat → List Int) (hf : ∀ i, i < 4 → (f i).length = 64) : ∀ k, k ≤ 4 → (blk f k).length = 256 ∧ ∀ j, (blk f k).getD j 0 = if j < 64 * k then (f (j / 64)).getD (j % 64) 0 else 0
  | 0, _ => ⟨zs_length 256, fun j => by rw [if_neg (by omega)]; exact zs_at 256 j⟩
  | k + 1, h => by
    obtain ⟨h1, h2⟩ := blk_getD f hf k (by omega)
    refine ⟨lay_length _ _ _ h1 (hf k (by omega)) (by omega), fun j => ?_⟩
    show (lay (blk f k) k (f k)).getD j 0 = _
    rw [lay_getD _ h1 k (by omega) _ (hf k (by omega)), h2]
    by_cases e : 64 * k ≤ j ∧ j < 64 * k + 64
    · rw [if_pos e, if_pos (by omega), show j / 64 = k by omega, show j - 64 * k = j % 64 by omega]
    · rw [if_neg e]
      by_cases e2 : j < 64 * k
      · rw [if_pos e2, if_pos (by omega)]
      · rw [if_neg e2, if_neg (by omega)]
theorem list_eq (n : Nat) (l m : List Int) (hl : l.length = n) (hm : m.length = n) (h : ∀ j, j < n → l.getD j 0 = m.getD j 0) : l = m := by
  apply List.ext_getElem (by omega)
  intro j h1 h2
  have := h j (by omega)
  simpa [List.getD, h1, h2] using this
theorem blk_congr (f g : Nat → List Int) (hf : ∀ i, i < 4 → (f i).length = 64) (h : ∀ i, i < 4 → f i = g i) : blk f 4 = blk g 4 := by
  have hg : ∀ i, i < 4 → (g i).length = 64 := fun i hi => by rw [← h i hi]; exact hf i hi
  obtain ⟨a1, a2⟩ := blk_getD f hf 4 (by omega)
  obtain ⟨b1, b2⟩ := blk_getD g hg 4 (by omega)
  refine list_eq 256 _ _ a1 b1 fun j hj => ?_
  rw [a2, b2, h (j / 64) (by omega)]
theorem lay_blk (f : Nat → List Int) (hf : ∀ i, i < 4 → (f i).length = 64) (k : Nat) (hk : k < 4) (s : List Int) (hs : s.length = 64) : lay (blk f 4) k s = blk (fun i => if i = k then s else f i) 4 := by
  have hg : ∀ i, i < 4 → (if i = k then s else f i).length = 64 := fun i hi => by
    by_cases e : i = k
    · rw [if_pos e]; exact hs
    · rw [if_neg e]; exact hf i hi
  obtain ⟨a1, a2⟩ := blk_getD f hf 4 (by omega)
  obtain ⟨b1, b2⟩ := blk_getD (fun i => if i = k then s else f i) hg 4 (by omega)
  refine list_eq 256 _ _ (lay_length _ _ _ a1 hs hk) b1 fun j hj => ?_
  have h4 : j < 64 * 4 := by omega
  rw [lay_getD _ a1 k hk s hs, a2, b2]
  simp only [if_pos h4]
  by_cases e : 64 * k ≤ j ∧ j < 64 * k + 64
  · rw [if_pos e, if_pos (by omega), show j - 64 * k = j % 64 by omega]
  · rw [if_neg e, if_neg (by omega)]
theorem blk_bytes (f : Nat → List Int) (hf : ∀ i, i < 4 → Sec (f i)) : Bytes (blk f 4) := by
  obtain ⟨a1, a2⟩ := blk_getD f (fun i hi => (hf i hi).1) 4 (by omega)
  intro y hy
  obtain ⟨j, hj, rfl⟩ := List.mem_iff_getElem.1 hy
  have := a2 j
  rw [if_pos (by omega)] at this
  simp only [List.getD] at this
  rw [List.getElem?_eq_getElem hj] at this
  simp only [Option.getD_some] at this
  rw [this]
  exact (hf (j / 64) (by omega)).2.at _
theorem blk_cut (B : List Int) (hB : B.length = 256) : blk (cut B) 4 = B := by
  have hf : ∀ i, i < 4 → (cut B i).length = 64 := fun i hi => cut_length B i hB hi
  obtain ⟨a1, a2⟩ := blk_getD (cut B) hf 4 (by omega)
  refine list_eq 256 _ _ a1 hB fun j hj => ?_
  rw [a2, if_pos (by omega)]
  unfold cut
  simp only [List.getD]
  rw [List.getElem?_take, if_pos (by omega), List.getElem?_drop, show 64 * (j / 64) + j % 64 = j by omega]
theorem blk_zero : blk (fun _ => zs 64) 4 = zs 256 := by
  obtain ⟨a1, a2⟩ := blk_getD (fun _ => zs 64) (fun _ _ => zs_length 64) 4 (by omega)
  refine list_eq 256 _ _ a1 (zs_length 256) fun j hj => ?_
  rw [a2, if_pos (by omega)]
  simp only [List.getD]
  rw [zs_at, zs_at]
end Go.Proofs.Ytgnedbagelhcbaa
namespace Go.Proofs.Ytgnedbagelhcbaa
open Go.ChangeShapes Go.WideShapes Go.ChangeAt Go.RowKit
set_option linter.unusedVariables false
set_option linter.unusedSimpArgs false
set_option maxRecDepth 20000
def Dsk.seen (d : Dsk) (b : Int) : List Int := (over d.sure d.pend).block b
def mix (f g : Nat → List Int) (k : Nat) : List Int := blk (fun i => if i < k then f i else g i) 4
theorem mix_zero (f g : Nat → List Int) : mix f g 0 = blk g 4 := by unfold mix; congr 1
theorem mix_four (f g : Nat → List Int) (hf : ∀ i, i < 4 → (f i).length = 64) (hg : ∀ i, i < 4 → (g i).length = 64) : mix f g 4 = blk f 4 := by
  unfold mix
  refine blk_congr _ _ (fun i hi => ?_) (fun i hi => ?_)
  · simp only [if_pos hi]; exact hf i hi
  · simp only [if_pos hi]
theorem mix_len {f g : Nat → List Int} (hf : ∀ i, i < 4 → (f i).length = 64) (hg : ∀ i, i < 4 → (g i).length = 64) (k : Nat) : ∀ i, i < 4 → (if i < k then f i else g i).length = 64 := fun i hi => by
  by_cases e : i < k
  · rw [if_pos e]; exact hf i hi
  · rw [if_neg e]; exact hg i hi
theorem mix_length (f g : Nat → List Int) (hf : ∀ i, i < 4 → (f i).length = 64) (hg : ∀ i, i < 4 → (g i).length = 64) (k : Nat) : (mix f g k).length = 256 :=
  (blk_getD _ (mix_len hf hg k) 4 (by omega)).1
theorem mix_lay (f g : Nat → List Int) (hf : ∀ i, i < 4 → (f i).length = 64) (hg : ∀ i, i < 4 → (g i).length = 64) (k : Nat) (hk : k < 4) : lay (mix f g k) k (f k) = mix f g (k + 1) := by
  unfold mix
  rw [lay_blk _ (mix_len hf hg k) k hk (f k) (hf k hk)]
  refine blk_congr _ _ (fun i hi => ?_) (fun i hi => ?_)
  · by_cases e : i = k
    · rw [if_pos e]; exact hf k hk
    · rw [if_neg e]; exact mix_len hf hg k i hi
  · by_cases e : i = k
    · subst e; rw [if_pos rfl, if_pos (by omega)]
    · rw [if_neg e]
      by_cases e2 : i < k
      · rw [if_pos e2, if_pos (by omega)]
      · rw [if_neg e2, if_neg (by omega)]
theorem mix_skip (f g : Nat → List Int) (hf : ∀ i, i < 4 → (f i).length = 64) (hg : ∀ i, i < 4 → (g i).length = 64) (k : Nat) (hk : k < 4) (e : f k = g k) : mix f g k = mix f g (k + 1) := by
  unfold mix
  refine blk_congr _ _ (mix_len hf hg k) (fun i hi => ?_)
  by_cases e1 : i = k
  · subst e1; rw [if_neg (by omega), if_pos (by omega), e]
  · by_cases e2 : i < k
    · rw [if_pos e2, if_pos (by omega)]
    · rw [if_neg e2, if_neg (by omega)]
theorem sure_to {w : World} {g : Nat} {d : Dsk} {L : Loc} {N : Nat} (hd : DAt w g d L N) (b : Int) (hb : 0 ≤ b ∧ b < d.n) (C : List Int) (hC : d.sure.block b = C) :
    Calls Try.prog 31 #[.pointer (some ⟨g, 0, none⟩), .int .i64 b] w fun e w' => e = .returned (.agg (bs C)) ∧ Below w.heap.size w w' := by
  subst hC; exact sure_in hd b hb
set_option maxHeartbeats 1000000 in
theorem seen_in {w : World} {g : Nat} {d : Dsk} {L : Loc} {N : Nat} (hd : DAt w g d L N) (b : Int) (hb : 0 ≤ b ∧ b < d.n) :
    Calls Try.prog 29 #[.pointer (some ⟨g, 0, none⟩), .int .i64 b] w fun e w' => e = .returned (.agg (bs (d.seen b))) ∧ Below w.heap.size w w' := by
  have hn := hd.small
  have wb : Wf b := wf_of (by omega) (by omega)
  have hb' : decide (0 ≤ b ∧ b < (d.n : Int)) = true := decide_eq_true hb
  have HB : Hid (0 ≤ b ∧ b < (d.n : Int)) := hb
  clear hb
  obtain ⟨sN, hsu, _⟩ := hd.sure
  have wk : Hid (∀ i : Nat, i < 4 → Wf (i : Int)) := fun i hi => wf_of (by omega) (by omega)
  obtain ⟨F, HF⟩ : ∃ F : Nat → List Int, Hid (∀ i : Nat, d.sure.get b (i : Int) = F i) := ⟨fun i => d.sure.get b (i : Int), fun _ => rfl⟩
  obtain ⟨V, HV⟩ : ∃ V : Nat → List Int, Hid (∀ i : Nat, (over d.sure d.pend).get b (i : Int) = V i) := ⟨fun i => (over d.sure d.pend).get b (i : Int), fun _ => rfl⟩
  have HFL : Hid (∀ i, i < 4 → (F i).length = 64) := fun i hi => by rw [← HF.out i]; exact (hsu.get_sec wb (wk.out i hi)).1
  have HFV : Hid (∀ i : Nat, over (fun _ _ => none) d.pend b (i : Int) = none → F i = V i) := fun i e => by
    rw [← HF.out i, ← HV.out i]; unfold Secs.get; rw [over_or, e]; rfl
  have HGV : Hid (∀ i : Nat, ∀ s, over (fun _ _ => none) d.pend b (i : Int) = some s → s = V i) := fun i s e => by
    rw [← HV.out i]; unfold Secs.get; rw [over_or, e]; rfl
  have HVL : Hid (∀ i, i < 4 → (V i).length = 64) := fun i hi => by
    cases e : over (fun _ _ => none) d.pend b (i : Int) with
    | none => rw [← HFV.out i e]; exact HFL.out i hi
    | some s => rw [← HGV.out i s e]; exact (hd.fresh.sec wb (wk.out i hi) e).1
  have HS : Hid (d.sure.block b = mix V F 0) := by
    show _ = _
    rw [mix_zero]; unfold Secs.block
    congr 1; funext i; exact HF.out i
  have HE : Hid (d.seen b = mix V F 4) := by
    show _ = _
    rw [mix_four V F HVL.out HFL.out]; unfold Dsk.seen Secs.block
    congr 1; funext i; exact HV.out i
  rw [HE.out]
  have HML : Hid (∀ k, (mix V F k).length = 256) := mix_length V F HVL.out HFL.out
  have HMS : Hid (∀ k, k < 4 → lay (mix V F k) k (V k) = mix V F (k + 1)) := mix_lay V F HVL.out HFL.out
  have HMN : Hid (∀ k, k < 4 → F k = V k → mix V F k = mix V F (k + 1)) := fun k hk e => mix_skip V F HVL.out HFL.out k hk e.symm
  have hm0 := HML.out 0
  obtain ⟨C0, HC0⟩ : ∃ C0, Hid (mix V F 0 = C0) := ⟨_, rfl⟩
  rw [HC0.out] at hm0
  have HS' : Hid (d.sure.block b = C0) := by show _ = _; rw [HS.out, HC0.out]
  have hz := zero56
  have a0 : Row (w.alloc (.cells (bs (zs 256)) 56)) w.heap.size (bs (zs 256)) 56 := Row.new _ _ _
  have ab : Below w.heap.size w (w.alloc (.cells (bs (zs 256)) 56)) := (Below.refl _ _).alloc (Nat.le_refl _) _
  go_enter Try.func29, Try.ntmps29
  go_wp2_with (first
    | (go_at_call 31; refine (sure_to (hd.below ab) b HB.out C0 HS'.out).mono ?_; rintro e wz ⟨rfl, hzb⟩
       have hX : w.heap.size < wz.heap.size := Nat.lt_of_lt_of_le a0.lt hzb.size
       have q0 : Row (wz.alloc (.cells (bs (zs 256)) 56)) w.heap.size (bs (zs 256)) 56 := (a0.below hzb a0.lt).alloc _
       have q1 : Row (wz.alloc (.cells (bs (zs 256)) 56)) wz.heap.size (bs (zs 256)) 56 := Row.new _ _ _
       have z0 : Row ((wz.alloc (.cells (bs (zs 256)) 56)).setRow wz.heap.size (bs C0)) w.heap.size (bs (zs 256)) 56 := q0.other (by omega) _
       have z1 : Row ((wz.alloc (.cells (bs (zs 256)) 56)).setRow wz.heap.size (bs C0)) wz.heap.size (bs C0) 56 := q1.set _
       have zb : Below w.heap.size w ((wz.alloc (.cells (bs (zs 256)) 56)).setRow wz.heap.size (bs C0)) := below_setRow (((ab.trans (hzb.mono (Nat.le_of_lt a0.lt)))).alloc (Nat.le_of_lt hX) _) (Nat.le_of_lt hX) _)
    | (refine store_row rfl 56 (.tmp 5) (.tmp 11) rfl wz.heap.size C0 rfl rfl 56 _ q1 256 size56 (by rw [bs_size, zs_length]) hm0 ?_)
    | (go_at_call 53; refine (has_any (hd.below zb) b).mono ?_; rw [hb']; rintro e w' ⟨rfl, rfl⟩))
  clear q0 q1 a0 ab
  generalize (wz.alloc (.cells (bs (zs 256)) 56)).setRow wz.heap.size (bs C0) = w1 at z0 z1 zb ⊢
  generalize wz.heap.size = X at *
  rw [← HC0.out] at z1
  clear hzb
  go_loopw [17] (fun c wr => ∃ k : Nat, c = .int .i64 k ∧ k ≤ 4 ∧ Row wr w.heap.size (bs (zs 256)) 56 ∧ Row wr X (bs (mix V F k)) 56 ∧ Below w.heap.size w wr) (fun c _ => 4 - (intOf c).toNat)
  case atStart => exact ⟨0, rfl, by omega, z0, z1, zb⟩
  case round =>
    clear z0 z1 zb
    obtain ⟨k, rfl, hk4, r0, r1, rb⟩ := hrel
    have hml := HML.out k
    by_cases hk : k < 4
    · have hml' := HML.out (k + 1)
      have hvl := HVL.out k hk
      have dr := hd.below rb
      have hlk := dr.fresh.look_ok wb (wk.out k hk)
      have hgs := (dr.fresh.get_sec wb (wk.out k hk)).1
      have c2 := row_at dr.row 2 (.map (some L.b)) rfl
      have hz71 := zero114
      have hX' := r1.lt
      have hms := HMS.out k hk
      have hmn := HMN.out k hk
      obtain ⟨C, HC⟩ : ∃ C, Hid (mix V F k = C) := ⟨_, rfl⟩
      obtain ⟨C', HC'⟩ : ∃ C', Hid (mix V F (k + 1) = C') := ⟨_, rfl⟩
      rw [HC.out] at r1 hml hms hmn
      rw [HC'.out] at hml' hms hmn
      cases hf : over (fun _ _ => none) d.pend b (k : Int) with
      | none =>
        have hF := HFV.out k hf
        have hcc : C = C' := hmn hF
        have hget : (over (fun _ _ => none) d.pend).get b (k : Int) = zs 64 := by unfold Secs.get; rw [hf]; rfl
        rw [hget, hf] at hlk
        unfold pk at hlk
        simp only [Option.isSome_none] at hlk
        subst hcc
        clear hms hmn hF hgs hget hf
        have y0 : Row (wr.alloc (.cells (bs (zs 64)) 114)) wr.heap.size (bs (zs 64)) 114 := Row.new _ _ _
        have r0' : Row ((wr.alloc (.cells (bs (zs 64)) 114)).setRow wr.heap.size (bs (zs 64))) w.heap.size (bs (zs 256)) 56 := (r0.alloc _).other (by have := r0.lt; omega) _
        have r1' : Row ((wr.alloc (.cells (bs (zs 64)) 114)).setRow wr.heap.size (bs (zs 64))) X (bs C) 56 := (r1.alloc _).other (by omega) _
        have rb' : Below w.heap.size w ((wr.alloc (.cells (bs (zs 64)) 114)).setRow wr.heap.size (bs (zs 64))) := below_setRow (rb.alloc (Nat.le_of_lt r0.lt) _) (Nat.le_of_lt r0.lt) _
        go_wp2_with (first
          | (refine store_row rfl 114 (.tmp 7) (.tmp 29) rfl wr.heap.size (zs 64) rfl rfl 114 _ y0 64 size114 (by rw [bs_size, zs_length]) (zs_length 64) ?_))
        go_roundw
        case rel => exact ⟨k + 1, by go_num, by omega, r0', by rw [HC'.out]; exact r1', rb'⟩
        case measure => simp [intOf]; omega
      | some s =>
        have hs := HGV.out k s hf
        have hget : (over (fun _ _ => none) d.pend).get b (k : Int) = s := by unfold Secs.get; rw [hf]; rfl
        rw [hget, hf] at hlk
        unfold pk at hlk
        simp only [Option.isSome_some] at hlk
        rw [← hs] at hms hvl
        have HMS' : Hid (lay C k s = C') := hms
        clear hms hmn hs hgs hget hf
        have y0 : Row (wr.alloc (.cells (bs (zs 64)) 114)) wr.heap.size (bs (zs 64)) 114 := Row.new _ _ _
        have y1 : Row ((wr.alloc (.cells (bs (zs 64)) 114)).setRow wr.heap.size (bs s)) wr.heap.size (bs s) 114 := y0.set _
        have r0' : Row ((wr.alloc (.cells (bs (zs 64)) 114)).setRow wr.heap.size (bs s)) w.heap.size (bs (zs 256)) 56 := (r0.alloc _).other (by have := r0.lt; omega) _
        have r1' : Row ((wr.alloc (.cells (bs (zs 64)) 114)).setRow wr.heap.size (bs s)) X (bs C) 56 := (r1.alloc _).other (by omega) _
        have rb' : Below w.heap.size w ((wr.alloc (.cells (bs (zs 64)) 114)).setRow wr.heap.size (bs s)) := below_setRow (rb.alloc (Nat.le_of_lt r0.lt) _) (Nat.le_of_lt r0.lt) _
        go_wp2_with (first
          | (refine store_row rfl 114 (.tmp 7) (.tmp 29) rfl wr.heap.size s rfl rfl 114 _ y0 64 size114 (by rw [bs_size, zs_length]) hvl ?_)
          | (refine load_row rfl 56 (.tmp 5) rfl X rfl 56 (bs C) r1' 256 5 Try.underlying56 size56 (by rw [bs_size, hml]) ?_)
          | (refine load_row rfl 114 (.tmp 7) rfl wr.heap.size rfl 114 (bs s) y1 64 5 Try.underlying114 size114 (by rw [bs_size, hvl]) ?_)
          | (go_at_call 54; refine (lay_at C s hml hvl k hk C' HMS'.out _).mono ?_; rintro e wl ⟨rfl, hlb⟩
             have t0 := r0'.below hlb r0'.lt
             have t1 := r1'.below hlb r1'.lt
             have tb := rb'.trans (hlb.mono (Nat.le_of_lt r0'.lt)))
          | (refine store_row rfl 56 (.tmp 5) (.tmp 35) rfl X C' rfl rfl 56 _ t1 256 size56 (by rw [bs_size, hml]) hml' ?_))
        go_roundw
        case rel => exact ⟨k + 1, by go_num, by omega, t0.other (by omega) _, by rw [HC'.out]; exact t1.set _, below_setRow tb (by omega) _⟩
        case measure => simp [intOf]; omega
    · have e4 : k = 4 := by omega
      subst e4
      obtain ⟨C, HC⟩ : ∃ C, Hid (mix V F 4 = C) := ⟨_, rfl⟩
      rw [HC.out] at r1 hml
      go_wp2_with (first
        | (refine load_row rfl 56 (.tmp 5) rfl X rfl 56 (bs C) r1 256 5 Try.underlying56 size56 (by rw [bs_size, hml]) ?_)
        | (refine store_row rfl 56 (.tmp 4) (.tmp 37) rfl w.heap.size C rfl rfl 56 _ r0 256 size56 (by rw [bs_size, zs_length]) hml ?_))
      rw [HC.out]
      refine bodyPost_ret (v := .agg (bs C)) ?_ rfl ⟨rfl, below_setRow rb (Nat.le_refl _) _⟩
      exact ret_row (fn := Try.f29) rfl _ _ w.heap.size 56 (bs C) 256 5 rfl (r0.set _) Try.underlying56 size56 (by rw [bs_size, hml])
end Go.Proofs.Ytgnedbagelhcbaa
namespace Go.Proofs.Ytgnedbagelhcbaa
open Go.ChangeShapes Go.WideShapes Go.ChangeAt Go.RowKit
set_option linter.unusedVariables false
set_option linter.unusedSimpArgs false
set_option maxRecDepth 20000
theorem ret_two {P : Program} {fn : Func} {p c : Tmp} {ty : TypeId} (h : fn.results = #[.cell p ty, .tmp c]) (tmps : Array Value) (w : World) (g : Nat) (t : TypeId) (cs : Array Value) (n : Nat) (e : TypeId) (y : Value)
    (hp : tmps.getD p undef = .pointer (some ⟨g, 0, none⟩)) (hc : tmps.getD c undef = y) (hg : Row w g cs t)
    (hu : P.underlying ty = some (.array n e)) (hi : (P.info? ty).map (·.size) = some n) (hn : cs.size = n) :
    (results fn tmps).run P w = .ok (.tuple #[.agg cs, y]) w := by
  have hp' : tmps[p]?.getD undef = .pointer (some ⟨g, 0, none⟩) := by simpa using hp
  have hc' : tmps[c]?.getD undef = y := by simpa using hc
  simp [results, h, hp', hc', asAddr, run_loadVar_row w g t ty cs (0, 0) _ hg hu rfl (by rw [hi, hn])]
theorem read_err (v : Value) (b E : Int) (hE : ¬ E = 0) (w : World) (F : Nat → Prop) (hF : ∀ k, F k → k < w.heap.size) (T : World → Prop) (hT : ∀ a c, T a → Below a.heap.size a c → T c) (hT2 : ∀ a j cs, T a → ¬ F j → T (a.setRow j cs))
    (hh : ∀ wa, Below w.heap.size w wa → Calls Try.prog 56 #[v, .int .i64 b] wa fun e w' => e = .returned (.int .i64 E) ∧ Off F wa w' ∧ T w') :
    Calls Try.prog 58 #[v, .int .i64 b] w fun e w' => e = .returned (.tuple #[.agg (bs (zs 256)), .int .i64 E]) ∧ Off F w w' ∧ T w' := by
  have hz := zero56
  have a0 : Row (w.alloc (.cells (bs (zs 256)) 56)) w.heap.size (bs (zs 256)) 56 := Row.new _ _ _
  have ab : Below w.heap.size w (w.alloc (.cells (bs (zs 256)) 56)) := (Below.refl _ _).alloc (Nat.le_refl _) _
  have hn0 : ¬ F w.heap.size := fun q => by have := hF _ q; omega
  go_enter Try.func58, Try.ntmps58
  go_wp2_with (first
    | (go_at_call 56; refine (hh _ ab).mono ?_; rintro e w' ⟨rfl, ho, ht⟩
       have q0 : Row w' w.heap.size (bs (zs 256)) 56 := a0.off ho hn0)
    | (refine build_none rfl 56 rfl (bs (zs 256)) built56 ?_)
    | (refine store_row rfl 56 (.tmp 4) (.tmp 12) rfl w.heap.size (zs 256) rfl rfl 56 _ q0 256 size56 (by rw [bs_size, zs_length]) (zs_length 256) ?_))
  refine bodyPost_ret (v := .tuple #[.agg (bs (zs 256)), .int .i64 E]) ?_ rfl ⟨rfl, ?_, hT2 _ _ _ ht hn0⟩
  · exact ret_two (fn := Try.f58) rfl _ _ w.heap.size 56 (bs (zs 256)) 256 5 (.int .i64 E) rfl rfl (q0.set _) Try.underlying56 size56 (by rw [bs_size, zs_length])
  · have o1 : Off F w w' := (Off.of_below (F := F) ab).trans ho (fun j hj => Or.inl hj)
    exact o1.trans (Off.of_setRow (F := (· = w.heap.size)) _ _ _ rfl) (fun j hj => Or.inr (by omega))
theorem read_ok (v : Value) (b : Int) (C : List Int) (hC : C.length = 256) (w : World) (F : Nat → Prop) (hF : ∀ k, F k → k < w.heap.size) (T : World → Prop) (hT : ∀ a c, T a → Below a.heap.size a c → T c) (hT2 : ∀ a j cs, T a → ¬ F j → T (a.setRow j cs))
    (hh : ∀ wa, Below w.heap.size w wa → Calls Try.prog 56 #[v, .int .i64 b] wa fun e w' => e = .returned (.int .i64 0) ∧ Off F wa w' ∧ T w')
    (hs : ∀ wa, T wa → Calls Try.prog 29 #[v, .int .i64 b] wa fun e w' => e = .returned (.agg (bs C)) ∧ Below wa.heap.size wa w') :
    Calls Try.prog 58 #[v, .int .i64 b] w fun e w' => e = .returned (.tuple #[.agg (bs C), .int .i64 0]) ∧ Off F w w' ∧ T w' := by
  have hz := zero56
  have a0 : Row (w.alloc (.cells (bs (zs 256)) 56)) w.heap.size (bs (zs 256)) 56 := Row.new _ _ _
  have ab : Below w.heap.size w (w.alloc (.cells (bs (zs 256)) 56)) := (Below.refl _ _).alloc (Nat.le_refl _) _
  have hn0 : ¬ F w.heap.size := fun q => by have := hF _ q; omega
  go_enter Try.func58, Try.ntmps58
  go_wp2_with (first
    | (go_at_call 56; refine (hh _ ab).mono ?_; rintro e w' ⟨rfl, ho, ht⟩
       have q0 : Row w' w.heap.size (bs (zs 256)) 56 := a0.off ho hn0)
    | (go_at_call 29; refine (hs _ ht).mono ?_; rintro e wz ⟨rfl, hzb⟩
       have z0 := q0.below hzb q0.lt
       have zt := hT _ _ ht hzb)
    | (refine store_row rfl 56 (.tmp 4) (.tmp 16) rfl w.heap.size C rfl rfl 56 _ z0 256 size56 (by rw [bs_size, zs_length]) hC ?_))
  refine bodyPost_ret (v := .tuple #[.agg (bs C), .int .i64 0]) ?_ rfl ⟨rfl, ?_, hT2 _ _ _ zt hn0⟩
  · exact ret_two (fn := Try.f58) rfl _ _ w.heap.size 56 (bs C) 256 5 (.int .i64 0) rfl rfl (z0.set _) Try.underlying56 size56 (by rw [bs_size, hC])
  · have o1 : Off F w wz := ((Off.of_below (F := F) ab).trans ho (fun j hj => Or.inl hj)).trans (Off.of_below (F := F) hzb) (fun j hj => Or.inl hj)
    exact o1.trans (Off.of_setRow (F := (· = w.heap.size)) _ _ _ rfl) (fun j hj => Or.inr (by omega))
def read (d : Dsk) (b : Int) : List Int × Int × Dsk := if (ask d b).1 = 0 then ((ask d b).2.seen b, 0, (ask d b).2) else (zs 256, (ask d b).1, (ask d b).2)
theorem count_seen (d : Dsk) (b : Int) : (count d).2.seen b = d.seen b := by unfold count; split; · rfl
                                                                             · split <;> rfl
theorem Dsk.seen_length {w : World} {g : Nat} {d : Dsk} {L : Loc} {N : Nat} (h : DAt w g d L N) (b : Int) (hb : 0 ≤ b ∧ b < d.n) : (d.seen b).length = 256 ∧ Bytes (d.seen b) := by
  have hn := h.small
  have wb : Wf b := wf_of (by omega) (by omega)
  obtain ⟨s, hs, _⟩ := h.sure
  have key : ∀ i : Nat, i < 4 → Sec ((over d.sure d.pend).get b (i : Int)) := fun i hi => by
    have wi : Wf (i : Int) := wf_of (by omega) (by omega)
    unfold Secs.get
    rw [over_or]
    cases e : over (fun _ _ => none) d.pend b (i : Int) with
    | none =>
      have := hs.get_sec wb wi
      unfold Secs.get at this
      simpa using this
    | some x => simpa using h.fresh.sec wb wi e
  exact ⟨(blk_getD _ (fun i hi => (key i hi).1) 4 (by omega)).1, blk_bytes _ key⟩
theorem ask_in {d : Dsk} {b : Int} (h : (ask d b).1 = 0) : 0 ≤ b ∧ b < (d.n : Int) ∧ ask d b = count d := by
  unfold ask at h ⊢
  split at h
  · cases h
  · rename_i h1
    split at h
    · rename_i h2
      rw [if_neg h1, if_pos h2]; exact ⟨h2.1, h2.2, rfl⟩
    · cases h
theorem count_n (d : Dsk) : (count d).2.n = d.n := by unfold count; split; · rfl
                                                      · split <;> rfl
theorem DAt.setRow {w : World} {g : Nat} {d : Dsk} {L : Loc} {N : Nat} (h : DAt w g d L N) (j : Nat) (cs : Array Value) (hj : ¬ foot g L j) : DAt (w.setRow j cs) g d L N :=
  h.off (F := (· = j)) (Off.of_setRow _ _ _ rfl) (fun k hk q => hj (q ▸ hk))
theorem read_any {w : World} {g : Nat} {d : Dsk} {L : Loc} {N : Nat} (h : DAt w g d L N) (ho : d.ops < 9223372036854775806) (b : Int) :
    Calls Try.prog 58 #[.pointer (some ⟨g, 0, none⟩), .int .i64 b] w fun e w' => e = .returned (.tuple #[.agg (bs (read d b).1), .int .i64 (read d b).2.1]) ∧ DAt w' g (read d b).2.2 L N ∧ Off (foot g L) w w' := by
  have hF : ∀ k, foot g L k → k < w.heap.size := fun k hk => h.lt hk
  have hask : ∀ wa, Below w.heap.size w wa → Calls Try.prog 56 #[.pointer (some ⟨g, 0, none⟩), .int .i64 b] wa fun e w' => e = .returned (.int .i64 (ask d b).1) ∧ Off (foot g L) wa w' ∧ DAt w' g (ask d b).2 L N := fun wa hb => by
    refine (ask_any (h.below hb) ho b).mono ?_
    rintro e w' ⟨rfl, h1, h2⟩
    exact ⟨rfl, h2.mono (fun j hj => Or.inl (Or.inl hj)), h1⟩
  by_cases e0 : (ask d b).1 = 0
  · have er : read d b = ((ask d b).2.seen b, 0, (ask d b).2) := by unfold read; rw [if_pos e0]
    rw [er]
    rw [e0] at hask
    obtain ⟨b1, b2, b3⟩ := ask_in e0
    have hlen : ((ask d b).2.seen b).length = 256 := by rw [b3, count_seen]; exact (Dsk.seen_length h b ⟨b1, b2⟩).1
    refine (read_ok _ b ((ask d b).2.seen b) hlen w (foot g L) hF (fun w' => DAt w' g (ask d b).2 L N) (fun a c ha hb => ha.below hb) (fun a j cs ha hj => ha.setRow j cs hj) hask ?_).mono ?_
    · intro wa ha
      exact seen_in ha b ⟨b1, by rw [b3, count_n]; exact b2⟩
    · rintro e w' ⟨rfl, h1, h2⟩
      exact ⟨rfl, h2, h1⟩
  · have er : read d b = (zs 256, (ask d b).1, (ask d b).2) := by unfold read; rw [if_neg e0]
    rw [er]
    refine (read_err _ b (ask d b).1 e0 w (foot g L) hF (fun w' => DAt w' g (ask d b).2 L N) (fun a c ha hb => ha.below hb) (fun a j cs ha hj => ha.setRow j cs hj) hask).mono ?_
    rintro e w' ⟨rfl, h1, h2⟩
    exact ⟨rfl, h2, h1⟩
end Go.Proofs.Ytgnedbagelhcbaa
