/-
  The machine of chapter 25 as it lies in memory: pages with their versions, live transactions with what they have written.
-/
import Derived.Test.YtpncmbkklkfmnaaLst
import Derived.Maps.RangeWalk
import Derived.Maps.OwnSet
import Derived.Maps.Ext
namespace Go.Proofs.Ytpncmbkklkfmnaa
open Go.ChangeShapes Go.WideShapes Go.ChangeAt Go.RowKit
open Go.Deep Go.Maps
set_option linter.unusedVariables false
set_option linter.unusedSimpArgs false

theorem splice_set {α : Type} (L : List α) (o : Nat) (x : α) (r : List α) (h : o < L.length) : splice (L.set o x) (o + 1) r = splice L o (x :: r) := by
  unfold splice
  have e1 : (L.set o x).take (o + 1) = L.take o ++ [x] := by
    rw [List.take_add_one, List.take_set_of_le (by omega)]
    simp [h]
  have e2 : (L.set o x).drop (o + 1 + r.length) = L.drop (o + (x :: r).length) := by
    rw [List.drop_set_of_lt (by omega)]
    simp; congr 1; omega
  rw [e1, e2]; simp
theorem fold_set : ∀ (l : List Value) (n off : Nat) (cs : Array Value), off + n + l.length ≤ cs.size → (l.zipIdx n).foldl (fun cs (p : Value × Nat) => cs.setIfInBounds (off + p.2) p.1) cs = (⟨splice cs.toList (off + n) l⟩ : Array Value)
  | [], n, off, cs, h => by simp [splice]
  | x :: r, n, off, cs, h => by
    rw [List.zipIdx_cons, List.foldl_cons, fold_set r (n + 1) off _ (by simp at h ⊢; omega)]
    congr 1
    simp only [Array.toList_setIfInBounds]
    have := splice_set cs.toList (off + n) x r (by simp at h ⊢; omega)
    rw [← this]; rfl
theorem fold_arr (v : Array Value) (off : Nat) (cs : Array Value) (h : off + v.size ≤ cs.size) : v.zipIdx.foldl (fun cs (p : Value × Nat) => cs.setIfInBounds (off + p.2) p.1) cs = (⟨splice cs.toList off v.toList⟩ : Array Value) := by
  rw [← Array.foldl_toList, Array.toList_zipIdx]
  exact fold_set v.toList 0 off cs (by simpa using h)

theorem fill_step (place : Nat → Option (Nat × Nat)) (cells : Array Value) (i : Nat) (v : Value) (rest : List (Nat × Value)) (off size : Nat) (hp : place i = some (off, size)) (h1 : v.cells.size = size) (h2 : off + size ≤ cells.size) :
    Instr.fill place cells ((i, v) :: rest) = Instr.fill place ⟨splice cells.toList off v.cells.toList⟩ rest := by
  have : ¬ (decide (v.cells.size ≠ size) || decide (off + v.cells.size > cells.size)) = true := by simp [h1]; omega
  rw [Instr.fill, hp]
  simp only []
  rw [if_neg this]
  have := fold_arr v.cells off cells (by omega)
  rw [← this]

/-- The places of a struct's fields. -/
def placesOf (P : Program) (t : TypeId) : Option (List (Nat × Nat)) :=
  match P.underlying t with
  | some (.struct fields) => fields.toList.mapM (fun f => (P.info? f.type).map fun i => (f.offset, i.size))
  | _ => none
theorem built_struct {P : Program} {t : TypeId} {z : Value} {places : List (Nat × Nat)} (hi : (P.info? t).map (·.zero) = some (some z)) (hp : placesOf P t = some places) (parts : List (Nat × Value)) : P.built t parts = Instr.fill (places.toArray[·]?) z.cells parts := by
  unfold Program.built
  unfold placesOf at hp
  cases hq : P.info? t with
  | none => simp [hq] at hi
  | some it =>
    simp [hq] at hi
    split at hp
    · rename_i fields hu
      rw [hu]
      simp only [hi, hp]
    · cases hp
theorem splice_size {α : Type} (L : List α) (o : Nat) (r : List α) (h : o + r.length ≤ L.length) : (⟨splice L o r⟩ : Array α).size = L.length := by
  simp [splice]; omega
theorem lawK : Keyed Try.prog 33 := int_keyed Try.underlying33
/-- A written page, read off a value. -/
def byteOf? : Value → Option Int
  | .int .u8 x => if 0 ≤ x ∧ x ≤ 255 then some x else none
  | _ => none
def wrOf (v : Value) : Option (List Int) :=
  match v with
  | .agg cs => if cs.size = 64 then cs.toList.mapM byteOf? else none
  | _ => none
def wrR (v : Value) : Option (DataW (List Int) × List MemPlace) := (wrOf v).map fun xs => (.held xs, [])
/-- A written page: 64 bytes. -/
def Wr (xs : List Int) : Prop := xs.length = 64 ∧ Bytes xs
theorem bytes_mapM : ∀ (xs : List Int), Bytes xs → (xs.map (Value.int .u8)).mapM byteOf? = some xs
  | [], _ => rfl
  | x :: r, h => by
    have hx := h x (by simp)
    have ih := bytes_mapM r (fun y hy => h y (by simp [hy]))
    rw [List.map_cons, List.mapM_cons, ih]
    simp [byteOf?, hx.1, hx.2]
theorem mapM_bytes : ∀ (cs : List Value) (xs : List Int), cs.mapM byteOf? = some xs → cs = xs.map (Value.int .u8) ∧ Bytes xs
  | [], xs, h => by simp at h; subst h; exact ⟨rfl, fun y hy => nomatch hy⟩
  | c :: r, xs, h => by
    rw [List.mapM_cons] at h
    cases hc : byteOf? c with
    | none => simp [hc] at h
    | some x =>
      cases hr : r.mapM byteOf? with
      | none => simp [hc, hr] at h
      | some ys =>
        simp [hc, hr] at h
        subst h
        obtain ⟨e, hb⟩ := mapM_bytes r ys hr
        have hx : c = .int .u8 x ∧ 0 ≤ x ∧ x ≤ 255 := by
          unfold byteOf? at hc
          split at hc
          · split at hc
            · rename_i h1
              cases hc; exact ⟨rfl, h1⟩
            · cases hc
          · cases hc
        refine ⟨by rw [hx.1, e]; rfl, fun y hy => ?_⟩
        rcases List.mem_cons.1 hy with rfl | hy
        · exact hx.2
        · exact hb y hy
theorem wrR_mk {xs : List Int} (h : Wr xs) : wrR (.agg (bs xs)) = some (.held xs, []) := by
  have : wrOf (.agg (bs xs)) = some xs := by
    unfold wrOf
    simp only [bs_size, h.1]
    exact bytes_mapM xs h.2
  unfold wrR; rw [this]; rfl
theorem wrR_inv {v : Value} {y : DataW (List Int) × List MemPlace} (h : wrR v = some y) : ∃ xs, Wr xs ∧ v = .agg (bs xs) ∧ y = (.held xs, []) := by
  unfold wrR at h
  cases hs : wrOf v with
  | none => simp [hs] at h
  | some xs =>
    simp [hs] at h
    unfold wrOf at hs
    split at hs
    · split at hs
      · rename_i cs hc
        obtain ⟨e, hb⟩ := mapM_bytes _ _ hs
        refine ⟨xs, ⟨?_, hb⟩, ?_, h.symm⟩
        · have := congrArg List.length e; simp at this; omega
        · unfold bs; rw [← e]
      · cases hs
    · cases hs


/-- The written pages, each with its number, as the map that holds them is read. -/
def lits (L : List (Int × List Int)) : List (Lit × DataW (List Int)) := L.map fun p => (.int .u16 p.1, .held p.2)
def setD (L : List (Int × List Int)) : DataW (List Int) := .map (lits L)
theorem setD_size (L : List (Int × List Int)) : Maps.size (setD L) = L.length := by simp [setD, lits, Maps.size]
theorem same_u16 (a b : Int) : (Lit.int .u16 a).sameKey (.int .u16 b) = decide (a = b) := by simp [Lit.sameKey]
def hasP (L : List (Int × List Int)) (k : Int) : Bool := L.any fun p => decide (p.1 = k)
/-- A page as it stands in the set; noughts where it doesn't. -/
def atP (L : List (Int × List Int)) (k : Int) : List Int := match L.find? fun p => decide (p.1 = k) with | some p => p.2 | none => zs 64
theorem setD_has (L : List (Int × List Int)) (k : Int) : Maps.has (setD L) (.int .u16 k) = hasP L k := by
  simp only [setD, lits, Maps.has, hasP, List.any_map]
  congr 1
  funext p; exact same_u16 _ _
theorem setD_at (L : List (Int × List Int)) (k : Int) : (setD L).atKey (.int .u16 k) (.held (zs 64)) = .held (atP L k) := by
  unfold atP setD lits DataW.atKey
  simp only
  rw [List.find?_map]
  have e : ((fun p : Lit × DataW (List Int) => p.1.sameKey (.int .u16 k)) ∘ fun p : Int × List Int => ((.int .u16 p.1, .held p.2) : Lit × DataW (List Int))) = fun p => decide (p.1 = k) := by
    funext p; exact same_u16 _ _
  rw [e]
  cases L.find? fun p => decide (p.1 = k) <;> rfl
/-- One is put in, in the order of the numbers. -/
def insP (x : Int × List Int) : List (Int × List Int) → List (Int × List Int)
  | [] => [x]
  | y :: r => if x.1 < y.1 then x :: y :: r else y :: insP x r
def putP (L : List (Int × List Int)) (k : Int) (ys : List Int) : List (Int × List Int) := insP (k, ys) (L.filter fun p => !decide (p.1 = k))
theorem insert_lits (x : Int × List Int) (L : List (Int × List Int)) : DataW.insert (.int .u16 x.1, .held x.2) (lits L) = lits (insP x L) := by
  induction L with
  | nil => rfl
  | cons y r ih =>
    have e : (Lit.int .u16 x.1).before (.int .u16 y.1) = decide (x.1 < y.1) := by simp [Lit.before]
    show (if (Lit.int .u16 x.1).before (.int .u16 y.1) = true then _ else (Lit.int .u16 y.1, DataW.held y.2) :: DataW.insert _ (lits r)) = _
    rw [e, ih]
    show _ = lits (if x.1 < y.1 then x :: y :: r else y :: insP x r)
    by_cases h : x.1 < y.1
    · simp [h, lits]
    · simp [h, lits]
theorem setD_put (L : List (Int × List Int)) (k : Int) (ys : List Int) : (setD L).put (.int .u16 k) (.held ys) = setD (putP L k ys) := by
  show DataW.map (DataW.insert _ ((lits L).filter fun p => !p.1.sameKey (.int .u16 k))) = _
  have e : (lits L).filter (fun p => !p.1.sameKey (.int .u16 k)) = lits (L.filter fun p => !decide (p.1 = k)) := by
    unfold lits
    rw [List.filter_map]
    congr 1
    congr 1
    funext p
    show (!_) = _
    rw [same_u16]
  rw [e]
  have := insert_lits (k, ys) (L.filter fun p => !decide (p.1 = k))
  rw [this]
  rfl
theorem insP_mem (x : Int × List Int) (L : List (Int × List Int)) (p : Int × List Int) : p ∈ insP x L ↔ p = x ∨ p ∈ L := by
  induction L with
  | nil => simp [insP]
  | cons y r ih =>
    unfold insP
    split
    · simp
    · simp only [List.mem_cons, ih]
      constructor
      · rintro (h | h | h)
        · exact Or.inr (Or.inl h)
        · exact Or.inl h
        · exact Or.inr (Or.inr h)
      · rintro (h | h | h)
        · exact Or.inr (Or.inl h)
        · exact Or.inl h
        · exact Or.inr (Or.inr h)
theorem insP_length (x : Int × List Int) (L : List (Int × List Int)) : (insP x L).length = L.length + 1 := by
  induction L with
  | nil => rfl
  | cons y r ih =>
    unfold insP
    split
    · rfl
    · simp [ih]
theorem insP_rising (x : Int × List Int) (L : List (Int × List Int)) (h : L.Pairwise fun p q => p.1 < q.1) (hx : ∀ p ∈ L, ¬ p.1 = x.1) : (insP x L).Pairwise fun p q => p.1 < q.1 := by
  induction L with
  | nil => simp [insP]
  | cons y r ih =>
    obtain ⟨h1, h2⟩ := List.pairwise_cons.1 h
    unfold insP
    split
    · rename_i hlt
      refine List.pairwise_cons.2 ⟨fun q hq => ?_, h⟩
      rcases List.mem_cons.1 hq with rfl | hq
      · exact hlt
      · have := h1 q hq; omega
    · rename_i hlt
      refine List.pairwise_cons.2 ⟨fun q hq => ?_, ih h2 (fun p hp => hx p (by simp [hp]))⟩
      rcases (insP_mem x r q).1 hq with rfl | hq
      · have := hx y (by simp); omega
      · exact h1 q hq
theorem putP_mem {L : List (Int × List Int)} {k : Int} {ys : List Int} {p : Int × List Int} : p ∈ putP L k ys ↔ p = (k, ys) ∨ (p ∈ L ∧ ¬ p.1 = k) := by
  unfold putP
  rw [insP_mem, List.mem_filter]
  simp
theorem putP_rising {L : List (Int × List Int)} (h : L.Pairwise fun p q => p.1 < q.1) (k : Int) (ys : List Int) : (putP L k ys).Pairwise fun p q => p.1 < q.1 :=
  insP_rising _ _ (h.filter _) fun p hp => by simpa using (List.mem_filter.1 hp).2
theorem mem_one {L : List (Int × List Int)} (h : L.Pairwise fun p q => p.1 < q.1) {p q : Int × List Int} (hp : p ∈ L) (hq : q ∈ L) (e : p.1 = q.1) : p = q := by
  induction L with
  | nil => simp at hp
  | cons y r ih =>
    obtain ⟨h1, h2⟩ := List.pairwise_cons.1 h
    rcases List.mem_cons.1 hp with rfl | hp' <;> rcases List.mem_cons.1 hq with rfl | hq'
    · rfl
    · have := h1 q hq'; omega
    · have := h1 p hp'; omega
    · exact ih h2 hp' hq'
theorem at_mem {L : List (Int × List Int)} (h : L.Pairwise fun p q => p.1 < q.1) {k : Int} {ys : List Int} (hm : (k, ys) ∈ L) : atP L k = ys ∧ hasP L k = true := by
  have hh : hasP L k = true := List.any_eq_true.2 ⟨_, hm, by simp⟩
  refine ⟨?_, hh⟩
  have hs : (L.find? fun p => decide (p.1 = k)).isSome = true := List.find?_isSome.2 ⟨_, hm, by simp⟩
  obtain ⟨y, hy⟩ := Option.isSome_iff_exists.1 hs
  have h1 := List.find?_some hy
  have h2 := List.mem_of_find?_eq_some hy
  simp at h1
  have := mem_one h h2 hm h1
  unfold atP
  rw [hy, this]
theorem at_none {L : List (Int × List Int)} {k : Int} (h : hasP L k = false) : atP L k = zs 64 := by
  have e : L.find? (fun p => decide (p.1 = k)) = none := by
    rw [List.find?_eq_none]
    intro p hp
    have := List.any_eq_false.1 h p hp
    exact this
  unfold atP
  rw [e]
theorem has_mem {L : List (Int × List Int)} {k : Int} (h : hasP L k = true) : ∃ ys, (k, ys) ∈ L := by
  obtain ⟨p, hp, e⟩ := List.any_eq_true.1 h
  simp at e
  exact ⟨p.2, by rw [← e]; exact hp⟩
theorem put_same {L : List (Int × List Int)} (h : L.Pairwise fun p q => p.1 < q.1) (k : Int) (ys : List Int) : atP (putP L k ys) k = ys ∧ hasP (putP L k ys) k = true := at_mem (putP_rising h k ys) (putP_mem.2 (Or.inl rfl))
theorem put_other {L : List (Int × List Int)} (h : L.Pairwise fun p q => p.1 < q.1) (k : Int) (ys : List Int) {j : Int} (hj : ¬ j = k) : atP (putP L k ys) j = atP L j ∧ hasP (putP L k ys) j = hasP L j := by
  cases hh : hasP L j with
  | true =>
    obtain ⟨zs', hm⟩ := has_mem hh
    obtain ⟨h1, h2⟩ := at_mem (putP_rising h k ys) (putP_mem.2 (Or.inr ⟨hm, hj⟩))
    rw [h1, h2, (at_mem h hm).1]
    exact ⟨rfl, rfl⟩
  | false =>
    have hn : hasP (putP L k ys) j = false := by
      cases hq : hasP (putP L k ys) j with
      | false => rfl
      | true =>
        obtain ⟨zs', hm⟩ := has_mem hq
        rcases putP_mem.1 hm with e | ⟨e, _⟩
        · cases e; exact absurd rfl hj
        · have := (at_mem h e).2
          rw [hh] at this; cases this
    rw [at_none hn, at_none hh, hn]
    exact ⟨rfl, rfl⟩
theorem put_length {L : List (Int × List Int)} (h : L.Pairwise fun p q => p.1 < q.1) (k : Int) (ys : List Int) : (putP L k ys).length = if hasP L k = true then L.length else L.length + 1 := by
  unfold putP
  rw [insP_length]
  split
  · rename_i hh
    have hf := Maps.length_strike (H := List Int) (k := .int .u16 k) (lits L) (by
      unfold lits
      rw [List.pairwise_map]
      exact h.imp fun {a b} q e => by simp at e; omega)
    have e1 : ((lits L).filter fun p => !p.1.sameKey (.int .u16 k)).length = (L.filter fun p => !decide (p.1 = k)).length := by
      unfold lits
      rw [List.filter_map, List.length_map]
      congr 1
      congr 1
      funext p
      show (!_) = _
      rw [same_u16]
    have e2 : (lits L).any (fun p => p.1.sameKey (.int .u16 k)) = true := by
      have := setD_has L k
      rw [hh] at this
      exact this
    rw [e1, e2] at hf
    simp [lits] at hf
    exact hf
  · rename_i hh
    have : L.filter (fun p => !decide (p.1 = k)) = L := List.filter_eq_self.2 fun p hp => by
      have := List.any_eq_false.1 (Bool.not_eq_true _ ▸ hh) p hp
      simpa using this
    rw [this]
theorem ownsMap_tight {H : Type} {w : World} {P : Program} {k : TypeId} {R : Value → Option (DataW H × List MemPlace)} {b n : Nat} {D : DataW H} (h : w.ownsMap P k R b n D) : w.ownsMap P k R b (Maps.size D) D := by
  obtain ⟨es, clock, hb, F, _, rfl⟩ := h
  exact ⟨es, clock, hb, F, by simp [Maps.size, length_sorted], rfl⟩
theorem ownsMap_off {H : Type} {F : Nat → Prop} {w w' : World} {P : Program} {k : TypeId} {R : Value → Option (DataW H × List MemPlace)} {b n : Nat} {D : DataW H} (h : w.ownsMap P k R b n D) (ho : Off F w w') (hF : ¬ F b) : w'.ownsMap P k R b n D := by
  have hl := h.lt
  obtain ⟨es, clock, hb, r⟩ := h
  exact ⟨es, clock, by rw [ho.block b hl hF]; exact hb, r⟩

theorem zs_wr : Wr (zs 64) := ⟨zs_length _, fun y hy => by rw [List.eq_of_mem_replicate hy]; omega⟩
theorem below_same {a b : World} (h : b.heap = a.heap) (h1 : b.os = a.os) (h2 : b.tape = a.tape) (h3 : b.output = a.output) : Below a.heap.size a b := ⟨h1, h2, h3, by rw [h]; exact Nat.le_refl _, fun k _ => by rw [h]⟩
theorem below_drew (w : World) : Below w.heap.size w w.drew := (Below.refl _ _).drew
theorem below_setRow {B : Nat} {a w : World} (h : Below B a w) {g : Nat} (hg : B ≤ g) (cs : Array Value) : Below B a (w.setRow g cs) :=
  ⟨h.os, h.tape, h.output, by simp [World.setRow]; exact h.size, fun k hk => (setRow_other w g k cs (by omega)).trans (h.block k hk)⟩

/-- A version of a page. -/
structure Ver where
  ts : Int
  body : List Int
def Ver.cells (v : Ver) : List Value := .int .u32 v.ts :: v.body.map (Value.int .u8)
def Ver.arr (v : Ver) : Array Value := v.cells.toArray
def Ver.zero : Ver := ⟨0, zs 64⟩
structure Ver.Ok (v : Ver) : Prop where
  lo : 0 ≤ v.ts
  hi : v.ts ≤ 4294967295
  wr : Wr v.body
theorem Ver.zero_ok : Ver.zero.Ok := ⟨Int.le_refl _, by show (0 : Int) ≤ _; omega, zs_wr⟩
theorem Ver.cells_length {v : Ver} (h : v.Ok) : v.cells.length = 65 := by simp [Ver.cells, h.wr.1]
theorem Ver.arr_size {v : Ver} (h : v.Ok) : v.arr.size = 65 := by simp [Ver.arr, Ver.cells_length h]
theorem Ver.one (v : Ver) : v.arr.all (·.oneCell') = true := by simp [Ver.arr, Ver.cells, Value.oneCell']
def flatV (vs : List Ver) : List Value := vs.flatMap Ver.cells
theorem flatV_append (a b : List Ver) : flatV (a ++ b) = flatV a ++ flatV b := List.flatMap_append
theorem flatV_length : ∀ {vs : List Ver}, (∀ v ∈ vs, v.Ok) → (flatV vs).length = vs.length * 65
  | [], _ => rfl
  | v :: r, h => by
    have ih := flatV_length (vs := r) fun x hx => h x (List.mem_cons_of_mem _ hx)
    show (v.cells ++ flatV r).length = _
    rw [List.length_append, ih, Ver.cells_length (h v (List.mem_cons_self ..)), List.length_cons]; omega
theorem flatV_at : ∀ {vs : List Ver} (hl : ∀ v ∈ vs, v.Ok) (i j : Nat) (v : Ver), vs[i]? = some v → j < 65 → (flatV vs)[i * 65 + j]? = v.cells[j]?
  | [], _, i, j, b, h, _ => by simp at h
  | c :: r, hl, 0, j, b, h, hj => by
    simp at h; subst h
    show (c.cells ++ flatV r)[0 * 65 + j]? = _
    rw [Nat.zero_mul, Nat.zero_add, List.getElem?_append_left (by rw [Ver.cells_length (hl c (List.mem_cons_self ..))]; exact hj)]
  | c :: r, hl, i + 1, j, b, h, hj => by
    have hc := Ver.cells_length (hl c (List.mem_cons_self ..))
    show (c.cells ++ flatV r)[(i + 1) * 65 + j]? = _
    rw [List.getElem?_append_right (by rw [hc]; omega), hc, show (i + 1) * 65 + j - 65 = i * 65 + j by omega]
    exact flatV_at (fun d hd => hl d (List.mem_cons_of_mem _ hd)) i j b (by simpa using h) hj

/-- What is answered. -/
structure Rep where
  err : Int
  txn : Int
  ts : Int
  body : List Int
def Rep.cells (r : Rep) : List Value := .int .i64 r.err :: .int .u64 r.txn :: .int .u32 r.ts :: r.body.map (Value.int .u8)
def Rep.arr (r : Rep) : Array Value := r.cells.toArray
def Rep.zero : Rep := ⟨0, 0, 0, zs 64⟩
def Rep.fail (e : Int) : Rep := ⟨e, 0, 0, zs 64⟩
theorem Rep.arr_size {r : Rep} (h : r.body.length = 64) : r.arr.size = 67 := by simp [Rep.arr, Rep.cells, h]
theorem Rep.one (r : Rep) : r.arr.all (·.oneCell') = true := by simp [Rep.arr, Rep.cells, Value.oneCell']
theorem size40 : (Try.prog.info? 40).map (·.size) = some 67 := by kernel_rfl
theorem size44 : (Try.prog.info? 44).map (·.size) = some 65 := by kernel_rfl
theorem size38 : (Try.prog.info? 38).map (·.size) = some 64 := by kernel_rfl
theorem size70 : (Try.prog.info? 70).map (·.size) = some 2 := by kernel_rfl
theorem size35 : (Try.prog.info? 35).map (·.size) = some 5 := by kernel_rfl
theorem zero40 (w : World) : (zeroValue 40).run Try.prog w = .ok (.agg Rep.zero.arr) w := (zero_of_info (P := Try.prog) (t := 40) (v := .agg Rep.zero.arr) (n := 67) (by kernel_rfl)).1 w
theorem zero44 (w : World) : (zeroValue 44).run Try.prog w = .ok (.agg Ver.zero.arr) w := (zero_of_info (P := Try.prog) (t := 44) (v := .agg Ver.zero.arr) (n := 65) (by kernel_rfl)).1 w
theorem zero38 (w : World) : (zeroValue 38).run Try.prog w = .ok (.agg (bs (zs 64))) w := (zero_of_info (P := Try.prog) (t := 38) (v := .agg (bs (zs 64))) (n := 64) (by kernel_rfl)).1 w
theorem zero70 (w : World) : (zeroValue 70).run Try.prog w = .ok (.agg #[.int .u32 0, .map none]) w := (zero_of_info (P := Try.prog) (t := 70) (v := .agg #[.int .u32 0, .map none]) (n := 2) (by kernel_rfl)).1 w
theorem zeroOf40 : (Try.prog.info? 40).map (·.zero) = some (some (.agg Rep.zero.arr)) := by kernel_rfl
theorem zeroOf44 : (Try.prog.info? 44).map (·.zero) = some (some (.agg Ver.zero.arr)) := by kernel_rfl
theorem places40 : placesOf Try.prog 40 = some [(0, 1), (1, 1), (2, 1), (3, 64)] := by kernel_rfl
theorem places44 : placesOf Try.prog 44 = some [(0, 1), (1, 64)] := by kernel_rfl
theorem rz : Rep.zero.arr.size = 67 := Rep.arr_size (zs_length _)
theorem vz : Ver.zero.arr.size = 65 := Ver.arr_size Ver.zero_ok
theorem spl_size (L : List Value) (o : Nat) (r : List Value) (n : Nat) (hn : L.length = n) (h : o + r.length ≤ n) : (⟨splice L o r⟩ : Array Value).size = n := by rw [splice_size _ _ _ (by omega), hn]
theorem built40_none : Try.prog.built 40 [] = some Rep.zero.arr := by
  rw [built_struct zeroOf40 places40]; rfl
theorem built44_none : Try.prog.built 44 [] = some Ver.zero.arr := by
  rw [built_struct zeroOf44 places44]; rfl
theorem built40_err (e : Int) : Try.prog.built 40 [(0, .int .i64 e)] = some (Rep.fail e).arr := by
  rw [built_struct zeroOf40 places40]
  have z : (Value.agg Rep.zero.arr).cells = Rep.zero.arr := rfl
  rw [z, fill_step _ _ 0 (.int .i64 e) _ 0 1 rfl rfl (by rw [rz]; omega)]
  unfold Instr.fill
  rfl
theorem built40_ts (t : Int) : Try.prog.built 40 [(2, .int .u32 t)] = some (Rep.mk 0 0 t (zs 64)).arr := by
  rw [built_struct zeroOf40 places40]
  have z : (Value.agg Rep.zero.arr).cells = Rep.zero.arr := rfl
  rw [z, fill_step _ _ 2 (.int .u32 t) _ 2 1 rfl rfl (by rw [rz]; omega)]
  unfold Instr.fill
  rfl
theorem built40_two (n t : Int) : Try.prog.built 40 [(1, .int .u64 n), (2, .int .u32 t)] = some (Rep.mk 0 n t (zs 64)).arr := by
  rw [built_struct zeroOf40 places40]
  have z : (Value.agg Rep.zero.arr).cells = Rep.zero.arr := rfl
  have z0 : Rep.zero.arr.toList.length = 67 := by rw [Array.length_toList]; exact rz
  rw [z, fill_step _ _ 1 (.int .u64 n) _ 1 1 rfl rfl (by rw [rz]; omega), fill_step _ _ 2 (.int .u32 t) _ 2 1 rfl rfl (by rw [spl_size _ _ _ 67 z0 (by show 1 + 1 ≤ 67; omega)]; omega)]
  unfold Instr.fill
  rfl
theorem built40_body (t : Int) (b : List Int) (hb : b.length = 64) : Try.prog.built 40 [(2, .int .u32 t), (3, .agg (bs b))] = some (Rep.mk 0 0 t b).arr := by
  rw [built_struct zeroOf40 places40]
  have z : (Value.agg Rep.zero.arr).cells = Rep.zero.arr := rfl
  have z0 : Rep.zero.arr.toList.length = 67 := by rw [Array.length_toList]; exact rz
  rw [z, fill_step _ _ 2 (.int .u32 t) _ 2 1 rfl rfl (by rw [rz]; omega), fill_step _ _ 3 (.agg (bs b)) _ 3 64 rfl (by show (bs b).size = 64; rw [bs_size, hb]) (by rw [spl_size _ _ _ 67 z0 (by show 2 + 1 ≤ 67; omega)]; omega)]
  unfold Instr.fill
  congr 1
  unfold Rep.arr
  apply congrArg
  have e : (zs 64).length = 64 := zs_length _
  show splice (splice (.int .i64 0 :: .int .u64 0 :: .int .u32 0 :: (zs 64).map (Value.int .u8)) 2 [.int .u32 t]) 3 (b.map (Value.int .u8)) = .int .i64 0 :: .int .u64 0 :: .int .u32 t :: b.map (Value.int .u8)
  simp [splice, hb, e]
theorem built44_two (t : Int) (b : List Int) (hb : b.length = 64) : Try.prog.built 44 [(0, .int .u32 t), (1, .agg (bs b))] = some (Ver.mk t b).arr := by
  rw [built_struct zeroOf44 places44]
  have z : (Value.agg Ver.zero.arr).cells = Ver.zero.arr := rfl
  have z0 : Ver.zero.arr.toList.length = 65 := by rw [Array.length_toList]; exact vz
  rw [z, fill_step _ _ 0 (.int .u32 t) _ 0 1 rfl rfl (by rw [vz]; omega), fill_step _ _ 1 (.agg (bs b)) _ 1 64 rfl (by show (bs b).size = 64; rw [bs_size, hb]) (by rw [spl_size _ _ _ 65 z0 (by show 0 + 1 ≤ 65; omega)]; omega)]
  unfold Instr.fill
  congr 1
  unfold Ver.arr
  apply congrArg
  have e : (zs 64).length = 64 := zs_length _
  show splice (splice (.int .u32 0 :: (zs 64).map (Value.int .u8)) 0 [.int .u32 t]) 1 (b.map (Value.int .u8)) = .int .u32 t :: b.map (Value.int .u8)
  simp [splice, hb, e]

/-- A live transaction: its number, its start, the block of what it has written, and what that is. -/
structure Tx where
  key : Int
  start : Int
  mb : Nat
  ws : List (Int × List Int)
abbrev TxH := Int × Option Nat
def txR (v : Value) : Option (DataW TxH × List MemPlace) :=
  match v with
  | .agg cs => match cs.toList with
    | [.int .u32 s, .map b] => some (.held (s, b), [])
    | _ => none
  | _ => none
def txV (s : Int) (b : Option Nat) : Value := .agg #[.int .u32 s, .map b]
theorem txR_mk (s : Int) (b : Option Nat) : txR (txV s b) = some (.held (s, b), []) := rfl
theorem txR_inv {v : Value} {y : DataW TxH × List MemPlace} (h : txR v = some y) : ∃ s b, v = txV s b ∧ y = (.held (s, b), []) := by
  unfold txR at h
  split at h
  · rename_i cs
    split at h
    · rename_i s b e
      refine ⟨s, b, ?_, (Option.some.inj h).symm⟩
      unfold txV
      rw [← e]
    · cases h
  · cases h
theorem law32 : Keyed Try.prog 32 := int_keyed Try.underlying32
def tlits (L : List Tx) : List (Lit × DataW TxH) := L.map fun t => (.int .u64 t.key, .held (t.start, some t.mb))
def txD (L : List Tx) : DataW TxH := .map (tlits L)
theorem txD_size (L : List Tx) : Maps.size (txD L) = L.length := by simp [txD, tlits, Maps.size]
theorem same_u64 (a b : Int) : (Lit.int .u64 a).sameKey (.int .u64 b) = decide (a = b) := by simp [Lit.sameKey]
def findT (L : List Tx) (k : Int) : Option Tx := L.find? fun t => decide (t.key = k)
def endT (L : List Tx) (k : Int) : List Tx := L.filter fun t => !decide (t.key = k)
theorem txD_has (L : List Tx) (k : Int) : Maps.has (txD L) (.int .u64 k) = (findT L k).isSome := by
  simp only [txD, tlits, Maps.has, findT, List.any_map, List.find?_isSome]
  rw [List.isSome_find?]
  congr 1
  funext p; exact same_u64 _ _
theorem txD_at (L : List Tx) (k : Int) : (txD L).atKey (.int .u64 k) (.held (0, none)) = .held (match findT L k with | some t => (t.start, some t.mb) | none => (0, none)) := by
  unfold findT txD tlits DataW.atKey
  simp only
  rw [List.find?_map]
  have e : ((fun p : Lit × DataW TxH => p.1.sameKey (.int .u64 k)) ∘ fun t : Tx => ((.int .u64 t.key, .held (t.start, some t.mb)) : Lit × DataW TxH)) = fun t => decide (t.key = k) := by
    funext p; exact same_u64 _ _
  rw [e]
  cases L.find? fun t => decide (t.key = k) <;> rfl
theorem txD_del (L : List Tx) (k : Int) : (txD L).del (.int .u64 k) = txD (endT L k) := by
  show DataW.map ((tlits L).filter fun p => !p.1.sameKey (.int .u64 k)) = _
  unfold txD endT tlits
  rw [List.filter_map]
  have e : ((fun p : Lit × DataW TxH => !p.1.sameKey (.int .u64 k)) ∘ fun t : Tx => ((.int .u64 t.key, .held (t.start, some t.mb)) : Lit × DataW TxH)) = fun t => !decide (t.key = k) := by
    funext p; show (!_) = _; rw [same_u64]
  rw [e]
theorem tinsert_last (L : List Tx) (x : Tx) (h : ∀ p ∈ L, p.key < x.key) : DataW.insert (.int .u64 x.key, .held (x.start, some x.mb)) (tlits L) = tlits (L ++ [x]) := by
  induction L with
  | nil => rfl
  | cons p r ih =>
    have hp := h p (by simp)
    have e : (Lit.int .u64 x.key).before (.int .u64 p.key) = false := by simp [Lit.before]; omega
    show (if (Lit.int .u64 x.key).before (.int .u64 p.key) = true then _ else (Lit.int .u64 p.key, DataW.held (p.start, some p.mb)) :: DataW.insert _ (tlits r)) = _
    rw [e, ih (fun q hq => h q (by simp [hq]))]
    rfl
theorem txD_put (L : List Tx) (x : Tx) (h : ∀ p ∈ L, p.key < x.key) : (txD L).put (.int .u64 x.key) (.held (x.start, some x.mb)) = txD (L ++ [x]) := by
  have h0 : endT L x.key = L := List.filter_eq_self.2 fun p hp => by have := h p hp; simp; omega
  have := txD_del L x.key
  rw [h0] at this
  show DataW.map (DataW.insert _ ((tlits L).filter fun p => !p.1.sameKey (.int .u64 x.key))) = _
  have e : (tlits L).filter (fun p => !p.1.sameKey (.int .u64 x.key)) = tlits L := by
    have q : DataW.map ((tlits L).filter fun p => !p.1.sameKey (.int .u64 x.key)) = DataW.map (tlits L) := this
    injection q
  rw [e, tinsert_last L x h]
  rfl
/-- A page: where its versions lie, and these. -/
structure Pg where
  b : Nat
  cap : Nat
  vs : List Ver
def Pg.val (p : Pg) : Value := .slice (some ⟨p.b, 0, none⟩) p.vs.length p.cap
/-- What a machine is. -/
structure St where
  pages : List (List Ver)
  max : Int
  last : Int
  begun : Int
  live : List (Int × Int × List (Int × List Int))
  closed : Bool
/-- What a machine is, and where. -/
structure M where
  pb : Nat
  pcap : Nat
  lm : Nat
  ps : List Pg
  max : Int
  last : Int
  begun : Int
  L : List Tx
  closed : Bool
def Tx.abs (t : Tx) : Int × Int × List (Int × List Int) := (t.key, t.start, t.ws)
def M.abs (m : M) : St := ⟨m.ps.map Pg.vs, m.max, m.last, m.begun, m.L.map Tx.abs, m.closed⟩
def M.cells (m : M) : Array Value := #[.slice (some ⟨m.pb, 0, none⟩) m.ps.length m.pcap, .int .u32 m.max, .int .u32 m.last, .int .u64 m.begun, .map (some m.lm), .bool m.closed]
/-- What a transaction has written may be. -/
structure WsOk (n : Nat) (ws : List (Int × List Int)) : Prop where
  rising : ws.Pairwise fun p q => p.1 < q.1
  small : ws.length ≤ 4
  wr : ∀ p ∈ ws, Wr p.2 ∧ 0 ≤ p.1 ∧ p.1 < n
/-- Versions of a page that may be. -/
structure VsOk (last : Int) (vs : List Ver) : Prop where
  ok : ∀ v ∈ vs, v.Ok ∧ v.ts ≤ last
  first : ∃ v r, vs = v :: r ∧ v.ts = 0
  rising : vs.Pairwise fun a b => a.ts < b.ts
  len : (vs.length : Int) ≤ last + 1
structure St.Ok (s : St) : Prop where
  n0 : 1 ≤ s.pages.length
  n1 : s.pages.length ≤ 16
  vs : ∀ p ∈ s.pages, VsOk s.last p
  lo : 0 ≤ s.last
  hi : s.last ≤ s.max
  mx : s.max ≤ 4294967295
  pos : 0 ≤ s.begun
  keys : s.live.Pairwise fun a b => a.1 < b.1
  few : s.live.length ≤ 8
  tx : ∀ t ∈ s.live, 1 ≤ t.1 ∧ t.1 ≤ s.begun ∧ 0 ≤ t.2.1 ∧ t.2.1 ≤ s.last ∧ WsOk s.pages.length t.2.2
structure M.At (m : M) (w : World) (g : Nat) : Prop where
  row : Row w g m.cells 58
  prow : w.ownsRow 0 59 1 (.slice (some ⟨m.pb, 0, none⟩) m.ps.length m.pcap) m.ps.length (m.ps.map Pg.val)
  pown : ∀ p ∈ m.ps, w.ownsRow 0 44 65 p.val p.vs.length (flatV p.vs)
  pne : (m.ps.map Pg.b).Nodup
  lown : w.ownsMap Try.prog 32 txR m.lm m.L.length (txD m.L)
  wown : ∀ t ∈ m.L, w.ownsMap Try.prog 33 wrR t.mb t.ws.length (setD t.ws)
  mne : (m.L.map Tx.mb).Nodup
  lne : ∀ t ∈ m.L, t.mb ≠ m.lm
/-- The blocks of a machine. -/
def M.foot (m : M) (g k : Nat) : Prop := k = g ∨ k = m.pb ∨ k = m.lm ∨ (∃ p ∈ m.ps, k = p.b) ∨ (∃ t ∈ m.L, k = t.mb)
/-- A machine in memory, all of whose blocks are among F. -/
structure MA (w : World) (F : Nat → Prop) (g : Nat) (m : M) : Prop where
  at_ : m.At w g
  ok : m.abs.Ok
  foot : ∀ k, m.foot g k → F k
  lt : ∀ k, F k → k < w.heap.size
def MAt (w : World) (F : Nat → Prop) (g : Nat) (s : St) : Prop := ∃ m : M, m.abs = s ∧ MA w F g m
theorem ownsRow_off {F : Nat → Prop} {w w' : World} {base : Nat} {e : TypeId} {size : Nat} {v : Value} {n : Nat} {xs : List Value} (h : w.ownsRow base e size v n xs) (ho : Off F w w') (hF : ∀ k, v.ownBlock = some k → ¬ F k) : w'.ownsRow base e size v n xs := by
  have hl := World.ownsRow.lt h
  obtain ⟨h1, h2⟩ := h
  refine ⟨h1, ?_⟩
  rcases h2 with h2 | ⟨g, cap, cur, rfl, hb', hc, rest⟩
  · exact Or.inl h2
  · exact Or.inr ⟨g, cap, cur, rfl, hb', (ho.block g (hl g rfl).2 (hF g rfl)).trans hc, rest⟩
theorem MA.off {F G : Nat → Prop} {w w' : World} {g : Nat} {m : M} (c : MA w F g m) (ho : Off G w w') (hF : ∀ k, F k → ¬ G k) : MA w' F g m := by
  have hf := fun k hk => hF k (c.foot k hk)
  exact { at_ := { row := c.at_.row.off ho (hf _ (Or.inl rfl)), prow := ownsRow_off c.at_.prow ho (fun k hk => by cases hk; exact hf _ (Or.inr (Or.inl rfl))), pown := fun p hp => ownsRow_off (c.at_.pown p hp) ho (fun k hk => by cases hk; exact hf _ (Or.inr (Or.inr (Or.inr (Or.inl ⟨p, hp, rfl⟩))))), pne := c.at_.pne, lown := ownsMap_off c.at_.lown ho (hf _ (Or.inr (Or.inr (Or.inl rfl)))), wown := fun t ht => ownsMap_off (c.at_.wown t ht) ho (hf _ (Or.inr (Or.inr (Or.inr (Or.inr ⟨t, ht, rfl⟩))))), mne := c.at_.mne, lne := c.at_.lne }, ok := c.ok, foot := c.foot, lt := fun k hk => Nat.lt_of_lt_of_le (c.lt k hk) ho.size }
theorem MA.below {F : Nat → Prop} {w w' : World} {g : Nat} {m : M} (c : MA w F g m) (hb : Below w.heap.size w w') : MA w' F g m :=
  c.off (G := fun _ => False) (Off.of_below hb) fun _ _ q => q
theorem MAt.off {F G : Nat → Prop} {w w' : World} {g : Nat} {s : St} (c : MAt w F g s) (ho : Off G w w') (hF : ∀ k, F k → ¬ G k) : MAt w' F g s := by
  obtain ⟨m, e, c⟩ := c
  exact ⟨m, e, c.off ho hF⟩
theorem MAt.below {F : Nat → Prop} {w w' : World} {g : Nat} {s : St} (c : MAt w F g s) (hb : Below w.heap.size w w') : MAt w' F g s := by
  obtain ⟨m, e, c⟩ := c
  exact ⟨m, e, c.below hb⟩
theorem MAt.ok {F : Nat → Prop} {w : World} {g : Nat} {s : St} (c : MAt w F g s) : s.Ok := by
  obtain ⟨m, rfl, c⟩ := c
  exact c.ok
theorem MAt.lt {F : Nat → Prop} {w : World} {g : Nat} {s : St} (c : MAt w F g s) {k : Nat} (h : F k) : k < w.heap.size := by
  obtain ⟨m, rfl, c⟩ := c
  exact c.lt k h
/-- Where a machine has come to: nothing but its own blocks, and new ones, has turned. -/
def Went (w : World) (F : Nat → Prop) (g : Nat) (s : St) (w' : World) : Prop := Off F w w' ∧ ∃ F', MAt w' F' g s ∧ ∀ k, k < w.heap.size → F' k → F k
theorem Went.same {F : Nat → Prop} {w w' : World} {g : Nat} {s : St} (c : MAt w F g s) (hb : Below w.heap.size w w') : Went w F g s w' := ⟨Off.of_below hb, F, c.below hb, fun _ _ h => h⟩
theorem Went.behind {F : Nat → Prop} {w w' w2 : World} {g : Nat} {s : St} (c : Went w F g s w') (hb : Below w'.heap.size w' w2) : Went w F g s w2 := by
  obtain ⟨o, F', a, h⟩ := c
  exact ⟨o.trans (Off.of_below (F := fun _ => False) hb) (fun _ q => q.elim), F', a.below hb, h⟩
end Go.Proofs.Ytpncmbkklkfmnaa
