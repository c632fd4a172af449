/-
  Plain facts for the document's Redo: what is done with a record leaves a page that may be; and a struct that is built. Plain facts for the document's Redo, and what its Free and Cut answer beside what is changed.
-/
import Derived.Test.YtihjapfgllokgabRdo
import Derived.Test.YtihjapfgllokgabQMg
import Derived.Test.YtihjapfgllokgabQMb
import Derived.Test.YtihjapfgllokgabQMe
import Derived.Test.YtihjapfgllokgabQRmy
import Derived.Test.YtihjapfgllokgabQMf
import Derived.Test.YtihjapfgllokgabQRefG
namespace Go.Proofs.Ytihjapfgllokgab
open Go.ChangeShapes Go.WideShapes Go.ChangeAt Go.RowKit
set_option linter.unusedVariables false
set_option linter.unusedSimpArgs false
set_option maxRecDepth 20000

theorem fold_add (f : O → Int) : ∀ (os : List O) (z : Int), os.foldl (fun n o => n + f o) z = z + os.foldl (fun n o => n + f o) 0
  | [], z => by simp
  | o :: r, z => by
    simp only [List.foldl_cons]
    rw [fold_add f r (z + f o), fold_add f r (0 + f o)]; omega
theorem fold_setZ (f : O → Int) : ∀ (os : List O) (k : Nat) (p o : O), os[k]? = some p → (os.set k o).foldl (fun n o => n + f o) 0 = os.foldl (fun n o => n + f o) 0 - f p + f o
  | [], k, p, o, h => by simp at h
  | q :: r, 0, p, o, h => by
    simp at h; subst h
    simp only [List.set_cons_zero, List.foldl_cons]
    rw [fold_add f r (0 + f o), fold_add f r (0 + f q)]; omega
  | q :: r, k + 1, p, o, h => by
    simp at h
    simp only [List.set_cons_succ, List.foldl_cons]
    rw [fold_add f (r.set k o) (0 + f q), fold_add f r (0 + f q), fold_setZ f r k p o h]; omega
theorem splice_setZ {α : Type} (L : List α) (o : Nat) (x : α) (r : List α) (h : o < L.length) : splice (L.set o x) (o + 1) r = splice L o (x :: r) := by
  unfold splice
  have e1 : (L.set o x).take (o + 1) = L.take o ++ [x] := by
    rw [List.take_add_one, List.take_set_of_le (by omega)]
    simp [h]
  have e2 : (L.set o x).drop (o + 1 + r.length) = L.drop (o + (x :: r).length) := by
    rw [List.drop_set_of_lt (by omega)]
    simp; congr 1; omega
  rw [e1, e2]; simp
theorem foldv_set : ∀ (l : List Value) (n off : Nat) (cs : Array Value), off + n + l.length ≤ cs.size → (l.zipIdx n).foldl (fun cs (p : Value × Nat) => cs.setIfInBounds (off + p.2) p.1) cs = (⟨splice cs.toList (off + n) l⟩ : Array Value)
  | [], n, off, cs, h => by simp [splice]
  | x :: r, n, off, cs, h => by
    rw [List.zipIdx_cons, List.foldl_cons, foldv_set r (n + 1) off _ (by simp at h ⊢; omega)]
    congr 1
    simp only [Array.toList_setIfInBounds]
    have := splice_setZ cs.toList (off + n) x r (by simp at h ⊢; omega)
    rw [← this]; rfl
theorem fold_arrZ (v : Array Value) (off : Nat) (cs : Array Value) (h : off + v.size ≤ cs.size) : v.zipIdx.foldl (fun cs (p : Value × Nat) => cs.setIfInBounds (off + p.2) p.1) cs = (⟨splice cs.toList off v.toList⟩ : Array Value) := by
  rw [← Array.foldl_toList, Array.toList_zipIdx]
  exact foldv_set v.toList 0 off cs (by simpa using h)

theorem fill_stepZ (place : Nat → Option (Nat × Nat)) (cells : Array Value) (i : Nat) (v : Value) (rest : List (Nat × Value)) (off size : Nat) (hp : place i = some (off, size)) (h1 : v.cells.size = size) (h2 : off + size ≤ cells.size) :
    Instr.fill place cells ((i, v) :: rest) = Instr.fill place ⟨splice cells.toList off v.cells.toList⟩ rest := by
  have : ¬ (decide (v.cells.size ≠ size) || decide (off + v.cells.size > cells.size)) = true := by simp [h1]; omega
  rw [Instr.fill, hp]
  simp only []
  rw [if_neg this]
  have := fold_arrZ v.cells off cells (by omega)
  rw [← this]

theorem got_same {os os' : List O} (h : may os = true) (h' : may os' = true) (i : Nat) (e : os'[i]? = os[i]?) : got os i = got os' i := by
  unfold got; rw [e, h, h']
theorem got_dead {os : List O} (i : Nat) (e : os[i]? = none ∨ os[i]? = some O.zero) : got os i = (O.zero, false) := by
  unfold got
  rcases e with e | e
  · rw [e]
  · rw [e]; simp [O.zero]
theorem endAt_ne (os : List O) : ∀ n, endAt os n = 0 ∨ os[endAt os n - 1]? ≠ some O.zero
  | 0 => Or.inl rfl
  | n + 1 => by
    rw [endAt_succ]
    split
    · exact endAt_ne os n
    · rename_i h; exact Or.inr (by simpa using h)
theorem endAt_zero (os : List O) : ∀ n j, endAt os n ≤ j → j < n → os[j]? = some O.zero
  | 0, j, _, h => absurd h (by omega)
  | n + 1, j, h1, h2 => by
    rw [endAt_succ] at h1
    split at h1
    · rename_i q
      by_cases e : j = n
      · subst e; exact q
      · exact endAt_zero os n j h1 (by omega)
    · omega
theorem psize_take (os : List O) : ∀ k, psize (os.take k) ≤ psize os := by
  intro k
  have : ∀ (l : List O) (z : Int), z ≤ l.foldl (fun n o => n + if o.live then 11 + (o.delta.size : Int) else 1) z := by
    intro l
    induction l with
    | nil => intro z; exact Int.le_refl _
    | cons o r ih =>
      intro z
      refine Int.le_trans ?_ (ih _)
      show z ≤ z + (if o.live = true then 11 + (o.delta.size : Int) else 1)
      split <;> omega
  unfold psize
  conv => rhs; rw [← List.take_append_drop k os, List.foldl_append]
  exact this _ _
theorem fold_z (f : O → Int) (os : List O) (z : Int) : os.foldl (fun n o => n + f o) z = z + os.foldl (fun n o => n + f o) 0 := fold_add f os z
theorem psize_set (os : List O) (k : Nat) (p o : O) (h : os[k]? = some p) : psize (os.set k o) = psize os - (if p.live then 11 + (p.delta.size : Int) else 1) + (if o.live then 11 + (o.delta.size : Int) else 1) := by
  unfold psize
  rw [fold_z (fun o => if o.live then 11 + (o.delta.size : Int) else 1), fold_setZ (fun o => if o.live then 11 + (o.delta.size : Int) else 1) os k p o h, fold_z (fun o => if o.live then 11 + (o.delta.size : Int) else 1) os 16]
  omega
theorem free_good {os : List O} {s : Nat} {o : O} (h : got os s = (o, true)) : may (freed os s) = true ∧ ∀ i, i ≠ s → got os i = got (freed os s) i := by
  obtain ⟨hat, hm, hl⟩ := got_inv h
  obtain ⟨m1, m2, m3, m4⟩ := may_small hm
  have hsl : s < os.length := (List.getElem?_eq_some_iff.1 hat).1
  have hle := endAt_le (os.set s O.zero) os.length
  have hmf : may (freed os s) = true := by
    unfold may freed
    have e1 : ((os.set s O.zero).take (endAt (os.set s O.zero) os.length)).length ≤ 15 := by simp; omega
    have e3 : ∀ p ∈ (os.set s O.zero).take (endAt (os.set s O.zero) os.length), okO p = true := fun p hp => by
      rcases List.mem_or_eq_of_mem_set (List.mem_of_mem_take hp) with q | q
      · exact m3 p q
      · rw [q]; exact okO_zero
    have e2 : lastLive ((os.set s O.zero).take (endAt (os.set s O.zero) os.length)) = true := by
      unfold lastLive
      cases q : ((os.set s O.zero).take (endAt (os.set s O.zero) os.length)).getLast? with
      | none => rfl
      | some p =>
        have hp := e3 p (List.mem_of_getLast? q)
        rw [List.getLast?_eq_getElem?, List.length_take, List.length_set, Nat.min_eq_left hle] at q
        rw [List.getElem?_take] at q
        split at q
        · have hne : p ≠ O.zero := by
            rintro rfl
            rcases endAt_ne (os.set s O.zero) os.length with z | z
            · omega
            · exact z q
          unfold okO at hp
          simp only [Bool.and_eq_true, Bool.or_eq_true, decide_eq_true_eq] at hp
          rcases hp.1 with hp | hp
          · exact hp
          · exact absurd hp hne
        · cases q
    have e4 : psize ((os.set s O.zero).take (endAt (os.set s O.zero) os.length)) ≤ 224 := by
      have a := psize_take (os.set s O.zero) (endAt (os.set s O.zero) os.length)
      have b := psize_set os s o O.zero hat
      have c : (if O.zero.live then 11 + (O.zero.delta.size : Int) else 1) = 1 := rfl
      rw [c, hl] at b
      simp only [if_true] at b
      omega
    rw [decide_eq_true e1, e2, List.all_eq_true.2 e3, decide_eq_true e4]; rfl
  refine ⟨hmf, fun i hi => ?_⟩
  have e0 : (os.set s O.zero)[i]? = os[i]? := List.getElem?_set_ne (fun e => hi e.symm)
  by_cases q : i < endAt (os.set s O.zero) os.length
  · refine got_same hm hmf i ?_
    unfold freed
    rw [List.getElem?_take, if_pos q, e0]
  · have e1 : got (freed os s) i = (O.zero, false) := got_dead i (Or.inl (by unfold freed; rw [List.getElem?_take, if_neg q]))
    rw [e1]
    refine got_dead i ?_
    by_cases z : i < os.length
    · exact Or.inr (by rw [← e0]; exact endAt_zero _ _ i (by omega) z)
    · exact Or.inl (List.getElem?_eq_none (by omega))
theorem set_map {α : Type} (g : O → α) (os : List O) (s : Nat) (o p : O) (hs : os[s]? = some o) (h : g p = g o) : (os.set s p).map g = os.map g := by
  rw [List.map_set, h]
  apply List.ext_getElem?
  intro i
  by_cases e : i = s
  · subst e
    rw [List.getElem?_set_self (by simp; exact (List.getElem?_eq_some_iff.1 hs).1), List.getElem?_map, hs]; rfl
  · rw [List.getElem?_set_ne (fun x => e x.symm)]
theorem psize_map (os : List O) : psize os = (os.map fun o => if o.live then 11 + (o.delta.size : Int) else 1).foldl (· + ·) 16 := by
  unfold psize; rw [List.foldl_map]
theorem all_map (os : List O) : os.all okO = (os.map okO).all id := by simp
theorem last_map (os : List O) : lastLive os = ((os.map (·.live)).getLast?.getD true) := by
  unfold lastLive; rw [List.getLast?_map]; cases os.getLast? <;> rfl
theorem cut_good {os : List O} {s : Nat} {o : O} (h : got os s = (o, true)) : may (os.set s { o with np := 0, ns := 0 }) = true ∧ ∀ i, i ≠ s → got os i = got (os.set s { o with np := 0, ns := 0 }) i := by
  obtain ⟨hat, hm, hl⟩ := got_inv h
  have hmf : may (os.set s { o with np := 0, ns := 0 }) = true := by
    rw [← hm]
    have e2 : lastLive (os.set s { o with np := 0, ns := 0 }) = lastLive os := by rw [last_map, last_map, set_map (·.live) os s o { o with np := 0, ns := 0 } hat rfl]
    have e3 : (os.set s { o with np := 0, ns := 0 }).all okO = os.all okO := by rw [all_map, all_map, set_map okO os s o { o with np := 0, ns := 0 } hat (by unfold okO; simp only [hl, Bool.true_or])]
    have e4 : psize (os.set s { o with np := 0, ns := 0 }) = psize os := by rw [psize_map, psize_map, set_map (fun o => if o.live then 11 + (o.delta.size : Int) else 1) os s o { o with np := 0, ns := 0 } hat rfl]
    unfold may; rw [List.length_set, e2, e3, e4]
  exact ⟨hmf, fun i hi => got_same hm hmf i (List.getElem?_set_ne (fun e => hi e.symm))⟩
def placesOfZ (P : Program) (t : TypeId) : Option (List (Nat × Nat)) :=
  match P.underlying t with
  | some (.struct fields) => fields.toList.mapM (fun f => (P.info? f.type).map fun i => (f.offset, i.size))
  | _ => none
theorem built_structZ {P : Program} {t : TypeId} {z : Value} {places : List (Nat × Nat)} (hi : (P.info? t).map (·.zero) = some (some z)) (hp : placesOfZ P t = some places) (parts : List (Nat × Value)) : P.built t parts = Instr.fill (places.toArray[·]?) z.cells parts := by
  unfold Program.built
  unfold placesOfZ at hp
  cases hq : P.info? t with
  | none => simp [hq] at hi
  | some it =>
    simp [hq] at hi
    split at hp
    · rename_i fields hu
      rw [hu]
      simp only [hi, hp]
    · cases hp
theorem splice_sizeZ {α : Type} (L : List α) (o : Nat) (r : List α) (h : o + r.length ≤ L.length) : (⟨splice L o r⟩ : Array α).size = L.length := by
  simp [splice]; omega

theorem zeroOf74 : (Try.prog.info? 55).map (·.zero) = some (some (.agg D.zero.arr)) := by kernel_rfl
theorem places74 : placesOfZ Try.prog 55 = some [(0, 1), (1, 1), (2, 2), (4, 64)] := by kernel_rfl
theorem built74p (t p s : Int) (b : List Int) (h : b.length = 64) : Try.prog.built 55 [(1, .int .u32 t), (2, .agg #[.int .u16 p, .int .u8 s]), (3, .agg (bs b))] = some (D.arr ⟨0, t, p, s, b⟩) := by
  have hz : D.zero.arr.size = 68 := D.arr_size _ (zs_length _)
  have hzl : (zs 64).length = 64 := zs_length _
  rw [built_structZ zeroOf74 places74]
  have e0 : (Value.agg D.zero.arr).cells = D.zero.arr := rfl
  have hs1 : (⟨splice D.zero.arr.toList 1 (Value.int .u32 t).cells.toList⟩ : Array Value).size = 68 := by rw [splice_sizeZ _ _ _ (by show 1 + 1 ≤ D.zero.arr.toList.length; rw [Array.length_toList, hz]; omega), Array.length_toList, hz]
  rw [e0, fill_stepZ _ _ 1 (.int .u32 t) _ 1 1 rfl rfl (by omega), fill_stepZ _ _ 2 (.agg #[.int .u16 p, .int .u8 s]) _ 2 2 rfl rfl (by rw [hs1]; omega), fill_stepZ _ _ 3 (.agg (bs b)) _ 4 64 rfl (by show (bs b).size = 64; rw [bs_size, h]) (by rw [splice_sizeZ _ _ _ (by show 2 + 2 ≤ (⟨splice D.zero.arr.toList 1 _⟩ : Array Value).size; rw [hs1]; omega)]; show 4 + 64 ≤ (⟨splice D.zero.arr.toList 1 _⟩ : Array Value).size; rw [hs1]; omega)]
  unfold Instr.fill
  congr 1
  unfold D.arr
  apply congrArg
  show splice (splice (splice ([.int .u64 0, .int .u32 0, .int .u16 0, .int .u8 0] ++ (zs 64).map (Value.int .u8)) 1 [.int .u32 t]) 2 [.int .u16 p, .int .u8 s]) 4 (b.map (Value.int .u8)) = _
  simp [splice, hzl, h]

/-- The document's Get of a page that may be. -/
theorem rgot_may {os : List O} (h : may os = true) (s : Nat) : rgot os s = got os s := by
  unfold rgot got; rw [h]; cases os[s]? with
  | none => rfl
  | some o => simp
theorem isU_may {no : Int} {p : List Int} (h : isU no p = true) : may (uOf p) = true := by
  unfold isU at h; simp only [Bool.and_eq_true, decide_eq_true_eq] at h; exact h.1
theorem chgO_may {os os1 : List O} {r : R} (h : may os = true) (hc : chgO os r = some os1) : may os1 = true := by
  unfold chgO at hc
  split at hc
  · split at hc
    · rename_i hq
      cases hc
      simp only [Bool.and_eq_true] at hq
      exact hq.1.2
    · cases hc
  · split at hc
    · split at hc
      · rename_i hg
        cases hc
        exact (free_good (o := (got os r.slot.toNat).1) (by rw [← hg])).1
      · cases hc
    · split at hc
      · split at hc
        · rename_i hg
          cases hc
          exact (cut_good (o := (got os r.slot.toNat).1) (by rw [← hg])).1
        · cases hc
      · cases hc; exact h
theorem redoUR_some {no : Int} {p : List Int} {e : En} {os1 : List O} (hi : isU no p = true) (hc : chgO (uOf p) e.r = some os1) : redoUR no p e = (putU no e.lsn os1, 0) := by
  unfold redoUR; rw [hi, if_pos rfl, hc]
  show (putU no e.lsn os1, errU os1) = _
  unfold errU; rw [chgO_may (isU_may hi) hc]; rfl
theorem redoUR_none {no : Int} {p : List Int} {e : En} (hc : isU no p = false ∨ chgO (uOf p) e.r = none) : redoUR no p e = (zs 224, 2) := by
  unfold redoUR
  rcases hc with h | h
  · rw [h]; rfl
  · rw [h]; split <;> rfl
theorem addE_nil {os : List O} {o : O} (h : addE os o ≠ 0) : (fit os o && may (added os o)) = false := by
  unfold addE at h
  cases hf : fit os o with
  | false => rfl
  | true =>
    cases hm : may (added os o) with
    | false => rfl
    | true => rw [hf, hm] at h; exact absurd rfl h
theorem addE_zero {os : List O} {o : O} (h : addE os o = 0) : (fit os o && may (added os o)) = true := by
  unfold addE at h
  cases hf : fit os o with
  | false => rw [hf] at h; cases h
  | true =>
    cases hm : may (added os o) with
    | false => rw [hf, hm] at h; cases h
    | true => rfl
end Go.Proofs.Ytihjapfgllokgab
namespace Go.Proofs.Ytihjapfgllokgab
open Go.ChangeShapes Go.WideShapes Go.ChangeAt Go.RowKit
set_option linter.unusedVariables false
set_option linter.unusedSimpArgs false
set_option maxRecDepth 20000

theorem size29z : (Try.prog.info? 33).map (·.size) = some 2 := by kernel_rfl
theorem redoD2_none {no : Int} {p : List Int} {e : En} (h : redoDR no p e = none) : redoD2 no p e = (zs 224, 2) := by unfold redoD2; rw [h]
theorem redoD2_some {no : Int} {p q : List Int} {e : En} (h : redoDR no p e = some q) : redoD2 no p e = (q, 0) := by unfold redoD2; rw [h]
/-- What the document's Free answers, beside what is changed. -/
theorem rchg_free (lsn : Int) (os : List O) (r : R) (hk : r.kind = 4) (hs : 0 ≤ r.slot ∧ r.slot ≤ 255) (hm : may os = true) (hof : ∀ o ∈ os, o.Fits) :
    ∃ ls rs b, (∀ w v, Olds w v os → Calls Try.prog 38 #[.agg #[.int .u64 lsn, v], .int .u8 r.slot] w fun e w' => AnsB w ls rs b e w') ∧ (chgO os r).isSome = b ∧ ∀ os1, chgO os r = some os1 → rs = os1 := by
  obtain ⟨s, hs'⟩ : ∃ s : Nat, r.slot = s := ⟨r.slot.toNat, by omega⟩
  have hlen := (may_small hm).1
  have hst : r.slot.toNat = s := by omega
  have hc : chgO os r = if (got os s).2 then some (freed os s) else none := by unfold chgO; rw [if_neg (by omega), if_pos hk, hst]
  rw [hs', hc]
  cases hg : (got os s).2 with
  | true =>
    exact ⟨lsn, freed os s, true, fun w v ho => rfree_ok lsn v os s (by omega) w ho (got os s).1 (by rw [rgot_may hm, ← hg]) hm hof, rfl, fun os1 h => by cases h; rfl⟩
  | false =>
    exact ⟨0, [], false, fun w v ho => rfree_bad lsn v os s (by omega) w ho (by omega) hof (by rw [rgot_may hm, hg]; rfl), rfl, fun os1 h => by cases h⟩
theorem rchg_cut (lsn : Int) (os : List O) (r : R) (hk : r.kind = 5) (hs : 0 ≤ r.slot ∧ r.slot ≤ 255) (hm : may os = true) (hof : ∀ o ∈ os, o.Fits) :
    ∃ ls rs b, (∀ w v, Olds w v os → Calls Try.prog 39 #[.agg #[.int .u64 lsn, v], .int .u8 r.slot] w fun e w' => AnsB w ls rs b e w') ∧ (chgO os r).isSome = b ∧ ∀ os1, chgO os r = some os1 → rs = os1 := by
  obtain ⟨s, hs'⟩ : ∃ s : Nat, r.slot = s := ⟨r.slot.toNat, by omega⟩
  have hlen := (may_small hm).1
  have hst : r.slot.toNat = s := by omega
  have hc : chgO os r = if (got os s).2 then some (os.set s { (got os s).1 with np := 0, ns := 0 }) else none := by unfold chgO; rw [if_neg (by omega), if_neg (by omega), if_pos hk, hst]
  rw [hs', hc]
  cases hg : (got os s).2 with
  | true =>
    exact ⟨lsn, os.set s { (got os s).1 with np := 0, ns := 0 }, true, fun w v ho => rcut_ok lsn v os s (by omega) w ho (got os s).1 (by rw [rgot_may hm, ← hg]) hm hof, rfl, fun os1 h => by cases h; rfl⟩
  | false =>
    exact ⟨0, [], false, fun w v ho => rcut_bad lsn v os s (by omega) w ho (by omega) hof (by rw [rgot_may hm, hg]; rfl), rfl, fun os1 h => by cases h⟩
theorem redoR_not {u : Bool} {no : Int} {p : List Int} {e : En} (h : (mayR e.r && aboutR u no e.r) = false) : redoR u no p e = (zs 224, 1) := by unfold redoR; rw [h]; rfl
theorem R.oldMid {w : World} {g : Nat} {r : R} (h : Row w g r.arr 37) (hl : r.img.length = 224) : ∀ j v, ([.bool r.old.live, .int .u16 r.old.page, .int .u32 r.old.ts, .int .u16 r.old.np, .int .u8 r.old.ns, .string r.old.delta] : List Value)[j]? = some v → w.cell? ((⟨g, 232, none⟩ : Addr).add j) = some v :=
  mid_row h 232 _ fun j v hj => by
    have := R.atT r hl (5 + j)
    rw [show 227 + (5 + j) = 232 + j by omega] at this
    rw [this, ← hj]
    unfold R.tail
    rw [Nat.add_comm 5 j]
    rfl
theorem R.prevMid {w : World} {g : Nat} {r : R} (h : Row w g r.arr 37) (hl : r.img.length = 224) : ∀ j v, ([.int .u16 r.pp, .int .u8 r.ps] : List Value)[j]? = some v → w.cell? ((⟨g, 228, none⟩ : Addr).add j) = some v :=
  mid_row h 228 _ fun j v hj => by
    match j, hj with
    | 0, hj => rw [← hj]; exact R.atT r hl 1
    | 1, hj => rw [← hj]; exact R.atT r hl 2
theorem R.pidMid {w : World} {g : Nat} {r : R} (h : Row w g r.arr 37) : ∀ j v, ([.bool r.undo, .int .u16 r.no] : List Value)[j]? = some v → w.cell? ((⟨g, 1, none⟩ : Addr).add j) = some v :=
  mid_row h 1 _ fun j v hj => by
    match j, hj with
    | 0, hj => rw [← hj]; exact r.at1
    | 1, hj => rw [← hj]; exact r.at2
end Go.Proofs.Ytihjapfgllokgab
