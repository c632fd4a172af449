/-
  Plain facts: the names of transactions as keys. A list of transactions whose reads and writes lie apart from each other's.
-/
import Derived.Test.YtdlllnkcjfpajaaJq18
import Derived.Test.YtdlllnkcjfpajaaJq00
import Derived.Test.YtdlllnkcjfpajaaJq16
namespace Go.Proofs.Ytdlllnkcjfpajaa
open Go.ChangeShapes Go.WideShapes Go.ChangeAt Go.RowKit
set_option linter.unusedVariables false
set_option linter.unusedSimpArgs false
set_option maxRecDepth 20000
theorem lits51 (m : Nat) {k : Int} (hk : (Lit.int .u64 k).wf = true) : Try.prog.keyLits (m + 1) 51 [.int .u64 k] = some [.int .u64 k] := by
  unfold Program.keyLits
  rw [Try.underlying51]
  simp only [hk, and_self, if_true]
theorem lits51_inv (m : Nat) {x : Value} {ls : List Lit} (h : Try.prog.keyLits (m + 1) 51 [x] = some ls) : ∃ k, x = .int .u64 k ∧ (Lit.int .u64 k).wf = true := by
  unfold Program.keyLits at h
  rw [Try.underlying51] at h
  cases x with
  | int q n =>
    by_cases hx : q = .u64 ∧ (Lit.int .u64 n).wf = true
    · obtain ⟨rfl, hx⟩ := hx; exact ⟨n, rfl, hx⟩
    · simp only [hx, if_false] at h; cases h
  | _ => cases h
theorem law74 : Maps.Keyed Try.prog 74 := Maps.Keyed.of_law (deep_law_laid (P := Try.prog) laidD (m := 5) (by decide) (k := 74) (by decide +kernel) (by kernel_rfl) (by kernel_rfl))
theorem keyType74 : Try.prog.keyType 74 = true := by kernel_rfl
theorem cells74 : Try.prog.cellsOf 74 = 2 := by kernel_rfl
def namv (p : Int × Int) : Value := .agg #[.int .i64 p.1, .int .u64 p.2]
def naml (p : Int × Int) : Lit := .string (keyBytes [.int .i64 p.1, .int .u64 p.2])
def namok (p : Int × Int) : Prop := (Lit.int .i64 p.1).wf = true ∧ (Lit.int .u64 p.2).wf = true
theorem lits74' (m : Nat) (x y : Value) (A B : Option (List Lit)) (hA : Try.prog.keyLits (m + 1) 3 [x] = A) (hB : Try.prog.keyLits (m + 1) 51 [y] = B) : Try.prog.keyLits (m + 2) 74 [x, y] = (A.bind fun a => B.bind fun b => some (a ++ b)) := by
  unfold Program.keyLits
  rw [Try.underlying74]
  have hall : (#[({ name := "life", type := 3, offset := 0, embedded := false, tag := "", pkgPath := "varve/hist", byteOffset := 0 } : Field), ({ name := "txn", type := 51, offset := 1, embedded := false, tag := "", pkgPath := "varve/hist", byteOffset := 8 } : Field)].all (·.name != "_")) = true := by decide +kernel
  simp only [cells74, hall, List.length_cons, List.length_nil, and_self, if_true]
  simp only [List.mapM_cons, List.mapM_nil, cells3, cells51, List.drop_zero, List.drop_succ_cons, List.take_succ_cons, List.take_zero]
  rw [hA, hB]
  clear hA hB
  cases A with
  | none => rfl
  | some a =>
    cases B with
    | none => rfl
    | some b => simp
theorem lits74 (m : Nat) (x y : Value) : Try.prog.keyLits (m + 2) 74 [x, y] = ((Try.prog.keyLits (m + 1) 3 [x]).bind fun a => (Try.prog.keyLits (m + 1) 51 [y]).bind fun b => some (a ++ b)) := lits74' m x y _ _ rfl rfl
theorem nam_mk {p : Int × Int} (h : namok p) : keyOf Try.prog 74 (namv p) = some (naml p) := by
  obtain ⟨m, hm⟩ := types_pos
  obtain ⟨b, s⟩ := p
  obtain ⟨hb, hs⟩ := h
  have hf : (namv (b, s)).formed Try.prog 74 = true := by
    unfold Value.formed
    rw [Try.underlying74]
    simp only [namv, cells74]
    rfl
  unfold keyOf
  rw [Try.underlying74]
  simp only [keyType74, hf, Bool.and_self, if_true]
  rw [hm]
  show (Try.prog.keyLits (m + 1 + 1) 74 [.int .i64 b, .int .u64 s]).map _ = _
  rw [lits74, lits3 m hb, lits51 m hs]
  rfl
theorem nam_inv {v : Value} {l : Lit} (h : keyOf Try.prog 74 v = some l) : ∃ p, namok p ∧ v = namv p := by
  obtain ⟨m, hm⟩ := types_pos
  unfold keyOf at h
  rw [Try.underlying74] at h
  by_cases hf : v.formed Try.prog 74 = true
  · simp only [keyType74, hf, Bool.and_self, if_true] at h
    rw [hm] at h
    unfold Value.formed at hf
    rw [Try.underlying74] at hf
    cases v with
    | agg cs =>
      obtain ⟨cs⟩ := cs
      simp only [cells74] at hf
      have hc : cs.length = 2 := by simpa using hf
      match cs, hc with
      | [x, y], _ =>
        rw [show (Value.agg ⟨[x, y]⟩).cells.toList = [x, y] from rfl, lits74] at h
        cases hx : Try.prog.keyLits (m + 1) 3 [x] with
        | none => rw [hx] at h; cases h
        | some a =>
          cases hy : Try.prog.keyLits (m + 1) 51 [y] with
          | none => rw [hx, hy] at h; cases h
          | some b =>
            obtain ⟨n, rfl, hn⟩ := lits3_inv m hx
            obtain ⟨n', rfl, hn'⟩ := lits51_inv m hy
            exact ⟨(n, n'), ⟨hn, hn'⟩, rfl⟩
    | _ => cases hf
  · simp only [keyType74, hf, Bool.and_false, Bool.false_eq_true, if_false] at h; cases h
def E74 : KE 74 (Int × Int) where
  v := namv
  ok := namok
  l := naml
  law := law74
  mkk := nam_mk
  inv := nam_inv
  vinj {x y} e := by
    obtain ⟨x1, x2⟩ := x
    obtain ⟨y1, y2⟩ := y
    simp [namv] at e
    rw [e.1, e.2]
structure LD (w : World) (B : Nat) (v : Value) (al : List Hm) : Prop where
  own : Pa.Own w B v (al.map Hm.o)
  each : ∀ h ∈ al, Own1 w B h
  dis : ∀ (i j : Nat) x y, i ≠ j → al[i]? = some x → al[j]? = some y → (rb x = none ∨ rb x ≠ rb y) ∧ (wb x = none ∨ wb x ≠ wb y)
theorem LD.start (w : World) (B : Nat) : LD w B (.slice none 0 0) [] := ⟨⟨rfl, Or.inl ⟨rfl, rfl⟩⟩, (fun h hm => by cases hm), fun i j x y _ h => by simp at h⟩
theorem LD.below {w w' : World} {B : Nat} {v : Value} {al : List Hm} (h : LD w B v al) (hb : Below w.heap.size w w') : LD w' B v al := ⟨h.own.keep hb, fun x hx => (h.each x hx).keep hb, h.dis⟩
theorem LD.maps {F : Nat → Prop} {w w' : World} {B : Nat} {v : Value} {al : List Hm} (h : LD w B v al) (ho : Off F w w') (hF : ∀ b, F b → ∃ es cl, w.heap[b]? = some (.map es cl)) : LD w' B v al := by
  have hno : ∀ b cs t x, w.heap[b]? = some (.cells cs t x) → ¬ F b := fun b cs t x hb q => by
    obtain ⟨es, cl, e⟩ := hF b q
    rw [hb] at e; cases e
  exact ⟨h.own.off ho (fun b hb => by obtain ⟨cs, hc⟩ := h.own.cellsOf b hb; exact hno _ _ _ _ hc), fun x hx => ⟨(h.each x hx).rs.off ho (fun b hb => by obtain ⟨cs, hc⟩ := (h.each x hx).rs.cellsOf b hb; exact hno _ _ _ _ hc), (h.each x hx).ws.off ho (fun b hb => by obtain ⟨cs, hc⟩ := (h.each x hx).ws.cellsOf b hb; exact hno _ _ _ _ hc)⟩, h.dis⟩
theorem LD.snoc {w : World} {B : Nat} {v : Value} {al : List Hm} (h : LD w B v al) (p : Pt) (hr : p.rs = []) (hw : p.ws = []) (hn : al.length ≤ 1000) (hB : B ≤ w.heap.size) (ty : TypeId) (Z : Nat) (rZ : Row w Z (Pa.O.arr ⟨p.st, p.co, p.dn, ⟨none, 0, 0⟩, ⟨none, 0, 0⟩⟩) 39) :
    ∃ v' w', (Builtin.append_ #[22, 22] ty #[v, .slice (some ⟨Z, 0, none⟩) 1 1]).run Try.prog w = .ok v' w' ∧ LD w' B v' (al ++ [⟨p, ⟨none, 0, 0⟩, ⟨none, 0, 0⟩⟩]) ∧ Off (fun g => v.ownBlock = some g) w w' ∧ ∀ g, v.ownBlock = some g → B ≤ g ∧ ∃ cs, w.heap[g]? = some (.cells cs 39 (0, 0)) := by
  obtain ⟨v', w', hrun, hn', hg⟩ := h.own.snocP ty Z (Hm.o ⟨p, ⟨none, 0, 0⟩, ⟨none, 0, 0⟩⟩) rZ hB (by rw [List.length_map]; exact hn)
  have Ou : Off (fun g => v.ownBlock = some g) w w' := Off.of_grown hg (fun g e => e)
  refine ⟨v', w', hrun, ⟨by rw [List.map_append]; exact hn', fun x hx => ?_, fun i j x y hij hx hy => ?_⟩, Ou, fun g hg => ⟨(World.ownsRow.lt h.own g hg).1, h.own.cellsOf g hg⟩⟩
  · rcases List.mem_append.1 hx with hx | hx
    · exact (h.each x hx).apart Ou h.own.cellsOf
    · simp at hx; subst hx
      exact ⟨⟨by simp [hr, Sn.flat], Or.inl ⟨rfl, by simp [hr]⟩⟩, ⟨by simp [hw, Pg.flat], Or.inl ⟨rfl, by simp [hw]⟩⟩⟩
  · have nil : ∀ z : Hm, z = ⟨p, ⟨none, 0, 0⟩, ⟨none, 0, 0⟩⟩ → rb z = none ∧ wb z = none := fun z e => by subst e; exact ⟨rfl, rfl⟩
    rcases get_app hx with ⟨hi, hx⟩ | ⟨hi, ex⟩
    · rcases get_app hy with ⟨hj, hy⟩ | ⟨hj, ey⟩
      · exact h.dis i j x y hij hx hy
      · obtain ⟨e1, e2⟩ := nil y ey
        rw [e1, e2]
        exact ⟨Classical.em _, Classical.em _⟩
    · obtain ⟨e1, e2⟩ := nil x ex
      exact ⟨Or.inl e1, Or.inl e2⟩
theorem LD.row {w : World} {B : Nat} {v : Value} {al : List Hm} (h : LD w B v al) {k : Nat} {x : Hm} (hk : al[k]? = some x) : ∃ g cap cur, v = .slice (some ⟨g, 0, none⟩) al.length cap ∧ B ≤ g ∧ Row w g cur 39 ∧ al.length ≤ cap ∧ cap ≤ maxLen ∧ cur.size = cap * 5 ∧ cur.toList.take (al.length * 5) = Pa.flat (al.map Hm.o) ∧ ∀ j u, x.o.cells[j]? = some u → cur[k * 5 + j]? = some u := by
  have hkl := (List.getElem?_eq_some_iff.1 hk).1
  obtain ⟨hl, q⟩ := h.own
  rcases q with ⟨rfl, h0⟩ | ⟨g, cap, cur, e, hbg, hg, hle, hmx, hsz, htk⟩
  · rw [List.length_map] at h0; omega
  · rw [List.length_map] at e hle htk
    refine ⟨g, cap, cur, e, hbg, hg, hle, hmx, hsz, htk, fun j u hj => ?_⟩
    have hj5 : j < 5 := by have := (List.getElem?_eq_some_iff.1 hj).1; simpa [Pa.O.cells] using this
    have h1 := Pa.flat_at (al.map Hm.o) k j x.o (by rw [List.getElem?_map, hk]; rfl) hj5
    rw [hj, ← htk, List.getElem?_take] at h1
    split at h1
    · rw [← Array.getElem?_toList]; exact h1
    · cases h1
theorem LD.noted {w w' : World} {B g cap k : Nat} {cur : Array Value} {al : List Hm} {x : Hm} {p' : Pt} (h : LD w B (.slice (some ⟨g, 0, none⟩) al.length cap) al) (hk : al[k]? = some x) (hr : Row w g cur 39) (hle : al.length ≤ cap) (hmx : cap ≤ maxLen) (hsz : cur.size = cap * 5) (htk : cur.toList.take (al.length * 5) = Pa.flat (al.map Hm.o)) (hbg : B ≤ g) (hn : Noted w B g (k * 5) cur x p' w') :
    ∃ x', x'.p = p' ∧ LD w' B (.slice (some ⟨g, 0, none⟩) al.length cap) (al.set k x') ∧ Off (fun b => b = g ∨ rb x = some b ∨ wb x = some b) w w' := by
  obtain ⟨x', cur', e1, r', s', c', o', own', off', hrb, hwb⟩ := hn
  have hkl := (List.getElem?_eq_some_iff.1 hk).1
  have hxm := List.mem_of_getElem? hk
  have rowne : ∀ (b : Nat) (cs : Array Value) (t : TypeId) (cs' : Array Value) (t' : TypeId), w.heap[b]? = some (Obj.cells cs t (0, 0)) → w.heap[b]? = some (Obj.cells cs' t' (0, 0)) → t = t' := fun b cs t cs' t' h1 h2 => by
    rw [h1] at h2
    injection h2 with h2
    injection h2
  refine ⟨x', e1, ⟨?_, fun y hy => ?_, fun i j y z hij hy hz => ?_⟩, off'⟩
  · refine ⟨by simp [Pa.flat_length], Or.inr ⟨g, cap, cur', by simp, hbg, r', by simpa using hle, hmx, by rw [s', hsz], ?_⟩⟩
    apply List.ext_getElem?
    intro j
    rw [List.length_map, List.length_set, List.getElem?_take, Pa.flat_get, List.getElem?_map]
    have h0 : (Pa.flat (al.map Hm.o))[j]? = _ := Pa.flat_get (al.map Hm.o) j
    rw [← htk, List.getElem?_take, List.getElem?_map] at h0
    by_cases hj : j < al.length * 5
    · rw [if_pos hj] at h0 ⊢
      have hq : j / 5 < al.length := by omega
      by_cases e : j / 5 = k
      · rw [e, List.getElem?_set_self hkl]
        simp only [Option.map_some, Option.bind_some]
        have hm5 : j % 5 < 5 := Nat.mod_lt _ (by decide)
        obtain ⟨u, hu⟩ : ∃ u, x'.o.cells[j % 5]? = some u := ⟨_, List.getElem?_eq_getElem (by simpa [Pa.O.cells] using hm5)⟩
        rw [hu, Array.getElem?_toList]
        have := c' (j % 5) u hu
        rwa [show k * 5 + j % 5 = j by omega] at this
      · rw [List.getElem?_set_ne (fun q => e q.symm), ← h0, Array.getElem?_toList, Array.getElem?_toList]
        exact o' j (by omega)
    · rw [if_neg hj]
      rw [List.getElem?_eq_none (by rw [List.length_set]; omega)]
      rfl
  · obtain ⟨j, hj, rfl⟩ := List.getElem_of_mem hy
    by_cases e : j = k
    · subst e
      rw [List.getElem_set_self]; exact own'
    · rw [List.getElem_set_ne (fun q => e q.symm)]
      have hjl : j < al.length := by simpa using hj
      have hyo := h.each _ (List.getElem_mem hjl)
      have hxo := h.each x hxm
      obtain ⟨d1, d2⟩ := h.dis j k al[j] x e (List.getElem?_eq_getElem hjl) hk
      refine ⟨hyo.rs.off off' (fun b hb q => ?_), hyo.ws.off off' (fun b hb q => ?_)⟩
      · obtain ⟨cs, hc⟩ := hyo.rs.cellsOf b hb
        rcases q with q | q | q
        · subst q; exact absurd (rowne _ _ _ _ _ hc hr) (by decide)
        · rcases d1 with d1 | d1
          · have : rb al[j] = some b := hb
            rw [d1] at this; cases this
          · exact d1 (by rw [q]; exact hb)
        · obtain ⟨cs', hc'⟩ := hxo.ws.cellsOf b q
          exact absurd (rowne _ _ _ _ _ hc hc') (by decide)
      · obtain ⟨cs, hc⟩ := hyo.ws.cellsOf b hb
        rcases q with q | q | q
        · subst q; exact absurd (rowne _ _ _ _ _ hc hr) (by decide)
        · obtain ⟨cs', hc'⟩ := hxo.rs.cellsOf b q
          exact absurd (rowne _ _ _ _ _ hc hc') (by decide)
        · rcases d2 with d2 | d2
          · have : wb al[j] = some b := hb
            rw [d2] at this; cases this
          · exact d2 (by rw [q]; exact hb)
  · have lts : ∀ (i : Nat) y, al[i]? = some y → (∀ b, rb y = some b → b < w.heap.size) ∧ ∀ b, wb y = some b → b < w.heap.size := fun i y hy => by
      have ho := h.each y (List.mem_of_getElem? hy)
      exact ⟨fun b hb => (World.ownsRow.lt ho.rs b hb).2, fun b hb => (World.ownsRow.lt ho.ws b hb).2⟩
    have key : ∀ j z, j ≠ k → al[j]? = some z → ((rb x' = none ∨ rb x' ≠ rb z) ∧ (wb x' = none ∨ wb x' ≠ wb z)) ∧ ((rb z = none ∨ rb z ≠ rb x') ∧ (wb z = none ∨ wb z ≠ wb x')) := fun j z hj hz => by
      obtain ⟨l1, l2⟩ := lts j z hz
      have d1 := h.dis k j x z (fun q => hj q.symm) hk hz
      have d2 := h.dis j k z x hj hz hk
      refine ⟨⟨?_, ?_⟩, ?_, ?_⟩
      · rcases hrb with q | ⟨b, q, hb⟩
        · rw [q]; exact d1.1
        · right; intro e; have := l1 b (by rw [← e]; exact q); omega
      · rcases hwb with q | ⟨b, q, hb⟩
        · rw [q]; exact d1.2
        · right; intro e; have := l2 b (by rw [← e]; exact q); omega
      · rcases hrb with q | ⟨b, q, hb⟩
        · rw [q]; exact d2.1
        · right; intro e; have := l1 b (by rw [e]; exact q); omega
      · rcases hwb with q | ⟨b, q, hb⟩
        · rw [q]; exact d2.2
        · right; intro e; have := l2 b (by rw [e]; exact q); omega
    by_cases ei : i = k
    · subst ei
      rw [List.getElem?_set_self hkl] at hy
      injection hy with hy; subst hy
      rw [List.getElem?_set_ne hij] at hz
      exact (key j z (fun q => hij q.symm) hz).1
    · rw [List.getElem?_set_ne (fun q => ei q.symm)] at hy
      by_cases ej : j = k
      · subst ej
        rw [List.getElem?_set_self hkl] at hz
        injection hz with hz; subst hz
        exact (key i y ei hy).2
      · rw [List.getElem?_set_ne (fun q => ej q.symm)] at hz
        exact h.dis i j y z hij hy hz
end Go.Proofs.Ytdlllnkcjfpajaa
