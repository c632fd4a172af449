/-
  Plain facts: a history that came in as an argument. What the statements on transactions that were not committed want: a list that grows beside copies. What the statement on turned histories wants: a history stays one in any order; a list begun elsewhere is the same list in another order. Plain facts: each thing that may not be is seen where it is made. What is wanted to make the three: a copy of the copy, a list of one read, two more at the end of a list. Plain facts: transactions one behind the other, each of which reads what was committed last, show nothing. Plain facts: rows of bytes that came in as an argument. What is wanted to make transactions one behind the other: one under way, in rows of its own.
-/
import Derived.Test.YtdlllnkcjfpajaaJq15
import Derived.Deep.Slices
namespace Go.Proofs.Ytdlllnkcjfpajaa
open Go.Deep Go.ChangeShapes Go.WideShapes Go.ChangeAt Go.RowKit
set_option linter.unusedVariables false
set_option linter.unusedSimpArgs false
set_option maxRecDepth 20000
theorem cells39 : Try.prog.cellsOf 39 = 5 := by kernel_rfl
theorem cells36 : Try.prog.cellsOf 36 = 1 := by kernel_rfl
theorem cells37 : Try.prog.cellsOf 37 = 1 := by kernel_rfl
theorem cells4b : Try.prog.cellsOf 4 = 1 := by kernel_rfl
theorem bytes46 : Try.prog.bytesOf 46 = 8 := by kernel_rfl
theorem bytes39 : Try.prog.bytesOf 39 = 64 := by kernel_rfl
theorem bytes44 : Try.prog.bytesOf 44 = 2 := by kernel_rfl
section
variable {H : Type} {enc : TypeId × Value → H}
theorem weights_all {P : Program} {e : TypeId} : ∀ {ds : List (DataW H)} {d : DataW H}, d ∈ ds → ∀ m ∈ d.weights P e, m ∈ DataW.weightsAll P e ds
  | [], d, h, _, _ => nomatch h
  | x :: r, d, h, m, hm => by
    unfold DataW.weightsAll
    rcases List.mem_cons.1 h with rfl | h
    · exact List.mem_append_left _ hm
    · exact List.mem_append_right _ (weights_all h m hm)
structure Rows_ {α : Type} (w : World) (v : Value) (k : Nat) (cells : α → List Value) (os : List α) : Prop where
  form : ∃ oa cap, v = .slice oa os.length cap ∧ os.length ≤ cap ∧ (oa = none → cap = 0) ∧ ∀ i o, os[i]? = some o → ∃ a, oa = some a ∧ ∀ j u, (cells o)[j]? = some u → w.cell? ((a.add (i * k)).add j) = some u
  few : os.length ≤ 140737488355328
theorem open_rows {α : Type} [Inhabited α] {sl e k b : Nat} (hu : Try.prog.underlying sl = some (.slice e)) (hk : Try.prog.cellsOf e = k) (hb : Try.prog.bytesOf e = b) (hb0 : 0 < b) (cells : α → List Value) (hlen : ∀ x, (cells x).length = k) (Ok : World → α → Prop) {w : World}
    (one : ∀ (fuel : Nat) (l : List Value) (x : DataW H × List MemPlace), DataW.trod enc Try.prog w 0 (fun _ => true) true fuel e l = some x → (x.1.weights Try.prog e).all (· ≤ reachBytes) = true → ∃ o, l = cells o ∧ Ok w o)
    {fuel : Nat} {v : Value} {x : DataW H × List MemPlace} (hf : DataW.trod enc Try.prog w 0 (fun _ => true) true fuel sl [v] = some x) (hs : (x.1.weights Try.prog sl).all (· ≤ reachBytes) = true) :
    ∃ os : List α, Rows_ w v k cells os ∧ ∀ o ∈ os, Ok w o := by
  rcases open_slice hu hf with ⟨q, _⟩ | ⟨a, len, cap, m, n, D, Pl, q, _, hle, _, hm, hx, hel⟩
  · simp at q; subst q
    exact ⟨[], ⟨⟨none, 0, rfl, by simp, fun _ => rfl, fun i o h => by simp at h⟩, by simp⟩, fun o h => by simp at h⟩
  · simp at q; subst q
    simp only [if_true] at hm
    subst hm
    subst hx
    have hs' : ∀ x ∈ (DataW.slice ((List.range len).map D) ((List.range (m - len)).map fun j => D (len + j))).weights Try.prog sl, x ≤ reachBytes := fun x hx => by
      have := List.all_eq_true.1 hs x hx
      simpa using this
    have hln : len ≤ 140737488355328 := by
      have := hs' _ (by simp only [DataW.weights, hu]; exact List.mem_cons_self ..)
      rw [hb] at this
      simp at this
      unfold reachBytes at this
      have e : len + (m - len) = m := by omega
      simp only [e] at this
      have h1 : len * 1 ≤ len * b := Nat.mul_le_mul_left _ hb0
      have h2 : len * b ≤ m * b := Nat.mul_le_mul_right _ hle
      have h3 : m * b = b * m := Nat.mul_comm _ _
      omega
    have hw : ∀ i, i < len → ((D i).weights Try.prog e).all (· ≤ reachBytes) = true := fun i hi => by
      refine List.all_eq_true.2 fun x hx => ?_
      have := hs' x (by
        simp only [DataW.weights, hu]
        refine List.mem_cons_of_mem _ (List.mem_append_left _ ?_)
        exact weights_all (List.mem_map.2 ⟨i, List.mem_range.2 hi, rfl⟩) x hx)
      simpa using this
    have hc : ∀ i, ∃ c : α, i < len → Ok w c ∧ ∀ j u, (cells c)[j]? = some u → w.cell? ((a.add (i * k)).add j) = some u := fun i => by
      by_cases hi : i < len
      · obtain ⟨cs', h1, h2⟩ := hel i (by omega)
        rw [hk] at h1
        obtain ⟨c, rfl, ok⟩ := one _ _ _ h2 (hw i hi)
        obtain ⟨_, hl5, hcell⟩ := World.cells?_some h1
        refine ⟨c, fun _ => ⟨ok, fun j u hj => ?_⟩⟩
        have hj5 : j < k := by
          have := (List.getElem?_eq_some_iff.1 hj).1
          have := hlen c
          omega
        rw [hcell j hj5]; exact hj
      · exact ⟨default, fun q => absurd q hi⟩
    obtain ⟨f, hf'⟩ := Classical.axiomOfChoice hc
    refine ⟨(List.range len).map f, ⟨⟨some a, m, by simp, by simpa using hle, (fun q => by cases q), fun i o ho => ?_⟩, by simpa using hln⟩, fun o ho => ?_⟩
    · rw [List.getElem?_map] at ho
      obtain ⟨i', hi', e⟩ := Option.map_eq_some_iff.1 ho
      have hi2 := (List.getElem?_eq_some_iff.1 hi').1
      rw [List.length_range] at hi2
      rw [List.getElem?_range hi2] at hi'
      cases hi'
      subst e
      exact ⟨a, rfl, (hf' i hi2).2⟩
    · obtain ⟨i, hi, rfl⟩ := List.mem_map.1 ho
      exact (hf' i (List.mem_range.1 hi)).1
def seenC (v : Int × Int) : List Value := [.int .u16 v.1, .int .u32 v.2]
def SeenOk (_ : World) (v : Int × Int) : Prop := (0 ≤ v.1 ∧ v.1 ≤ 65535) ∧ 0 ≤ v.2 ∧ v.2 ≤ 4294967295
def PgOk (_ : World) (x : Int) : Prop := 0 ≤ x ∧ x ≤ 65535
theorem open_seen1 {w : World} (fuel : Nat) (l : List Value) (x : DataW H × List MemPlace) (hf' : DataW.trod enc Try.prog w 0 (fun _ => true) true fuel 46 l = some x) (_ : (x.1.weights Try.prog 46).all (· ≤ reachBytes) = true) : ∃ o, l = seenC o ∧ SeenOk w o := by
  cases fuel with
  | zero => simp [DataW.trod] at hf'
  | succ n =>
    unfold DataW.trod at hf'
    rw [Try.underlying46] at hf'
    simp only [cells46] at hf'
    by_cases hl : l.length = 2
    · match l, hl with
      | [c0, c1], _ =>
        simp [List.mapM_cons, cells44, cells35] at hf'
        cases t0 : DataW.trod enc Try.prog w 0 (fun _ => true) true n 44 [c0] with
        | none => simp [t0] at hf'
        | some x0 =>
        cases t1 : DataW.trod enc Try.prog w 0 (fun _ => true) true n 35 [c1] with
        | none => simp [t0, t1] at hf'
        | some x1 =>
        obtain ⟨k0, e0, _, u0⟩ := DataW.trod_int Try.underlying44 t0
        obtain ⟨k1, e1, _, u1⟩ := DataW.trod_int Try.underlying35 t1
        simp at e0 e1
        exact ⟨(k0, k1), by rw [e0, e1]; rfl, bounds_u16 u0, bounds_u32 u1⟩
    · simp [hl] at hf'
theorem open_page1 {w : World} (fuel : Nat) (l : List Value) (x : DataW H × List MemPlace) (hf : DataW.trod enc Try.prog w 0 (fun _ => true) true fuel 44 l = some x) (_ : (x.1.weights Try.prog 44).all (· ≤ reachBytes) = true) : ∃ o, l = [Value.int .u16 o] ∧ PgOk w o := by
  obtain ⟨k0, e0, _, u0⟩ := DataW.trod_int Try.underlying44 hf
  exact ⟨k0, e0, bounds_u16 u0⟩
theorem rows_seen {w : World} {v : Value} {rs : List (Int × Int)} (h : Rows_ w v 2 seenC rs) : ∃ r : Sl, v = .slice r.a r.n r.c ∧ r.n ≤ r.c ∧ Sn.Olds w (.slice r.a r.n r.c) (rs.map sO) := by
  obtain ⟨oa, cap, rfl, h1, h2, h3⟩ := h.form
  refine ⟨⟨oa, rs.length, cap⟩, rfl, h1, ?_⟩
  cases oa with
  | none =>
    have : rs = [] := by
      match rs, h3 with
      | [], _ => rfl
      | o :: r, h3 => obtain ⟨a, e, _⟩ := h3 0 o rfl; cases e
    subst this
    exact Or.inl ⟨by rw [h2 rfl]; rfl, rfl⟩
  | some a =>
    refine Or.inr ⟨a, cap, by simp, fun j u hj => ?_⟩
    rw [Sn.flat_get, List.getElem?_map] at hj
    cases ho : rs[j / 2]? with
    | none => rw [ho] at hj; simp at hj
    | some o =>
      rw [ho] at hj
      obtain ⟨a', e, hc⟩ := h3 _ o ho
      cases e
      have := hc (j % 2) u (by simpa [sO, Sn.O.cells, seenC] using hj)
      rw [Sn.add_add] at this
      rwa [show j / 2 * 2 + j % 2 = j by omega] at this
theorem rows_pages {w : World} {v : Value} {ws : List Int} (h : Rows_ w v 1 (fun x => [Value.int .u16 x]) ws) : ∃ r : Sl, v = .slice r.a r.n r.c ∧ r.n ≤ r.c ∧ Pg.Olds w (.slice r.a r.n r.c) (ws.map gO) := by
  obtain ⟨oa, cap, rfl, h1, h2, h3⟩ := h.form
  refine ⟨⟨oa, ws.length, cap⟩, rfl, h1, ?_⟩
  cases oa with
  | none =>
    have : ws = [] := by
      match ws, h3 with
      | [], _ => rfl
      | o :: r, h3 => obtain ⟨a, e, _⟩ := h3 0 o rfl; cases e
    subst this
    exact Or.inl ⟨by rw [h2 rfl]; rfl, rfl⟩
  | some a =>
    refine Or.inr ⟨a, cap, by simp, fun j u hj => ?_⟩
    rw [Pg.flat_get, List.getElem?_map] at hj
    cases ho : ws[j / 1]? with
    | none => rw [ho] at hj; simp at hj
    | some o =>
      rw [ho] at hj
      obtain ⟨a', e, hc⟩ := h3 _ o ho
      cases e
      have := hc (j % 1) u (by simpa [gO, Pg.O.cells] using hj)
      rw [Pg.add_add] at this
      rwa [show j / 1 * 1 + j % 1 = j by omega] at this
structure PastOk (w : World) (h : Hm) : Prop where
  held : Held1 w h
  num : h.p.Num
  caps : h.r.n ≤ h.r.c ∧ h.w.n ≤ h.w.c
  lens : h.p.rs.length ≤ 140737488355328 ∧ h.p.ws.length ≤ 140737488355328
instance : Inhabited Hm := ⟨⟨⟨0, 0, false, [], []⟩, ⟨none, 0, 0⟩, ⟨none, 0, 0⟩⟩⟩
theorem open_past1 {w : World} (fuel : Nat) (l : List Value) (x : DataW H × List MemPlace) (hf' : DataW.trod enc Try.prog w 0 (fun _ => true) true fuel 39 l = some x) (hs : (x.1.weights Try.prog 39).all (· ≤ reachBytes) = true) : ∃ o : Hm, l = o.o.cells ∧ PastOk w o := by
  cases fuel with
  | zero => simp [DataW.trod] at hf'
  | succ n =>
    unfold DataW.trod at hf'
    rw [Try.underlying39] at hf'
    simp only [cells39] at hf'
    by_cases hl : l.length = 5
    · match l, hl with
      | [c0, c1, c2, c3, c4], _ =>
        simp [List.mapM_cons, cells35, cells4b, cells36, cells37] at hf'
        cases t0 : DataW.trod enc Try.prog w 0 (fun _ => true) true n 35 [c0] with
        | none => simp [t0] at hf'
        | some x0 =>
        cases t1 : DataW.trod enc Try.prog w 0 (fun _ => true) true n 35 [c1] with
        | none => simp [t0, t1] at hf'
        | some x1 =>
        cases t2 : DataW.trod enc Try.prog w 0 (fun _ => true) true n 4 [c2] with
        | none => simp [t0, t1, t2] at hf'
        | some x2 =>
        cases t3 : DataW.trod enc Try.prog w 0 (fun _ => true) true n 36 [c3] with
        | none => simp [t0, t1, t2, t3] at hf'
        | some x3 =>
        cases t4 : DataW.trod enc Try.prog w 0 (fun _ => true) true n 37 [c4] with
        | none => simp [t0, t1, t2, t3, t4] at hf'
        | some x4 =>
        simp [t0, t1, t2, t3, t4] at hf'
        subst hf'
        obtain ⟨k0, e0, _, u0⟩ := DataW.trod_int Try.underlying35 t0
        obtain ⟨k1, e1, _, u1⟩ := DataW.trod_int Try.underlying35 t1
        obtain ⟨k2, e2, _⟩ := DataW.trod_bool Try.underlying4 t2
        have hs3 : (x3.1.weights Try.prog 36).all (· ≤ reachBytes) = true := by
          rw [List.all_eq_true] at hs ⊢
          intro m hm
          refine hs m ?_
          simp [DataW.weights, Try.underlying39, DataW.weightsEach, hm]
        have hs4 : (x4.1.weights Try.prog 37).all (· ≤ reachBytes) = true := by
          rw [List.all_eq_true] at hs ⊢
          intro m hm
          refine hs m ?_
          simp [DataW.weights, Try.underlying39, DataW.weightsEach, hm]
        obtain ⟨rs, hr1, hr2⟩ := open_rows (sl := 36) Try.underlying36 cells46 bytes46 (by decide) seenC (fun _ => rfl) SeenOk open_seen1 t3 hs3
        obtain ⟨ws, hw1, hw2⟩ := open_rows (sl := 37) Try.underlying37 cells44 bytes44 (by decide) (fun x => [Value.int .u16 x]) (fun _ => rfl) PgOk open_page1 t4 hs4
        obtain ⟨r, rfl, hr3, hr4⟩ := rows_seen hr1
        obtain ⟨s, rfl, hw3, hw4⟩ := rows_pages hw1
        simp at e0 e1 e2
        exact ⟨⟨⟨k0, k1, k2, rs, ws⟩, r, s⟩, by rw [e0, e1, e2]; rfl, ⟨hr4, hw4⟩, ⟨bounds_u32 u0, bounds_u32 u1, hr2, hw2⟩, ⟨hr3, hw3⟩, hr1.few, hw1.few⟩
    · simp [hl] at hf'
structure Pasts (w : World) (v : Value) (hs : List Hm) : Prop where
  held : Heldw w v hs
  few : hs.length ≤ 140737488355328
  lens : ∀ h ∈ hs, h.p.rs.length ≤ 140737488355328 ∧ h.p.ws.length ≤ 140737488355328
theorem open_pasts {w : World} {base : Nat} {v : Value} {d : DataW H} {p : List MemPlace} (hv : Value.okWide Try.prog w .any base 22 v) (h : DataW.Trod enc Try.prog w 0 (fun _ => true) true 22 v d p) (hs : (d.weights Try.prog 22).all (· ≤ reachBytes) = true) :
    ∃ hs : List Hm, Pasts w v hs := by
  obtain ⟨fuel, hf⟩ := h
  obtain ⟨av, lv, cv, rfl⟩ := okWide_slice Try.underlying22 hv
  obtain ⟨os, h1, h2⟩ := open_rows (sl := 22) Try.underlying22 cells39 bytes39 (by decide) (fun h : Hm => h.o.cells) (fun _ => rfl) PastOk open_past1 (by simpa [Value.cells] using hf) hs
  refine ⟨os, ⟨?_, fun h hm => (h2 h hm).held, fun h hm => (h2 h hm).num, fun h hm => (h2 h hm).caps⟩, h1.few, fun h hm => (h2 h hm).lens⟩
  obtain ⟨oa, cap, e, q1, q2, q3⟩ := h1.form
  rw [e]
  cases oa with
  | none =>
    have : os = [] := by
      match os, q3 with
      | [], _ => rfl
      | o :: r, q3 => obtain ⟨a, e, _⟩ := q3 0 o rfl; cases e
    subst this
    exact Or.inl ⟨by rw [q2 rfl]; rfl, rfl⟩
  | some a =>
    refine Or.inr ⟨a, cap, by simp, fun j u hj => ?_⟩
    rw [Pa.flat_get, List.getElem?_map] at hj
    cases ho : os[j / 5]? with
    | none => rw [ho] at hj; simp at hj
    | some o =>
      rw [ho] at hj
      obtain ⟨a', e, hc⟩ := q3 _ o ho
      cases e
      have := hc (j % 5) u (by simpa using hj)
      rw [Pa.add_add] at this
      rwa [show j / 5 * 5 + j % 5 = j by omega] at this
end
end Go.Proofs.Ytdlllnkcjfpajaa
namespace Go.Proofs.Ytdlllnkcjfpajaa
open Go.ChangeShapes Go.WideShapes Go.ChangeAt Go.RowKit
set_option linter.unusedVariables false
set_option linter.unusedSimpArgs false
set_option maxRecDepth 20000
theorem Heldw.keep {w w' : World} {v : Value} {hs : List Hm} (h : Heldw w v hs) (hb : Below w.heap.size w w') : Heldw w' v hs := ⟨h.row.keep hb, fun x hx => (h.each x hx).keep hb, h.num, h.caps⟩
theorem Pasts.keep {w w' : World} {v : Value} {hs : List Hm} (h : Pasts w v hs) (hb : Below w.heap.size w w') : Pasts w' v hs := ⟨h.held.keep hb, h.few, h.lens⟩
theorem Pasts.copied {w : World} {v : Value} {hs : List Hm} (h : Pasts w v hs) : Calls Try.prog 10 #[v] w fun e w' => Fewed w hs e w' := few_any h.held h.few h.lens
theorem isHF_app (l r : List Pt) (hr : ∀ p ∈ r, p.com = false) : ∀ T, isHF (l ++ r) T = isHF l T := by
  induction l with
  | nil =>
    intro T
    induction r with
    | nil => rfl
    | cons a r ih =>
      have h1 : isHF (a :: r) T = isHF r T := by
        rw [isHF, hr a (by simp)]; rfl
      show isHF (a :: r) T = isHF [] T
      rw [h1]
      exact ih (fun p hp => hr p (by simp [hp]))
  | cons a l ih =>
    intro T
    show isHF (a :: (l ++ r)) T = isHF (a :: l) T
    unfold isHF
    by_cases h : a.com = true
    · rw [if_pos h, if_pos h, ih]
    · rw [if_neg h, if_neg h, ih]
structure AllS (w : World) (B : Nat) (v : Value) (al : List Hm) : Prop where
  own : Pa.Own w B v (al.map Hm.o)
  each : ∀ h ∈ al, Own1 w B h
  fit : ∀ h ∈ al, h.p.Fit
theorem AllS.helds {w : World} {B : Nat} {v : Value} {al : List Hm} (h : AllS w B v al) : Helds w v al := ⟨h.own.olds, fun x hx => (h.each x hx).held, h.fit⟩
theorem AllS.below {w w' : World} {B : Nat} {v : Value} {al : List Hm} (h : AllS w B v al) (hb : Below w.heap.size w w') : AllS w' B v al := ⟨h.own.keep hb, fun x hx => (h.each x hx).keep hb, h.fit⟩
theorem Own1.base {w : World} {B B' : Nat} {h : Hm} (o : Own1 w B h) (hB : B' ≤ B) : Own1 w B' h := ⟨o.rs.base hB, o.ws.base hB⟩
theorem AllS.snoc {w : World} {B : Nat} {v : Value} {al : List Hm} (h : AllS w B v al) {z : Hm} (hz : Own1 w B z) (hf : z.p.Fit) (hn : al.length ≤ 1000) (hB : B ≤ w.heap.size) (ty : TypeId) (Z : Nat) (rZ : Row w Z z.o.arr 39) :
    ∃ v' w', (Builtin.append_ #[22, 22] ty #[v, .slice (some ⟨Z, 0, none⟩) 1 1]).run Try.prog w = .ok v' w' ∧ AllS w' B v' (al ++ [z]) ∧ Off (fun g => v.ownBlock = some g) w w' ∧ (v'.ownBlock = v.ownBlock ∨ ∃ g, v'.ownBlock = some g ∧ w.heap.size ≤ g) := by
  obtain ⟨i, hi, hz0, hs, hby⟩ := Pa.info_parts Pa.info39
  obtain ⟨v', w', hr, h2, h3, h4, h5⟩ := run_append_own_at (P := Try.prog) w B 22 ty 39 i _ 5 64 Try.underlying22 hi hz0 hs hby rfl (by decide) v (al.map Hm.o).length (Pa.flat (al.map Hm.o)) h.own ⟨Z, 0, none⟩ 1 1 z.o.cells rfl (fun j u hj => by rw [Addr.add_mid, Nat.zero_add, cell_of_row w Z j _ _ _ rZ, ← hj]; show z.o.cells.toArray[j]? = _; rw [List.getElem?_toArray]) (fun u hu => Pa.flat_one [z.o] u (by simpa [Pa.flat] using hu)) (by unfold maxLen; simp; omega) (by simp; omega) hB
  have Ou : Off (fun g => v.ownBlock = some g) w w' := Off.of_grown h3 (fun g e => e)
  refine ⟨v', w', hr, ⟨?_, fun x hx => ?_, fun x hx => ?_⟩, Ou, ?_⟩
  · unfold Pa.Own
    rw [List.map_append, Pa.flat_append, List.length_append]
    exact h2
  · rcases List.mem_append.1 hx with hx | hx
    · exact (h.each x hx).apart Ou h.own.cellsOf
    · simp at hx; subst hx; exact hz.apart Ou h.own.cellsOf
  · rcases List.mem_append.1 hx with hx | hx
    · exact h.fit x hx
    · simp at hx; subst hx; exact hf
  · rcases h5 with q | q
    · exact Or.inl q
    · exact Or.inr ⟨_, q, Nat.le_refl _⟩
theorem Own1.off {F : Nat → Prop} {w w' : World} {B : Nat} {h : Hm} (o : Own1 w B h) (ho : Off F w w') (hF : ∀ k, B ≤ k → k < w.heap.size → ¬ F k) : Own1 w' B h :=
  ⟨o.rs.off ho (fun b hb => hF b (World.ownsRow.lt o.rs b hb).1 (World.ownsRow.lt o.rs b hb).2), o.ws.off ho (fun b hb => hF b (World.ownsRow.lt o.ws b hb).1 (World.ownsRow.lt o.ws b hb).2)⟩
theorem AllS.offT {w w' : World} {B T : Nat} {cs : Array Value} {v : Value} {al : List Hm} (h : AllS w B v al) (ho : Off (· = T) w w') (hT : Row w T cs 39) (hv : ∀ g, v.ownBlock = some g → g ≠ T) : AllS w' B v al :=
  ⟨h.own.off ho (fun g hg e => hv g hg e), fun x hx => (h.each x hx).apart ho (fun k e => ⟨cs, by rw [e]; exact hT⟩), h.fit⟩
theorem Pa.Own.cell_off {F : Nat → Prop} {w w' : World} {base : Nat} {a : Addr} {n cap i j : Nat} {os : List Pa.O} {u : Value} (h : Pa.Own w base (.slice (some a) n cap) os) (ho : Off F w w') (hF : ∀ k, base ≤ k → k < w.heap.size → ¬ F k) (hc : w.cell? ((a.add i).add j) = some u) : w'.cell? ((a.add i).add j) = some u := by
  have hl := World.ownsRow.lt h a.block rfl
  rw [← hc]
  have e : ∀ (b : Addr) m, (b.add m).block = b.block := fun b m => by unfold Addr.add; split <;> rfl
  exact World.cell?_of_block (w := w) (by rw [e, e]; exact ho.block a.block hl.2 (hF _ hl.1 hl.2))
def ResH (ps : List Hm) (x er : Int) : Prop := (isHF (ps.map Hm.p) [] = false ∧ x = 0 ∧ er = 1) ∨ (isHF (ps.map Hm.p) [] = true ∧ er = 0 ∧ ShownH ps x)
theorem ResH.det {ps qs : List Hm} {x er y fr : Int} (h : ResH ps x er) (k : ResH qs y fr) (hf : isHF (ps.map Hm.p) [] = isHF (qs.map Hm.p) []) (hp : ((ps.filter fun h => h.p.dn).map Hm.p).Perm ((qs.filter fun h => h.p.dn).map Hm.p)) : x = y ∧ er = fr := by
  rcases h with ⟨h1, rfl, rfl⟩ | ⟨h1, rfl, h2⟩ <;> rcases k with ⟨k1, rfl, rfl⟩ | ⟨k1, rfl, k2⟩
  · exact ⟨rfl, rfl⟩
  · rw [h1, k1] at hf; cases hf
  · rw [h1, k1] at hf; cases hf
  · exact ⟨h2.det k2 hp, rfl⟩
theorem isHF_iff : ∀ (l : List Pt) (T : List Int), isHF l T = true ↔ ((∀ p ∈ l, p.com = true → p.co ∉ T ∧ p.st < p.co) ∧ l.Pairwise fun a b => ¬ (a.com = true ∧ b.com = true ∧ a.co = b.co))
  | [], T => by simp [isHF]
  | p :: r, T => by
    rw [isHF, List.pairwise_cons]
    by_cases hc : p.com = true
    · rw [if_pos hc]
      by_cases hb : (decide (p.co ∈ T) || decide (p.co ≤ p.st)) = true
      · rw [if_pos hb]
        refine ⟨(fun q => by cases q), fun ⟨q, _⟩ => ?_⟩
        have := q p (by simp) hc
        simp at hb
        rcases hb with hb | hb
        · exact absurd hb this.1
        · omega
      · rw [if_neg hb, isHF_iff r]
        simp at hb
        refine ⟨fun ⟨q1, q2⟩ => ⟨fun x hx hxc => ?_, fun y hy ⟨_, h2, h3⟩ => ?_, q2⟩, fun ⟨q1, q2, q3⟩ => ⟨fun x hx hxc => ?_, q3⟩⟩
        · rcases List.mem_cons.1 hx with rfl | hx
          · exact ⟨hb.1, by omega⟩
          · have := q1 x hx hxc
            exact ⟨fun q => this.1 (List.mem_cons_of_mem _ q), this.2⟩
        · have := (q1 y hy h2).1
          exact this (by rw [← h3]; simp)
        · have := q1 x (List.mem_cons_of_mem _ hx) hxc
          refine ⟨fun q => ?_, this.2⟩
          rcases List.mem_cons.1 q with q | q
          · exact q2 x hx ⟨hc, hxc, q.symm⟩
          · exact this.1 q
    · rw [if_neg hc, isHF_iff r]
      refine ⟨fun ⟨q1, q2⟩ => ⟨fun x hx hxc => ?_, fun y hy ⟨h1, _⟩ => hc h1, q2⟩, fun ⟨q1, q2, q3⟩ => ⟨fun x hx hxc => q1 x (List.mem_cons_of_mem _ hx) hxc, q3⟩⟩
      rcases List.mem_cons.1 hx with rfl | hx
      · exact absurd hxc hc
      · exact q1 x hx hxc
theorem find_one {hs : List Hm} {z : Hm} {pg ts : Int} (hz : z ∈ hs) (hr : (pg, ts) ∈ z.p.rs) (ht : ts ≠ 0) (hno : ∀ h ∈ hs, pg ∉ h.p.ws) : AbI hs := by
  obtain ⟨i, hi⟩ := List.getElem?_of_mem hz
  exact ⟨i, z, (pg, ts), hi, hr, ht, fun j ⟨h, h1, h2, _⟩ => hno h (List.mem_of_getElem? h1) h2⟩
theorem ShownH.one {ps : List Hm} {x : Int} (h : ShownH ps x) (k : ∀ hs : List Hm, hs.Perm (ps.filter fun h => h.p.dn) → AbI hs) : ∃ c i m, x = bitsH true c i m := by
  obtain ⟨hs, a, c, i, m, h1, _, rfl, h2, _⟩ := h
  rw [h2.2 (k hs h1)]; exact ⟨c, i, m, rfl⟩
structure Under (ks : List Hm) (most pg : Int) : Prop where
  hist : isHF (ks.map Hm.p) [] = true
  st : ∀ h ∈ ks, h.p.st ≤ most ∧ h.p.co ≤ most
  page : ∀ h ∈ ks, pg ∉ h.p.ws
theorem Under.same {ks js : List Hm} {most pg : Int} (h : Under ks most pg) (e : js.map Hm.p = ks.map Hm.p) : Under js most pg := by
  have key : ∀ x ∈ js, ∃ y ∈ ks, y.p = x.p := fun x hx => by
    have : x.p ∈ ks.map Hm.p := by rw [← e]; exact List.mem_map_of_mem hx
    obtain ⟨y, hy, e2⟩ := List.mem_map.1 this
    exact ⟨y, hy, e2⟩
  exact ⟨by rw [e]; exact h.hist, fun x hx => by obtain ⟨y, hy, e2⟩ := key x hx; rw [← e2]; exact h.st y hy, fun x hx => by obtain ⟨y, hy, e2⟩ := key x hx; rw [← e2]; exact h.page y hy⟩
def oneP (most pg ts : Int) : Pt := ⟨most, 0, true, [(pg, ts)], []⟩
def wrP (most c pg : Int) : Pt := ⟨most, c, true, [], [pg]⟩
theorem Under.one {ks : List Hm} {most pg ts : Int} (h : Under ks most pg) {z : Hm} (hz : z.p = oneP most pg ts) (ht : ts ≠ 0) {x er : Int} (hr : ResH (ks ++ [z]) x er) : er = 0 ∧ ∃ c i m, x = bitsH true c i m := by
  have hh : isHF ((ks ++ [z]).map Hm.p) [] = true := by
    rw [List.map_append, isHF_app _ _ (fun p hp => by simp at hp; subst hp; rw [hz]; rfl)]; exact h.hist
  rcases hr with ⟨q, _⟩ | ⟨_, e, hs⟩
  · rw [hh] at q; cases q
  · refine ⟨e, hs.one fun ls hl => find_one (z := z) (pg := pg) (ts := ts) (hl.mem_iff.2 ?_) (by rw [hz]; simp [oneP]) ht (fun y hy => ?_)⟩
    · exact List.mem_filter.2 ⟨by simp, by rw [hz]; rfl⟩
    · have := (List.mem_filter.1 (hl.mem_iff.1 hy)).1
      rcases List.mem_append.1 this with q | q
      · exact h.page y q
      · simp at q; subst q; rw [hz]; simp [oneP]
theorem Own1.caps {w : World} {B : Nat} {h : Hm} (o : Own1 w B h) : h.r.n ≤ h.r.c ∧ h.w.n ≤ h.w.c := by
  refine ⟨?_, ?_⟩
  · rcases o.rs.2 with ⟨e, _⟩ | ⟨g, cap, cur, e, _, _, hle, _⟩
    · injection e with _ e2 e3; omega
    · injection e with _ e2 e3; omega
  · rcases o.ws.2 with ⟨e, _⟩ | ⟨g, cap, cur, e, _, _, hle, _⟩
    · injection e with _ e2 e3; omega
    · injection e with _ e2 e3; omega
theorem cutP_cutP (p : Pt) : cutP (cutP p) = cutP p := by simp [cutP, List.take_take]
def Again (w : World) (qs : List Hm) (e : Ending) (w' : World) : Prop := ∃ v js, e = .returned v ∧ js.map Hm.p = qs.map Hm.p ∧ Below w.heap.size w w' ∧ AllS w' w.heap.size v js
theorem few_again {w : World} {B : Nat} {v : Value} {a0 qs : List Hm} (hh : Helds w v qs) (ho : ∀ h ∈ qs, Own1 w B h) (hp : qs.map Hm.p = (a0.take 9).map (fun h => cutP h.p)) :
    Calls Try.prog 10 #[v] w fun e w' => Again w qs e w' := by
  have hl : qs.length ≤ 9 := by
    have := congrArg List.length hp
    simp at this
    omega
  have hcut : ∀ h ∈ qs, cutP h.p = h.p := fun h hm => by
    have : h.p ∈ (a0.take 9).map fun h => cutP h.p := by rw [← hp]; exact List.mem_map_of_mem hm
    obtain ⟨x, _, e⟩ := List.mem_map.1 this
    rw [← e]; exact cutP_cutP _
  refine (few_any (ps := qs) ⟨hh.row, hh.each, fun x hx => ⟨(hh.fit x hx).st, (hh.fit x hx).co, (hh.fit x hx).rs, (hh.fit x hx).ws⟩, fun x hx => (ho x hx).caps⟩ (by omega) (fun x hx => ⟨by have := (hh.fit x hx).rl; omega, by have := (hh.fit x hx).wl; omega⟩)).mono ?_
  rintro e w' ⟨v', js, he, h1, h2, h3, h4, h5⟩
  refine ⟨v', js, he, ?_, h3, h4, h5, h1.fit⟩
  rw [h2, List.take_of_length_le hl]
  exact List.map_congr_left hcut
theorem AllS.base {w : World} {B B' : Nat} {v : Value} {al : List Hm} (h : AllS w B v al) (hB : B' ≤ B) : AllS w B' v al := ⟨h.own.base hB, fun x hx => (h.each x hx).base hB, h.fit⟩
def readH (most pg ts : Int) (b : Nat) : Hm := ⟨oneP most pg ts, ⟨some ⟨b, 0, none⟩, 1, 1⟩, ⟨none, 0, 0⟩⟩
def writeH (most c pg : Int) (b : Nat) : Hm := ⟨wrP most c pg, ⟨none, 0, 0⟩, ⟨some ⟨b, 0, none⟩, 1, 1⟩⟩
theorem readH.own {w : World} {B b : Nat} {most pg ts : Int} (r : Row w b #[.int .u16 pg, .int .u32 ts] 46) (hB : B ≤ b) : Own1 w B (readH most pg ts b) :=
  ⟨⟨rfl, Or.inr ⟨b, 1, #[.int .u16 pg, .int .u32 ts], rfl, hB, r, by simp [readH, oneP], by unfold maxLen; omega, rfl, rfl⟩⟩, ⟨rfl, Or.inl ⟨rfl, rfl⟩⟩⟩
theorem writeH.own {w : World} {B b : Nat} {most c pg : Int} (r : Row w b #[.int .u16 pg] 44) (hB : B ≤ b) : Own1 w B (writeH most c pg b) :=
  ⟨⟨rfl, Or.inl ⟨rfl, rfl⟩⟩, ⟨rfl, Or.inr ⟨b, 1, #[.int .u16 pg], rfl, hB, r, by simp [writeH, wrP], by unfold maxLen; omega, rfl, rfl⟩⟩⟩
theorem oneP.fit {most pg ts : Int} (h1 : 0 ≤ most ∧ most ≤ 4294967295) (h2 : 0 ≤ pg ∧ pg ≤ 65535) (h3 : 0 ≤ ts ∧ ts ≤ 4294967295) : (oneP most pg ts).Fit := ⟨h1, ⟨Int.le_refl _, by simp [oneP]⟩, fun v hv => by simp [oneP] at hv; subst hv; exact ⟨h2, h3⟩, fun x hx => by simp [oneP] at hx, by simp [oneP], by simp [oneP]⟩
theorem wrP.fit {most c pg : Int} (h1 : 0 ≤ most ∧ most ≤ 4294967295) (h2 : 0 ≤ pg ∧ pg ≤ 65535) (h3 : 0 ≤ c ∧ c ≤ 4294967295) : (wrP most c pg).Fit := ⟨h1, h3, fun v hv => by simp [wrP] at hv, fun x hx => by simp [wrP] at hx; subst hx; exact h2, by simp [wrP], by simp [wrP]⟩
theorem wr_app {hs : List Hm} {h : Hm} {j : Nat} {v : Int × Int} : WrI (hs ++ [h]) j v ↔ WrI hs j v ∨ (j = hs.length ∧ v.1 ∈ h.p.ws ∧ v.2 = h.p.co) := by
  constructor
  · rintro ⟨x, h1, h2, h3⟩
    by_cases q : j < hs.length
    · rw [List.getElem?_append_left q] at h1
      exact Or.inl ⟨x, h1, h2, h3⟩
    · rw [List.getElem?_append_right (by omega)] at h1
      have hj : j - hs.length = 0 := by
        have := (List.getElem?_eq_some_iff.1 h1).1
        simp at this; omega
      rw [hj] at h1
      simp at h1; subst h1
      exact Or.inr ⟨by omega, h2, h3⟩
  · rintro (⟨x, h1, h2, h3⟩ | ⟨rfl, h2, h3⟩)
    · exact ⟨x, by rw [List.getElem?_append_left (List.getElem?_eq_some_iff.1 h1).1]; exact h1, h2, h3⟩
    · exact ⟨h, by simp, h2, h3⟩
theorem get_app {α : Type} {l : List α} {a x : α} {i : Nat} (h : (l ++ [a])[i]? = some x) : (i < l.length ∧ l[i]? = some x) ∨ (i = l.length ∧ x = a) := by
  by_cases q : i < l.length
  · rw [List.getElem?_append_left q] at h; exact Or.inl ⟨q, h⟩
  · rw [List.getElem?_append_right (by omega)] at h
    have hj : i - l.length = 0 := by
      have := (List.getElem?_eq_some_iff.1 h).1
      simp at this; omega
    rw [hj] at h
    simp at h
    exact Or.inr ⟨by omega, h.symm⟩
structure SerI (hs : List Hm) (new : Int → Int) (ts : Int) : Prop where
  dn : ∀ h ∈ hs, h.p.dn = true
  st : ∀ h ∈ hs, 0 ≤ h.p.st ∧ h.p.en ≤ ts
  cm : ∀ h ∈ hs, h.p.ws ≠ [] → h.p.co = h.p.st + 1
  up : ∀ (i j : Nat) (x y : Hm), i < j → hs[i]? = some x → hs[j]? = some y → x.p.en ≤ y.p.st
  vis : ∀ j v, WrI hs j v → v.2 ≤ new v.1
  old : ∀ p, new p ≠ 0 → ∃ j, WrI hs j (p, new p)
  rd : ∀ (i : Nat) (x : Hm) v, hs[i]? = some x → v ∈ x.p.rs → (v.2 = 0 ∨ ∃ j, j < i ∧ WrI hs j v) ∧ ∀ j t, j < i → WrI hs j (v.1, t) → t ≤ v.2
  ts0 : 0 ≤ ts
theorem SerI.start : SerI [] (fun _ => 0) 0 where
  dn h q := by simp at q
  st h q := by simp at q
  cm h q := by simp at q
  up i j x y _ q := by simp at q
  vis j v := fun ⟨x, q, _⟩ => by simp at q
  old p q := absurd rfl q
  rd i x v q := by simp at q
  ts0 := Int.le_refl _
theorem Pt.en_w {p : Pt} (hd : p.dn = true) (hw : p.ws ≠ []) : p.en = p.co := by
  have : 0 < p.ws.length := List.length_pos_iff.2 hw
  simp [Pt.en, Pt.com, hd, this]
theorem Pt.en_r {p : Pt} (hw : p.ws = []) : p.en = p.st := by
  simp [Pt.en, Pt.com, hw]
theorem SerI.ste {hs : List Hm} {new : Int → Int} {ts : Int} (h : SerI hs new ts) {x : Hm} (hx : x ∈ hs) : x.p.st ≤ x.p.en := by
  by_cases q : x.p.ws = []
  · rw [Pt.en_r q]; exact Int.le_refl _
  · rw [Pt.en_w (h.dn x hx) q, h.cm x hx q]; omega
theorem SerI.wr {hs : List Hm} {new : Int → Int} {ts : Int} (h : SerI hs new ts) {j : Nat} {v : Int × Int} (hw : WrI hs j v) : ∃ x, x ∈ hs ∧ hs[j]? = some x ∧ x.p.en = v.2 ∧ v.2 = x.p.st + 1 ∧ 0 ≤ x.p.st ∧ v.2 ≤ ts := by
  obtain ⟨x, h1, h2, h3⟩ := hw
  have hm := List.mem_of_getElem? h1
  have hne : x.p.ws ≠ [] := List.ne_nil_of_mem h2
  have e := Pt.en_w (h.dn x hm) hne
  have c := h.cm x hm hne
  have := h.st x hm
  exact ⟨x, hm, h1, by omega, by omega, this.1, by omega⟩
theorem SerI.snoc {hs : List Hm} {new : Int → Int} {ts : Int} (h : SerI hs new ts) (a : Hm) (hd : a.p.dn = true) (hs0 : a.p.st = ts) (hr : ∀ v ∈ a.p.rs, v.2 = new v.1) (hc : a.p.ws ≠ [] → a.p.co = ts + 1) {new' : Int → Int} (hn : ∀ p, new' p = if p ∈ a.p.ws then ts + 1 else new p) {ts' : Int} (ht : ts' = if a.p.ws = [] then ts else ts + 1) :
    SerI (hs ++ [a]) new' ts' := by
  have h0 := h.ts0
  have htt : ts ≤ ts' := by rw [ht]; split <;> omega
  have hen : a.p.en = ts' := by
    by_cases q : a.p.ws = []
    · rw [Pt.en_r q, ht, if_pos q, hs0]
    · rw [Pt.en_w hd q, ht, if_neg q, hc q]
  constructor
  · intro x hx
    rcases List.mem_append.1 hx with hx | hx
    · exact h.dn x hx
    · simp at hx; subst hx; exact hd
  · intro x hx
    rcases List.mem_append.1 hx with hx | hx
    · have := h.st x hx; omega
    · simp at hx; subst hx; omega
  · intro x hx q
    rcases List.mem_append.1 hx with hx | hx
    · exact h.cm x hx q
    · simp at hx; subst hx; rw [hc q, hs0]
  · intro i j x y hij hx hy
    rcases get_app hy with ⟨hj, hy⟩ | ⟨hj, rfl⟩
    · rcases get_app hx with ⟨hi, hx⟩ | ⟨hi, rfl⟩
      · exact h.up i j x y hij hx hy
      · omega
    · rcases get_app hx with ⟨hi, hx⟩ | ⟨hi, rfl⟩
      · rw [hs0]; exact (h.st x (List.mem_of_getElem? hx)).2
      · omega
  · intro j v q
    rw [hn]
    rcases wr_app.1 q with q | ⟨rfl, q1, q2⟩
    · obtain ⟨_, _, _, _, _, _, h3⟩ := h.wr q
      have := h.vis j v q
      split <;> omega
    · rw [if_pos q1, q2, hc (List.ne_nil_of_mem q1)]; exact Int.le_refl _
  · intro p q
    rw [hn] at q ⊢
    by_cases q1 : p ∈ a.p.ws
    · rw [if_pos q1]
      exact ⟨hs.length, wr_app.2 (Or.inr ⟨rfl, q1, (hc (List.ne_nil_of_mem q1)).symm⟩)⟩
    · rw [if_neg q1] at q ⊢
      obtain ⟨j, hj⟩ := h.old p q
      exact ⟨j, wr_app.2 (Or.inl hj)⟩
  · intro i x v hx hv
    rcases get_app hx with ⟨hi, hx⟩ | ⟨hi, rfl⟩
    · obtain ⟨h1, h2⟩ := h.rd i x v hx hv
      refine ⟨h1.imp id fun ⟨j, q1, q2⟩ => ⟨j, q1, wr_app.2 (Or.inl q2)⟩, fun j t hj q => ?_⟩
      rcases wr_app.1 q with q | ⟨rfl, _⟩
      · exact h2 j t hj q
      · omega
    · have e := hr v hv
      refine ⟨?_, fun j t hj q => ?_⟩
      · by_cases q : v.2 = 0
        · exact Or.inl q
        · right
          obtain ⟨j, hj⟩ := h.old v.1 (by rw [← e]; exact q)
          rw [← e] at hj
          refine ⟨j, ?_, wr_app.2 (Or.inl hj)⟩
          obtain ⟨x', q1, _⟩ := hj
          have := (List.getElem?_eq_some_iff.1 q1).1
          omega
      · rcases wr_app.1 q with q | ⟨rfl, _⟩
        · rw [e]; exact h.vis j _ q
        · omega
  · omega
section
variable {hs : List Hm} {new : Int → Int} {ts : Int} (h : SerI hs new ts)
include h
theorem SerI.order {i j : Nat} {v u : Int × Int} (hi : WrI hs i v) (hj : WrI hs j u) (hlt : v.2 < u.2) : i < j := by
  obtain ⟨x, mx, ex, nx, sx, _⟩ := h.wr hi
  obtain ⟨y, my, ey, ny, sy, _⟩ := h.wr hj
  rcases Nat.lt_trichotomy i j with q | q | q
  · exact q
  · subst q; rw [ex] at ey; injection ey with e; subst e; omega
  · have := h.up j i y x q ey ex; omega
theorem SerI.uni : Uni hs := fun i j v hi hj => by
  obtain ⟨x, mx, ex, nx, sx, _⟩ := h.wr hi
  obtain ⟨y, my, ey, ny, sy, _⟩ := h.wr hj
  rcases Nat.lt_trichotomy i j with q | q | q
  · have := h.up i j x y q ex ey; omega
  · exact q
  · have := h.up j i y x q ey ex; omega
theorem SerI.dep {i j : Nat} (hd : DepI hs ((i : Int), (j : Int))) : i < j := by
  rcases hd with ⟨v, a, b, h1, h2, h3, e⟩ | ⟨a, x, v, h1, h2, ⟨b, h3, h4, e⟩⟩
  · have e1 := congrArg Prod.fst e; have e2 := congrArg Prod.snd e; simp at e1 e2
    obtain rfl : i = a := by omega
    obtain rfl : j = b := by omega
    obtain ⟨t, q1, q2, _⟩ := h2
    exact h.order h1 q1 q2
  · have e1 := congrArg Prod.fst e; have e2 := congrArg Prod.snd e; simp at e1 e2
    obtain rfl : i = b := by omega
    obtain rfl : j = a := by omega
    obtain ⟨_, _, _, _, q1, q2, _⟩ := h.wr h3
    rcases (h.rd j x v h1 h2).1 with q | ⟨k, hk, hw⟩
    · omega
    · rw [h.uni _ _ _ h3 hw]; exact hk
theorem SerI.edge {i j : Nat} (hd : Edge hs i j) : ∃ x y, hs[i]? = some x ∧ hs[j]? = some y ∧ x.p.en ≤ y.p.st := by
  rcases hd with hd | q
  · have hl := h.dep hd
    have hlt := (Edge.lt (Or.inl hd : Edge hs i j)).2
    refine ⟨_, _, List.getElem?_eq_getElem (by omega), List.getElem?_eq_getElem hlt, ?_⟩
    exact h.up i j _ _ hl (List.getElem?_eq_getElem (by omega)) (List.getElem?_eq_getElem hlt)
  · exact q
theorem SerI.come {i j : Nat} (hc : Come (Edge hs) i j) : i = j ∨ ∃ x y, hs[i]? = some x ∧ hs[j]? = some y ∧ x.p.en ≤ y.p.st := by
  induction hc with
  | here => exact Or.inl rfl
  | step _ r ih =>
    obtain ⟨x, y, h1, h2, h3⟩ := h.edge r
    rcases ih with rfl | ⟨x', y', q1, q2, q3⟩
    · exact Or.inr ⟨x, y, h1, h2, h3⟩
    · rw [h1] at q2; injection q2 with e; subst e
      have := h.ste (List.mem_of_getElem? h1)
      exact Or.inr ⟨x', y, q1, h2, by omega⟩
theorem SerI.noab : ¬ AbI hs := fun ⟨i, x, v, h1, h2, h3, h4⟩ => by
  rcases (h.rd i x v h1 h2).1 with q | ⟨j, _, q⟩
  · exact h3 q
  · exact h4 j q
theorem SerI.nocir : ¬ CirI hs := fun ⟨x, hx⟩ => no_circle (fun i : Nat => i) (fun a b q => h.dep q) x hx
theorem SerI.noint : ¬ InI hs := fun ⟨_, h1, i, j, x, y, e, h2, h3, h4⟩ => by
  subst e
  have := h.up i j x y (h.dep h1) h2 h3
  omega
theorem SerI.nomis : ¬ MisI hs := fun ⟨i, j, h1, h2⟩ => by
  obtain ⟨a, x, v, q1, q2, q3, b, q4, q5, e⟩ := h1
  have e1 := congrArg Prod.fst e; have e2 := congrArg Prod.snd e; simp at e1 e2
  obtain rfl : i = b := by omega
  obtain rfl : j = a := by omega
  obtain ⟨t, w1, w2, _⟩ := q4
  have hji : j < i := by
    rcases Nat.lt_trichotomy i j with q | q | q
    · have := (h.rd j x v q1 q2).2 i t q w1; omega
    · exact absurd q q5
    · exact q
  obtain ⟨y, my, ey, ny, sy, _⟩ := h.wr w1
  have hst := h.up j i x y hji q1 ey
  have hx := h.ste (List.mem_of_getElem? q1)
  rcases h.come h2 with q | ⟨y', x', r1, r2, r3⟩
  · omega
  · rw [ey] at r1; injection r1 with e; subst e
    rw [q1] at r2; injection r2 with e; subst e
    simp at ny sy
    omega
theorem SerI.shown : ShownH hs 0 := ⟨hs, false, false, false, false, by rw [List.filter_eq_self.2 h.dn], h.uni, rfl, ⟨(fun q => by cases q), fun q => absurd q h.noab⟩, ⟨(fun q => by cases q), fun q => absurd q h.nocir⟩, ⟨(fun q => by cases q), fun q => absurd q h.noint⟩, ⟨(fun q => by cases q), fun q => absurd q h.nomis⟩⟩
theorem SerI.zero {x : Int} (hx : ShownH hs x) : x = 0 := hx.det h.shown (List.Perm.refl _)
end
end Go.Proofs.Ytdlllnkcjfpajaa
namespace Go.Proofs.Ytdlllnkcjfpajaa
open Go.Deep Go.ChangeShapes Go.WideShapes Go.ChangeAt Go.RowKit
set_option linter.unusedVariables false
set_option linter.unusedSimpArgs false
set_option maxRecDepth 20000
instance : Inhabited (Sl × List Int) := ⟨(⟨none, 0, 0⟩, [])⟩
section
variable {H : Type} {enc : TypeId × Value → H}
structure B8 (w : World) (v : Value) (rs : List (List Int)) : Prop where
  hold : ∃ oa cap, v = .slice oa rs.length cap ∧ ∀ (i : Nat) r, rs[i]? = some r → ∃ a o c, oa = some a ∧ w.cell? (a.add i) = some (.slice o r.length c) ∧ ∀ (j : Nat) x, r[j]? = some x → ∃ b, o = some b ∧ w.cell? (b.add j) = some (.int .u8 x) ∧ 0 ≤ x ∧ x ≤ 255
  few : rs.length ≤ 140737488355328
  lens : ∀ r ∈ rs, r.length ≤ 140737488355328
end
theorem B8.keep {w w' : World} {v : Value} {rs : List (List Int)} (h : B8 w v rs) (hb : Below w.heap.size w w') : B8 w' v rs := by
  obtain ⟨⟨oa, cap, e, h1⟩, h2, h3⟩ := h
  refine ⟨⟨oa, cap, e, fun i r hr => ?_⟩, h2, h3⟩
  obtain ⟨a, o, c, q1, q2, q3⟩ := h1 i r hr
  refine ⟨a, o, c, q1, cell_keep q2 hb, fun j x hx => ?_⟩
  obtain ⟨b, k1, k2, k3⟩ := q3 j x hx
  exact ⟨b, k1, cell_keep k2 hb, k3⟩
end Go.Proofs.Ytdlllnkcjfpajaa
namespace Go.Proofs.Ytdlllnkcjfpajaa
open Go.ChangeShapes Go.WideShapes Go.ChangeAt Go.RowKit
set_option linter.unusedVariables false
set_option linter.unusedSimpArgs false
set_option maxRecDepth 20000
def newA (new : Int → Int) : Array Value := #[.int .u32 (new 0), .int .u32 (new 1), .int .u32 (new 2), .int .u32 (new 3)]
theorem newA_set (new : Int → Int) (q : Nat) (hq : q < 4) (x : Int) : (newA new).setIfInBounds q (.int .u32 x) = newA (fun p => if p = (q : Int) then x else new p) := by
  match q, hq with
  | 0, _ => rfl
  | 1, _ => rfl
  | 2, _ => rfl
  | 3, _ => rfl
def half (ts co : Int) (rs : List (Int × Int)) (ws : List Int) (r s : Sl) : Hm := ⟨⟨ts, co, true, rs, ws⟩, r, s⟩
def HalfP (wr : World) (T : Nat) (ts co : Int) (rs : List (Int × Int)) (ws : List Int) (wx : World) : Prop :=
  ∃ r s : Sl, Row wx T #[.int .u32 ts, .int .u32 co, .bool true, .slice r.a r.n r.c, .slice s.a s.n s.c] 39 ∧ Own1 wx T (half ts co rs ws r s) ∧ Below T wr wx
theorem HalfP.start {wr : World} (ts : Int) : HalfP wr wr.heap.size ts 0 [] [] (wr.alloc (.cells #[.int .u32 ts, .int .u32 0, .bool true, .slice none 0 0, .slice none 0 0] 39)) :=
  ⟨⟨none, 0, 0⟩, ⟨none, 0, 0⟩, Row.new _ _ _, ⟨⟨rfl, Or.inl ⟨rfl, rfl⟩⟩, ⟨rfl, Or.inl ⟨rfl, rfl⟩⟩⟩, (Below.refl _ _).alloc (Nat.le_refl _) _⟩
structure SerS (w0 : World) (N B : Nat) (v : Value) (al : List Hm) (new : Int → Int) (wx : World) : Prop where
  row : Row wx N (newA new) 42
  all : AllS wx B v al
  bel : Below w0.heap.size w0 wx
theorem SerS.below {w0 wx w' : World} {N B : Nat} {v : Value} {al : List Hm} {new : Int → Int} (h : SerS w0 N B v al new wx) (hb : Below wx.heap.size wx w') : SerS w0 N B v al new w' :=
  ⟨h.row.below hb h.row.lt, h.all.below hb, below_trans h.bel hb⟩
theorem SerS.put {w0 wx : World} {N B : Nat} {v : Value} {al : List Hm} {new new' : Int → Int} (h : SerS w0 N B v al new wx) (hN : N < B) (h0 : w0.heap.size ≤ N) (q : Nat) (hq : q < 4) (x : Int) (e : newA (fun p => if p = (q : Int) then x else new p) = newA new') : SerS w0 N B v al new' (wx.setCell ⟨N, q, none⟩ (.int .u32 x)) := by
  have o : Off (· = N) wx (wx.setCell ⟨N, q, none⟩ (.int .u32 x)) := Off.of_setCell _ _ _ rfl
  have hlow : ∀ k, B ≤ k → k < wx.heap.size → ¬ k = N := fun k hk _ q => by omega
  refine ⟨?_, ⟨h.all.own.off o (fun b hb => hlow b (World.ownsRow.lt h.all.own b hb).1 (World.ownsRow.lt h.all.own b hb).2), fun z hz => (h.all.each z hz).off o hlow, h.all.fit⟩, below_off h.bel o (fun k hk => by omega)⟩
  have := row_set h.row q (.int .u32 x)
  rw [newA_set new q hq, e] at this
  exact this
end Go.Proofs.Ytdlllnkcjfpajaa
