/-
  Plain facts: transactions one behind the other, each of which reads what was committed last, show nothing. Plain facts: rows of bytes that came in as an argument. What is wanted to make transactions one behind the other: one under way, in rows of its own.
-/
import Derived.Test.YtdlllnkcjfpajaaJq15
namespace Go.Proofs.Ytdlllnkcjfpajaa
open Go.ChangeShapes Go.WideShapes Go.ChangeAt Go.RowKit
set_option linter.unusedVariables false
set_option linter.unusedSimpArgs false
set_option maxRecDepth 20000
theorem wr_app {hs : List Hm} {h : Hm} {j : Nat} {v : Int × Int} : WrI (hs ++ [h]) j v ↔ WrI hs j v ∨ (j = hs.length ∧ v.1 ∈ h.p.ws ∧ v.2 = h.p.co) := by
  constructor
  · rintro ⟨x, h1, h2, h3⟩
    by_cases q : j < hs.length
    · rw [List.getElem?_append_left q] at h1
      exact Or.inl ⟨x, h1, h2, h3⟩
    · rw [List.getElem?_append_right (by omega)] at h1
      have hj : j - hs.length = 0 := by
        have := (List.getElem?_eq_some_iff.1 h1).1
        simp at this; omega
      rw [hj] at h1
      simp at h1; subst h1
      exact Or.inr ⟨by omega, h2, h3⟩
  · rintro (⟨x, h1, h2, h3⟩ | ⟨rfl, h2, h3⟩)
    · exact ⟨x, by rw [List.getElem?_append_left (List.getElem?_eq_some_iff.1 h1).1]; exact h1, h2, h3⟩
    · exact ⟨h, by simp, h2, h3⟩
theorem get_app {α : Type} {l : List α} {a x : α} {i : Nat} (h : (l ++ [a])[i]? = some x) : (i < l.length ∧ l[i]? = some x) ∨ (i = l.length ∧ x = a) := by
  by_cases q : i < l.length
  · rw [List.getElem?_append_left q] at h; exact Or.inl ⟨q, h⟩
  · rw [List.getElem?_append_right (by omega)] at h
    have hj : i - l.length = 0 := by
      have := (List.getElem?_eq_some_iff.1 h).1
      simp at this; omega
    rw [hj] at h
    simp at h
    exact Or.inr ⟨by omega, h.symm⟩
structure SerI (hs : List Hm) (new : Int → Int) (ts : Int) : Prop where
  dn : ∀ h ∈ hs, h.p.dn = true
  st : ∀ h ∈ hs, 0 ≤ h.p.st ∧ h.p.en ≤ ts
  cm : ∀ h ∈ hs, h.p.ws ≠ [] → h.p.co = h.p.st + 1
  up : ∀ (i j : Nat) (x y : Hm), i < j → hs[i]? = some x → hs[j]? = some y → x.p.en ≤ y.p.st
  vis : ∀ j v, WrI hs j v → v.2 ≤ new v.1
  old : ∀ p, new p ≠ 0 → ∃ j, WrI hs j (p, new p)
  rd : ∀ (i : Nat) (x : Hm) v, hs[i]? = some x → v ∈ x.p.rs → (v.2 = 0 ∨ ∃ j, j < i ∧ WrI hs j v) ∧ ∀ j t, j < i → WrI hs j (v.1, t) → t ≤ v.2
  ts0 : 0 ≤ ts
theorem SerI.start : SerI [] (fun _ => 0) 0 where
  dn h q := by simp at q
  st h q := by simp at q
  cm h q := by simp at q
  up i j x y _ q := by simp at q
  vis j v := fun ⟨x, q, _⟩ => by simp at q
  old p q := absurd rfl q
  rd i x v q := by simp at q
  ts0 := Int.le_refl _
theorem Pt.en_w {p : Pt} (hd : p.dn = true) (hw : p.ws ≠ []) : p.en = p.co := by
  have : 0 < p.ws.length := List.length_pos_iff.2 hw
  simp [Pt.en, Pt.com, hd, this]
theorem Pt.en_r {p : Pt} (hw : p.ws = []) : p.en = p.st := by
  simp [Pt.en, Pt.com, hw]
theorem SerI.ste {hs : List Hm} {new : Int → Int} {ts : Int} (h : SerI hs new ts) {x : Hm} (hx : x ∈ hs) : x.p.st ≤ x.p.en := by
  by_cases q : x.p.ws = []
  · rw [Pt.en_r q]; exact Int.le_refl _
  · rw [Pt.en_w (h.dn x hx) q, h.cm x hx q]; omega
theorem SerI.wr {hs : List Hm} {new : Int → Int} {ts : Int} (h : SerI hs new ts) {j : Nat} {v : Int × Int} (hw : WrI hs j v) : ∃ x, x ∈ hs ∧ hs[j]? = some x ∧ x.p.en = v.2 ∧ v.2 = x.p.st + 1 ∧ 0 ≤ x.p.st ∧ v.2 ≤ ts := by
  obtain ⟨x, h1, h2, h3⟩ := hw
  have hm := List.mem_of_getElem? h1
  have hne : x.p.ws ≠ [] := List.ne_nil_of_mem h2
  have e := Pt.en_w (h.dn x hm) hne
  have c := h.cm x hm hne
  have := h.st x hm
  exact ⟨x, hm, h1, by omega, by omega, this.1, by omega⟩
theorem SerI.newb {hs : List Hm} {new : Int → Int} {ts : Int} (h : SerI hs new ts) (p : Int) : 0 ≤ new p ∧ new p ≤ ts := by
  have h0 := h.ts0
  by_cases q : new p = 0
  · omega
  · obtain ⟨j, hj⟩ := h.old p q
    obtain ⟨x, _, _, _, h1, h2, h3⟩ := h.wr hj
    simp at h1 h3
    omega
theorem SerI.snoc {hs : List Hm} {new : Int → Int} {ts : Int} (h : SerI hs new ts) (a : Hm) (hd : a.p.dn = true) (hs0 : a.p.st = ts) (hr : ∀ v ∈ a.p.rs, v.2 = new v.1) (hc : a.p.ws ≠ [] → a.p.co = ts + 1) {new' : Int → Int} (hn : ∀ p, new' p = if p ∈ a.p.ws then ts + 1 else new p) {ts' : Int} (ht : ts' = if a.p.ws = [] then ts else ts + 1) :
    SerI (hs ++ [a]) new' ts' := by
  have h0 := h.ts0
  have htt : ts ≤ ts' := by rw [ht]; split <;> omega
  have hen : a.p.en = ts' := by
    by_cases q : a.p.ws = []
    · rw [Pt.en_r q, ht, if_pos q, hs0]
    · rw [Pt.en_w hd q, ht, if_neg q, hc q]
  constructor
  · intro x hx
    rcases List.mem_append.1 hx with hx | hx
    · exact h.dn x hx
    · simp at hx; subst hx; exact hd
  · intro x hx
    rcases List.mem_append.1 hx with hx | hx
    · have := h.st x hx; omega
    · simp at hx; subst hx; omega
  · intro x hx q
    rcases List.mem_append.1 hx with hx | hx
    · exact h.cm x hx q
    · simp at hx; subst hx; rw [hc q, hs0]
  · intro i j x y hij hx hy
    rcases get_app hy with ⟨hj, hy⟩ | ⟨hj, rfl⟩
    · rcases get_app hx with ⟨hi, hx⟩ | ⟨hi, rfl⟩
      · exact h.up i j x y hij hx hy
      · omega
    · rcases get_app hx with ⟨hi, hx⟩ | ⟨hi, rfl⟩
      · rw [hs0]; exact (h.st x (List.mem_of_getElem? hx)).2
      · omega
  · intro j v q
    rw [hn]
    rcases wr_app.1 q with q | ⟨rfl, q1, q2⟩
    · obtain ⟨_, _, _, _, _, _, h3⟩ := h.wr q
      have := h.vis j v q
      split <;> omega
    · rw [if_pos q1, q2, hc (List.ne_nil_of_mem q1)]; exact Int.le_refl _
  · intro p q
    rw [hn] at q ⊢
    by_cases q1 : p ∈ a.p.ws
    · rw [if_pos q1]
      exact ⟨hs.length, wr_app.2 (Or.inr ⟨rfl, q1, (hc (List.ne_nil_of_mem q1)).symm⟩)⟩
    · rw [if_neg q1] at q ⊢
      obtain ⟨j, hj⟩ := h.old p q
      exact ⟨j, wr_app.2 (Or.inl hj)⟩
  · intro i x v hx hv
    rcases get_app hx with ⟨hi, hx⟩ | ⟨hi, rfl⟩
    · obtain ⟨h1, h2⟩ := h.rd i x v hx hv
      refine ⟨h1.imp id fun ⟨j, q1, q2⟩ => ⟨j, q1, wr_app.2 (Or.inl q2)⟩, fun j t hj q => ?_⟩
      rcases wr_app.1 q with q | ⟨rfl, _⟩
      · exact h2 j t hj q
      · omega
    · have e := hr v hv
      refine ⟨?_, fun j t hj q => ?_⟩
      · by_cases q : v.2 = 0
        · exact Or.inl q
        · right
          obtain ⟨j, hj⟩ := h.old v.1 (by rw [← e]; exact q)
          rw [← e] at hj
          refine ⟨j, ?_, wr_app.2 (Or.inl hj)⟩
          obtain ⟨x', q1, _⟩ := hj
          have := (List.getElem?_eq_some_iff.1 q1).1
          omega
      · rcases wr_app.1 q with q | ⟨rfl, _⟩
        · rw [e]; exact h.vis j _ q
        · omega
  · omega
section
variable {hs : List Hm} {new : Int → Int} {ts : Int} (h : SerI hs new ts)
include h
theorem SerI.order {i j : Nat} {v u : Int × Int} (hi : WrI hs i v) (hj : WrI hs j u) (hlt : v.2 < u.2) : i < j := by
  obtain ⟨x, mx, ex, nx, sx, _⟩ := h.wr hi
  obtain ⟨y, my, ey, ny, sy, _⟩ := h.wr hj
  rcases Nat.lt_trichotomy i j with q | q | q
  · exact q
  · subst q; rw [ex] at ey; injection ey with e; subst e; omega
  · have := h.up j i y x q ey ex; omega
theorem SerI.uni : Uni hs := fun i j v hi hj => by
  obtain ⟨x, mx, ex, nx, sx, _⟩ := h.wr hi
  obtain ⟨y, my, ey, ny, sy, _⟩ := h.wr hj
  rcases Nat.lt_trichotomy i j with q | q | q
  · have := h.up i j x y q ex ey; omega
  · exact q
  · have := h.up j i y x q ey ex; omega
theorem SerI.dep {i j : Nat} (hd : DepI hs ((i : Int), (j : Int))) : i < j := by
  rcases hd with ⟨v, a, b, h1, h2, h3, e⟩ | ⟨a, x, v, h1, h2, ⟨b, h3, h4, e⟩⟩
  · have e1 := congrArg Prod.fst e; have e2 := congrArg Prod.snd e; simp at e1 e2
    obtain rfl : i = a := by omega
    obtain rfl : j = b := by omega
    obtain ⟨t, q1, q2, _⟩ := h2
    exact h.order h1 q1 q2
  · have e1 := congrArg Prod.fst e; have e2 := congrArg Prod.snd e; simp at e1 e2
    obtain rfl : i = b := by omega
    obtain rfl : j = a := by omega
    obtain ⟨_, _, _, _, q1, q2, _⟩ := h.wr h3
    rcases (h.rd j x v h1 h2).1 with q | ⟨k, hk, hw⟩
    · omega
    · rw [h.uni _ _ _ h3 hw]; exact hk
theorem SerI.edge {i j : Nat} (hd : Edge hs i j) : ∃ x y, hs[i]? = some x ∧ hs[j]? = some y ∧ x.p.en ≤ y.p.st := by
  rcases hd with hd | q
  · have hl := h.dep hd
    have hlt := (Edge.lt (Or.inl hd : Edge hs i j)).2
    refine ⟨_, _, List.getElem?_eq_getElem (by omega), List.getElem?_eq_getElem hlt, ?_⟩
    exact h.up i j _ _ hl (List.getElem?_eq_getElem (by omega)) (List.getElem?_eq_getElem hlt)
  · exact q
theorem SerI.come {i j : Nat} (hc : Come (Edge hs) i j) : i = j ∨ ∃ x y, hs[i]? = some x ∧ hs[j]? = some y ∧ x.p.en ≤ y.p.st := by
  induction hc with
  | here => exact Or.inl rfl
  | step _ r ih =>
    obtain ⟨x, y, h1, h2, h3⟩ := h.edge r
    rcases ih with rfl | ⟨x', y', q1, q2, q3⟩
    · exact Or.inr ⟨x, y, h1, h2, h3⟩
    · rw [h1] at q2; injection q2 with e; subst e
      have := h.ste (List.mem_of_getElem? h1)
      exact Or.inr ⟨x', y, q1, h2, by omega⟩
theorem SerI.noab : ¬ AbI hs := fun ⟨i, x, v, h1, h2, h3, h4⟩ => by
  rcases (h.rd i x v h1 h2).1 with q | ⟨j, _, q⟩
  · exact h3 q
  · exact h4 j q
theorem SerI.nocir : ¬ CirI hs := fun ⟨x, hx⟩ => no_circle (fun i : Nat => i) (fun a b q => h.dep q) x hx
theorem SerI.noint : ¬ InI hs := fun ⟨_, h1, i, j, x, y, e, h2, h3, h4⟩ => by
  subst e
  have := h.up i j x y (h.dep h1) h2 h3
  omega
theorem SerI.nomis : ¬ MisI hs := fun ⟨i, j, h1, h2⟩ => by
  obtain ⟨a, x, v, q1, q2, q3, b, q4, q5, e⟩ := h1
  have e1 := congrArg Prod.fst e; have e2 := congrArg Prod.snd e; simp at e1 e2
  obtain rfl : i = b := by omega
  obtain rfl : j = a := by omega
  obtain ⟨t, w1, w2, _⟩ := q4
  have hji : j < i := by
    rcases Nat.lt_trichotomy i j with q | q | q
    · have := (h.rd j x v q1 q2).2 i t q w1; omega
    · exact absurd q q5
    · exact q
  obtain ⟨y, my, ey, ny, sy, _⟩ := h.wr w1
  have hst := h.up j i x y hji q1 ey
  have hx := h.ste (List.mem_of_getElem? q1)
  rcases h.come h2 with q | ⟨y', x', r1, r2, r3⟩
  · omega
  · rw [ey] at r1; injection r1 with e; subst e
    rw [q1] at r2; injection r2 with e; subst e
    simp at ny sy
    omega
theorem SerI.shown : ShownH hs 0 := ⟨hs, false, false, false, false, by rw [List.filter_eq_self.2 h.dn], h.uni, rfl, ⟨(fun q => by cases q), fun q => absurd q h.noab⟩, ⟨(fun q => by cases q), fun q => absurd q h.nocir⟩, ⟨(fun q => by cases q), fun q => absurd q h.noint⟩, ⟨(fun q => by cases q), fun q => absurd q h.nomis⟩⟩
theorem SerI.isH : isHF (hs.map Hm.p) [] = true := by
  have com : ∀ p : Pt, p.com = true → p.dn = true ∧ p.ws ≠ [] := fun p q => by
    simp [Pt.com] at q
    exact ⟨q.1, List.length_pos_iff.1 q.2⟩
  refine (isHF_iff _ _).2 ⟨fun p hp hc => ?_, ?_⟩
  · obtain ⟨x, hx, rfl⟩ := List.mem_map.1 hp
    have := h.cm x hx (com _ hc).2
    exact ⟨(fun q => by cases q), by omega⟩
  · rw [List.pairwise_map, List.pairwise_iff_getElem]
    rintro i j hi hj hij ⟨c1, c2, e⟩
    have u := h.up i j _ _ hij (List.getElem?_eq_getElem hi) (List.getElem?_eq_getElem hj)
    have k1 := h.cm _ (List.getElem_mem hi) (com _ c1).2
    have k2 := h.cm _ (List.getElem_mem hj) (com _ c2).2
    rw [Pt.en_w (com _ c1).1 (com _ c1).2] at u
    omega
theorem SerI.zero {x : Int} (hx : ShownH hs x) : x = 0 := hx.det h.shown (List.Perm.refl _)
end
end Go.Proofs.Ytdlllnkcjfpajaa
namespace Go.Proofs.Ytdlllnkcjfpajaa
open Go.Deep Go.ChangeShapes Go.WideShapes Go.ChangeAt Go.RowKit
set_option linter.unusedVariables false
set_option linter.unusedSimpArgs false
set_option maxRecDepth 20000
theorem cells43 : Try.prog.cellsOf 43 = 1 := by kernel_rfl
theorem cells5 : Try.prog.cellsOf 5 = 1 := by kernel_rfl
theorem bytes43 : Try.prog.bytesOf 43 = 24 := by kernel_rfl
theorem bytes5 : Try.prog.bytesOf 5 = 1 := by kernel_rfl
def ByOk (_ : World) (x : Int) : Prop := 0 ≤ x ∧ x ≤ 255
def byC (x : Int) : List Value := [.int .u8 x]
def rowC (r : Sl × List Int) : List Value := [.slice r.1.a r.1.n r.1.c]
instance : Inhabited (Sl × List Int) := ⟨(⟨none, 0, 0⟩, [])⟩
def RowOk (w : World) (r : Sl × List Int) : Prop := Rows_ w (.slice r.1.a r.1.n r.1.c) 1 byC r.2 ∧ ∀ x ∈ r.2, ByOk w x
section
variable {H : Type} {enc : TypeId × Value → H}
theorem open_byte1 {w : World} (fuel : Nat) (l : List Value) (x : DataW H × List MemPlace) (hf : DataW.trod enc Try.prog w 0 (fun _ => true) true fuel 5 l = some x) (_ : (x.1.weights Try.prog 5).all (· ≤ reachBytes) = true) : ∃ o, l = byC o ∧ ByOk w o := by
  obtain ⟨k0, e0, _, u0⟩ := DataW.trod_int Try.underlying5 hf
  exact ⟨k0, e0, bounds_u8 u0⟩
theorem open_row1 {w : World} (fuel : Nat) (l : List Value) (x : DataW H × List MemPlace) (hf : DataW.trod enc Try.prog w 0 (fun _ => true) true fuel 43 l = some x) (hs : (x.1.weights Try.prog 43).all (· ≤ reachBytes) = true) : ∃ o : Sl × List Int, l = rowC o ∧ RowOk w o := by
  have hl : ∃ v, l = [v] := by
    rcases open_slice Try.underlying43 hf with ⟨q, _⟩ | ⟨a, len, cap, m, n, D, Pl, q, _⟩
    · exact ⟨_, q⟩
    · exact ⟨_, q⟩
  obtain ⟨v, rfl⟩ := hl
  obtain ⟨os, h1, h2⟩ := open_rows (sl := 43) Try.underlying43 cells5 bytes5 (by decide) byC (fun _ => rfl) ByOk open_byte1 hf hs
  obtain ⟨oa, cap, rfl, h3⟩ := h1.form
  exact ⟨(⟨oa, os.length, cap⟩, os), rfl, h1, h2⟩
structure B8 (w : World) (v : Value) (rs : List (List Int)) : Prop where
  hold : ∃ oa cap, v = .slice oa rs.length cap ∧ ∀ (i : Nat) r, rs[i]? = some r → ∃ a o c, oa = some a ∧ w.cell? (a.add i) = some (.slice o r.length c) ∧ ∀ (j : Nat) x, r[j]? = some x → ∃ b, o = some b ∧ w.cell? (b.add j) = some (.int .u8 x) ∧ 0 ≤ x ∧ x ≤ 255
  few : rs.length ≤ 140737488355328
  lens : ∀ r ∈ rs, r.length ≤ 140737488355328
theorem open_rows8 {w : World} {base : Nat} {v : Value} {d : DataW H} {p : List MemPlace} (hv : Value.okWide Try.prog w .any base 41 v) (h : DataW.Trod enc Try.prog w 0 (fun _ => true) true 41 v d p) (hs : (d.weights Try.prog 41).all (· ≤ reachBytes) = true) :
    ∃ rs : List (List Int), B8 w v rs := by
  obtain ⟨fuel, hf⟩ := h
  obtain ⟨av, lv, cv, rfl⟩ := okWide_slice Try.underlying41 hv
  obtain ⟨os, h1, h2⟩ := open_rows (sl := 41) Try.underlying41 cells43 bytes43 (by decide) rowC (fun _ => rfl) RowOk open_row1 (by simpa [Value.cells] using hf) hs
  obtain ⟨oa, cap, e, q1, q2, q3⟩ := h1.form
  refine ⟨os.map Prod.snd, ⟨oa, cap, by rw [List.length_map]; exact e, fun i r hr => ?_⟩, by rw [List.length_map]; exact h1.few, fun r hr => ?_⟩
  · rw [List.getElem?_map] at hr
    obtain ⟨o, ho, rfl⟩ := Option.map_eq_some_iff.1 hr
    obtain ⟨a, ha, hc⟩ := q3 i o ho
    obtain ⟨k1, k2⟩ := h2 o (List.mem_of_getElem? ho)
    obtain ⟨oa', cap', e', _, _, q4⟩ := k1.form
    refine ⟨a, oa', cap', ha, ?_, fun j x hx => ?_⟩
    · have := hc 0 _ (rfl : (rowC o)[0]? = some _)
      rw [e'] at this
      rwa [Nat.mul_one, Sn.add_add, Nat.add_zero] at this
    · obtain ⟨b, hb, hcc⟩ := q4 j x hx
      have := hcc 0 _ (rfl : (byC x)[0]? = some _)
      rw [Nat.mul_one, Sn.add_add, Nat.add_zero] at this
      exact ⟨b, hb, this, k2 x (List.mem_of_getElem? hx)⟩
  · obtain ⟨o, ho, rfl⟩ := List.mem_map.1 hr
    exact (h2 o ho).1.few
end
theorem B8.keep {w w' : World} {v : Value} {rs : List (List Int)} (h : B8 w v rs) (hb : Below w.heap.size w w') : B8 w' v rs := by
  obtain ⟨⟨oa, cap, e, h1⟩, h2, h3⟩ := h
  refine ⟨⟨oa, cap, e, fun i r hr => ?_⟩, h2, h3⟩
  obtain ⟨a, o, c, q1, q2, q3⟩ := h1 i r hr
  refine ⟨a, o, c, q1, cell_keep q2 hb, fun j x hx => ?_⟩
  obtain ⟨b, k1, k2, k3⟩ := q3 j x hx
  exact ⟨b, k1, cell_keep k2 hb, k3⟩
end Go.Proofs.Ytdlllnkcjfpajaa
namespace Go.Proofs.Ytdlllnkcjfpajaa
open Go.ChangeShapes Go.WideShapes Go.ChangeAt Go.RowKit
set_option linter.unusedVariables false
set_option linter.unusedSimpArgs false
set_option maxRecDepth 20000
def newA (new : Int → Int) : Array Value := #[.int .u32 (new 0), .int .u32 (new 1), .int .u32 (new 2), .int .u32 (new 3)]
theorem newA_at (new : Int → Int) (q : Nat) (hq : q < 4) : (newA new)[q]? = some (.int .u32 (new (q : Int))) := by
  match q, hq with
  | 0, _ => rfl
  | 1, _ => rfl
  | 2, _ => rfl
  | 3, _ => rfl
theorem newA_set (new : Int → Int) (q : Nat) (hq : q < 4) (x : Int) : (newA new).setIfInBounds q (.int .u32 x) = newA (fun p => if p = (q : Int) then x else new p) := by
  match q, hq with
  | 0, _ => rfl
  | 1, _ => rfl
  | 2, _ => rfl
  | 3, _ => rfl
def rsK (new : Int → Int) (r : List Int) : List (Int × Int) := r.map fun x => (x % 4, new (x % 4))
def wsK (r : List Int) : List Int := r.map fun x => x % 4
def half (ts co : Int) (rs : List (Int × Int)) (ws : List Int) (r s : Sl) : Hm := ⟨⟨ts, co, true, rs, ws⟩, r, s⟩
def HalfP (wr : World) (T : Nat) (ts co : Int) (rs : List (Int × Int)) (ws : List Int) (wx : World) : Prop :=
  ∃ r s : Sl, Row wx T #[.int .u32 ts, .int .u32 co, .bool true, .slice r.a r.n r.c, .slice s.a s.n s.c] 39 ∧ Own1 wx T (half ts co rs ws r s) ∧ Below T wr wx
theorem HalfP.start {wr : World} (ts : Int) : HalfP wr wr.heap.size ts 0 [] [] (wr.alloc (.cells #[.int .u32 ts, .int .u32 0, .bool true, .slice none 0 0, .slice none 0 0] 39)) :=
  ⟨⟨none, 0, 0⟩, ⟨none, 0, 0⟩, Row.new _ _ _, ⟨⟨rfl, Or.inl ⟨rfl, rfl⟩⟩, ⟨rfl, Or.inl ⟨rfl, rfl⟩⟩⟩, (Below.refl _ _).alloc (Nat.le_refl _) _⟩
theorem half_read {wr wx : World} {T : Nat} {ts co : Int} {rs : List (Int × Int)} {ws : List Int} {r s : Sl} (hT : T ≤ wr.heap.size) (row : Row wx T #[.int .u32 ts, .int .u32 co, .bool true, .slice r.a r.n r.c, .slice s.a s.n s.c] 39) (own : Own1 wx T (half ts co rs ws r s)) (bel : Below T wr wx) (p t : Int) (hn : rs.length ≤ 1000) (ty : TypeId) :
    ∃ v' w', (Builtin.append_ #[36, 36] ty #[.slice r.a r.n r.c, .slice (some ⟨wx.heap.size, 0, none⟩) 1 1]).run Try.prog (wx.alloc (.cells #[.int .u16 p, .int .u32 t] 46)).drew = .ok v' w' ∧
      ∃ a n c, v' = .slice a n c ∧ Row w' T #[.int .u32 ts, .int .u32 co, .bool true, .slice r.a r.n r.c, .slice s.a s.n s.c] 39 ∧ Below T wr w' ∧ HalfP wr T ts co (rs ++ [(p, t)]) ws (w'.setCell ⟨T, 3, none⟩ (.slice a n c)) := by
  have hTx : T ≤ wx.heap.size := Nat.le_trans hT bel.size
  have b4 : Below wx.heap.size wx (wx.alloc (.cells #[.int .u16 p, .int .u32 t] 46)).drew := ((Below.refl _ _).alloc (Nat.le_refl _) _).drew
  have rZ : Row (wx.alloc (.cells #[.int .u16 p, .int .u32 t] 46)).drew wx.heap.size #[.int .u16 p, .int .u32 t] 46 := Row.new wx _ _
  have row4 := row.below b4 row.lt
  have own4 := own.keep b4
  have bel4 : Below T wr (wx.alloc (.cells #[.int .u16 p, .int .u32 t] 46)).drew := (bel.alloc hTx _).drew
  have hT4 : T ≤ (wx.alloc (.cells #[.int .u16 p, .int .u32 t] 46)).drew.heap.size := Nat.le_trans hTx b4.size
  generalize (wx.alloc (.cells #[.int .u16 p, .int .u32 t] 46)).drew = w4 at rZ row4 own4 bel4 hT4 ⊢
  have hrn : (half ts co rs ws r s).r.n = r.n := rfl
  obtain ⟨v', w', hr, hn', hg⟩ := own4.rs.snocP ty wx.heap.size (sO (p, t)) rZ hT4 (by simp [half]; omega)
  have Ou : Off (fun k => (Value.slice r.a r.n r.c).ownBlock = some k) w4 w' := Off.of_grown hg (fun k e => e)
  obtain ⟨a, c, hv⟩ := Sn.Own.form hn'
  have rT : Row w' T #[.int .u32 ts, .int .u32 co, .bool true, .slice r.a r.n r.c, .slice s.a s.n s.c] 39 := row4.off Ou (fun e => by
    obtain ⟨cs, hc⟩ := own4.rs.cellsOf _ e
    have := row4; unfold Row at this; rw [this] at hc; cases hc)
  have hge : ∀ k, (Value.slice r.a r.n r.c).ownBlock = some k → T ≤ k := fun k hk => (World.ownsRow.lt own4.rs k hk).1
  have b5 : Below T wr w' := below_offN bel4 Ou hge hT
  refine ⟨v', w', hr, a, _, c, hv, rT, b5, ?_⟩
  subst hv
  have o6 : Off (· = T) w' (w'.setCell ⟨T, 3, none⟩ (.slice a ((half ts co rs ws r s).p.rs.map sO ++ [sO (p, t)]).length c)) := Off.of_setCell _ _ _ rfl
  refine ⟨⟨a, ((half ts co rs ws r s).p.rs.map sO ++ [sO (p, t)]).length, c⟩, s, row_set rT 3 _, ⟨?_, ?_⟩, b5.setCell (p := ⟨T, 3, none⟩) (Nat.le_refl _) _⟩
  · have := hn'.off o6 (fun b hb e => by
      obtain ⟨cs, hc⟩ := hn'.cellsOf b hb
      have := rT; unfold Row at this; rw [e, this] at hc; cases hc)
    simpa [half] using this
  · have h1 := own4.ws.off Ou (fun b hb q => by
      obtain ⟨cs, hc⟩ := own4.ws.cellsOf b hb
      obtain ⟨cs', hc'⟩ := own4.rs.cellsOf b q
      rw [hc] at hc'; cases hc')
    exact h1.off o6 (fun b hb e => by
      obtain ⟨cs, hc⟩ := h1.cellsOf b hb
      have := rT; unfold Row at this; rw [e, this] at hc; cases hc)
theorem half_write {wr wx : World} {T : Nat} {ts co : Int} {rs : List (Int × Int)} {ws : List Int} {r s : Sl} (hT : T ≤ wr.heap.size) (row : Row wx T #[.int .u32 ts, .int .u32 co, .bool true, .slice r.a r.n r.c, .slice s.a s.n s.c] 39) (own : Own1 wx T (half ts co rs ws r s)) (bel : Below T wr wx) (p : Int) (hn : ws.length ≤ 1000) (ty : TypeId) :
    ∃ v' w', (Builtin.append_ #[37, 37] ty #[.slice s.a s.n s.c, .slice (some ⟨wx.heap.size, 0, none⟩) 1 1]).run Try.prog (wx.alloc (.cells #[.int .u16 p] 44)).drew = .ok v' w' ∧
      ∃ a n c, v' = .slice a n c ∧ Row w' T #[.int .u32 ts, .int .u32 co, .bool true, .slice r.a r.n r.c, .slice s.a s.n s.c] 39 ∧ Below T wr w' ∧ HalfP wr T ts co rs (ws ++ [p]) (w'.setCell ⟨T, 4, none⟩ (.slice a n c)) := by
  have hTx : T ≤ wx.heap.size := Nat.le_trans hT bel.size
  have b4 : Below wx.heap.size wx (wx.alloc (.cells #[.int .u16 p] 44)).drew := ((Below.refl _ _).alloc (Nat.le_refl _) _).drew
  have rZ : Row (wx.alloc (.cells #[.int .u16 p] 44)).drew wx.heap.size #[.int .u16 p] 44 := Row.new wx _ _
  have row4 := row.below b4 row.lt
  have own4 := own.keep b4
  have bel4 : Below T wr (wx.alloc (.cells #[.int .u16 p] 44)).drew := (bel.alloc hTx _).drew
  have hT4 : T ≤ (wx.alloc (.cells #[.int .u16 p] 44)).drew.heap.size := Nat.le_trans hTx b4.size
  generalize (wx.alloc (.cells #[.int .u16 p] 44)).drew = w4 at rZ row4 own4 bel4 hT4 ⊢
  obtain ⟨v', w', hr, hn', hg⟩ := own4.ws.snocP ty wx.heap.size (gO p) rZ hT4 (by simp [half]; omega)
  have Ou : Off (fun k => (Value.slice s.a s.n s.c).ownBlock = some k) w4 w' := Off.of_grown hg (fun k e => e)
  obtain ⟨a, c, hv⟩ := Pg.Own.form hn'
  have rT : Row w' T #[.int .u32 ts, .int .u32 co, .bool true, .slice r.a r.n r.c, .slice s.a s.n s.c] 39 := row4.off Ou (fun e => by
    obtain ⟨cs, hc⟩ := own4.ws.cellsOf _ e
    have := row4; unfold Row at this; rw [this] at hc; cases hc)
  have hge : ∀ k, (Value.slice s.a s.n s.c).ownBlock = some k → T ≤ k := fun k hk => (World.ownsRow.lt own4.ws k hk).1
  have b5 : Below T wr w' := below_offN bel4 Ou hge hT
  refine ⟨v', w', hr, a, _, c, hv, rT, b5, ?_⟩
  subst hv
  have o6 : Off (· = T) w' (w'.setCell ⟨T, 4, none⟩ (.slice a ((half ts co rs ws r s).p.ws.map gO ++ [gO p]).length c)) := Off.of_setCell _ _ _ rfl
  refine ⟨r, ⟨a, ((half ts co rs ws r s).p.ws.map gO ++ [gO p]).length, c⟩, row_set rT 4 _, ⟨?_, ?_⟩, b5.setCell (p := ⟨T, 4, none⟩) (Nat.le_refl _) _⟩
  · have h1 := own4.rs.off Ou (fun b hb q => by
      obtain ⟨cs, hc⟩ := own4.rs.cellsOf b hb
      obtain ⟨cs', hc'⟩ := own4.ws.cellsOf b q
      rw [hc] at hc'; cases hc')
    exact h1.off o6 (fun b hb e => by
      obtain ⟨cs, hc⟩ := h1.cellsOf b hb
      have := rT; unfold Row at this; rw [e, this] at hc; cases hc)
  · have := hn'.off o6 (fun b hb e => by
      obtain ⟨cs, hc⟩ := hn'.cellsOf b hb
      have := rT; unfold Row at this; rw [e, this] at hc; cases hc)
    simpa [half] using this
structure SerS (w0 : World) (N B : Nat) (v : Value) (al : List Hm) (new : Int → Int) (wx : World) : Prop where
  row : Row wx N (newA new) 42
  all : AllS wx B v al
  bel : Below w0.heap.size w0 wx
theorem SerS.below {w0 wx w' : World} {N B : Nat} {v : Value} {al : List Hm} {new : Int → Int} (h : SerS w0 N B v al new wx) (hb : Below wx.heap.size wx w') : SerS w0 N B v al new w' :=
  ⟨h.row.below hb h.row.lt, h.all.below hb, below_trans h.bel hb⟩
theorem SerS.put {w0 wx : World} {N B : Nat} {v : Value} {al : List Hm} {new new' : Int → Int} (h : SerS w0 N B v al new wx) (hN : N < B) (h0 : w0.heap.size ≤ N) (q : Nat) (hq : q < 4) (x : Int) (e : newA (fun p => if p = (q : Int) then x else new p) = newA new') : SerS w0 N B v al new' (wx.setCell ⟨N, q, none⟩ (.int .u32 x)) := by
  have o : Off (· = N) wx (wx.setCell ⟨N, q, none⟩ (.int .u32 x)) := Off.of_setCell _ _ _ rfl
  have hlow : ∀ k, B ≤ k → k < wx.heap.size → ¬ k = N := fun k hk _ q => by omega
  refine ⟨?_, ⟨h.all.own.off o (fun b hb => hlow b (World.ownsRow.lt h.all.own b hb).1 (World.ownsRow.lt h.all.own b hb).2), fun z hz => (h.all.each z hz).off o hlow, h.all.fit⟩, below_off h.bel o (fun k hk => by omega)⟩
  have := row_set h.row q (.int .u32 x)
  rw [newA_set new q hq, e] at this
  exact this
theorem half_commit {wr wx : World} {T : Nat} {ts co : Int} {rs : List (Int × Int)} {ws : List Int} {r s : Sl} (hT : T ≤ wr.heap.size) (row : Row wx T #[.int .u32 ts, .int .u32 co, .bool true, .slice r.a r.n r.c, .slice s.a s.n s.c] 39) (own : Own1 wx T (half ts co rs ws r s)) (bel : Below T wr wx) (c : Int) :
    Row (wx.setCell ⟨T, 1, none⟩ (.int .u32 c)) T #[.int .u32 ts, .int .u32 c, .bool true, .slice r.a r.n r.c, .slice s.a s.n s.c] 39 ∧ Own1 (wx.setCell ⟨T, 1, none⟩ (.int .u32 c)) T (half ts c rs ws r s) ∧ Below T wr (wx.setCell ⟨T, 1, none⟩ (.int .u32 c)) := by
  have o6 : Off (· = T) wx (wx.setCell ⟨T, 1, none⟩ (.int .u32 c)) := Off.of_setCell _ _ _ rfl
  exact ⟨row_set row 1 _, ⟨own.rs.off o6 (fun b hb e => by
      obtain ⟨cs, hc⟩ := own.rs.cellsOf b hb
      have := row; unfold Row at this; rw [e, this] at hc; cases hc), own.ws.off o6 (fun b hb e => by
      obtain ⟨cs, hc⟩ := own.ws.cellsOf b hb
      have := row; unfold Row at this; rw [e, this] at hc; cases hc)⟩, bel.setCell (p := ⟨T, 1, none⟩) (Nat.le_refl _) _⟩
def newJ (new : Int → Int) (c : Int) (ws : List Int) (j : Nat) : Int → Int := fun p => if p ∈ ws.take j then c else new p
theorem newJ_zero (new : Int → Int) (c : Int) (ws : List Int) : newJ new c ws 0 = new := by
  funext p; simp [newJ]
theorem newJ_succ {new : Int → Int} {c : Int} {ws : List Int} {j : Nat} {x : Int} (h : ws[j]? = some x) : (fun p => if p = x then c else newJ new c ws j p) = newJ new c ws (j + 1) := by
  obtain ⟨q1, q2⟩ := List.getElem?_eq_some_iff.1 h
  funext p
  unfold newJ
  rw [List.take_succ_eq_append_getElem q1, q2]
  by_cases e : p = x
  · simp [e]
  · by_cases e2 : p ∈ ws.take j
    · rw [if_neg e, if_pos e2, if_pos (List.mem_append_left _ e2)]
    · rw [if_neg e, if_neg e2, if_neg (fun q => by rcases List.mem_append.1 q with q | q; exact e2 q; simp at q; exact e q)]
theorem newJ_all (new : Int → Int) (c : Int) (ws : List Int) (p : Int) : newJ new c ws ws.length p = if p ∈ ws then c else new p := by
  simp [newJ]
theorem own_page {w : World} {B : Nat} {s : Sl} {ws : List Int} (h : Pg.Own w B (.slice s.a s.n s.c) (ws.map gO)) : s.n = ws.length ∧ ∀ (j : Nat) x, ws[j]? = some x → ∃ b, s.a = some b ∧ w.cell? (b.add j) = some (.int .u16 x) := by
  obtain ⟨oa, cap, e, hc⟩ := Pg.Olds.hold h.olds
  injection e with e1 e2 e3
  refine ⟨by simpa using e2, fun j x hx => ?_⟩
  obtain ⟨a, x0, ha, ho, hcell⟩ := hc j (by rw [List.length_map]; exact (List.getElem?_eq_some_iff.1 hx).1)
  rw [List.getElem?_map, hx] at ho
  have e0 : x = x0 := by
    have := Option.some.inj ho
    exact congrArg Pg.O.x this
  subst e0
  have := hcell 0 _ (rfl : ([.int .u16 x] : List Value)[0]? = some _)
  rw [Pg.add_add, Nat.mul_one, Nat.add_zero] at this
  exact ⟨a, by rw [e1, ha], this⟩
theorem wp_seen {o : Oper} {a : Act} {w : World} {K : Act → World → Prop} {Q : Exit → Act → World → Prop} (x : Operand) (ho : o.op = .buildSlice 36 1 #[(0, x)]) (p t : Int) (hx : a.eval x = .agg #[.int .u16 p, .int .u32 t])
    (h : K (a.put o.dst (.slice (some ⟨w.heap.size, 0, none⟩) 1 1)) (w.alloc (.cells #[.int .u16 p, .int .u32 t] 46))) : Oper.wp Try.prog o a w K Q := by
  obtain ⟨i, hi, hz, hs, _⟩ := Sn.info_parts Sn.info46
  refine wp_buildSlice 36 46 1 _ ho #[.int .u16 p, .int .u32 t] i _ Try.underlying36 hi hz (by rw [hs]; decide) (by rw [hs]; decide) ?_ h
  have e1 : (#[(0, x)].map fun (i, x) => (i, a.eval x)).toList = [(0, .agg #[.int .u16 p, .int .u32 t])] := by simp [hx]
  rw [e1, fill_step _ _ 0 (.agg #[.int .u16 p, .int .u32 t]) _ 0 2 (by simp [hs]) (by rfl) (by simp [hs])]
  unfold Instr.fill
  congr 1
  show (⟨splice _ 0 [Value.int .u16 p, .int .u32 t]⟩ : Array Value) = #[.int .u16 p, .int .u32 t]
  unfold splice
  simp [hs]
theorem built39s (s : Int) : Try.prog.built 39 [(0, .int .u32 s), (2, .bool true)] = some #[.int .u32 s, .int .u32 0, .bool true, .slice none 0 0, .slice none 0 0] := by kernel_rfl
theorem zero42 (w : World) : (zeroValue 42).run Try.prog w = .ok (.agg (newA fun _ => 0)) w := by kernel_rfl
theorem rsK_succ {new : Int → Int} {r : List Int} {k : Nat} {x : Int} (h : r[k]? = some x) : rsK new (r.take (k + 1)) = rsK new (r.take k) ++ [(x % 4, new (x % 4))] := by
  obtain ⟨q1, q2⟩ := List.getElem?_eq_some_iff.1 h
  rw [List.take_succ_eq_append_getElem q1, q2]
  simp [rsK]
theorem wsK_succ {r : List Int} {k : Nat} {x : Int} (h : r[k]? = some x) : wsK (r.take (k + 1)) = wsK (r.take k) ++ [x % 4] := by
  obtain ⟨q1, q2⟩ := List.getElem?_eq_some_iff.1 h
  rw [List.take_succ_eq_append_getElem q1, q2]
  simp [wsK]
theorem take_min {α : Type} (r : List α) (k : Nat) (h : k = min 6 r.length) : r.take k = r.take 6 := by
  by_cases q : r.length ≤ 6
  · rw [List.take_of_length_le (by omega), List.take_of_length_le (by omega)]
  · rw [show k = 6 by omega]
end Go.Proofs.Ytdlllnkcjfpajaa
