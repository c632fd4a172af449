/-
  Plain facts: transactions one behind the other, each of which reads what was committed last, show nothing. Plain facts: rows of bytes that came in as an argument. What is wanted to make transactions one behind the other: one under way, in rows of its own. Proved here: the document's Writes, end, wrote. What was told, in memory; what came in as an argument. Proved here: the document's committed; what depends, what is ahead. Proved here: has, contains, counts. A transaction that is being gathered, in rows of its own.
-/
import Derived.Test.YtdlllnkcjfpajaaJq16
import Derived.Test.YtdlllnkcjfpajaaJq00
namespace Go.Proofs.Ytdlllnkcjfpajaa
open Go.ChangeShapes Go.WideShapes Go.ChangeAt Go.RowKit
set_option linter.unusedVariables false
set_option linter.unusedSimpArgs false
set_option maxRecDepth 20000
theorem wr_app {hs : List Hm} {h : Hm} {j : Nat} {v : Int × Int} : WrI (hs ++ [h]) j v ↔ WrI hs j v ∨ (j = hs.length ∧ v.1 ∈ h.p.ws ∧ v.2 = h.p.co) := by
  constructor
  · rintro ⟨x, h1, h2, h3⟩
    by_cases q : j < hs.length
    · rw [List.getElem?_append_left q] at h1
      exact Or.inl ⟨x, h1, h2, h3⟩
    · rw [List.getElem?_append_right (by omega)] at h1
      have hj : j - hs.length = 0 := by
        have := (List.getElem?_eq_some_iff.1 h1).1
        simp at this; omega
      rw [hj] at h1
      simp at h1; subst h1
      exact Or.inr ⟨by omega, h2, h3⟩
  · rintro (⟨x, h1, h2, h3⟩ | ⟨rfl, h2, h3⟩)
    · exact ⟨x, by rw [List.getElem?_append_left (List.getElem?_eq_some_iff.1 h1).1]; exact h1, h2, h3⟩
    · exact ⟨h, by simp, h2, h3⟩
theorem get_app {α : Type} {l : List α} {a x : α} {i : Nat} (h : (l ++ [a])[i]? = some x) : (i < l.length ∧ l[i]? = some x) ∨ (i = l.length ∧ x = a) := by
  by_cases q : i < l.length
  · rw [List.getElem?_append_left q] at h; exact Or.inl ⟨q, h⟩
  · rw [List.getElem?_append_right (by omega)] at h
    have hj : i - l.length = 0 := by
      have := (List.getElem?_eq_some_iff.1 h).1
      simp at this; omega
    rw [hj] at h
    simp at h
    exact Or.inr ⟨by omega, h.symm⟩
structure SerI (hs : List Hm) (new : Int → Int) (ts : Int) : Prop where
  dn : ∀ h ∈ hs, h.p.dn = true
  st : ∀ h ∈ hs, 0 ≤ h.p.st ∧ h.p.en ≤ ts
  cm : ∀ h ∈ hs, h.p.ws ≠ [] → h.p.co = h.p.st + 1
  up : ∀ (i j : Nat) (x y : Hm), i < j → hs[i]? = some x → hs[j]? = some y → x.p.en ≤ y.p.st
  vis : ∀ j v, WrI hs j v → v.2 ≤ new v.1
  old : ∀ p, new p ≠ 0 → ∃ j, WrI hs j (p, new p)
  rd : ∀ (i : Nat) (x : Hm) v, hs[i]? = some x → v ∈ x.p.rs → (v.2 = 0 ∨ ∃ j, j < i ∧ WrI hs j v) ∧ ∀ j t, j < i → WrI hs j (v.1, t) → t ≤ v.2
  ts0 : 0 ≤ ts
theorem SerI.start : SerI [] (fun _ => 0) 0 where
  dn h q := by simp at q
  st h q := by simp at q
  cm h q := by simp at q
  up i j x y _ q := by simp at q
  vis j v := fun ⟨x, q, _⟩ => by simp at q
  old p q := absurd rfl q
  rd i x v q := by simp at q
  ts0 := Int.le_refl _
theorem Pt.en_w {p : Pt} (hd : p.dn = true) (hw : p.ws ≠ []) : p.en = p.co := by
  have : 0 < p.ws.length := List.length_pos_iff.2 hw
  simp [Pt.en, Pt.com, hd, this]
theorem Pt.en_r {p : Pt} (hw : p.ws = []) : p.en = p.st := by
  simp [Pt.en, Pt.com, hw]
theorem SerI.ste {hs : List Hm} {new : Int → Int} {ts : Int} (h : SerI hs new ts) {x : Hm} (hx : x ∈ hs) : x.p.st ≤ x.p.en := by
  by_cases q : x.p.ws = []
  · rw [Pt.en_r q]; exact Int.le_refl _
  · rw [Pt.en_w (h.dn x hx) q, h.cm x hx q]; omega
theorem SerI.wr {hs : List Hm} {new : Int → Int} {ts : Int} (h : SerI hs new ts) {j : Nat} {v : Int × Int} (hw : WrI hs j v) : ∃ x, x ∈ hs ∧ hs[j]? = some x ∧ x.p.en = v.2 ∧ v.2 = x.p.st + 1 ∧ 0 ≤ x.p.st ∧ v.2 ≤ ts := by
  obtain ⟨x, h1, h2, h3⟩ := hw
  have hm := List.mem_of_getElem? h1
  have hne : x.p.ws ≠ [] := List.ne_nil_of_mem h2
  have e := Pt.en_w (h.dn x hm) hne
  have c := h.cm x hm hne
  have := h.st x hm
  exact ⟨x, hm, h1, by omega, by omega, this.1, by omega⟩
theorem SerI.snoc {hs : List Hm} {new : Int → Int} {ts : Int} (h : SerI hs new ts) (a : Hm) (hd : a.p.dn = true) (hs0 : a.p.st = ts) (hr : ∀ v ∈ a.p.rs, v.2 = new v.1) (hc : a.p.ws ≠ [] → a.p.co = ts + 1) {new' : Int → Int} (hn : ∀ p, new' p = if p ∈ a.p.ws then ts + 1 else new p) {ts' : Int} (ht : ts' = if a.p.ws = [] then ts else ts + 1) :
    SerI (hs ++ [a]) new' ts' := by
  have h0 := h.ts0
  have htt : ts ≤ ts' := by rw [ht]; split <;> omega
  have hen : a.p.en = ts' := by
    by_cases q : a.p.ws = []
    · rw [Pt.en_r q, ht, if_pos q, hs0]
    · rw [Pt.en_w hd q, ht, if_neg q, hc q]
  constructor
  · intro x hx
    rcases List.mem_append.1 hx with hx | hx
    · exact h.dn x hx
    · simp at hx; subst hx; exact hd
  · intro x hx
    rcases List.mem_append.1 hx with hx | hx
    · have := h.st x hx; omega
    · simp at hx; subst hx; omega
  · intro x hx q
    rcases List.mem_append.1 hx with hx | hx
    · exact h.cm x hx q
    · simp at hx; subst hx; rw [hc q, hs0]
  · intro i j x y hij hx hy
    rcases get_app hy with ⟨hj, hy⟩ | ⟨hj, rfl⟩
    · rcases get_app hx with ⟨hi, hx⟩ | ⟨hi, rfl⟩
      · exact h.up i j x y hij hx hy
      · omega
    · rcases get_app hx with ⟨hi, hx⟩ | ⟨hi, rfl⟩
      · rw [hs0]; exact (h.st x (List.mem_of_getElem? hx)).2
      · omega
  · intro j v q
    rw [hn]
    rcases wr_app.1 q with q | ⟨rfl, q1, q2⟩
    · obtain ⟨_, _, _, _, _, _, h3⟩ := h.wr q
      have := h.vis j v q
      split <;> omega
    · rw [if_pos q1, q2, hc (List.ne_nil_of_mem q1)]; exact Int.le_refl _
  · intro p q
    rw [hn] at q ⊢
    by_cases q1 : p ∈ a.p.ws
    · rw [if_pos q1]
      exact ⟨hs.length, wr_app.2 (Or.inr ⟨rfl, q1, (hc (List.ne_nil_of_mem q1)).symm⟩)⟩
    · rw [if_neg q1] at q ⊢
      obtain ⟨j, hj⟩ := h.old p q
      exact ⟨j, wr_app.2 (Or.inl hj)⟩
  · intro i x v hx hv
    rcases get_app hx with ⟨hi, hx⟩ | ⟨hi, rfl⟩
    · obtain ⟨h1, h2⟩ := h.rd i x v hx hv
      refine ⟨h1.imp id fun ⟨j, q1, q2⟩ => ⟨j, q1, wr_app.2 (Or.inl q2)⟩, fun j t hj q => ?_⟩
      rcases wr_app.1 q with q | ⟨rfl, _⟩
      · exact h2 j t hj q
      · omega
    · have e := hr v hv
      refine ⟨?_, fun j t hj q => ?_⟩
      · by_cases q : v.2 = 0
        · exact Or.inl q
        · right
          obtain ⟨j, hj⟩ := h.old v.1 (by rw [← e]; exact q)
          rw [← e] at hj
          refine ⟨j, ?_, wr_app.2 (Or.inl hj)⟩
          obtain ⟨x', q1, _⟩ := hj
          have := (List.getElem?_eq_some_iff.1 q1).1
          omega
      · rcases wr_app.1 q with q | ⟨rfl, _⟩
        · rw [e]; exact h.vis j _ q
        · omega
  · omega
section
variable {hs : List Hm} {new : Int → Int} {ts : Int} (h : SerI hs new ts)
include h
theorem SerI.order {i j : Nat} {v u : Int × Int} (hi : WrI hs i v) (hj : WrI hs j u) (hlt : v.2 < u.2) : i < j := by
  obtain ⟨x, mx, ex, nx, sx, _⟩ := h.wr hi
  obtain ⟨y, my, ey, ny, sy, _⟩ := h.wr hj
  rcases Nat.lt_trichotomy i j with q | q | q
  · exact q
  · subst q; rw [ex] at ey; injection ey with e; subst e; omega
  · have := h.up j i y x q ey ex; omega
theorem SerI.uni : Uni hs := fun i j v hi hj => by
  obtain ⟨x, mx, ex, nx, sx, _⟩ := h.wr hi
  obtain ⟨y, my, ey, ny, sy, _⟩ := h.wr hj
  rcases Nat.lt_trichotomy i j with q | q | q
  · have := h.up i j x y q ex ey; omega
  · exact q
  · have := h.up j i y x q ey ex; omega
theorem SerI.dep {i j : Nat} (hd : DepI hs ((i : Int), (j : Int))) : i < j := by
  rcases hd with ⟨v, a, b, h1, h2, h3, e⟩ | ⟨a, x, v, h1, h2, ⟨b, h3, h4, e⟩⟩
  · have e1 := congrArg Prod.fst e; have e2 := congrArg Prod.snd e; simp at e1 e2
    obtain rfl : i = a := by omega
    obtain rfl : j = b := by omega
    obtain ⟨t, q1, q2, _⟩ := h2
    exact h.order h1 q1 q2
  · have e1 := congrArg Prod.fst e; have e2 := congrArg Prod.snd e; simp at e1 e2
    obtain rfl : i = b := by omega
    obtain rfl : j = a := by omega
    obtain ⟨_, _, _, _, q1, q2, _⟩ := h.wr h3
    rcases (h.rd j x v h1 h2).1 with q | ⟨k, hk, hw⟩
    · omega
    · rw [h.uni _ _ _ h3 hw]; exact hk
theorem SerI.edge {i j : Nat} (hd : Edge hs i j) : ∃ x y, hs[i]? = some x ∧ hs[j]? = some y ∧ x.p.en ≤ y.p.st := by
  rcases hd with hd | q
  · have hl := h.dep hd
    have hlt := (Edge.lt (Or.inl hd : Edge hs i j)).2
    refine ⟨_, _, List.getElem?_eq_getElem (by omega), List.getElem?_eq_getElem hlt, ?_⟩
    exact h.up i j _ _ hl (List.getElem?_eq_getElem (by omega)) (List.getElem?_eq_getElem hlt)
  · exact q
theorem SerI.come {i j : Nat} (hc : Come (Edge hs) i j) : i = j ∨ ∃ x y, hs[i]? = some x ∧ hs[j]? = some y ∧ x.p.en ≤ y.p.st := by
  induction hc with
  | here => exact Or.inl rfl
  | step _ r ih =>
    obtain ⟨x, y, h1, h2, h3⟩ := h.edge r
    rcases ih with rfl | ⟨x', y', q1, q2, q3⟩
    · exact Or.inr ⟨x, y, h1, h2, h3⟩
    · rw [h1] at q2; injection q2 with e; subst e
      have := h.ste (List.mem_of_getElem? h1)
      exact Or.inr ⟨x', y, q1, h2, by omega⟩
theorem SerI.noab : ¬ AbI hs := fun ⟨i, x, v, h1, h2, h3, h4⟩ => by
  rcases (h.rd i x v h1 h2).1 with q | ⟨j, _, q⟩
  · exact h3 q
  · exact h4 j q
theorem SerI.nocir : ¬ CirI hs := fun ⟨x, hx⟩ => no_circle (fun i : Nat => i) (fun a b q => h.dep q) x hx
theorem SerI.noint : ¬ InI hs := fun ⟨_, h1, i, j, x, y, e, h2, h3, h4⟩ => by
  subst e
  have := h.up i j x y (h.dep h1) h2 h3
  omega
theorem SerI.nomis : ¬ MisI hs := fun ⟨i, j, h1, h2⟩ => by
  obtain ⟨a, x, v, q1, q2, q3, b, q4, q5, e⟩ := h1
  have e1 := congrArg Prod.fst e; have e2 := congrArg Prod.snd e; simp at e1 e2
  obtain rfl : i = b := by omega
  obtain rfl : j = a := by omega
  obtain ⟨t, w1, w2, _⟩ := q4
  have hji : j < i := by
    rcases Nat.lt_trichotomy i j with q | q | q
    · have := (h.rd j x v q1 q2).2 i t q w1; omega
    · exact absurd q q5
    · exact q
  obtain ⟨y, my, ey, ny, sy, _⟩ := h.wr w1
  have hst := h.up j i x y hji q1 ey
  have hx := h.ste (List.mem_of_getElem? q1)
  rcases h.come h2 with q | ⟨y', x', r1, r2, r3⟩
  · omega
  · rw [ey] at r1; injection r1 with e; subst e
    rw [q1] at r2; injection r2 with e; subst e
    simp at ny sy
    omega
theorem SerI.shown : ShownH hs 0 := ⟨hs, false, false, false, false, by rw [List.filter_eq_self.2 h.dn], h.uni, rfl, ⟨(fun q => by cases q), fun q => absurd q h.noab⟩, ⟨(fun q => by cases q), fun q => absurd q h.nocir⟩, ⟨(fun q => by cases q), fun q => absurd q h.noint⟩, ⟨(fun q => by cases q), fun q => absurd q h.nomis⟩⟩
theorem SerI.zero {x : Int} (hx : ShownH hs x) : x = 0 := hx.det h.shown (List.Perm.refl _)
end
end Go.Proofs.Ytdlllnkcjfpajaa
namespace Go.Proofs.Ytdlllnkcjfpajaa
open Go.Deep Go.ChangeShapes Go.WideShapes Go.ChangeAt Go.RowKit
set_option linter.unusedVariables false
set_option linter.unusedSimpArgs false
set_option maxRecDepth 20000
theorem cells5 : Try.prog.cellsOf 5 = 1 := by kernel_rfl
instance : Inhabited (Sl × List Int) := ⟨(⟨none, 0, 0⟩, [])⟩
section
variable {H : Type} {enc : TypeId × Value → H}
structure B8 (w : World) (v : Value) (rs : List (List Int)) : Prop where
  hold : ∃ oa cap, v = .slice oa rs.length cap ∧ ∀ (i : Nat) r, rs[i]? = some r → ∃ a o c, oa = some a ∧ w.cell? (a.add i) = some (.slice o r.length c) ∧ ∀ (j : Nat) x, r[j]? = some x → ∃ b, o = some b ∧ w.cell? (b.add j) = some (.int .u8 x) ∧ 0 ≤ x ∧ x ≤ 255
  few : rs.length ≤ 140737488355328
  lens : ∀ r ∈ rs, r.length ≤ 140737488355328
end
theorem B8.keep {w w' : World} {v : Value} {rs : List (List Int)} (h : B8 w v rs) (hb : Below w.heap.size w w') : B8 w' v rs := by
  obtain ⟨⟨oa, cap, e, h1⟩, h2, h3⟩ := h
  refine ⟨⟨oa, cap, e, fun i r hr => ?_⟩, h2, h3⟩
  obtain ⟨a, o, c, q1, q2, q3⟩ := h1 i r hr
  refine ⟨a, o, c, q1, cell_keep q2 hb, fun j x hx => ?_⟩
  obtain ⟨b, k1, k2, k3⟩ := q3 j x hx
  exact ⟨b, k1, cell_keep k2 hb, k3⟩
end Go.Proofs.Ytdlllnkcjfpajaa
namespace Go.Proofs.Ytdlllnkcjfpajaa
open Go.ChangeShapes Go.WideShapes Go.ChangeAt Go.RowKit
set_option linter.unusedVariables false
set_option linter.unusedSimpArgs false
set_option maxRecDepth 20000
def newA (new : Int → Int) : Array Value := #[.int .u32 (new 0), .int .u32 (new 1), .int .u32 (new 2), .int .u32 (new 3)]
theorem newA_set (new : Int → Int) (q : Nat) (hq : q < 4) (x : Int) : (newA new).setIfInBounds q (.int .u32 x) = newA (fun p => if p = (q : Int) then x else new p) := by
  match q, hq with
  | 0, _ => rfl
  | 1, _ => rfl
  | 2, _ => rfl
  | 3, _ => rfl
def half (ts co : Int) (rs : List (Int × Int)) (ws : List Int) (r s : Sl) : Hm := ⟨⟨ts, co, true, rs, ws⟩, r, s⟩
def HalfP (wr : World) (T : Nat) (ts co : Int) (rs : List (Int × Int)) (ws : List Int) (wx : World) : Prop :=
  ∃ r s : Sl, Row wx T #[.int .u32 ts, .int .u32 co, .bool true, .slice r.a r.n r.c, .slice s.a s.n s.c] 39 ∧ Own1 wx T (half ts co rs ws r s) ∧ Below T wr wx
theorem HalfP.start {wr : World} (ts : Int) : HalfP wr wr.heap.size ts 0 [] [] (wr.alloc (.cells #[.int .u32 ts, .int .u32 0, .bool true, .slice none 0 0, .slice none 0 0] 39)) :=
  ⟨⟨none, 0, 0⟩, ⟨none, 0, 0⟩, Row.new _ _ _, ⟨⟨rfl, Or.inl ⟨rfl, rfl⟩⟩, ⟨rfl, Or.inl ⟨rfl, rfl⟩⟩⟩, (Below.refl _ _).alloc (Nat.le_refl _) _⟩
structure SerS (w0 : World) (N B : Nat) (v : Value) (al : List Hm) (new : Int → Int) (wx : World) : Prop where
  row : Row wx N (newA new) 42
  all : AllS wx B v al
  bel : Below w0.heap.size w0 wx
theorem SerS.below {w0 wx w' : World} {N B : Nat} {v : Value} {al : List Hm} {new : Int → Int} (h : SerS w0 N B v al new wx) (hb : Below wx.heap.size wx w') : SerS w0 N B v al new w' :=
  ⟨h.row.below hb h.row.lt, h.all.below hb, below_trans h.bel hb⟩
theorem SerS.put {w0 wx : World} {N B : Nat} {v : Value} {al : List Hm} {new new' : Int → Int} (h : SerS w0 N B v al new wx) (hN : N < B) (h0 : w0.heap.size ≤ N) (q : Nat) (hq : q < 4) (x : Int) (e : newA (fun p => if p = (q : Int) then x else new p) = newA new') : SerS w0 N B v al new' (wx.setCell ⟨N, q, none⟩ (.int .u32 x)) := by
  have o : Off (· = N) wx (wx.setCell ⟨N, q, none⟩ (.int .u32 x)) := Off.of_setCell _ _ _ rfl
  have hlow : ∀ k, B ≤ k → k < wx.heap.size → ¬ k = N := fun k hk _ q => by omega
  refine ⟨?_, ⟨h.all.own.off o (fun b hb => hlow b (World.ownsRow.lt h.all.own b hb).1 (World.ownsRow.lt h.all.own b hb).2), fun z hz => (h.all.each z hz).off o hlow, h.all.fit⟩, below_off h.bel o (fun k hk => by omega)⟩
  have := row_set h.row q (.int .u32 x)
  rw [newA_set new q hq, e] at this
  exact this
theorem own_page {w : World} {B : Nat} {s : Sl} {ws : List Int} (h : Pg.Own w B (.slice s.a s.n s.c) (ws.map gO)) : s.n = ws.length ∧ ∀ (j : Nat) x, ws[j]? = some x → ∃ b, s.a = some b ∧ w.cell? (b.add j) = some (.int .u16 x) := by
  obtain ⟨oa, cap, e, hc⟩ := Pg.Olds.hold h.olds
  injection e with e1 e2 e3
  refine ⟨by simpa using e2, fun j x hx => ?_⟩
  obtain ⟨a, x0, ha, ho, hcell⟩ := hc j (by rw [List.length_map]; exact (List.getElem?_eq_some_iff.1 hx).1)
  rw [List.getElem?_map, hx] at ho
  have e0 : x = x0 := by
    have := Option.some.inj ho
    exact congrArg Pg.O.x this
  subst e0
  have := hcell 0 _ (rfl : ([.int .u16 x] : List Value)[0]? = some _)
  rw [Pg.add_add, Nat.mul_one, Nat.add_zero] at this
  exact ⟨a, by rw [e1, ha], this⟩
theorem wp_seen {o : Oper} {a : Act} {w : World} {K : Act → World → Prop} {Q : Exit → Act → World → Prop} (x : Operand) (ho : o.op = .buildSlice 36 1 #[(0, x)]) (p t : Int) (hx : a.eval x = .agg #[.int .u16 p, .int .u32 t])
    (h : K (a.put o.dst (.slice (some ⟨w.heap.size, 0, none⟩) 1 1)) (w.alloc (.cells #[.int .u16 p, .int .u32 t] 46))) : Oper.wp Try.prog o a w K Q := by
  obtain ⟨i, hi, hz, hs, _⟩ := Sn.info_parts Sn.info46
  refine wp_buildSlice 36 46 1 _ ho #[.int .u16 p, .int .u32 t] i _ Try.underlying36 hi hz (by rw [hs]; decide) (by rw [hs]; decide) ?_ h
  have e1 : (#[(0, x)].map fun (i, x) => (i, a.eval x)).toList = [(0, .agg #[.int .u16 p, .int .u32 t])] := by simp [hx]
  rw [e1, fill_step _ _ 0 (.agg #[.int .u16 p, .int .u32 t]) _ 0 2 (by simp [hs]) (by rfl) (by simp [hs])]
  unfold Instr.fill
  congr 1
  show (⟨splice _ 0 [Value.int .u16 p, .int .u32 t]⟩ : Array Value) = #[.int .u16 p, .int .u32 t]
  unfold splice
  simp [hs]
theorem old_page {w : World} {s : Sl} {ws : List Int} (h : Pg.Olds w (.slice s.a s.n s.c) (ws.map gO)) : s.n = ws.length ∧ ∀ (j : Nat) x, ws[j]? = some x → ∃ b, s.a = some b ∧ w.cell? (b.add j) = some (.int .u16 x) := by
  obtain ⟨oa, cap, e, hc⟩ := Pg.Olds.hold h
  injection e with e1 e2 e3
  refine ⟨by simpa using e2, fun j x hx => ?_⟩
  obtain ⟨a, x0, ha, ho, hcell⟩ := hc j (by rw [List.length_map]; exact (List.getElem?_eq_some_iff.1 hx).1)
  rw [List.getElem?_map, hx] at ho
  have e0 : x = x0 := by
    have := Option.some.inj ho
    exact congrArg Pg.O.x this
  subst e0
  have := hcell 0 _ (rfl : ([.int .u16 x] : List Value)[0]? = some _)
  rw [Pg.add_add, Nat.mul_one, Nat.add_zero] at this
  exact ⟨a, by rw [e1, ha], this⟩
theorem old_seen {w : World} {s : Sl} {rs : List (Int × Int)} (h : Sn.Olds w (.slice s.a s.n s.c) (rs.map sO)) : s.n = rs.length ∧ ∀ (j : Nat) v, rs[j]? = some v → ∃ b, s.a = some b ∧ ∀ q u, ([.int .u16 v.1, .int .u32 v.2] : List Value)[q]? = some u → w.cell? ((b.add (j * 2)).add q) = some u := by
  obtain ⟨oa, cap, e, hc⟩ := Sn.Olds.hold h
  injection e with e1 e2 e3
  refine ⟨by simpa using e2, fun j v hx => ?_⟩
  obtain ⟨a, x0, x1, ha, ho, hcell⟩ := hc j (by rw [List.length_map]; exact (List.getElem?_eq_some_iff.1 hx).1)
  rw [List.getElem?_map, hx] at ho
  have e0 : v = (x0, x1) := by
    have := Option.some.inj ho
    exact Prod.ext (congrArg Sn.O.page this) (congrArg Sn.O.ts this)
  subst e0
  exact ⟨a, by rw [e1, ha], hcell⟩
theorem Says.yes {w w' : World} {P : Prop} (h : P) (hb : Below w.heap.size w w') : Says w P (.returned (.bool true)) w' := ⟨true, rfl, ⟨fun _ => h, fun _ => rfl⟩, hb⟩
theorem Says.no {w w' : World} {P : Prop} (h : ¬ P) (hb : Below w.heap.size w w') : Says w P (.returned (.bool false)) w' := ⟨false, rfl, ⟨(fun q => by cases q), fun q => absurd q h⟩, hb⟩
end Go.Proofs.Ytdlllnkcjfpajaa
namespace Go.Proofs.Ytdlllnkcjfpajaa
open Go.Deep Go.ChangeShapes Go.WideShapes Go.ChangeAt Go.RowKit
set_option linter.unusedVariables false
set_option linter.unusedSimpArgs false
set_option maxRecDepth 20000
def Tl.cs (t : Tl) : List Value := (t.l ++ List.replicate 77 (Value.int .u8 0)).take 77
theorem Tl.cs_len (t : Tl) : t.cs.length = 77 := by simp [Tl.cs]
structure Tl.Ok (t : Tl) : Prop where
  c1 : t.cs[1]? = some (.int .u8 t.kind)
  c2 : t.cs[2]? = some (.int .u64 t.txn)
  c3 : t.cs[3]? = some (.int .u16 t.page)
  c4 : ∃ n, t.cs[4]? = some (.int .i64 n)
  c5 : ∃ s, t.cs[5]? = some (.string s)
  c6 : t.cs[6]? = some (.int .i64 t.life)
  c9 : t.cs[9]? = some (.bool t.op)
  c10 : t.cs[10]? = some (.int .i64 t.err)
  c11 : t.cs[11]? = some (.int .u64 t.rtxn)
  c12 : t.cs[12]? = some (.int .u32 t.rts)
  one : ∀ u ∈ t.cs, u.oneCell' = true
  wtxn : (Lit.int .u64 t.txn).wf = true
  wrtxn : (Lit.int .u64 t.rtxn).wf = true
  wlife : (Lit.int .i64 t.life).wf = true
  wpage : 0 ≤ t.page ∧ t.page ≤ 65535
  wrts : 0 ≤ t.rts ∧ t.rts ≤ 4294967295
instance : Inhabited Tl := ⟨⟨0, 0, 0, 0, false, 0, 0, 0, []⟩⟩
theorem cells60 : Try.prog.cellsOf 60 = 77 := by kernel_rfl
theorem bytes60 : Try.prog.bytesOf 60 = 176 := by kernel_rfl
theorem cells58 : Try.prog.cellsOf 58 = 5 := by kernel_rfl
theorem cells55 : Try.prog.cellsOf 55 = 67 := by kernel_rfl
theorem cells53 : Try.prog.cellsOf 53 = 64 := by kernel_rfl
theorem cells51 : Try.prog.cellsOf 51 = 1 := by kernel_rfl
theorem cells24 : Try.prog.cellsOf 24 = 1 := by kernel_rfl
theorem cells9 : Try.prog.cellsOf 9 = 1 := by kernel_rfl
theorem take_one {l : List Value} {o : Nat} {v : Value} (h : (l.drop o).take 1 = [v]) : l[o]? = some v := by
  have := congrArg (fun x => x[0]?) h
  simpa [List.getElem?_take, List.getElem?_drop] using this
section
variable {H : Type} {enc : TypeId × Value → H}
theorem open_call58 {w : World} {fuel : Nat} {l : List Value} {x : DataW H × List MemPlace} (hf : DataW.trod enc Try.prog w 0 (fun _ => true) true fuel 58 l = some x) :
    l.length = 5 ∧ ∃ k t p o s, l = [.int .u8 k, .int .u64 t, .int .u16 p, .int .i64 o, .string s] ∧ (Lit.int .u64 t).wf = true ∧ (0 ≤ p ∧ p ≤ 65535) := by
  cases fuel with
  | zero => simp [DataW.trod] at hf
  | succ n =>
    unfold DataW.trod at hf
    rw [Try.underlying58] at hf
    simp only [cells58] at hf
    by_cases hl : l.length = 5
    · refine ⟨hl, ?_⟩
      match l, hl with
      | [c0, c1, c2, c3, c4], _ =>
        simp [List.mapM_cons, cells5, cells51, cells44, cells3, cells9] at hf
        cases t0 : DataW.trod enc Try.prog w 0 (fun _ => true) true n 5 [c0] with
        | none => simp [t0] at hf
        | some x0 =>
        cases t1 : DataW.trod enc Try.prog w 0 (fun _ => true) true n 51 [c1] with
        | none => simp [t0, t1] at hf
        | some x1 =>
        cases t2 : DataW.trod enc Try.prog w 0 (fun _ => true) true n 44 [c2] with
        | none => simp [t0, t1, t2] at hf
        | some x2 =>
        cases t3 : DataW.trod enc Try.prog w 0 (fun _ => true) true n 3 [c3] with
        | none => simp [t0, t1, t2, t3] at hf
        | some x3 =>
        cases t4 : DataW.trod enc Try.prog w 0 (fun _ => true) true n 9 [c4] with
        | none => simp [t0, t1, t2, t3, t4] at hf
        | some x4 =>
        obtain ⟨k0, e0, _, u0⟩ := DataW.trod_int Try.underlying5 t0
        obtain ⟨k1, e1, _, u1⟩ := DataW.trod_int Try.underlying51 t1
        obtain ⟨k2, e2, _, u2⟩ := DataW.trod_int Try.underlying44 t2
        obtain ⟨k3, e3, _, u3⟩ := DataW.trod_int Try.underlying3 t3
        obtain ⟨k4, e4, _⟩ := DataW.trod_string Try.underlying9 t4
        simp at e0 e1 e2 e3 e4
        exact ⟨k0, k1, k2, k3, k4, by rw [e0, e1, e2, e3, e4], u1, bounds_u16 u2⟩
    · simp [hl] at hf
theorem open_reply55 {w : World} {fuel : Nat} {l : List Value} {x : DataW H × List MemPlace} (hf : DataW.trod enc Try.prog w 0 (fun _ => true) true fuel 55 l = some x) :
    l.length = 67 ∧ ∃ e t s, l[0]? = some (.int .i64 e) ∧ l[1]? = some (.int .u64 t) ∧ l[2]? = some (.int .u32 s) ∧ (Lit.int .u64 t).wf = true ∧ (0 ≤ s ∧ s ≤ 4294967295) ∧ ∀ u ∈ l.drop 3, u.oneCell' = true := by
  cases fuel with
  | zero => simp [DataW.trod] at hf
  | succ n =>
    unfold DataW.trod at hf
    rw [Try.underlying55] at hf
    simp only [cells55] at hf
    by_cases hl : l.length = 67
    · refine ⟨hl, ?_⟩
      simp [List.mapM_cons, cells24, cells51, cells35, cells53, hl] at hf
      cases t0 : DataW.trod enc Try.prog w 0 (fun _ => true) true n 24 (l.take 1) with
      | none => simp [t0] at hf
      | some x0 =>
      cases t1 : DataW.trod enc Try.prog w 0 (fun _ => true) true n 51 (l.tail.take 1) with
      | none => simp [t0, t1] at hf
      | some x1 =>
      cases t2 : DataW.trod enc Try.prog w 0 (fun _ => true) true n 35 ((l.drop 2).take 1) with
      | none => simp [t0, t1, t2] at hf
      | some x2 =>
      cases t3 : DataW.trod enc Try.prog w 0 (fun _ => true) true n 53 ((l.drop 3).take 64) with
      | none => simp [t0, t1, t2, t3] at hf
      | some x3 =>
      obtain ⟨k0, e0, _, u0⟩ := DataW.trod_int Try.underlying24 t0
      obtain ⟨k1, e1, _, u1⟩ := DataW.trod_int Try.underlying51 t1
      obtain ⟨k2, e2, _, u2⟩ := DataW.trod_int Try.underlying35 t2
      obtain ⟨xs, m, _, _, _, hxl, hx⟩ := DataW.trod_array Try.underlying53 t3
      refine ⟨k0, k1, k2, take_one (o := 0) (by simpa using e0), take_one (o := 1) (by rw [List.drop_one]; exact e1), take_one e2, u1, bounds_u32 u2, fun u hu => ?_⟩
      obtain ⟨i, hi, rfl⟩ := List.getElem_of_mem hu
      have hi64 : i < 64 := by simp at hi; omega
      have := hx i hi64
      rw [cells5, Nat.mul_one, List.getElem?_eq_getElem (by omega)] at this
      obtain ⟨k, e, _⟩ := DataW.trod_int Try.underlying5 this
      have e2 := take_one e
      rw [List.getElem?_take, if_pos hi64, List.getElem?_eq_getElem hi] at e2
      rw [Option.some.inj e2]; rfl
    · simp [hl] at hf
theorem open_told1 {w : World} (fuel : Nat) (l : List Value) (x : DataW H × List MemPlace) (hf : DataW.trod enc Try.prog w 0 (fun _ => true) true fuel 60 l = some x) (_ : (x.1.weights Try.prog 60).all (· ≤ reachBytes) = true) : ∃ t : Tl, l = t.cs ∧ t.Ok := by
  cases fuel with
  | zero => simp [DataW.trod] at hf
  | succ n =>
    unfold DataW.trod at hf
    rw [Try.underlying60] at hf
    simp only [cells60] at hf
    by_cases hl : l.length = 77
    · simp [List.mapM_cons, cells3, cells58, cells4b, cells55, hl] at hf
      cases t0 : DataW.trod enc Try.prog w 0 (fun _ => true) true n 3 (l.take 1) with
      | none => simp [t0] at hf
      | some x0 =>
      cases t1 : DataW.trod enc Try.prog w 0 (fun _ => true) true n 58 (l.tail.take 5) with
      | none => simp [t0, t1] at hf
      | some x1 =>
      cases t2 : DataW.trod enc Try.prog w 0 (fun _ => true) true n 3 ((l.drop 6).take 1) with
      | none => simp [t0, t1, t2] at hf
      | some x2 =>
      cases t3 : DataW.trod enc Try.prog w 0 (fun _ => true) true n 3 ((l.drop 7).take 1) with
      | none => simp [t0, t1, t2, t3] at hf
      | some x3 =>
      cases t4 : DataW.trod enc Try.prog w 0 (fun _ => true) true n 3 ((l.drop 8).take 1) with
      | none => simp [t0, t1, t2, t3, t4] at hf
      | some x4 =>
      cases t5 : DataW.trod enc Try.prog w 0 (fun _ => true) true n 4 ((l.drop 9).take 1) with
      | none => simp [t0, t1, t2, t3, t4, t5] at hf
      | some x5 =>
      cases t6 : DataW.trod enc Try.prog w 0 (fun _ => true) true n 55 ((l.drop 10).take 67) with
      | none => simp [t0, t1, t2, t3, t4, t5, t6] at hf
      | some x6 =>
      obtain ⟨k0, e0, _, _⟩ := DataW.trod_int Try.underlying3 t0
      obtain ⟨_, k, t, p, o, s, e1, wt, wp⟩ := open_call58 t1
      obtain ⟨k2, e2, _, u2⟩ := DataW.trod_int Try.underlying3 t2
      obtain ⟨k3, e3, _, _⟩ := DataW.trod_int Try.underlying3 t3
      obtain ⟨k4, e4, _, _⟩ := DataW.trod_int Try.underlying3 t4
      obtain ⟨k5, e5, _⟩ := DataW.trod_bool Try.underlying4 t5
      obtain ⟨hl6, er, rt, rs, a0, a1, a2, wr, ws, aone⟩ := open_reply55 t6
      have at1 : ∀ i, i < 5 → l[1 + i]? = ([.int .u8 k, .int .u64 t, .int .u16 p, .int .i64 o, .string s] : List Value)[i]? := fun i hi => by
        rw [← e1, List.getElem?_take, if_pos hi, ← List.drop_one, List.getElem?_drop]
      have at6 : ∀ i, i < 67 → l[10 + i]? = ((l.drop 10).take 67)[i]? := fun i hi => by
        rw [List.getElem?_take, if_pos hi, List.getElem?_drop]
      have hcs : (Tl.cs ⟨k, t, p, k2, k5, er, rt, rs, l⟩) = l := by
        show (l ++ List.replicate 77 (Value.int .u8 0)).take 77 = l
        rw [List.take_append_of_le_length (by omega), List.take_of_length_le (by omega)]
      refine ⟨⟨k, t, p, k2, k5, er, rt, rs, l⟩, hcs.symm, ?_⟩
      constructor <;> (try rw [hcs])
      · exact at1 0 (by omega)
      · exact at1 1 (by omega)
      · exact at1 2 (by omega)
      · exact ⟨o, at1 3 (by omega)⟩
      · exact ⟨s, at1 4 (by omega)⟩
      · exact take_one e2
      · exact take_one e5
      · exact (at6 0 (by omega)).trans a0
      · exact (at6 1 (by omega)).trans a1
      · exact (at6 2 (by omega)).trans a2
      · intro u hu
        obtain ⟨i, hi, rfl⟩ := List.getElem_of_mem hu
        have hget := List.getElem?_eq_getElem hi
        rcases Nat.lt_or_ge i 13 with h | h
        · match i, h with
          | 0, _ => have := take_one (o := 0) (by simpa using e0); rw [hget] at this; rw [Option.some.inj this]; rfl
          | 1, _ => have := at1 0 (by omega); rw [hget] at this; rw [Option.some.inj this]; rfl
          | 2, _ => have := at1 1 (by omega); rw [hget] at this; rw [Option.some.inj this]; rfl
          | 3, _ => have := at1 2 (by omega); rw [hget] at this; rw [Option.some.inj this]; rfl
          | 4, _ => have := at1 3 (by omega); rw [hget] at this; rw [Option.some.inj this]; rfl
          | 5, _ => have := at1 4 (by omega); rw [hget] at this; rw [Option.some.inj this]; rfl
          | 6, _ => have := take_one e2; rw [hget] at this; rw [Option.some.inj this]; rfl
          | 7, _ => have := take_one e3; rw [hget] at this; rw [Option.some.inj this]; rfl
          | 8, _ => have := take_one e4; rw [hget] at this; rw [Option.some.inj this]; rfl
          | 9, _ => have := take_one e5; rw [hget] at this; rw [Option.some.inj this]; rfl
          | 10, _ => have := (at6 0 (by omega)).trans a0; rw [hget] at this; rw [Option.some.inj this]; rfl
          | 11, _ => have := (at6 1 (by omega)).trans a1; rw [hget] at this; rw [Option.some.inj this]; rfl
          | 12, _ => have := (at6 2 (by omega)).trans a2; rw [hget] at this; rw [Option.some.inj this]; rfl
        · refine aone _ ?_
          have := at6 (i - 10) (by omega)
          rw [show 10 + (i - 10) = i by omega, hget] at this
          refine List.mem_of_getElem? (i := i - 13) ?_
          rw [List.getElem?_drop, show 3 + (i - 13) = i - 10 by omega]
          exact this.symm
      · exact wt
      · exact wr
      · exact u2
      · exact wp
      · exact ws
    · simp [hl] at hf
def Tolds (w : World) (v : Value) (ts : List Tl) : Prop := Rows_ w v 77 Tl.cs ts ∧ ∀ t ∈ ts, t.Ok
theorem open_tolds {w : World} {base : Nat} {v : Value} {d : DataW H} {p : List MemPlace} (hv : Value.okWide Try.prog w .any base 32 v) (h : DataW.Trod enc Try.prog w 0 (fun _ => true) true 32 v d p) (hs : (d.weights Try.prog 32).all (· ≤ reachBytes) = true) :
    ∃ ts : List Tl, Tolds w v ts := by
  obtain ⟨fuel, hf⟩ := h
  obtain ⟨av, lv, cv, rfl⟩ := okWide_slice Try.underlying32 hv
  obtain ⟨os, h1, h2⟩ := open_rows (sl := 32) Try.underlying32 cells60 bytes60 (by decide) Tl.cs Tl.cs_len (fun _ t => t.Ok) open_told1 (by simpa [Value.cells] using hf) hs
  exact ⟨os, h1, h2⟩
end
end Go.Proofs.Ytdlllnkcjfpajaa
namespace Go.Proofs.Ytdlllnkcjfpajaa
open Go.ChangeShapes Go.WideShapes Go.ChangeAt Go.RowKit
set_option linter.unusedVariables false
set_option linter.unusedSimpArgs false
set_option maxRecDepth 20000
theorem Says.calls_yes {fn : Nat} {args : Array Value} {w : World} {P : Prop} (h : Calls Try.prog fn args w fun e w' => Says w P e w') (hp : P) : Calls Try.prog fn args w fun e w' => e = .returned (.bool true) ∧ Below w.heap.size w w' :=
  h.mono fun e w' ⟨b, he, hb, hw⟩ => ⟨by rw [he, hb.2 hp], hw⟩
theorem Says.calls_no {fn : Nat} {args : Array Value} {w : World} {P : Prop} (h : Calls Try.prog fn args w fun e w' => Says w P e w') (hp : ¬ P) : Calls Try.prog fn args w fun e w' => e = .returned (.bool false) ∧ Below w.heap.size w w' :=
  h.mono fun e w' ⟨b, he, hb, hw⟩ => ⟨by cases b; exact he; exact absurd (hb.1 rfl) hp, hw⟩
theorem take_all {α : Type} {l : List α} {P : α → Prop} {j : Nat} {x : α} (hx : l[j]? = some x) (h : ∀ y ∈ l.take j, P y) (hp : P x) : ∀ y ∈ l.take (j + 1), P y := fun y hy => by
  obtain ⟨q1, q2⟩ := List.getElem?_eq_some_iff.1 hx
  rw [List.take_succ_eq_append_getElem q1, q2] at hy
  rcases List.mem_append.1 hy with hy | hy
  · exact h y hy
  · simp at hy; subst hy; exact hp
set_option maxHeartbeats 4000000 in
theorem has_any {w : World} {s : Sl} {ws : List Int} (h : Pg.Olds w (.slice s.a s.n s.c) (ws.map gO)) (hn : ws.length ≤ 1000) (page : Int) :
    Calls Try.prog 34 #[.slice s.a s.n s.c, .int .u16 page] w fun e w' => Says w (page ∈ ws) e w' := by
  obtain ⟨wa, wn, wc⟩ := s
  obtain ⟨hwn, hpg⟩ := old_page h
  replace hwn : wn = ws.length := hwn
  have HYES : Hid (page ∈ ws → ∀ w', Below w.heap.size w w' → Says w (page ∈ ws) (.returned (.bool true)) w') := fun q w' hb => Says.yes q hb
  have HNOT : Hid (¬ page ∈ ws → ∀ w', Below w.heap.size w w' → Says w (page ∈ ws) (.returned (.bool false)) w') := fun q w' hb => Says.no q hb
  generalize Says w (page ∈ ws) = PP at HYES HNOT ⊢
  have HPG : Hid (∀ (j : Nat) x, ws[j]? = some x → ∃ b, wa = some b ∧ w.cell? (b.add j) = some (.int .u16 x)) := hpg
  have HN : Hid (wn = ws.length) := hwn
  have hw9 : wn ≤ 1000 := by rw [hwn]; exact hn
  have L0 : ∀ x ∈ ws.take 0, x ≠ page := fun x hx => by simp at hx
  clear h hpg hwn hn
  go_enter Try.func34, Try.ntmps34
  go_upto_region 2 with fail
  go_loopw [9] (fun q wr => ∃ j : Nat, q = .int .i64 (j : Int) ∧ j ≤ wn ∧ Hid (wr = w) ∧ (∀ x ∈ ws.take j, x ≠ page)) (fun q _ => 1001 - (intOf q).toNat)
  case atStart => exact ⟨0, rfl, Nat.zero_le _, by first | exact rfl | exact trivial, L0⟩
  case round =>
    clear L0
    obtain ⟨j, rfl, hj, hww, hL⟩ := hrel
    obtain rfl := hww.out
    have HL : Hid (∀ x ∈ ws.take j, x ≠ page) := hL
    clear hL
    by_cases hlt : j < wn
    · have hlt' : (j : Int) < (wn : Int) := by omega
      have hj0 : (0 : Int) ≤ (j : Int) := by omega
      obtain ⟨x, hx⟩ : ∃ x, ws[j]? = some x := ⟨_, List.getElem?_eq_getElem (by rw [← HN.out]; exact hlt)⟩
      obtain ⟨b, rfl, hcx⟩ := HPG.out j x hx
      have HX : Hid (ws[j]? = some x) := hx
      clear hx
      by_cases hp : x = page
      · have hfin := HYES.out (by rw [← hp]; exact List.mem_of_getElem? HX.out) _ (Below.refl _ _)
        subst hp
        go_wp2
        exact hfin
      · have HL2 : Hid (∀ y ∈ ws.take (j + 1), y ≠ page) := take_all HX.out HL.out hp
        go_wp2
        go_roundw
        case rel => exact ⟨j + 1, by go_num, by omega, by first | exact rfl | exact trivial, HL2.out⟩
        case measure => simp [intOf]; omega
    · have hlt' : ¬ (j : Int) < (wn : Int) := by omega
      have hfin := HNOT.out (fun q => by
        have e : j = ws.length := by rw [← HN.out]; omega
        exact HL.out page (by rw [e, List.take_length]; exact q) rfl) _ (Below.refl _ _)
      go_wp2
      exact hfin
theorem counts_any (t : Tl) (ht : t.Ok) (w : World) : Calls Try.prog 33 #[.agg t.cs.toArray] w fun e w' => e = .returned (.bool t.cnt) ∧ Below w.heap.size w w' := by
  have r1 : Row (w.alloc (.cells t.cs.toArray 60)) w.heap.size t.cs.toArray 60 := Row.new _ _ _
  have HB : Hid (Below w.heap.size w (w.alloc (.cells t.cs.toArray 60))) := (Below.refl _ _).alloc (Nat.le_refl _) _
  have c9 : (w.alloc (.cells t.cs.toArray 60)).cell? ⟨w.heap.size, 9, none⟩ = some (.bool t.op) := row_at r1 9 _ (by rw [List.getElem?_toArray]; exact ht.c9)
  have c10 : (w.alloc (.cells t.cs.toArray 60)).cell? ⟨w.heap.size, 10, none⟩ = some (.int .i64 t.err) := row_at r1 10 _ (by rw [List.getElem?_toArray]; exact ht.c10)
  obtain ⟨C, HC⟩ : ∃ C, Hid (t.cs.toArray = C) := ⟨_, rfl⟩
  have HCN : Hid (t.cnt = (!t.op && decide (t.err = 0))) := rfl
  rw [HC.out] at c9 c10 HB ⊢
  rw [HCN.out]
  clear r1 HCN
  generalize t.op = op at c9 ⊢
  generalize t.err = er at c10 ⊢
  cases op with
  | true =>
    go_enter Try.func33, Try.ntmps33
    go_wp2
    go_ret
    exact ⟨rfl, HB.out⟩
  | false =>
    by_cases he : er = 0
    · subst he
      go_enter Try.func33, Try.ntmps33
      go_wp2
      go_ret
      exact ⟨rfl, HB.out⟩
    · have hd : decide (er = 0) = false := decide_eq_false he
      go_enter Try.func33, Try.ntmps33
      go_wp2
      go_ret
      exact ⟨by simp [he], HB.out⟩
def QAt (wx : World) (T : Nat) (p : Pt) : Prop := ∃ r s : Sl, Row wx T (Pa.O.arr ⟨p.st, p.co, p.dn, r, s⟩) 39 ∧ Own1 wx T ⟨p, r, s⟩
theorem QAt.below {w w' : World} {T : Nat} {p : Pt} (h : QAt w T p) (hb : Below w.heap.size w w') : QAt w' T p := by
  obtain ⟨r, s, h1, h2⟩ := h
  exact ⟨r, s, h1.below hb h1.lt, h2.keep hb⟩
theorem q_read {w4 : World} {T Z : Nat} {p : Pt} {r s : Sl} (row : Row w4 T (Pa.O.arr ⟨p.st, p.co, p.dn, r, s⟩) 39) (own : Own1 w4 T ⟨p, r, s⟩) (pg t : Int) (hZ : Row w4 Z #[.int .u16 pg, .int .u32 t] 46) (hn : p.rs.length ≤ 1000) (ty : TypeId) :
    ∃ v' w', (Builtin.append_ #[36, 36] ty #[.slice r.a r.n r.c, .slice (some ⟨Z, 0, none⟩) 1 1]).run Try.prog w4 = .ok v' w' ∧
      ∃ a n c, v' = .slice a n c ∧ Row w' T (Pa.O.arr ⟨p.st, p.co, p.dn, r, s⟩) 39 ∧ Off (fun k => (Value.slice r.a r.n r.c).ownBlock = some k) w4 w' ∧ (∀ k, (Value.slice r.a r.n r.c).ownBlock = some k → T ≤ k) ∧ QAt (w'.setCell ⟨T, 3, none⟩ (.slice a n c)) T { p with rs := p.rs ++ [(pg, t)] } := by
  have hT4 : T ≤ w4.heap.size := Nat.le_of_lt row.lt
  obtain ⟨v', w', hr, hn', hg⟩ := own.rs.snocP ty Z (sO (pg, t)) hZ hT4 (by simp; omega)
  have Ou : Off (fun k => (Value.slice r.a r.n r.c).ownBlock = some k) w4 w' := Off.of_grown hg (fun k e => e)
  obtain ⟨a, c, hv⟩ := Sn.Own.form hn'
  have rT := row.off Ou (fun e => by
    obtain ⟨cs, hc⟩ := own.rs.cellsOf _ e
    have := row; unfold Row at this; rw [this] at hc; cases hc)
  have hge : ∀ k, (Value.slice r.a r.n r.c).ownBlock = some k → T ≤ k := fun k hk => (World.ownsRow.lt own.rs k hk).1
  refine ⟨v', w', hr, a, _, c, hv, rT, Ou, hge, ?_⟩
  subst hv
  have o6 : Off (· = T) w' (w'.setCell ⟨T, 3, none⟩ (.slice a (p.rs.map sO ++ [sO (pg, t)]).length c)) := Off.of_setCell _ _ _ rfl
  refine ⟨⟨a, (p.rs.map sO ++ [sO (pg, t)]).length, c⟩, s, row_set rT 3 _, ⟨?_, ?_⟩⟩
  · have := hn'.off o6 (fun b hb e => by
      obtain ⟨cs, hc⟩ := hn'.cellsOf b hb
      have := rT; unfold Row at this; rw [e, this] at hc; cases hc)
    simpa using this
  · have h1 := own.ws.off Ou (fun b hb q => by
      obtain ⟨cs, hc⟩ := own.ws.cellsOf b hb
      obtain ⟨cs', hc'⟩ := own.rs.cellsOf b q
      rw [hc] at hc'; cases hc')
    exact h1.off o6 (fun b hb e => by
      obtain ⟨cs, hc⟩ := h1.cellsOf b hb
      have := rT; unfold Row at this; rw [e, this] at hc; cases hc)
theorem q_write {w4 : World} {T Z : Nat} {p : Pt} {r s : Sl} (row : Row w4 T (Pa.O.arr ⟨p.st, p.co, p.dn, r, s⟩) 39) (own : Own1 w4 T ⟨p, r, s⟩) (pg : Int) (hZ : Row w4 Z #[.int .u16 pg] 44) (hn : p.ws.length ≤ 1000) (ty : TypeId) :
    ∃ v' w', (Builtin.append_ #[37, 37] ty #[.slice s.a s.n s.c, .slice (some ⟨Z, 0, none⟩) 1 1]).run Try.prog w4 = .ok v' w' ∧
      ∃ a n c, v' = .slice a n c ∧ Row w' T (Pa.O.arr ⟨p.st, p.co, p.dn, r, s⟩) 39 ∧ Off (fun k => (Value.slice s.a s.n s.c).ownBlock = some k) w4 w' ∧ (∀ k, (Value.slice s.a s.n s.c).ownBlock = some k → T ≤ k) ∧ QAt (w'.setCell ⟨T, 4, none⟩ (.slice a n c)) T { p with ws := p.ws ++ [pg] } := by
  have hT4 : T ≤ w4.heap.size := Nat.le_of_lt row.lt
  obtain ⟨v', w', hr, hn', hg⟩ := own.ws.snocP ty Z (gO pg) hZ hT4 (by simp; omega)
  have Ou : Off (fun k => (Value.slice s.a s.n s.c).ownBlock = some k) w4 w' := Off.of_grown hg (fun k e => e)
  obtain ⟨a, c, hv⟩ := Pg.Own.form hn'
  have rT := row.off Ou (fun e => by
    obtain ⟨cs, hc⟩ := own.ws.cellsOf _ e
    have := row; unfold Row at this; rw [this] at hc; cases hc)
  have hge : ∀ k, (Value.slice s.a s.n s.c).ownBlock = some k → T ≤ k := fun k hk => (World.ownsRow.lt own.ws k hk).1
  refine ⟨v', w', hr, a, _, c, hv, rT, Ou, hge, ?_⟩
  subst hv
  have o6 : Off (· = T) w' (w'.setCell ⟨T, 4, none⟩ (.slice a (p.ws.map gO ++ [gO pg]).length c)) := Off.of_setCell _ _ _ rfl
  refine ⟨r, ⟨a, (p.ws.map gO ++ [gO pg]).length, c⟩, row_set rT 4 _, ⟨?_, ?_⟩⟩
  · have h1 := own.rs.off Ou (fun b hb q => by
      obtain ⟨cs, hc⟩ := own.rs.cellsOf b hb
      obtain ⟨cs', hc'⟩ := own.ws.cellsOf b q
      rw [hc] at hc'; cases hc')
    exact h1.off o6 (fun b hb e => by
      obtain ⟨cs, hc⟩ := h1.cellsOf b hb
      have := rT; unfold Row at this; rw [e, this] at hc; cases hc)
  · have := hn'.off o6 (fun b hb e => by
      obtain ⟨cs, hc⟩ := hn'.cellsOf b hb
      have := rT; unfold Row at this; rw [e, this] at hc; cases hc)
    simpa using this
theorem q_set {w : World} {T : Nat} {p p' : Pt} {r s : Sl} (row : Row w T (Pa.O.arr ⟨p.st, p.co, p.dn, r, s⟩) 39) (own : Own1 w T ⟨p, r, s⟩) (j : Nat) (u : Value) (e : (Pa.O.arr ⟨p.st, p.co, p.dn, r, s⟩).setIfInBounds j u = Pa.O.arr ⟨p'.st, p'.co, p'.dn, r, s⟩) (h1 : p'.rs = p.rs) (h2 : p'.ws = p.ws) :
    Row (w.setCell ⟨T, j, none⟩ u) T (Pa.O.arr ⟨p'.st, p'.co, p'.dn, r, s⟩) 39 ∧ Own1 (w.setCell ⟨T, j, none⟩ u) T ⟨p', r, s⟩ := by
  have o6 : Off (· = T) w (w.setCell ⟨T, j, none⟩ u) := Off.of_setCell _ _ _ rfl
  refine ⟨by rw [← e]; exact row_set row j u, ⟨?_, ?_⟩⟩
  · show Sn.Own _ _ _ (p'.rs.map sO)
    rw [h1]
    exact own.rs.off o6 (fun b hb e => by
      obtain ⟨cs, hc⟩ := own.rs.cellsOf b hb
      have := row; unfold Row at this; rw [e, this] at hc; cases hc)
  · show Pg.Own _ _ _ (p'.ws.map gO)
    rw [h2]
    exact own.ws.off o6 (fun b hb e => by
      obtain ⟨cs, hc⟩ := own.ws.cellsOf b hb
      have := row; unfold Row at this; rw [e, this] at hc; cases hc)
structure PFit (p : Pt) (j : Nat) : Prop where
  num : p.Num
  rl : p.rs.length ≤ j
  wl : p.ws.length ≤ j
theorem PFit.start {b : Tl} (h : b.Ok) : PFit (startP b) 0 := ⟨⟨h.wrts, ⟨Int.le_refl _, by show (0 : Int) ≤ _; decide⟩, (fun v hv => by cases hv), (fun v hv => by cases hv)⟩, Nat.le_refl _, Nat.le_refl _⟩
theorem PFit.mono {p : Pt} {j k : Nat} (h : PFit p j) (hk : j ≤ k) : PFit p k := ⟨h.num, Nat.le_trans h.rl hk, Nat.le_trans h.wl hk⟩
theorem PFit.note {p : Pt} {j : Nat} {t : Tl} (h : PFit p j) (ht : t.Ok) : PFit (noteP p t) (j + 1) := by
  unfold noteP
  have h0 := h.mono (Nat.le_succ j)
  split
  · split
    · exact h0
    · exact ⟨⟨h.num.st, h.num.co, fun v hv => by
        rcases List.mem_append.1 hv with hv | hv
        · exact h.num.rs v hv
        · simp at hv; subst hv; exact ⟨ht.wpage, ht.wrts⟩, h.num.ws⟩, by simp; exact h.rl, h0.wl⟩
  · split
    · split
      · exact h0
      · exact ⟨⟨h.num.st, h.num.co, h.num.rs, fun v hv => by
          rcases List.mem_append.1 hv with hv | hv
          · exact h.num.ws v hv
          · simp at hv; subst hv; exact ht.wpage⟩, h0.rl, by simp; exact h.wl⟩
    · split
      · refine ⟨⟨h.num.st, ?_, h.num.rs, h.num.ws⟩, h0.rl, h0.wl⟩
        show 0 ≤ (if p.ws = [] then p.co else t.rts) ∧ (if p.ws = [] then p.co else t.rts) ≤ 4294967295
        split
        · exact h.num.co
        · exact ht.wrts
      · exact h0
theorem PFit.fit {p : Pt} {j : Nat} (h : PFit p j) (hj : j ≤ 1000) : p.Fit := ⟨h.num.st, h.num.co, h.num.rs, h.num.ws, Nat.le_trans h.rl hj, Nat.le_trans h.wl hj⟩
end Go.Proofs.Ytdlllnkcjfpajaa
