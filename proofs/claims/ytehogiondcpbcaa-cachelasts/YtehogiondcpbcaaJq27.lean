/-
  Plain facts: a page taken into a frame, new or vacated. A block read beside a cache; a page opened is a page. A frame more in memory. A frame laid anew as a whole. Plain facts: what vacate and load make of a cache; a cache half turned. Plain facts: the map of frames has no more entries than there are frames.
-/
import Derived.Test.YtehogiondcpbcaaJq21
import Derived.Test.YtehogiondcpbcaaJq26
import Derived.Test.YtehogiondcpbcaaJq17
import Derived.Test.YtehogiondcpbcaaJq13
import Derived.Test.YtehogiondcpbcaaJq16
import Derived.Maps.Range
namespace Go.Proofs.Ytehogiondcpbcaa
open Go.ChangeShapes Go.WideShapes Go.ChangeAt Go.RowKit
set_option linter.unusedVariables false
set_option linter.unusedSimpArgs false
set_option maxRecDepth 20000
theorem posF_iff {fs : List Fm} (one : OneF fs) {u : Bool} {k : Int} {j : Nat} : posF fs u k = some j ↔ ∃ g, fs[j]? = some g ∧ g.un = u ∧ g.no = k := by
  constructor
  · exact posF_some
  · rintro ⟨g, hg, rfl, rfl⟩
    exact posF_is one hg
theorem posF_no {fs : List Fm} {u : Bool} {k : Int} (h : ∀ f ∈ fs, ¬ (f.un = u ∧ f.no = k)) : posF fs u k = none := by
  unfold posF
  rw [List.findIdx?_eq_none_iff]
  intro f hf
  have := h f hf
  simpa using this
theorem OneF.more {fs : List Fm} (one : OneF fs) {f : Fm} (hn : posF fs f.un f.no = none) : OneF (fs ++ [f]) := by
  intro i j x y hx hy e1 e2
  have at_ : ∀ (p : Nat) (z : Fm), (fs ++ [f])[p]? = some z → (fs[p]? = some z) ∨ (p = fs.length ∧ z = f) := fun p z hz => by
    rw [List.getElem?_append] at hz
    split at hz
    · exact Or.inl hz
    · rename_i q
      have : p - fs.length = 0 := by
        have := (List.getElem?_eq_some_iff.1 hz).1
        simpa using this
      rw [this] at hz
      simp at hz
      exact Or.inr ⟨by omega, hz.symm⟩
  rcases at_ i x hx with a | ⟨a, a2⟩
  · rcases at_ j y hy with b | ⟨b, b2⟩
    · exact one i j x y a b e1 e2
    · subst b2
      exact absurd ⟨e1, e2⟩ (posF_none hn (List.mem_of_getElem? a))
  · rcases at_ j y hy with b | ⟨b, b2⟩
    · subst a2
      exact absurd ⟨e1.symm, e2.symm⟩ (posF_none hn (List.mem_of_getElem? b))
    · rw [a, b]
theorem where_more {fs : List Fm} {f : Fm} (hn : posF fs f.un f.no = none) : whereF (fs ++ [f]) = (whereF fs).put f.un f.no fs.length := by
  funext u k
  unfold whereF Ids.put posF
  rw [List.findIdx?_append]
  by_cases q : u = f.un ∧ k = f.no
  · rw [if_pos q]
    obtain ⟨rfl, rfl⟩ := q
    unfold posF at hn
    rw [hn]
    simp [List.findIdx?_cons]
  · rw [if_neg q]
    have : [f].findIdx? (fun g => decide (g.un = u ∧ g.no = k)) = none := by
      rw [List.findIdx?_eq_none_iff]
      intro g hg
      simp at hg; subst hg
      simpa using fun a b => q ⟨a.symm, b.symm⟩
    rw [this]
    simp
theorem set_at {fs : List Fm} {i : Nat} {f' : Fm} {p : Nat} {z : Fm} (hz : (fs.set i f')[p]? = some z) : (p ≠ i ∧ fs[p]? = some z) ∨ (p = i ∧ z = f') := by
  rw [List.getElem?_set] at hz
  split at hz
  · rename_i e
    split at hz
    · cases hz; exact Or.inr ⟨e.symm, rfl⟩
    · cases hz
  · rename_i e
    exact Or.inl ⟨fun h => e h.symm, hz⟩
theorem OneF.swap {fs : List Fm} (one : OneF fs) {i : Nat} {f' : Fm} (hn : posF fs f'.un f'.no = none) : OneF (fs.set i f') := by
  intro p q x y hx hy e1 e2
  rcases set_at hx with ⟨_, a⟩ | ⟨a, a2⟩
  · rcases set_at hy with ⟨_, b⟩ | ⟨b, b2⟩
    · exact one p q x y a b e1 e2
    · subst b2
      exact absurd ⟨e1, e2⟩ (posF_none hn (List.mem_of_getElem? a))
  · rcases set_at hy with ⟨_, b⟩ | ⟨b, b2⟩
    · subst a2
      exact absurd ⟨e1.symm, e2.symm⟩ (posF_none hn (List.mem_of_getElem? b))
    · rw [a, b]
theorem where_swap {fs : List Fm} (one : OneF fs) {i : Nat} {f f' : Fm} (h : fs[i]? = some f) (hn : posF fs f'.un f'.no = none) : whereF (fs.set i f') = ((whereF fs).del f.un f.no).put f'.un f'.no i := by
  have one' := one.swap (i := i) hn
  have hil := (List.getElem?_eq_some_iff.1 h).1
  funext u k
  unfold Ids.put Ids.del whereF
  by_cases q : u = f'.un ∧ k = f'.no
  · rw [if_pos q]
    obtain ⟨rfl, rfl⟩ := q
    rw [posF_is one' (i := i) (f := f') (by rw [List.getElem?_set_self hil])]
    rfl
  · rw [if_neg q]
    by_cases q2 : u = f.un ∧ k = f.no
    · rw [if_pos q2]
      obtain ⟨rfl, rfl⟩ := q2
      rw [posF_no]
      · rfl
      · intro g hg e
        obtain ⟨p, hp, hpe⟩ := List.mem_iff_getElem.1 hg
        have hp2 : (fs.set i f')[p]? = some g := by rw [← hpe]; exact List.getElem?_eq_getElem hp
        rcases set_at hp2 with ⟨a, b⟩ | ⟨a, b⟩
        · exact a (one p i g f b h e.1 e.2)
        · rw [b] at e; exact q ⟨e.1.symm, e.2.symm⟩
    · rw [if_neg q2]
      suffices key : posF (fs.set i f') u k = posF fs u k by rw [key]
      cases hp : posF fs u k with
      | some j =>
        obtain ⟨g, hg, e1, e2⟩ := posF_some hp
        have hji : j ≠ i := fun e => by
          rw [e, h] at hg; cases hg
          exact q2 ⟨e1.symm, e2.symm⟩
        exact (posF_iff one').2 ⟨g, by rw [List.getElem?_set_ne (Ne.symm hji)]; exact hg, e1, e2⟩
      | none =>
        refine posF_no fun g hg e => ?_
        obtain ⟨p, hp', hpe⟩ := List.mem_iff_getElem.1 hg
        have hp2 : (fs.set i f')[p]? = some g := by rw [← hpe]; exact List.getElem?_eq_getElem hp'
        rcases set_at hp2 with ⟨a, b⟩ | ⟨a, b⟩
        · exact posF_none hp (List.mem_of_getElem? b) e
        · rw [b] at e; exact q ⟨e.1.symm, e.2.symm⟩
def takeF (fs : List Fm) (i : Nat) (f' : Fm) : List Fm := if i = fs.length then fs ++ [f'] else fs.set i f'
theorem Cs.Ok.take {s : Cs} (ok : s.Ok) {i : Nat} {f' : Fm} (hi : i < s.most) (hif : i ≤ s.fs.length) (fo : f'.Ok) (hn : posF s.fs f'.un f'.no = none) (hp : if f'.un = true then f'.no < s.undo else f'.no < s.pages) (ck' : List Cl.Fr) (h' : Nat) (hc : ck'.length = s.ck.length) :
    Cs.Ok { s with fs := takeF s.fs i f', ck := ck', hand := h' } := by
  have hm : ∀ g ∈ takeF s.fs i f', g ∈ s.fs ∨ g = f' := fun g hg => by
    unfold takeF at hg
    split at hg
    · simpa using hg
    · exact List.mem_or_eq_of_mem_set hg
  refine ⟨ok.pages, ok.undo, ok.most, fun g hg => ?_, ?_, ?_, by show ck'.length = _; rw [hc]; exact ok.ck, fun g hg => ?_⟩
  · rcases hm g hg with y | y
    · exact ok.fs g y
    · rw [y]; exact fo
  · show (takeF s.fs i f').length ≤ s.most
    have := ok.few
    unfold takeF
    split
    · simp; omega
    · rw [List.length_set]; exact ok.few
  · show OneF (takeF s.fs i f')
    unfold takeF
    split
    · exact ok.one.more hn
    · exact ok.one.swap hn
  · rcases hm g hg with y | y
    · exact ok.page g y
    · rw [y]; exact hp
theorem openF_un (u : Bool) (k : Int) (b : List Int) : (openF u k b).un = u := by unfold openF; split <;> rfl
theorem openF_no (u : Bool) (k : Int) (b : List Int) : (openF u k b).no = k := by unfold openF; split <;> rfl
theorem openF_ok (u : Bool) (k : Int) (hk : WfU k) (b : List Int) (hb : b.length = 256) (hy : Bytes b) : (openF u k b).Ok := by
  unfold openF
  split
  · exact ⟨Sl.payN_length _ _, payC_bytes b hy hb, hk, by show (0 : Int) ≤ 0 ∧ (0 : Int) ≤ _; omega⟩
  · exact ⟨blankP_length u k, blankP_bytes u k, hk, by show (0 : Int) ≤ 0 ∧ (0 : Int) ≤ _; omega⟩
theorem CL.self {w : World} {F : Nat → Prop} {gc gd gl gk ak : Nat} {s : Cs} {l : Lg} {d : Dsk} {M : Int} {N : Nat} (c : CL w F gc gd gl gk ak s l d M N) : ∃ fv m n vl vs L, CA w gc gd gl gk ak fv m n s M ∧ LStep w gl gd (fun j => lfoot gl gd vl vs L j) l d N w ∧ LD w gl gd vl vs L l d N ∧ (∀ j, lfoot gl gd vl vs L j → ¬ cfoot gc gk ak fv m j) ∧ (∀ j, lfoot gl gd vl vs L j ∨ cfoot gc gk ak fv m j → F j) := by
  obtain ⟨fv, m, n, vl, vs, L, cA, lD, hdis, hF⟩ := c.ex
  exact ⟨fv, m, n, vl, vs, L, cA, ⟨vl, vs, L, lD, Off.refl _ _, fun j q => Or.inl q⟩, lD, hdis, hF⟩
theorem CL.read {w : World} {F : Nat → Prop} {gc gd gl gk ak : Nat} {s : Cs} {l : Lg} {d : Dsk} {M : Int} {N : Nat} (c : CL w F gc gd gl gk ak s l d M N) (ho : d.ops < 9223372036854775806) (b : Int) : Calls Try.prog 77 #[.pointer (some ⟨gd, 0, none⟩), .int .i64 b] w fun e w' => e = .returned (.tuple #[.agg (bs (read d b).1), .int .i64 (read d b).2.1]) ∧ CStep w F gc gd gl gk ak s l (Ytehogiondcpbcaa.read d b).2.2 M N w' := by
  obtain ⟨fv, m, n, vl, vs, L, cA, hst, lD, hdis, hF⟩ := c.self
  refine (hst.read ho b).mono ?_
  rintro e w' ⟨q1, q2⟩
  refine ⟨q1, CStep.logd hdis hF (fun j q => cA.lt q) (q2.off.mono fun j q => Or.inl (hF j (Or.inl q))) q2 (cA.off q2.off fun k q q2 => hdis k q2 q) c.ok⟩
theorem flatF_one : ∀ (fs : List Fm) (u : Value), u ∈ flatF fs → u.oneCell' = true := by
  intro fs u hu
  unfold flatF at hu
  rw [List.mem_flatMap] at hu
  obtain ⟨f, _, h⟩ := hu
  have := f.one
  unfold Fm.arr at this
  rw [Array.all_eq_true'] at this
  exact this u (by simpa using h)
theorem more_run {w : World} {base : Nat} {v : Value} {fs : List Fm} (h : w.ownsRow base 122 229 v fs.length (flatF fs)) (ty : TypeId) (X : Nat) (p : Fm) (hp : p.p.length = 224) (hX : Row w X p.arr 122) (hb : base ≤ w.heap.size) (hn : fs.length ≤ 1000000) :
    ∃ v' w', (Builtin.append_ #[114, 114] ty #[v, .slice (some ⟨X, 0, none⟩) 1 1]).run Try.prog w = .ok v' w' ∧ (w'.ownsRow base 122 229 v' (fs ++ [p]).length (flatF (fs ++ [p])) ∧ w.grownBy w' v.ownBlock ∧ (v'.ownBlock = v.ownBlock ∨ v'.ownBlock = some w.heap.size)) := by
  obtain ⟨i, hi, hz, hs, hby⟩ := Ck.info_parts info122
  obtain ⟨v', w', hr, h2, h3, h4, h5⟩ := run_append_own_at (P := Try.prog) w base 114 ty 122 i _ 229 240 Try.underlying114 hi hz hs hby rfl (by decide) v fs.length (flatF fs) h ⟨X, 0, none⟩ 1 1 p.cells (by rw [Fm.cells_length hp]) (fun j u hj => by rw [Addr.add_mid, Nat.zero_add, cell_of_row w X j _ _ _ hX, ← hj]; show p.cells.toArray[j]? = _; rw [List.getElem?_toArray]) (fun u hu => flatF_one [p] u (by simpa [flatF] using hu)) (by unfold maxLen; omega) (by omega) hb
  refine ⟨v', w', hr, ?_, h3, h5⟩
  rw [flatF_append, List.length_append]
  have e : flatF [p] = p.cells := by simp [flatF]
  rw [e]
  exact h2
theorem splice_next {α : Type} (L : List α) (o : Nat) (v : α) (r : List α) (h : o < L.length) : splice (L.set o v) (o + 1) r = splice L o (v :: r) := by
  have e : L.set o v = (L.take o ++ [v]) ++ L.drop (o + 1) := by
    rw [List.set_eq_take_append_cons_drop, if_pos h]; simp
  have hl : (L.take o ++ [v]).length = o + 1 := by simp; omega
  have := splice_right (L.take o ++ [v]) (L.drop (o + 1)) r 0
  rw [hl, Nat.add_zero] at this
  rw [e, this]
  unfold splice
  simp [List.drop_drop, Nat.add_comm, Nat.add_left_comm, Nat.add_assoc]
theorem splice_all {α : Type} (L r : List α) (h : r.length = L.length) : splice L 0 r = r := by
  unfold splice
  simp [h]
theorem Off.of_setCells (g : Nat) : ∀ (vs : List Value) (o : Nat) (w : World), Off (· = g) w (w.setCells g o vs)
  | [], _, w => Off.refl _ w
  | v :: r, o, w => (Off.of_setCell (F := (· = g)) w ⟨g, o, none⟩ v rfl).trans (Off.of_setCells g r (o + 1) _) fun _ q => Or.inl q
theorem ownsRow_cells {base : Nat} {e : TypeId} {size g n cap : Nat} : ∀ (vs : List Value) (o : Nat) (w : World) (xs : List Value), w.ownsRow base e size (.slice (some ⟨g, 0, none⟩) n cap) n xs → o + vs.length ≤ xs.length → (w.setCells g o vs).ownsRow base e size (.slice (some ⟨g, 0, none⟩) n cap) n (splice xs o vs)
  | [], o, w, xs, h, _ => by
    have : splice xs o [] = xs := by unfold splice; simp
    rw [this]; exact h
  | v :: r, o, w, xs, h, hl => by
    simp only [List.length_cons] at hl
    rw [← splice_next xs o v r (by omega)]
    exact ownsRow_cells r (o + 1) _ _ (h.stored o v).1 (by rw [List.length_set]; omega)
theorem own_put {w : World} {a cap : Nat} {fs : List Fm} (ok : ∀ f ∈ fs, f.Ok) (h : w.ownsRow 0 122 229 (.slice (some ⟨a, 0, none⟩) fs.length cap) fs.length (flatF fs)) {i : Nat} {f : Fm} (hf : fs[i]? = some f) (f' : Fm) (hp : f'.p.length = 224) :
    (w.setCells a (i * 229) f'.cells).ownsRow 0 122 229 (.slice (some ⟨a, 0, none⟩) fs.length cap) fs.length (flatF (fs.set i f')) ∧ Off (· = a) w (w.setCells a (i * 229) f'.cells) := by
  have hc := Fm.cells_length hp
  have hc0 := Fm.cells_length (ok f (List.mem_of_getElem? hf)).len
  have hil := (List.getElem?_eq_some_iff.1 hf).1
  have hfl := flatF_length ok
  refine ⟨?_, Off.of_setCells _ _ _ _⟩
  have := ownsRow_cells f'.cells (i * 229) w (flatF fs) h (by rw [hfl, hc]; omega)
  have e := flatF_splice ok i 0 f f' f'.cells hf (by rw [hc]; omega) (splice_all _ _ (by rw [hc, hc0]))
  rw [Nat.add_zero] at e
  rw [e] at this
  exact this
theorem CStep.grow {w : World} {F : Nat → Prop} {gc gd gl gk ak : Nat} {s : Cs} {l : Lg} {d : Dsk} {M : Int} {N : Nat} {W : World} {N' : Nat} (h : CStep w F gc gd gl gk ak s l d M N W) (hm : N ≤ N') (hN : N' < 1000000000000) : CStep w F gc gd gl gk ak s l d M N' W := by
  obtain ⟨o, F', c, k⟩ := h
  obtain ⟨fv, m, n, vl, vs, L, cA, lD, hdis, hF⟩ := c.ex
  exact ⟨o, F', ⟨⟨fv, m, n, vl, vs, L, cA, ⟨lD.row, lD.last, lD.sld, lD.dsk.grow hm hN, lD.ng, lD.nl, lD.ns⟩, hdis, hF⟩, c.ok, c.lt⟩, k⟩
def Vac (s : Cs) (l : Lg) (d : Dsk) (i : Nat) (E : Int) (s1 : Cs) (l1 : Lg) (d1 : Dsk) : Prop :=
  (s.fs.length < s.most ∧ i = s.fs.length ∧ E = 0 ∧ s1 = s ∧ l1 = l ∧ d1 = d) ∨
  (s.fs.length = s.most ∧ ∃ (b : Bool) (v : Nat) (ck' : List Cl.Fr) (h' : Nat), Cl.Vict (Cl.ring s.ck s.hand) v b (Cl.ring ck' h') ∧ Cl.Same s.ck ck' ∧
    ((b = false ∧ i = 0 ∧ E = 6 ∧ s1 = { s with ck := ck', hand := h' } ∧ l1 = l ∧ d1 = d) ∨
     (b = true ∧ i = v ∧ ∃ f, s.fs[v]? = some f ∧ ((f.dirty = false ∧ E = 0 ∧ s1 = { s with ck := ck', hand := h' } ∧ l1 = l ∧ d1 = d) ∨
       (f.dirty = true ∧ E = (wbR s l d f).1 ∧ s1 = (if (wbR s l d f).1 = 0 then cleanF { s with ck := ck', hand := h' } v f else { s with ck := ck', hand := h' }) ∧ l1 = (wbR s l d f).2.1 ∧ d1 = (wbR s l d f).2.2)))))
theorem Vacd.plain {w : World} {F : Nat → Prop} {gc gd gl gk ak : Nat} {s : Cs} {l : Lg} {d : Dsk} {M : Int} {N : Nat} {e : Ending} {w' : World} (h : Vacd w F gc gd gl gk ak s l d M N e w') (hN : N + 20000 < 1000000000000) : ∃ (i : Nat) (E : Int) (s1 : Cs) (l1 : Lg) (d1 : Dsk), Vac s l d i E s1 l1 d1 ∧ e = .returned (.tuple #[.int .i64 i, .int .i64 E]) ∧ CStep w F gc gd gl gk ak s1 l1 d1 M (N + 4004) w' := by
  rcases h with ⟨h1, h2, h3⟩ | ⟨h1, v, b, ck', h', h2, h3, h4⟩
  · exact ⟨_, _, _, _, _, Or.inl ⟨h1, rfl, rfl, rfl, rfl, rfl⟩, h2, h3.grow (by omega) (by omega)⟩
  · rcases h4 with ⟨rfl, h5, h6⟩ | ⟨rfl, f, hf, h5⟩
    · exact ⟨0, 6, _, _, _, Or.inr ⟨h1, _, _, _, _, h2, h3, Or.inl ⟨rfl, rfl, rfl, rfl, rfl, rfl⟩⟩, h5, h6.grow (by omega) (by omega)⟩
    · rcases h5 with ⟨h6, h7, h8⟩ | ⟨h6, h7, h8⟩
      · exact ⟨v, 0, _, _, _, Or.inr ⟨h1, _, _, _, _, h2, h3, Or.inr ⟨rfl, rfl, f, hf, Or.inl ⟨h6, rfl, rfl, rfl, rfl⟩⟩⟩, h7, h8.grow (by omega) (by omega)⟩
      · exact ⟨v, _, _, _, _, Or.inr ⟨h1, _, _, _, _, h2, h3, Or.inr ⟨rfl, rfl, f, hf, Or.inr ⟨h6, rfl, rfl, rfl, rfl⟩⟩⟩, h7, h8⟩
theorem wrD_ops (s : Cs) (f : Fm) (d : Dsk) : (wrD s f d).2.ops ≤ d.ops + 1 := writ_ops1 _ _ _
theorem wbR_ops (s : Cs) (l : Lg) (d : Dsk) (f : Fm) (h : (flushR l d).2.2.ops ≤ d.ops + 1000) : (wbR s l d f).2.2.ops ≤ d.ops + 1002 := by
  have h0 : (flushIf l d (lsnP f.p)).2.2.ops ≤ d.ops + 1000 := by unfold flushIf; split; exact h; show d.ops ≤ _; omega
  have h1 := wrD_ops s f (flushIf l d (lsnP f.p)).2.2
  have h2 := sync_ops1 (wrD s f (flushIf l d (lsnP f.p)).2.2).2
  unfold wbR
  simp only
  split
  · omega
  · split
    · show (wrD s f (flushIf l d (lsnP f.p)).2.2).2.ops ≤ _; omega
    · show (sync (wrD s f (flushIf l d (lsnP f.p)).2.2).2).2.ops ≤ _; omega
theorem cleanF_fs (s : Cs) (i : Nat) (f : Fm) : (cleanF s i f).fs = s.fs.set i { f with dirty := false } := rfl
structure VacF (s : Cs) (d : Dsk) (i : Nat) (s1 : Cs) (d1 : Dsk) : Prop where
  pages : s1.pages = s.pages
  undo : s1.undo = s.undo
  most : s1.most = s.most
  pos : ∀ u k, posF s1.fs u k = posF s.fs u k
  len : s1.fs.length = s.fs.length
  at_ : i < s.most ∧ i ≤ s.fs.length
theorem posF_set {fs : List Fm} {i : Nat} {f f' : Fm} (h : fs[i]? = some f) (h1 : f'.un = f.un) (h2 : f'.no = f.no) (u : Bool) (k : Int) : posF (fs.set i f') u k = posF fs u k := by rw [posF_map, posF_map, ids_set h h1 h2]
theorem Vac.f {s : Cs} {l : Lg} {d : Dsk} {i : Nat} {E : Int} {s1 : Cs} {l1 : Lg} {d1 : Dsk} (h : Vac s l d i E s1 l1 d1) (ok : s.Ok) : VacF s d i s1 d1 := by
  have hmo := ok.most
  rcases h with ⟨h1, rfl, rfl, rfl, rfl, rfl⟩ | ⟨h1, b, v, ck', h', h2, h3, h4⟩
  · exact ⟨rfl, rfl, rfl, fun _ _ => rfl, rfl, h1, Nat.le_refl _⟩
  · rcases h4 with ⟨rfl, rfl, rfl, rfl, rfl, rfl⟩ | ⟨rfl, rfl, f, hf, h5⟩
    · exact ⟨rfl, rfl, rfl, fun _ _ => rfl, rfl, by omega, by omega⟩
    · have hl := (List.getElem?_eq_some_iff.1 hf).1
      rcases h5 with ⟨h6, rfl, rfl, rfl, rfl⟩ | ⟨h6, rfl, rfl, rfl, rfl⟩
      · exact ⟨rfl, rfl, rfl, fun _ _ => rfl, rfl, by omega, by omega⟩
      · by_cases q : (wbR s l d f).1 = 0
        · rw [if_pos q]
          exact ⟨rfl, rfl, rfl, fun u k => posF_set (f' := { f with dirty := false }) hf rfl rfl u k, List.length_set .., by omega, by omega⟩
        · rw [if_neg q]
          exact ⟨rfl, rfl, rfl, fun _ _ => rfl, rfl, by omega, by omega⟩
theorem Vac.ops {s : Cs} {l : Lg} {d : Dsk} {i : Nat} {E : Int} {s1 : Cs} {l1 : Lg} {d1 : Dsk} (h : Vac s l d i E s1 l1 d1) (hopF : (flushR l d).2.2.ops ≤ d.ops + 1000) : d1.ops ≤ d.ops + 1002 := by
  rcases h with ⟨h1, rfl, rfl, rfl, rfl, rfl⟩ | ⟨h1, b, v, ck', h', h2, h3, ⟨rfl, rfl, rfl, rfl, rfl, rfl⟩ | ⟨rfl, rfl, f, hf, ⟨h6, rfl, rfl, rfl, rfl⟩ | ⟨h6, rfl, rfl, rfl, rfl⟩⟩⟩
  · omega
  · omega
  · omega
  · exact wbR_ops s l d f hopF
def loadS (s : Cs) (i : Nat) (f' : Fm) : Cs := { s with fs := takeF s.fs i f', ck := match s.ck[i]? with | some x => s.ck.set i { x with seen := false, cold := false } | none => s.ck }
def Loads (s : Cs) (l : Lg) (d : Dsk) (u : Bool) (k : Int) (i : Nat) (E : Int) (s' : Cs) (l' : Lg) (d' : Dsk) : Prop :=
  ∃ (i1 : Nat) (E1 : Int) (s1 : Cs) (d1 : Dsk), Vac s l d i1 E1 s1 l' d1 ∧
    ((E1 ≠ 0 ∧ i = 0 ∧ E = E1 ∧ s' = s1 ∧ d' = d1) ∨
     (E1 = 0 ∧ (read d1 (placeC s.pages u k)).2.1 ≠ 0 ∧ i = 0 ∧ E = (read d1 (placeC s.pages u k)).2.1 ∧ s' = s1 ∧ d' = (read d1 (placeC s.pages u k)).2.2) ∨
     (E1 = 0 ∧ (read d1 (placeC s.pages u k)).2.1 = 0 ∧ i = i1 ∧ E = 0 ∧ s' = loadS s1 i1 (openF u k (read d1 (placeC s.pages u k)).1) ∧ d' = (read d1 (placeC s.pages u k)).2.2))
structure CB (w : World) (gc gd gl gk ak : Nat) (fv : Value) (m n : Nat) (s : Cs) (gs : List Fm) (I : Ids) (M : Int) : Prop where
  row : Row w gc (ccells gd gl gk fv m s) 117
  own : w.ownsRow 0 122 229 fv gs.length (flatF gs)
  map : WMap w m n I
  clk : Cl.CAt w gk ak s.ck s.hand M
theorem CA.b {w : World} {gc gd gl gk ak : Nat} {fv : Value} {m n : Nat} {s : Cs} {M : Int} (c : CA w gc gd gl gk ak fv m n s M) : CB w gc gd gl gk ak fv m n s s.fs (whereF s.fs) M := ⟨c.row, c.own, c.map, c.clk⟩
theorem CB.off {F : Nat → Prop} {w w' : World} {gc gd gl gk ak : Nat} {fv : Value} {m n : Nat} {s : Cs} {gs : List Fm} {I : Ids} {M : Int} (c : CB w gc gd gl gk ak fv m n s gs I M) (ho : Off F w w') (hF : ∀ k, cfoot gc gk ak fv m k → ¬ F k) : CB w' gc gd gl gk ak fv m n s gs I M :=
  ⟨c.row.off ho (hF _ (Or.inl rfl)), ownsRow_off c.own ho (fun k q => hF k (Or.inr (Or.inl q))), c.map.off ho (hF _ (Or.inr (Or.inr (Or.inl rfl)))), c.clk.off ho (fun k q => hF k (Or.inr (Or.inr (Or.inr q))))⟩
theorem CB.lt {w : World} {gc gd gl gk ak : Nat} {fv : Value} {m n : Nat} {s : Cs} {gs : List Fm} {I : Ids} {M : Int} (c : CB w gc gd gl gk ak fv m n s gs I M) {k : Nat} (hk : cfoot gc gk ak fv m k) : k < w.heap.size := by
  rcases hk with rfl | q | rfl | q
  · exact c.row.lt
  · exact (World.ownsRow.lt c.own k q).2
  · exact c.map.lt
  · exact c.clk.lt q
structure CBne (gc gk ak : Nat) (fv : Value) (m : Nat) : Prop where
  a_gc : ∀ a, fv.ownBlock = some a → a ≠ gc
  a_m : ∀ a, fv.ownBlock = some a → a ≠ m
  a_k : ∀ a, fv.ownBlock = some a → ¬ Cl.two gk ak a
  gc_m : gc ≠ m
  gc_k : ¬ Cl.two gk ak gc
  m_k : ¬ Cl.two gk ak m
theorem CB.ne {w : World} {gc gd gl gk ak : Nat} {fv : Value} {m n : Nat} {s : Cs} {gs : List Fm} {I : Ids} {M : Int} (c : CB w gc gd gl gk ak fv m n s gs I M) : CBne gc gk ak fv m := by
  have k1 := c.clk.row
  have k2 := c.clk.arr
  have ha : ∀ a, fv.ownBlock = some a → ∃ cur, w.heap[a]? = some (.cells cur 122 (0, 0)) := fun a q => by
    rcases c.own.2 with ⟨e, _⟩ | ⟨g, cap', cur, e, _, hcc, _⟩
    · rw [e] at q; cases q
    · rw [e] at q; cases q; exact ⟨cur, hcc⟩
  refine ⟨fun a q e => ?_, fun a q e => ?_, fun a q q2 => ?_, fun e => ?_, fun q2 => ?_, fun q2 => ?_⟩
  · obtain ⟨cur, h⟩ := ha a q
    exact ne_cellsC h c.row (by decide) e
  · obtain ⟨cur, h⟩ := ha a q
    exact ne_mapC h c.map.is e
  · obtain ⟨cur, h⟩ := ha a q
    rcases q2 with e | e
    · exact ne_cellsC h k1 (by decide) e
    · exact ne_cellsC h k2 (by decide) e
  · exact ne_mapC c.row c.map.is e
  · rcases q2 with e | e
    · exact ne_cellsC c.row k1 (by decide) e
    · exact ne_cellsC c.row k2 (by decide) e
  · rcases q2 with e | e
    · exact ne_mapC k1 c.map.is e.symm
    · exact ne_mapC k2 c.map.is e.symm
def HStep (w : World) (F : Nat → Prop) (gc gd gl gk ak : Nat) (fv : Value) (m n : Nat) (s : Cs) (gs : List Fm) (I : Ids) (l : Lg) (d : Dsk) (M : Int) (N : Nat) (W : World) : Prop :=
  Off F w W ∧ ∃ vl vs L, CB W gc gd gl gk ak fv m n s gs I M ∧ LD W gl gd vl vs L l d N ∧ (∀ j, lfoot gl gd vl vs L j → ¬ cfoot gc gk ak fv m j) ∧ (∀ j, lfoot gl gd vl vs L j ∨ cfoot gc gk ak fv m j → F j ∨ w.heap.size ≤ j)
theorem HStep.start {w : World} {F : Nat → Prop} {gc gd gl gk ak : Nat} {s : Cs} {l : Lg} {d : Dsk} {M : Int} {N : Nat} {W : World} (h : CStep w F gc gd gl gk ak s l d M N W) : ∃ fv m n, n < 1000000000000 ∧ HStep w F gc gd gl gk ak fv m n s s.fs (whereF s.fs) l d M N W ∧ s.Ok := by
  obtain ⟨o, F', c, k⟩ := h
  obtain ⟨fv, m, n, vl, vs, L, cA, lD, hdis, hF⟩ := c.ex
  exact ⟨fv, m, n, cA.n_lt, ⟨o, vl, vs, L, cA.b, lD, hdis, fun j q => by
    have := hF j q
    rcases Nat.lt_or_ge j w.heap.size with y | y
    · exact Or.inl (k j y this)
    · exact Or.inr y⟩, c.ok⟩
theorem HStep.done {w : World} {F : Nat → Prop} {gc gd gl gk ak : Nat} {fv : Value} {m n : Nat} {s : Cs} {gs : List Fm} {I : Ids} {l : Lg} {d : Dsk} {M : Int} {N : Nat} {W : World} (h : HStep w F gc gd gl gk ak fv m n s gs I l d M N W) (hI : I = whereF gs) (hn : n < 1000000000000) (ok : Cs.Ok { s with fs := gs }) (hF0 : ∀ j, F j → j < w.heap.size) : CStep w F gc gd gl gk ak { s with fs := gs } l d M N W := by
  obtain ⟨o, vl, vs, L, cB, lD, hdis, hF⟩ := h
  refine ⟨o, fun j => lfoot gl gd vl vs L j ∨ cfoot gc gk ak fv m j, ⟨⟨fv, m, n, vl, vs, L, ⟨cB.row, cB.own, by show WMap _ m n (whereF gs); rw [← hI]; exact cB.map, cB.clk, hn⟩, lD, hdis, fun j q => q⟩, ok, fun j q => ?_⟩, fun j hj q => ?_⟩
  · rcases q with q | q
    · exact lD.lt q
    · exact cB.lt q
  · rcases hF j q with y | y
    · exact y
    · omega
theorem HStep.turn {w : World} {F G : Nat → Prop} {gc gd gl gk ak : Nat} {fv fv2 : Value} {m n n2 : Nat} {s s2 : Cs} {gs gs2 : List Fm} {I I2 : Ids} {l : Lg} {d : Dsk} {M M2 : Int} {N : Nat} {W W' : World} (h : HStep w F gc gd gl gk ak fv m n s gs I l d M N W) (hG : ∀ j, G j → cfoot gc gk ak fv m j) (ho : Off G W W') (cB2 : CB W' gc gd gl gk ak fv2 m n2 s2 gs2 I2 M2) (hv : ∀ j, fv2.ownBlock = some j → fv.ownBlock = some j ∨ W.heap.size ≤ j) : HStep w F gc gd gl gk ak fv2 m n2 s2 gs2 I2 l d M2 N W' := by
  obtain ⟨o, vl, vs, L, cB, lD, hdis, hF⟩ := h
  have hc : ∀ j, cfoot gc gk ak fv2 m j → cfoot gc gk ak fv m j ∨ W.heap.size ≤ j := fun j q => by
    rcases q with q | q | q | q
    · exact Or.inl (Or.inl q)
    · rcases hv j q with y | y
      · exact Or.inl (Or.inr (Or.inl y))
      · exact Or.inr y
    · exact Or.inl (Or.inr (Or.inr (Or.inl q)))
    · exact Or.inl (Or.inr (Or.inr (Or.inr q)))
  refine ⟨o.trans ho (fun j q => hF j (Or.inr (hG j q))), vl, vs, L, cB2, lD.off ho (fun j q q2 => hdis j q (hG j q2)), fun j q q2 => ?_, fun j q => ?_⟩
  · rcases hc j q2 with y | y
    · exact hdis j q y
    · have := lD.lt q; omega
  · rcases q with q | q
    · exact hF j (Or.inl q)
    · rcases hc j q with y | y
      · exact hF j (Or.inr y)
      · have := o.size; exact Or.inr (by omega)
theorem HStep.below {w : World} {F : Nat → Prop} {gc gd gl gk ak : Nat} {fv : Value} {m n : Nat} {s : Cs} {gs : List Fm} {I : Ids} {l : Lg} {d : Dsk} {M : Int} {N : Nat} {W W' : World} (h : HStep w F gc gd gl gk ak fv m n s gs I l d M N W) (hb : Below W.heap.size W W') : HStep w F gc gd gl gk ak fv m n s gs I l d M N W' :=
  h.turn (G := fun _ => False) (fun _ q => q.elim) (Off.of_below hb) (by obtain ⟨_, _, _, _, cB, _⟩ := h; exact cB.off (F := fun _ => False) (Off.of_below hb) (fun _ _ q => q)) (fun _ q => Or.inl q)
theorem CB.put {w : World} {gc gd gl gk ak : Nat} {a cap : Nat} {m n : Nat} {s : Cs} {gs : List Fm} {I : Ids} {M : Int} (c : CB w gc gd gl gk ak (.slice (some ⟨a, 0, none⟩) gs.length cap) m n s gs I M) (ok : ∀ f ∈ gs, f.Ok) {i : Nat} {f : Fm} (hf : gs[i]? = some f) (f' : Fm) (hp : f'.p.length = 224) :
    CB (w.setCells a (i * 229) f'.cells) gc gd gl gk ak (.slice (some ⟨a, 0, none⟩) (gs.set i f').length cap) m n s (gs.set i f') I M ∧ Off (· = a) w (w.setCells a (i * 229) f'.cells) := by
  obtain ⟨h1, h2⟩ := own_put ok c.own hf f' hp
  have e : (gs.set i f').length = gs.length := List.length_set ..
  have hne := c.ne
  rw [e]
  refine ⟨⟨c.row.off h2 (fun q => hne.a_gc a rfl q.symm), by rw [e]; exact h1, c.map.off h2 (fun q => hne.a_m a rfl q.symm), c.clk.off h2 (fun k q q2 => hne.a_k a rfl (by rw [← q2]; exact q))⟩, h2⟩
theorem HStep.put {w : World} {F : Nat → Prop} {gc gd gl gk ak : Nat} {a cap : Nat} {m n : Nat} {s : Cs} {gs : List Fm} {I : Ids} {l : Lg} {d : Dsk} {M : Int} {N : Nat} {W : World} (h : HStep w F gc gd gl gk ak (.slice (some ⟨a, 0, none⟩) gs.length cap) m n s gs I l d M N W) (ok : ∀ f ∈ gs, f.Ok) {i : Nat} {f : Fm} (hf : gs[i]? = some f) (f' : Fm) (hp : f'.p.length = 224) :
    HStep w F gc gd gl gk ak (.slice (some ⟨a, 0, none⟩) (gs.set i f').length cap) m n s (gs.set i f') I l d M N (W.setCells a (i * 229) f'.cells) := by
  have h0 := h
  obtain ⟨_, _, _, _, cB, _⟩ := h0
  obtain ⟨h1, h2⟩ := cB.put ok hf f' hp
  exact h.turn (G := (· = a)) (fun j q => Or.inr (Or.inl (by rw [q]; rfl))) h2 h1 (fun j q => Or.inl q)
theorem HStep.mapd {w : World} {F : Nat → Prop} {gc gd gl gk ak : Nat} {fv : Value} {m n n2 : Nat} {s : Cs} {gs : List Fm} {I I2 : Ids} {l : Lg} {d : Dsk} {M : Int} {N : Nat} {W W' : World} (h : HStep w F gc gd gl gk ak fv m n s gs I l d M N W) (hg : W.grownBy W' (some m)) (hm : WMap W' m n2 I2) : HStep w F gc gd gl gk ak fv m n2 s gs I2 l d M N W' := by
  have h0 := h
  obtain ⟨_, _, _, _, cB, _⟩ := h0
  have hne := cB.ne
  have O : Off (· = m) W W' := Off.of_grown hg (fun j q => by cases q; rfl)
  exact h.turn (G := (· = m)) (fun j q => Or.inr (Or.inr (Or.inl q))) O ⟨cB.row.off O hne.gc_m, ownsRow_off cB.own O (fun k q => hne.a_m k q), hm, cB.clk.off O (fun k q e => hne.m_k (by rw [← e]; exact q))⟩ (fun j q => Or.inl q)
theorem HStep.clock {w : World} {F : Nat → Prop} {gc gd gl gk ak : Nat} {fv : Value} {m n : Nat} {s : Cs} {gs : List Fm} {I : Ids} {l : Lg} {d : Dsk} {M M' : Int} {N : Nat} {W W' : World} {ck' : List Cl.Fr} {h' : Nat} (h : HStep w F gc gd gl gk ak fv m n s gs I l d M N W) (hc : Cl.CAt W' gk ak ck' h' M') (O : Off (Cl.two gk ak) W W') : HStep w F gc gd gl gk ak fv m n { s with ck := ck', hand := h' } gs I l d M' N W' := by
  have h0 := h
  obtain ⟨_, _, _, _, cB, _⟩ := h0
  have hne := cB.ne
  exact h.turn (G := Cl.two gk ak) (fun j q => Or.inr (Or.inr (Or.inr q))) O ⟨cB.row.off O hne.gc_k, ownsRow_off cB.own O (fun k q => hne.a_k k q), cB.map.off O hne.m_k, hc⟩ (fun j q => Or.inl q)
theorem HStep.more {w : World} {F : Nat → Prop} {gc gd gl gk ak : Nat} {fv v' : Value} {m n : Nat} {s : Cs} {gs : List Fm} {p : Fm} {I : Ids} {l : Lg} {d : Dsk} {M : Int} {N : Nat} {W W' : World} (h : HStep w F gc gd gl gk ak fv m n s gs I l d M N W) (own : W'.ownsRow 0 122 229 v' (gs ++ [p]).length (flatF (gs ++ [p]))) (hg : W.grownBy W' fv.ownBlock) (hv : v'.ownBlock = fv.ownBlock ∨ v'.ownBlock = some W.heap.size) : HStep w F gc gd gl gk ak v' m n s (gs ++ [p]) I l d M N (W'.setCell ⟨gc, 6, none⟩ v') := by
  have h0 := h
  obtain ⟨_, _, _, _, cB, _⟩ := h0
  have hne := cB.ne
  have O1 : Off (fun j => fv.ownBlock = some j) W W' := Off.of_grown hg (fun j q => q)
  have O2 : Off (· = gc) W' (W'.setCell ⟨gc, 6, none⟩ v') := Off.of_setCell _ _ _ rfl
  have hgc := cB.row.lt
  have hsz := O1.size
  have hva : ∀ j, v'.ownBlock = some j → j ≠ gc := fun j q e => by
    rcases hv with y | y
    · rw [y] at q; exact hne.a_gc j q e
    · rw [y] at q; cases q; omega
  have O : Off (fun j => j = gc ∨ fv.ownBlock = some j) W (W'.setCell ⟨gc, 6, none⟩ v') := (O1.mono fun j q => Or.inl (Or.inr q)).trans O2 (fun j q => Or.inl (Or.inl q))
  have r1 := cB.row.off O1 (fun q => hne.a_gc gc q rfl)
  refine h.turn (G := fun j => j = gc ∨ fv.ownBlock = some j) (fun j q => q.elim Or.inl fun y => Or.inr (Or.inl y)) O ⟨row_set r1 6 _, ownsRow_off own O2 (fun k q => hva k q), ?_, ?_⟩ (fun j q => ?_)
  · exact cB.map.off O (fun q => q.elim (fun e => hne.gc_m e.symm) (fun y => hne.a_m m y rfl))
  · exact cB.clk.off O (fun k q q2 => q2.elim (fun e => hne.gc_k (by rw [← e]; exact q)) (fun y => hne.a_k k y q))
  · rcases hv with y | y
    · exact Or.inl (by rw [← y]; exact q)
    · rw [y] at q; cases q; exact Or.inr (Nat.le_refl _)
theorem id_inv {v : Value} {l : Lit} (h : keyOf Try.prog 31 v = some l) : ∃ u k, v = idv u k ∧ WfU k ∧ l = idl u k := by
  obtain ⟨m, hm⟩ := types_pos
  cases v with
  | agg cs =>
    have hf : (Value.agg cs).formed Try.prog 31 = decide (cs.size = 2) := by
      unfold Value.formed
      rw [Try.underlying31]
      simp only [cells31]
      rfl
    unfold keyOf at h
    rw [Try.underlying31] at h
    simp only [keyType31, hf, Bool.true_and] at h
    obtain ⟨cs⟩ := cs
    by_cases hc : cs.length = 2
    · match cs, hc with
      | [x, y], _ =>
        simp only [List.size_toArray, List.length_cons, List.length_nil, Nat.zero_add, Nat.reduceAdd, decide_true, if_true] at h
        rw [hm] at h
        change (Try.prog.keyLits (m + 1 + 1) 31 [x, y]).map _ = _ at h
        unfold Program.keyLits at h
        rw [Try.underlying31] at h
        have hall : (#[({ name := "Undo", type := 4, offset := 0, embedded := false, tag := "", pkgPath := "", byteOffset := 0 } : Field), { name := "No", type := 29, offset := 1, embedded := false, tag := "", pkgPath := "", byteOffset := 2 }].all (·.name != "_")) = true := by decide +kernel
        simp only [cells31, hall, List.length_cons, List.length_nil, and_self, if_true] at h
        simp only [List.mapM_cons, List.mapM_nil, cells4i, cells29, List.drop_zero, List.drop_succ_cons, List.take_succ_cons, List.take_zero] at h
        unfold Program.keyLits at h
        rw [Try.underlying4, Try.underlying29] at h
        cases x with
        | bool u =>
          cases y with
          | int q k =>
            by_cases hq : q = .u16 ∧ (Lit.int .u16 k).wf = true
            · obtain ⟨rfl, hk⟩ := hq
              refine ⟨u, k, rfl, hk, ?_⟩
              have := id_mk (u := u) (k := k) hk
              simp [hk] at h
              rw [← h]; rfl
            · exfalso
              simp only [hq, if_false] at h
              simp at h
          | _ => simp at h
        | _ => simp at h
    · exfalso
      have : decide ((⟨cs⟩ : Array Value).size = 2) = false := decide_eq_false hc
      rw [this] at h
      simp at h
  | _ => unfold keyOf at h; rw [Try.underlying31] at h; simp [Value.formed, Try.underlying31] at h
theorem WMap.few {w : World} {a n : Nat} {gs : List Fm} (h : WMap w a n (whereF gs)) : WMap w a gs.length (whereF gs) := by
  obtain ⟨D, ⟨es, clock, hb, F, hs, rfl⟩, hh⟩ := h
  refine ⟨_, ⟨es, clock, hb, F, ?_, rfl⟩, hh⟩
  have hn : es.toList.Pairwise (fun x y => x.key ≠ y.key) := ((MapKept.stamped_iff es clock).1 F.stamped).2.2
  have hnd : (es.toList.map (·.key)).Nodup := by
    rw [List.Nodup, List.pairwise_map]; exact hn
  have hsub : es.toList.map (·.key) ⊆ gs.map (fun f => idv f.un f.no) := by
    intro v hv
    obtain ⟨x, hx, rfl⟩ := List.mem_map.1 hv
    obtain ⟨y, hy⟩ := F.reads x hx
    have hk := WideElems.rd_key hy
    obtain ⟨u, k, e1, hw, e2⟩ := id_inv hk
    have hhas : Maps.has (.map ((es.toList.map (WideElems.rg Try.prog 31 numR)).foldr DataW.insert [])) (idl u k) = true :=
      List.any_eq_true.2 ⟨WideElems.rg Try.prog 31 numR x, mem_sorted.2 (List.mem_map.2 ⟨x, hx, rfl⟩), by rw [WideElems.rg_of hy, e2]; exact WideAt.sameKey_self (idl_key hw)⟩
    cases hp : posF gs u k with
    | none =>
      have := (hh u k hw).1 (where_none hp)
      rw [this] at hhas; cases hhas
    | some i =>
      obtain ⟨f, hf, e3, e4⟩ := posF_some hp
      exact List.mem_map.2 ⟨f, List.mem_of_getElem? hf, by rw [e1, e3, e4]⟩
  have := hnd.length_le_of_subset hsub
  simpa using this
theorem HStep.done2 {w : World} {F : Nat → Prop} {gc gd gl gk ak : Nat} {fv : Value} {m n : Nat} {s : Cs} {gs : List Fm} {I : Ids} {l : Lg} {d : Dsk} {M : Int} {N : Nat} {W : World} (h : HStep w F gc gd gl gk ak fv m n s gs I l d M N W) (hI : I = whereF gs) (ok : Cs.Ok { s with fs := gs }) (hF0 : ∀ j, F j → j < w.heap.size) : CStep w F gc gd gl gk ak { s with fs := gs } l d M N W := by
  subst hI
  obtain ⟨o, vl, vs, L, cB, lD, hdis, hF⟩ := h
  have h2 : HStep w F gc gd gl gk ak fv m gs.length s gs (whereF gs) l d M N W := ⟨o, vl, vs, L, ⟨cB.row, cB.own, cB.map.few, cB.clk⟩, lD, hdis, hF⟩
  refine h2.done rfl ?_ ok hF0
  have h3 := ok.few
  have h4 := ok.most.2
  simp only at h3 h4
  omega
end Go.Proofs.Ytehogiondcpbcaa
