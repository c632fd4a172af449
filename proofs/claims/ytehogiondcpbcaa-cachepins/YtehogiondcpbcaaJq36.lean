/-
  The laws' caches in memory: fetches, puts and writes of the laws' own. Plain facts: how often pages are held, behind each of the statements' calls. The laws' caches in memory, with how often pages are held.
-/
import Derived.Test.YtehogiondcpbcaaJq35
namespace Go.Proofs.Ytehogiondcpbcaa
open Go.ChangeShapes Go.WideShapes Go.ChangeAt Go.RowKit
set_option linter.unusedVariables false
set_option linter.unusedSimpArgs false
set_option maxRecDepth 20000
theorem Fetches.len {s : Cs} {l : Lg} {d : Dsk} {u : Bool} {k : Int} {p : List Int} {E : Int} {s' : Cs} {l' : Lg} {d' : Dsk} (h : Fetches s l d u k p E s' l' d') (ok : s.Ok) (ok' : s'.Ok) : p.length = 224 := by
  rcases h with ⟨h1, rfl, _⟩ | ⟨h0, i, f, h1, h2, rfl, _⟩ | ⟨h0, h1, i1, E1, s1, hl, ⟨h2, rfl, _⟩ | ⟨rfl, rfl, rfl, f, hf, rfl⟩⟩
  · exact zs_length _
  · exact (ok.fs f (List.mem_of_getElem? h2)).len
  · exact zs_length _
  · exact (ok'.fs f (List.mem_of_getElem? (show (fetchP s1 i1).fs[i1]? = some f from hf))).len
theorem Sit.step {w0 : World} {F : Nat → Prop} {gc gd gl gk ak : Nat} {s s' : Cs} {l l' : Lg} {d d' : Dsk} {k : Nat} {last last' : Bool → Int → List Int} {W w' : World} (h : Sit w0 F gc gd gl gk ak s l d k last W) (hk : k ≤ 1000) {M : Int} {N : Nat} (hst : CStep W F gc gd gl gk ak s' l' d' M N w') (hM : M ≤ k + 1) (hN : N ≤ 4004 * k + 4004) (st : St s' l' d' (k + 1) last') : ∃ F', Sit w0 F' gc gd gl gk ak s' l' d' (k + 1) last' w' ∧ Tr F W F' w' := by
  have h2 : CStep W F gc gd gl gk ak s' l' d' ((k + 1 : Nat) : Int) (4004 * (k + 1)) w' := (hst.growM (M' := ((k + 1 : Nat) : Int)) (by push_cast; omega) (by push_cast; omega)).grow (by omega) (by omega)
  obtain ⟨F', c1, c2⟩ := h.cs.step h2
  exact ⟨F', ⟨c1, st⟩, c2⟩
def FetQ (w0 : World) (F : Nat → Prop) (gc gd gl gk ak : Nat) (k : Nat) (last : Bool → Int → List Int) (u : Bool) (j : Int) (W : World) (e : Ending) (w' : World) : Prop :=
  ∃ (p : List Int) (E : Int) (F' : Nat → Prop) (s' : Cs) (l' : Lg) (d' : Dsk), e = .returned (.tuple #[.agg (bs p), .int .i64 E]) ∧ p.length = 224 ∧ Sit w0 F' gc gd gl gk ak s' l' d' (k + 1) last w' ∧ Tr F W F' w' ∧ (E = 0 → p = last u j ∧ Pg u j)
theorem Sit.fetch {w0 : World} {F : Nat → Prop} {gc gd gl gk ak : Nat} {s : Cs} {l : Lg} {d : Dsk} {k : Nat} {last : Bool → Int → List Int} {W : World} (h : Sit w0 F gc gd gl gk ak s l d k last W) (hk : k ≤ 1000) (u : Bool) {j : Int} (hj : 0 ≤ j ∧ j ≤ 65535) : Calls Try.prog 16 #[.pointer (some ⟨gc, 0, none⟩), .agg #[.bool u, .int .u16 j]] W fun e w' => FetQ w0 F gc gd gl gk ak k last u j W e w' := by
  obtain ⟨h1, h2⟩ := h.ops hk
  refine (fetch_any h.cs.2.1 u j (wfu_mk hj) h.st.pi.inv (by omega) h1 (flush_ops h.st.pi.inv d) (by omega) (by omega)).mono ?_
  rintro e w' ⟨p, E, s', l', d', hf, he, hst⟩
  obtain ⟨st', hE⟩ := h.st.fetch h.cs.2.1.ok hk hj.1 hf
  obtain ⟨F', sit, tr⟩ := h.step hk hst (by omega) (by omega) st'
  exact ⟨p, E, F', s', l', d', he, hf.len h.cs.2.1.ok sit.cs.2.1.ok, sit, tr, hE⟩
theorem Sit.append {w0 : World} {F : Nat → Prop} {gc gd gl gk ak : Nat} {s : Cs} {l : Lg} {d : Dsk} {k : Nat} {last : Bool → Int → List Int} {W : World} (h : Sit w0 F gc gd gl gk ak s l d k last W) (hk : k ≤ 1000) (t : ByteArray) (ht : t.size ≤ maxLen) : Calls Try.prog 17 #[.pointer (some ⟨gl, 0, none⟩), .string t] W fun e w' => e = .returned (.tuple #[.int .u64 (appA l t), .int .i64 (appE l t)]) ∧ ∃ F', Sit w0 F' gc gd gl gk ak s (appL l t) d (k + 1) last w' ∧ Tr F W F' w' := by
  obtain ⟨h1, h2⟩ := h.ops hk
  refine (h.cs.2.1.append h.st.pi.inv h2 t ht).mono ?_
  rintro e w' ⟨he, hst⟩
  exact ⟨he, h.step hk hst (by omega) (by omega) (h.st.append hk t)⟩
theorem Sit.put {w0 : World} {F : Nat → Prop} {gc gd gl gk ak : Nat} {s : Cs} {l : Lg} {d : Dsk} {k : Nat} {last : Bool → Int → List Int} {W : World} (h : Sit w0 F gc gd gl gk ak s l d k last W) (hk : k ≤ 1000) (u : Bool) {j : Int} (hj : 0 ≤ j ∧ j ≤ 65535) (p : List Int) (hp : p.length = 224) (hb : Bytes p) (hl : lsnP p < l.fin) : Calls Try.prog 18 #[.pointer (some ⟨gc, 0, none⟩), .agg #[.bool u, .int .u16 j], .agg (bs p)] W fun e w' => e = .returned (.int .i64 (putE s u j p)) ∧ ∃ F', Sit w0 F' gc gd gl gk ak (putS s u j p) l d (k + 1) (if putE s u j p = 0 then lastP last u j p else last) w' ∧ Tr F W F' w' := by
  refine (cput_any h.cs.2.1 u j (wfu_mk hj) p hp hb).mono ?_
  rintro e w' ⟨he, hst⟩
  exact ⟨he, h.step hk hst (by omega) (by omega) ((h.st.put h.cs.2.1.ok hl).mono (by omega))⟩
theorem Sit.idle {w0 : World} {F : Nat → Prop} {gc gd gl gk ak : Nat} {s : Cs} {l : Lg} {d : Dsk} {k : Nat} {last : Bool → Int → List Int} {W : World} (h : Sit w0 F gc gd gl gk ak s l d k last W) {A : Nat} {c0 : Array Value} {t : TypeId} (hl : CLoc F W A c0 t) (hA : w0.heap.size ≤ A) (cs : Array Value) : Sit w0 F gc gd gl gk ak s l d k last (W.setRow A cs) := ⟨h.cs.row hl hA cs, h.st⟩
def pinsAt (ck : List Cl.Fr) (i : Nat) : Int := ((ck[i]?).map Cl.Fr.pins).getD 0
theorem pinsC_is (s : Cs) (u : Bool) (k : Int) : pinsC s u k = match posF s.fs u k with | some i => pinsAt s.ck i | none => 0 := rfl
structure Zr (s : Cs) : Prop where
  nos : ∀ (j : Nat) (x : Cl.Fr), s.ck[j]? = some x → x.no = j
  zero : ∀ j, s.fs.length ≤ j → pinsAt s.ck j = 0
theorem pins_set {ck : List Cl.Fr} {i : Nat} {x y : Cl.Fr} (h : ck[i]? = some x) (j : Nat) : pinsAt (ck.set i y) j = if j = i then y.pins else pinsAt ck j := by
  unfold pinsAt
  by_cases e : j = i
  · subst e
    rw [if_pos rfl, List.getElem?_set_self (List.getElem?_eq_some_iff.1 h).1]; rfl
  · rw [if_neg e, List.getElem?_set_ne (Ne.symm e)]
theorem pins_same2 {ck ck' : List Cl.Fr} (h : Cl.Same ck ck') (j : Nat) : pinsAt ck' j = pinsAt ck j := by
  unfold pinsAt
  cases q : ck[j]? with
  | none =>
    have := List.getElem?_eq_none_iff.1 q
    rw [List.getElem?_eq_none (by rw [h.1]; exact this)]
  | some x =>
    obtain ⟨y, hy, _, e⟩ := h.2 j x q
    rw [hy]; exact e
theorem vict_zero {R : List Cl.Fr} {v : Nat} {S : List Cl.Fr} (h : Cl.Vict R v true S) : ∃ x ∈ R, x.no = v ∧ x.pins = 0 := by
  have hv : ∀ {R S : List Cl.Fr} {v : Nat}, Cl.Vic R v S → ∃ x ∈ R, x.no = v ∧ x.pins = 0 := fun {R S v} q => by
    induction q with
    | hit x T h => exact ⟨x, by simp, rfl, h.1⟩
    | pass x T v S h q ih =>
      obtain ⟨y, hy, e1, e2⟩ := ih
      rcases List.mem_append.1 hy with q | q
      · exact ⟨y, by simp [q], e1, e2⟩
      · simp at q
        subst q
        refine ⟨x, by simp, ?_, ?_⟩
        · rw [← e1]; unfold Cl.Fr.pass; split <;> rfl
        · rw [← e2]; unfold Cl.Fr.pass; split <;> rfl
  rcases h with ⟨A, x, B, e, hA, hx, e1, _, _⟩ | ⟨_, _, hq, _⟩ | ⟨_, _, e, _⟩
  · exact ⟨x, by rw [e]; simp, e1.symm, by unfold Cl.Fr.cf at hx; simp at hx; exact hx.2⟩
  · exact hv hq
  · cases e
theorem mem_ring {fs : List Cl.Fr} {h : Nat} {x : Cl.Fr} (hx : x ∈ Cl.ring fs h) : x ∈ fs := by
  unfold Cl.ring at hx
  rcases List.mem_append.1 hx with q | q
  · exact List.mem_of_mem_drop q
  · exact List.mem_of_mem_take q
theorem pinsC_of {s s' : Cs} (h1 : ∀ u k, posF s'.fs u k = posF s.fs u k) (h2 : ∀ j, pinsAt s'.ck j = pinsAt s.ck j) (u : Bool) (k : Int) : pinsC s' u k = pinsC s u k := by
  rw [pinsC_is, pinsC_is, h1]
  split
  · exact h2 _
  · rfl
theorem Vac.pins {s : Cs} {l : Lg} {d : Dsk} {i : Nat} {E : Int} {s1 : Cs} {l1 : Lg} {d1 : Dsk} (h : Vac s l d i E s1 l1 d1) (z : Zr s) (ok : s.Ok) : (∀ j, pinsAt s1.ck j = pinsAt s.ck j) ∧ (E = 0 → pinsAt s1.ck i = 0) := by
  rcases h with ⟨h1, rfl, rfl, rfl, rfl, rfl⟩ | ⟨h1, b, v, ck', h', h2, h3, ⟨rfl, rfl, rfl, rfl, rfl, rfl⟩ | ⟨rfl, rfl, f, hf, h5⟩⟩
  · exact ⟨fun _ => rfl, fun _ => z.zero _ (Nat.le_refl _)⟩
  · exact ⟨fun j => pins_same2 h3 j, fun q => by cases q⟩
  · have hck : s1.ck = ck' := by
      rcases h5 with ⟨_, _, rfl, _, _⟩ | ⟨_, _, rfl, _, _⟩
      · rfl
      · split <;> rfl
    rw [hck]
    refine ⟨fun j => pins_same2 h3 j, fun _ => ?_⟩
    rw [pins_same2 h3]
    obtain ⟨x, hx, e1, e2⟩ := vict_zero h2
    obtain ⟨n, hn, hne⟩ := List.mem_iff_getElem.1 (mem_ring hx)
    have hxn : s.ck[n]? = some x := by rw [← hne]; exact List.getElem?_eq_getElem hn
    have := z.nos n x hxn
    have hi : i = n := by omega
    unfold pinsAt
    rw [hi, hxn]; exact e2
theorem takeF_ne {fs : List Fm} {i j : Nat} {f' : Fm} (hi : i ≤ fs.length) (h : j ≠ i) : (takeF fs i f')[j]? = fs[j]? := by
  unfold takeF
  split
  · rename_i e
    by_cases q : j < fs.length
    · rw [List.getElem?_append_left q]
    · rw [List.getElem?_eq_none (by simp; omega), List.getElem?_eq_none (by omega)]
  · rw [List.getElem?_set_ne (Ne.symm h)]
theorem takeF_at {fs : List Fm} {i : Nat} {f' : Fm} (hi : i ≤ fs.length) : (takeF fs i f')[i]? = some f' := by
  unfold takeF
  split
  · rename_i e; rw [e]; simp
  · rw [List.getElem?_set_self (by omega)]
theorem takeF_len {fs : List Fm} {i : Nat} {f' : Fm} : fs.length ≤ (takeF fs i f').length := by
  unfold takeF
  split
  · simp
  · rw [List.length_set]; exact Nat.le_refl _
theorem load_pins {s1 : Cs} {i : Nat} {f' : Fm} {u : Bool} {k : Int} (one1 : OneF s1.fs) (hu : f'.un = u) (hk : f'.no = k) (hn : posF s1.fs u k = none) (hi : i ≤ s1.fs.length) (one2 : OneF (takeF s1.fs i f')) (h0 : pinsAt s1.ck i = 0) :
    (∀ j, pinsAt (loadS s1 i f').ck j = pinsAt s1.ck j) ∧ (∀ u' k', pinsC (loadS s1 i f') u' k' = pinsC s1 u' k') ∧ posF (loadS s1 i f').fs u k = some i := by
  have hp : ∀ j, pinsAt (loadS s1 i f').ck j = pinsAt s1.ck j := fun j => by
    show pinsAt (match s1.ck[i]? with | some x => s1.ck.set i { x with seen := false, cold := false } | none => s1.ck) j = _
    cases q : s1.ck[i]? with
    | none => rfl
    | some x =>
      show pinsAt (s1.ck.set i _) j = _
      rw [pins_set q]
      split
      · rename_i e; rw [e]; unfold pinsAt; rw [q]; rfl
      · rfl
  have hpos : posF (takeF s1.fs i f') u k = some i := (posF_iff one2).2 ⟨f', takeF_at hi, hu, hk⟩
  refine ⟨hp, fun u' k' => ?_, hpos⟩
  rw [pinsC_is, pinsC_is]
  show (match posF (takeF s1.fs i f') u' k' with | some j => pinsAt (loadS s1 i f').ck j | none => 0) = _
  cases h' : posF (takeF s1.fs i f') u' k' with
  | some j =>
    show pinsAt (loadS s1 i f').ck j = _
    rw [hp]
    obtain ⟨g, hg, e1, e2⟩ := posF_some h'
    by_cases hj : j = i
    · subst hj
      rw [takeF_at hi] at hg
      cases hg
      rw [← e1, ← e2, hu, hk, hn, h0]
    · rw [takeF_ne hi hj] at hg
      rw [(posF_iff one1).2 ⟨g, hg, e1, e2⟩]
  | none =>
    cases h1 : posF s1.fs u' k' with
    | none => rfl
    | some j =>
      obtain ⟨g, hg, e1, e2⟩ := posF_some h1
      by_cases hj : j = i
      · subst hj; exact h0.symm
      · have : posF (takeF s1.fs i f') u' k' = some j := (posF_iff one2).2 ⟨g, by rw [takeF_ne hi hj]; exact hg, e1, e2⟩
        rw [h'] at this; cases this
theorem hold_pins {s : Cs} {i : Nat} {u : Bool} {k : Int} {n : Int} {ck' : List Cl.Fr} (hp : posF s.fs u k = some i) (hck : ∀ j, pinsAt ck' j = if j = i then pinsAt s.ck i + n else pinsAt s.ck j) (s' : Cs) (h1 : s'.fs = s.fs) (h2 : s'.ck = ck') (u' : Bool) (k' : Int) :
    pinsC s' u' k' = if u' = u ∧ k' = k then pinsC s u k + n else pinsC s u' k' := by
  rw [pinsC_is, pinsC_is, pinsC_is, h1, h2]
  by_cases e : u' = u ∧ k' = k
  · obtain ⟨rfl, rfl⟩ := e
    rw [if_pos ⟨rfl, rfl⟩, hp]
    show pinsAt ck' i = _
    rw [hck, if_pos rfl]
  · rw [if_neg e]
    cases h' : posF s.fs u' k' with
    | none => rfl
    | some j =>
      show pinsAt ck' j = pinsAt s.ck j
      rw [hck, if_neg]
      intro hj
      subst hj
      obtain ⟨g, hg, e1, e2⟩ := posF_some h'
      obtain ⟨g2, hg2, e3, e4⟩ := posF_some hp
      rw [hg] at hg2; cases hg2
      exact e ⟨e1.symm.trans e3, e2.symm.trans e4⟩
theorem fetchP_pins {s : Cs} {i : Nat} (hi : i < s.ck.length) (j : Nat) : pinsAt (fetchP s i).ck j = if j = i then pinsAt s.ck i + 1 else pinsAt s.ck j := by
  obtain ⟨x, hx⟩ : ∃ x, s.ck[i]? = some x := ⟨_, List.getElem?_eq_getElem hi⟩
  show pinsAt (match s.ck[i]? with | some x => s.ck.set i { x with seen := true, pins := x.pins + 1 } | none => s.ck) j = _
  rw [hx]
  show pinsAt (s.ck.set i _) j = _
  rw [pins_set hx]
  split
  · unfold pinsAt; rw [hx]; rfl
  · rfl
theorem fetchP_len (s : Cs) (i : Nat) : (fetchP s i).ck.length = s.ck.length := by
  show (match s.ck[i]? with | some x => s.ck.set i { x with seen := true, pins := x.pins + 1 } | none => s.ck).length = _
  split
  · exact List.length_set ..
  · rfl
theorem one_set {fs : List Fm} (one : OneF fs) {i : Nat} {f f' : Fm} (h : fs[i]? = some f) (h1 : f'.un = f.un) (h2 : f'.no = f.no) : OneF (fs.set i f') := fun a b x y ha hb e1 e2 => by
  rcases set_at ha with ⟨n1, ha2⟩ | ⟨n1, rfl⟩
  · rcases set_at hb with ⟨n2, hb2⟩ | ⟨n2, rfl⟩
    · exact one a b x y ha2 hb2 e1 e2
    · rw [n2]; exact one a i x f ha2 h (e1.trans h1) (e2.trans h2)
  · rcases set_at hb with ⟨n2, hb2⟩ | ⟨n2, rfl⟩
    · rw [n1]; exact one i b f y h hb2 (h1.symm.trans e1) (h2.symm.trans e2)
    · omega
theorem Vac.one {s : Cs} {l : Lg} {d : Dsk} {i : Nat} {E : Int} {s1 : Cs} {l1 : Lg} {d1 : Dsk} (h : Vac s l d i E s1 l1 d1) (ok : s.Ok) : OneF s1.fs := by
  rcases h with ⟨h1, rfl, rfl, rfl, rfl, rfl⟩ | ⟨h1, b, v, ck', h', h2, h3, ⟨rfl, rfl, rfl, rfl, rfl, rfl⟩ | ⟨rfl, rfl, f, hf, ⟨h6, rfl, rfl, rfl, rfl⟩ | ⟨h6, rfl, rfl, rfl, rfl⟩⟩⟩
  · exact ok.one
  · exact ok.one
  · exact ok.one
  · split
    · exact one_set ok.one hf rfl rfl
    · exact ok.one
theorem Fetches.pins {s : Cs} {l : Lg} {d : Dsk} {u : Bool} {k : Int} {p : List Int} {E : Int} {s' : Cs} {l' : Lg} {d' : Dsk} (h : Fetches s l d u k p E s' l' d') (z : Zr s) (ok : s.Ok) (ok' : s'.Ok) :
    (∀ j, s'.fs.length ≤ j → pinsAt s'.ck j = 0) ∧ ∀ u' k', pinsC s' u' k' = if E = 0 ∧ u' = u ∧ k' = k then pinsC s u k + 1 else pinsC s u' k' := by
  have hne : ∀ {E : Int} (hE : E ≠ 0) {A : Int} {B : Int} (u' : Bool) (k' : Int), (if E = 0 ∧ u' = u ∧ k' = k then A else B) = B := fun hE _ _ u' k' => if_neg fun q => hE q.1
  rcases h with ⟨h1, rfl, rfl, rfl, rfl, rfl⟩ | ⟨h0, i, f, h1, h2, rfl, rfl, rfl, rfl, rfl⟩ | ⟨h0, h1, i1, E1, s1, hl, hr⟩
  · exact ⟨z.zero, fun u' k' => (hne (by decide) u' k').symm⟩
  · have hil := (List.getElem?_eq_some_iff.1 h2).1
    have hic : i < s.ck.length := by have := ok.ck; have := ok.few; omega
    have hf := fetchP_pins (s := s) hic
    refine ⟨fun j hj => ?_, fun u' k' => ?_⟩
    · have hj2 : s.fs.length ≤ j := hj
      rw [hf, if_neg (by omega)]; exact z.zero j hj2
    · rw [hold_pins h1 hf (fetchP s i) rfl rfl]
      simp
  · obtain ⟨i2, E2, s2, d2, hv, hr2⟩ := hl
    have vf := hv.f ok
    obtain ⟨v1, v2⟩ := hv.pins z ok
    have hvp : ∀ u' k', pinsC s2 u' k' = pinsC s u' k' := fun u' k' => pinsC_of vf.pos v1 u' k'
    have hvz : ∀ j, s2.fs.length ≤ j → pinsAt s2.ck j = 0 := fun j hj => by rw [v1]; exact z.zero j (by rw [← vf.len]; exact hj)
    rcases hr with ⟨h2, rfl, rfl, rfl⟩ | ⟨rfl, rfl, rfl, f, hf, rfl⟩
    · rcases hr2 with ⟨_, _, _, rfl, _⟩ | ⟨_, _, _, _, rfl, _⟩ | ⟨_, _, _, e, _⟩
      · exact ⟨hvz, fun u' k' => by rw [hne h2]; exact hvp u' k'⟩
      · exact ⟨hvz, fun u' k' => by rw [hne h2]; exact hvp u' k'⟩
      · exact absurd e h2
    · rcases hr2 with ⟨q, _, e, _⟩ | ⟨_, q, _, e, _⟩ | ⟨hE2, _, rfl, _, rfl, _⟩
      · exact absurd e.symm q
      · exact absurd e.symm q
      · have hn2 : posF s2.fs u k = none := by rw [vf.pos]; exact h1
        have hi2 : i1 ≤ s2.fs.length := by have := vf.at_.2; have := vf.len; omega
        obtain ⟨g1, g2⟩ : (openF u k (read d2 (placeC s.pages u k)).1).un = u ∧ (openF u k (read d2 (placeC s.pages u k)).1).no = k := by unfold openF; split <;> exact ⟨rfl, rfl⟩
        generalize openF u k (read d2 (placeC s.pages u k)).1 = f' at *
        have one2 : OneF (takeF s2.fs i1 f') := ok'.one
        have one1 : OneF s2.fs := hv.one ok
        obtain ⟨p1, p2, p3⟩ := load_pins (s1 := s2) one1 g1 g2 hn2 hi2 one2 (v2 hE2)
        have hic : i1 < (loadS s2 i1 f').ck.length := by
          have h3 : (fetchP (loadS s2 i1 f') i1).ck.length = (loadS s2 i1 f').most := ok'.ck
          rw [fetchP_len] at h3
          have h4 : (loadS s2 i1 f').most = s.most := vf.most
          have := vf.at_.1
          omega
        have hfp := fetchP_pins (s := loadS s2 i1 f') hic
        refine ⟨fun j hj => ?_, fun u' k' => ?_⟩
        · have hj2 : (takeF s2.fs i1 f').length ≤ j := hj
          have hj3 := takeF_len (fs := s2.fs) (i := i1) (f' := f')
          have hj4 := (List.getElem?_eq_some_iff.1 (takeF_at (fs := s2.fs) (i := i1) (f' := f') hi2)).1
          rw [hfp, if_neg (by omega), p1]
          exact hvz j (by omega)
        · rw [hold_pins p3 hfp (fetchP (loadS s2 i1 f') i1) rfl rfl, p2, p2, hvp, hvp]
          simp
theorem unpin_pins {s : Cs} (z : Zr s) (ok : s.Ok) (u : Bool) (k : Int) : (∀ j, (unpinS s u k).fs.length ≤ j → pinsAt (unpinS s u k).ck j = 0) ∧ ∀ u' k', pinsC (unpinS s u k) u' k' = if unpinE s u k = 0 ∧ u' = u ∧ k' = k then pinsC s u k - 1 else pinsC s u' k' := by
  unfold unpinS unpinE
  cases hp : posF s.fs u k with
  | none =>
    have h0 : pinsC s u k = 0 := by rw [pinsC_is, hp]
    rw [h0]
    exact ⟨z.zero, fun u' k' => by simp⟩
  | some i =>
    by_cases h0 : pinsC s u k = 0
    · rw [if_pos h0]
      simp only [h0, if_true]
      exact ⟨z.zero, fun u' k' => by simp⟩
    · simp only [if_neg h0]
      obtain ⟨f, hf, _⟩ := posF_some hp
      have hil := (List.getElem?_eq_some_iff.1 hf).1
      have hic : i < s.ck.length := by have := ok.ck; have := ok.few; omega
      obtain ⟨x, hx⟩ : ∃ x, s.ck[i]? = some x := ⟨_, List.getElem?_eq_getElem hic⟩
      have hfp : ∀ j, pinsAt (setPins s i (-1)).ck j = if j = i then pinsAt s.ck i + -1 else pinsAt s.ck j := fun j => by
        show pinsAt (match s.ck[i]? with | some x => s.ck.set i { x with pins := x.pins + -1 } | none => s.ck) j = _
        rw [hx]
        show pinsAt (s.ck.set i _) j = _
        rw [pins_set hx]
        split
        · unfold pinsAt; rw [hx]; rfl
        · rfl
      refine ⟨fun j hj => ?_, fun u' k' => ?_⟩
      · have hj2 : s.fs.length ≤ j := hj
        rw [hfp, if_neg (by omega)]; exact z.zero j hj2
      · rw [hold_pins hp hfp (setPins s i (-1)) rfl rfl]
        simp only [true_and]
        split
        · omega
        · rfl
theorem DoR.pins {s : Cs} {l : Lg} {d : Dsk} {o : XO} {s' : Cs} {l' : Lg} {d' : Dsk} (h : DoR s l d o s' l' d') (h0 : o.kd ≠ 0) (h1 : o.kd ≠ 1) (z : Zr s) (ok : s.Ok) : (∀ j, s'.fs.length ≤ j → pinsAt s'.ck j = 0) ∧ ∀ u k, pinsC s' u k = pinsC s u k := by
  have hput : ∀ (u : Bool) (k : Int) (p : List Int), (∀ j, (putS s u k p).fs.length ≤ j → pinsAt (putS s u k p).ck j = 0) ∧ ∀ u' k', pinsC (putS s u k p) u' k' = pinsC s u' k' := fun u k p => by
    unfold putS
    split
    · cases hp : posF s.fs u k with
      | none => exact ⟨z.zero, fun _ _ => rfl⟩
      | some i =>
        obtain ⟨f, hf, _⟩ := posF_some hp
        simp only [hf]
        exact ⟨fun j hj => z.zero j (by rw [List.length_set] at hj; exact hj), fun u' k' => pinsC_of (s := s) (s' := { s with fs := s.fs.set i (putF f p) }) (fun a b => posF_set (f' := putF f p) hf rfl rfl a b) (fun _ => rfl) u' k'⟩
    · exact ⟨z.zero, fun _ _ => rfl⟩
  rcases h with ⟨q, _⟩ | ⟨q, _⟩ | ⟨q, rfl, rfl, rfl⟩ | ⟨q, rfl, rfl, rfl⟩ | ⟨q, rfl, rfl, rfl⟩ | ⟨q, rfl, rfl, rfl⟩ | ⟨q, rfl, rfl, rfl⟩ | ⟨_, _, _, _, _, _, _, rfl, rfl, rfl⟩
  · exact absurd q h0
  · exact absurd q h1
  · split
    · exact hput _ _ _
    · exact ⟨z.zero, fun _ _ => rfl⟩
  · unfold writeR
    cases hp : posF s.fs o.u o.k with
    | none => exact ⟨z.zero, fun _ _ => rfl⟩
    | some i =>
      obtain ⟨f, hf, _⟩ := posF_some hp
      simp only [hf]
      split
      · split
        · exact ⟨fun j hj => z.zero j (by rw [cleanF_fs, List.length_set] at hj; exact hj), fun u' k' => pinsC_of (s := s) (s' := cleanF s i f) (fun a b => posF_set (f' := { f with dirty := false }) hf rfl rfl a b) (fun _ => rfl) u' k'⟩
        · exact ⟨z.zero, fun _ _ => rfl⟩
      · exact ⟨z.zero, fun _ _ => rfl⟩
  · unfold coldS
    cases hp : posF s.fs o.u o.k with
    | none => exact ⟨z.zero, fun _ _ => rfl⟩
    | some i =>
      have hck : ∀ j, pinsAt (setCold s i (decide (o.b % 2 = 1))).ck j = pinsAt s.ck j := fun j => by
        show pinsAt (match s.ck[i]? with | some x => s.ck.set i { x with cold := decide (o.b % 2 = 1) } | none => s.ck) j = _
        cases q : s.ck[i]? with
        | none => rfl
        | some x =>
          show pinsAt (s.ck.set i _) j = _
          rw [pins_set q]
          split
          · rename_i e; rw [e]; unfold pinsAt; rw [q]; rfl
          · rfl
      exact ⟨fun j hj => by rw [hck]; exact z.zero j hj, fun u' k' => pinsC_of (s := s) (s' := setCold s i (decide (o.b % 2 = 1))) (fun _ _ => rfl) hck u' k'⟩
  · exact ⟨z.zero, fun _ _ => rfl⟩
  · exact ⟨z.zero, fun _ _ => rfl⟩
  · exact ⟨z.zero, fun _ _ => rfl⟩
def cntQ (P : Nat → Bool) : Nat → Nat
  | 0 => 0
  | m + 1 => cntQ P m + (if P m = true then 1 else 0)
theorem cntQ_lt (P Q R : Nat → Bool) : ∀ m, (∀ q, q < m → P q = true → Q q = true ∨ R q = true) → cntQ P m ≤ cntQ Q m + cntQ R m
  | 0, _ => Nat.le_refl _
  | m + 1, h => by
    have ih := cntQ_lt P Q R m (fun q hq => h q (by omega))
    have hm := h m (by omega)
    unfold cntQ
    cases hP : P m <;> cases hQ : Q m <;> cases hR : R m <;> simp_all <;> omega
theorem cntQ_one (P : Nat → Bool) (h : ∀ a b, P a = true → P b = true → a = b) : ∀ m, cntQ P m ≤ 1
  | 0 => by show 0 ≤ 1; omega
  | m + 1 => by
    have ih := cntQ_one P h m
    unfold cntQ
    by_cases hP : P m = true
    · have h0 : ∀ n, n ≤ m → cntQ P n = 0 := fun n => by
        induction n with
        | zero => intro _; rfl
        | succ n ihn =>
          intro hn
          unfold cntQ
          rw [ihn (by omega), if_neg]
          intro q
          have := h n m q hP
          omega
      rw [h0 m (Nat.le_refl _), if_pos hP]
      omega
    · rw [if_neg hP]; omega
def resQ (fs : List Fm) (q : Nat) : Bool := fs.any fun f => decide (f.un = decide (8 ≤ q) ∧ f.no = ((q % 8 : Nat) : Int))
theorem resQ_few : ∀ (fs : List Fm), cntQ (resQ fs) 16 ≤ fs.length
  | [] => by decide
  | f :: r => by
    have ih := resQ_few r
    have hone : cntQ (fun q => decide (q < 16) && decide (f.un = decide (8 ≤ q) ∧ f.no = ((q % 8 : Nat) : Int))) 16 ≤ 1 := cntQ_one _ (fun a b ha hb => by
      simp only [Bool.and_eq_true, decide_eq_true_eq] at ha hb
      obtain ⟨a0, a1, a2⟩ := ha
      obtain ⟨b0, b1, b2⟩ := hb
      have e1 : decide (8 ≤ a) = decide (8 ≤ b) := a1.symm.trans b1
      have e2 : a % 8 = b % 8 := by omega
      have e3 : (8 ≤ a) ↔ (8 ≤ b) := decide_eq_decide.1 e1
      by_cases q : 8 ≤ a
      · have := e3.1 q; omega
      · have : ¬ 8 ≤ b := fun z => q (e3.2 z)
        omega) 16
    have h := cntQ_lt (resQ (f :: r)) (resQ r) (fun q => decide (q < 16) && decide (f.un = decide (8 ≤ q) ∧ f.no = ((q % 8 : Nat) : Int))) 16 (fun q hq h => by
      unfold resQ at h ⊢
      rw [List.any_cons, Bool.or_eq_true] at h
      rcases h with h | h
      · right; simp only [Bool.and_eq_true]; exact ⟨decide_eq_true hq, h⟩
      · left; exact h)
    rw [List.length_cons]
    omega
def Pit (w0 : World) (F : Nat → Prop) (gc gd gl gk ak : Nat) (s : Cs) (l : Lg) (d : Dsk) (k : Nat) (W : World) : Prop := (∃ last, Sit w0 F gc gd gl gk ak s l d k last W) ∧ ∀ j, s.fs.length ≤ j → pinsAt s.ck j = 0
theorem Pit.zr {w0 : World} {F : Nat → Prop} {gc gd gl gk ak : Nat} {s : Cs} {l : Lg} {d : Dsk} {k : Nat} {W : World} (h : Pit w0 F gc gd gl gk ak s l d k W) : Zr s ∧ s.Ok := by
  obtain ⟨⟨last, sit⟩, hz⟩ := h
  obtain ⟨fv, m, n, vl, vs, L, cA, lD, hdis, hF⟩ := sit.cs.2.1.ex
  exact ⟨⟨cA.clk.nos, hz⟩, sit.cs.2.1.ok⟩
theorem Pit.bel {w0 : World} {F : Nat → Prop} {gc gd gl gk ak : Nat} {s : Cs} {l : Lg} {d : Dsk} {k : Nat} {W : World} (h : Pit w0 F gc gd gl gk ak s l d k W) : Below w0.heap.size w0 W := by
  obtain ⟨⟨last, sit⟩, hz⟩ := h
  exact sit.cs.1
theorem Pit.lt {w0 : World} {F : Nat → Prop} {gc gd gl gk ak : Nat} {s : Cs} {l : Lg} {d : Dsk} {k : Nat} {W : World} (h : Pit w0 F gc gd gl gk ak s l d k W) : ∀ j, F j → j < W.heap.size := by
  obtain ⟨⟨last, sit⟩, hz⟩ := h
  exact sit.cs.2.1.lt
theorem Pit.bound {w0 : World} {F : Nat → Prop} {gc gd gl gk ak : Nat} {s : Cs} {l : Lg} {d : Dsk} {k : Nat} {W : World} (h : Pit w0 F gc gd gl gk ak s l d k W) (u : Bool) (j : Int) : 0 ≤ pinsC s u j ∧ pinsC s u j ≤ k := by
  obtain ⟨⟨last, sit⟩, hz⟩ := h
  obtain ⟨fv, m, n, vl, vs, L, cA, lD, hdis, hF⟩ := sit.cs.2.1.ex
  rw [pinsC_is]
  cases posF s.fs u j with
  | none => exact ⟨Int.le_refl _, by show (0 : Int) ≤ k; omega⟩
  | some i =>
    show 0 ≤ pinsAt s.ck i ∧ pinsAt s.ck i ≤ k
    unfold pinsAt
    cases q : s.ck[i]? with
    | none => exact ⟨Int.le_refl _, by show (0 : Int) ≤ k; omega⟩
    | some x => exact cA.clk.pins x (List.mem_of_getElem? q)
theorem Pit.below {w0 : World} {F : Nat → Prop} {gc gd gl gk ak : Nat} {s : Cs} {l : Lg} {d : Dsk} {k : Nat} {W W' : World} (h : Pit w0 F gc gd gl gk ak s l d k W) (hb : Below W.heap.size W W') : Pit w0 F gc gd gl gk ak s l d k W' := by
  obtain ⟨⟨last, sit⟩, hz⟩ := h
  exact ⟨⟨last, sit.below hb⟩, hz⟩
theorem Pit.idle {w0 : World} {F : Nat → Prop} {gc gd gl gk ak : Nat} {s : Cs} {l : Lg} {d : Dsk} {k : Nat} {W : World} (h : Pit w0 F gc gd gl gk ak s l d k W) {A : Nat} (hA : w0.heap.size ≤ A) (hn : ¬ F A) {W' : World} (O : Off (· = A) W W') : Pit w0 F gc gd gl gk ak s l d k W' := by
  obtain ⟨⟨last, sit⟩, hz⟩ := h
  exact ⟨⟨last, ⟨⟨Below.trans sit.cs.1 (O.below sit.cs.1.size fun j q => by rw [q]; exact hA), sit.cs.2.1.off O (fun j q e => hn (by rw [← e]; exact q)), sit.cs.2.2⟩, sit.st⟩⟩, hz⟩
theorem Pit.pins {w0 : World} {F : Nat → Prop} {gc gd gl gk ak : Nat} {s : Cs} {l : Lg} {d : Dsk} {k : Nat} {W : World} (h : Pit w0 F gc gd gl gk ak s l d k W) (u : Bool) {j : Int} (hj : 0 ≤ j ∧ j ≤ 65535) : Calls Try.prog 22 #[.pointer (some ⟨gc, 0, none⟩), .agg #[.bool u, .int .u16 j]] W fun e w' => e = .returned (.int .i64 (pinsC s u j)) ∧ Below W.heap.size W w' := by
  obtain ⟨⟨last, sit⟩, hz⟩ := h
  obtain ⟨fv, m, n, vl, vs, L, cA, lD, hdis, hF⟩ := sit.cs.2.1.ex
  exact cpins_any cA sit.cs.2.1.ok u j (wfu_mk hj)
theorem Pit.has {w0 : World} {F : Nat → Prop} {gc gd gl gk ak : Nat} {s : Cs} {l : Lg} {d : Dsk} {k : Nat} {W : World} (h : Pit w0 F gc gd gl gk ak s l d k W) (u : Bool) {j : Int} (hj : 0 ≤ j ∧ j ≤ 65535) : Calls Try.prog 23 #[.pointer (some ⟨gc, 0, none⟩), .agg #[.bool u, .int .u16 j]] W fun e w' => e = .returned (.bool (posF s.fs u j).isSome) ∧ Below W.heap.size W w' := by
  obtain ⟨⟨last, sit⟩, hz⟩ := h
  obtain ⟨fv, m, n, vl, vs, L, cA, lD, hdis, hF⟩ := sit.cs.2.1.ex
  exact resident_any cA u j (wfu_mk hj)
theorem Fetches.most {s : Cs} {l : Lg} {d : Dsk} {u : Bool} {k : Int} {p : List Int} {E : Int} {s' : Cs} {l' : Lg} {d' : Dsk} (h : Fetches s l d u k p E s' l' d') (ok : s.Ok) : s'.most = s.most := by
  rcases h with ⟨h1, rfl, rfl, rfl, rfl, rfl⟩ | ⟨h0, i, f, h1, h2, rfl, rfl, rfl, rfl, rfl⟩ | ⟨h0, h1, i1, E1, s1, ⟨i2, E2, s2, d2, hv, hr2⟩, hr⟩
  · rfl
  · rfl
  · have hm := (hv.f ok).most
    have h1 : s1.most = s.most := by
      rcases hr2 with ⟨_, _, _, rfl, _⟩ | ⟨_, _, _, _, rfl, _⟩ | ⟨_, _, _, _, rfl, _⟩
      · exact hm
      · exact hm
      · exact hm
    rcases hr with ⟨_, _, _, rfl⟩ | ⟨_, _, rfl, _⟩
    · exact h1
    · exact h1
theorem DoR.most {s : Cs} {l : Lg} {d : Dsk} {o : XO} {s' : Cs} {l' : Lg} {d' : Dsk} (h : DoR s l d o s' l' d') (ok : s.Ok) : s'.most = s.most := by
  rcases h with ⟨_, p, E, v⟩ | ⟨_, rfl, rfl, rfl⟩ | ⟨_, rfl, rfl, rfl⟩ | ⟨_, rfl, rfl, rfl⟩ | ⟨_, rfl, rfl, rfl⟩ | ⟨_, rfl, rfl, rfl⟩ | ⟨_, rfl, rfl, rfl⟩ | ⟨_, _, _, _, _, _, _, rfl, rfl, rfl⟩
  · exact v.most ok
  · unfold unpinS setPins
    split
    · split <;> rfl
    · rfl
  · split
    · unfold putS
      split
      · split
        · split <;> rfl
        · rfl
      · rfl
    · rfl
  · unfold writeR
    split
    · rfl
    · split
      · rfl
      · split
        · dsimp only
          split <;> rfl
        · rfl
  · unfold coldS setCold
    split <;> rfl
  · rfl
  · rfl
  · rfl
theorem unpinS_most (s : Cs) (u : Bool) (k : Int) : (unpinS s u k).most = s.most := by
  unfold unpinS setPins
  split
  · split <;> rfl
  · rfl
def PftQ (w0 : World) (F : Nat → Prop) (gc gd gl gk ak : Nat) (s : Cs) (k : Nat) (u : Bool) (j : Int) (W : World) (e : Ending) (w' : World) : Prop :=
  ∃ (p : List Int) (E : Int) (F' : Nat → Prop) (s' : Cs) (l' : Lg) (d' : Dsk), e = .returned (.tuple #[.agg (bs p), .int .i64 E]) ∧ p.length = 224 ∧ Pit w0 F' gc gd gl gk ak s' l' d' (k + 1) w' ∧ Tr F W F' w' ∧ s'.most = s.most ∧ ∀ u' k', pinsC s' u' k' = if E = 0 ∧ u' = u ∧ k' = j then pinsC s u j + 1 else pinsC s u' k'
theorem Pit.fetch {w0 : World} {F : Nat → Prop} {gc gd gl gk ak : Nat} {s : Cs} {l : Lg} {d : Dsk} {k : Nat} {W : World} (h : Pit w0 F gc gd gl gk ak s l d k W) (hk : k ≤ 1000) (u : Bool) {j : Int} (hj : 0 ≤ j ∧ j ≤ 65535) : Calls Try.prog 16 #[.pointer (some ⟨gc, 0, none⟩), .agg #[.bool u, .int .u16 j]] W fun e w' => PftQ w0 F gc gd gl gk ak s k u j W e w' := by
  obtain ⟨z, ok⟩ := h.zr
  obtain ⟨⟨last, sit⟩, hz⟩ := h
  obtain ⟨h1, h2⟩ := sit.ops hk
  refine (fetch_any sit.cs.2.1 u j (wfu_mk hj) sit.st.pi.inv (by omega) h1 (flush_ops sit.st.pi.inv d) (by omega) (by omega)).mono ?_
  rintro e w' ⟨p, E, s', l', d', hf, he, hst⟩
  obtain ⟨st', _⟩ := sit.st.fetch ok hk hj.1 hf
  obtain ⟨F', sit2, tr⟩ := sit.step hk hst (by omega) (by omega) st'
  obtain ⟨p1, p2⟩ := hf.pins z ok sit2.cs.2.1.ok
  exact ⟨p, E, F', s', l', d', he, hf.len ok sit2.cs.2.1.ok, ⟨⟨last, sit2⟩, p1⟩, tr, hf.most ok, p2⟩
theorem Pit.unpin {w0 : World} {F : Nat → Prop} {gc gd gl gk ak : Nat} {s : Cs} {l : Lg} {d : Dsk} {k : Nat} {W : World} (h : Pit w0 F gc gd gl gk ak s l d k W) (hk : k ≤ 1000) (u : Bool) {j : Int} (hj : 0 ≤ j ∧ j ≤ 65535) : Calls Try.prog 21 #[.pointer (some ⟨gc, 0, none⟩), .agg #[.bool u, .int .u16 j]] W fun e w' => e = .returned (.int .i64 (unpinE s u j)) ∧ ∃ F' s', Pit w0 F' gc gd gl gk ak s' l d (k + 1) w' ∧ Tr F W F' w' ∧ s'.most = s.most ∧ ∀ u' k', pinsC s' u' k' = if unpinE s u j = 0 ∧ u' = u ∧ k' = j then pinsC s u j - 1 else pinsC s u' k' := by
  obtain ⟨z, ok⟩ := h.zr
  obtain ⟨⟨last, sit⟩, hz⟩ := h
  refine (unpin_any sit.cs.2.1 u j (wfu_mk hj)).mono ?_
  rintro e w' ⟨he, hst⟩
  obtain ⟨a, b, c⟩ := pins_same s u j
  obtain ⟨F', sit2, tr⟩ := sit.step hk hst (by omega) (by omega) ((sit.st.same a b c).mono (by omega))
  obtain ⟨p1, p2⟩ := unpin_pins z ok u j
  exact ⟨he, F', _, ⟨⟨last, sit2⟩, p1⟩, tr, unpinS_most s u j, p2⟩
theorem Pit.do_ {w0 : World} {F : Nat → Prop} {gc gd gl gk ak : Nat} {s : Cs} {l : Lg} {d : Dsk} {k : Nat} {W : World} (h : Pit w0 F gc gd gl gk ak s l d k W) (hk : k ≤ 1000) {o : XO} (ho : o.Ok W) (h0 : o.kd ≠ 0) (h1 : o.kd ≠ 1) : Calls Try.prog 9 #[.pointer (some ⟨gd, 0, none⟩), .pointer (some ⟨gl, 0, none⟩), .pointer (some ⟨gc, 0, none⟩), .agg o.cells.toArray] W fun e w' => e = .returned (.tuple #[]) ∧ ∃ F' s' l' d', Pit w0 F' gc gd gl gk ak s' l' d' (k + 1) w' ∧ Tr F W F' w' ∧ s'.most = s.most ∧ ∀ u j, pinsC s' u j = pinsC s u j := by
  obtain ⟨z, ok⟩ := h.zr
  obtain ⟨⟨last, sit⟩, hz⟩ := h
  obtain ⟨q1, q2⟩ := sit.ops hk
  refine (do_any sit.cs.2.1 o ho sit.st.pi.inv q2 q1 (by omega) (by omega)).mono ?_
  rintro e w' ⟨s', l', d', hq, rfl, hst⟩
  obtain ⟨last', st', hl⟩ := sit.st.do_ ok hk ho hq
  obtain ⟨F', sit2, tr⟩ := sit.step hk hst (by omega) (by omega) st'
  obtain ⟨p1, p2⟩ := hq.pins h0 h1 z ok
  exact ⟨rfl, F', s', l', d', ⟨⟨last', sit2⟩, p1⟩, tr, hq.most ok, p2⟩
theorem new_pins (fr : Nat) : (∀ j, (newC 4 5 fr).fs.length ≤ j → pinsAt (newC 4 5 fr).ck j = 0) ∧ ∀ u k, pinsC (newC 4 5 fr) u k = 0 := by
  refine ⟨fun j _ => ?_, fun u k => rfl⟩
  show pinsAt (Cl.newF fr) j = 0
  unfold pinsAt Cl.newF
  rw [List.getElem?_map]
  cases h : (List.range fr)[j]? with
  | none => rfl
  | some x => rfl
def nI (H : List Int) : Array Value := (H.map (Value.int .i64)).toArray
theorem nI_at {H : List Int} {m : Nat} {x : Int} (h : H[m]? = some x) : (nI H)[m]? = some (.int .i64 x) := by
  unfold nI
  rw [List.getElem?_toArray, List.getElem?_map, h]; rfl
theorem nI_set (H : List Int) (m : Nat) (x : Int) : (nI H).setIfInBounds m (.int .i64 x) = nI (H.set m x) := by
  unfold nI
  rw [List.setIfInBounds_toArray, List.map_set]
def Held (s : Cs) (H : List Int) : Prop := H.length = 16 ∧ ∀ q j : Nat, q < 2 → j < 8 → H[q * 8 + j]? = some (pinsC s (decide (q = 1)) j)
theorem Held.to {s s' : Cs} {H : List Int} (h : Held s H) (e : ∀ u k, pinsC s' u k = pinsC s u k) : Held s' H := ⟨h.1, fun q j hq hj => by rw [e]; exact h.2 q j hq hj⟩
theorem Held.set {s s' : Cs} {H : List Int} (h : Held s H) {q j : Nat} (hq : q < 2) (hj : j < 8) {x : Int} (e : ∀ u' k', pinsC s' u' k' = if u' = decide (q = 1) ∧ k' = (j : Int) then x else pinsC s u' k') : Held s' (H.set (q * 8 + j) x) := by
  refine ⟨by rw [List.length_set]; exact h.1, fun a b ha hb => ?_⟩
  rw [e]
  by_cases c : q * 8 + j = a * 8 + b
  · obtain ⟨rfl, rfl⟩ : q = a ∧ j = b := by omega
    rw [List.getElem?_set_self (by rw [h.1]; omega), if_pos ⟨rfl, rfl⟩]
  · rw [List.getElem?_set_ne c, if_neg]
    · exact h.2 a b ha hb
    · rintro ⟨c1, c2⟩
      have := decide_eq_decide.1 c1
      omega
theorem posF_res (fs : List Fm) {q j : Nat} (hq : q < 2) (hj : j < 8) : (posF fs (decide (q = 1)) (j : Int)).isSome = resQ fs (q * 8 + j) := by
  unfold resQ
  have e1 : decide (8 ≤ q * 8 + j) = decide (q = 1) := decide_eq_decide.2 (by omega)
  have e2 : (q * 8 + j) % 8 = j := by omega
  rw [e1, e2]
  cases h : posF fs (decide (q = 1)) (j : Int) with
  | some i =>
    obtain ⟨g, hg, a, b⟩ := posF_some h
    symm
    exact List.any_eq_true.2 ⟨g, List.mem_of_getElem? hg, decide_eq_true ⟨a, b⟩⟩
  | none =>
    symm
    exact List.any_eq_false.2 fun g hg => by have := posF_none h hg; simpa using this
theorem pins_res {s : Cs} {u : Bool} {j : Int} (h : pinsC s u j ≠ 0) : (posF s.fs u j).isSome = true := by
  rw [pinsC_is] at h
  cases q : posF s.fs u j with
  | none => rw [q] at h; exact absurd rfl h
  | some i => rfl
theorem side_u (u : Bool) (n : Int) (hn : n = if u = true then 1 else 0) (k : Int) (w : World) : Calls Try.prog 20 #[.agg #[.bool u, .int .u16 k]] w fun e w' => e = .returned (.int .i64 n) ∧ Below w.heap.size w w' := by
  subst hn
  have r0 : Row (w.alloc (.cells #[.bool u, .int .u16 k] 31)) w.heap.size #[.bool u, .int .u16 k] 31 := Row.new _ _ _
  have ab : Below w.heap.size w (w.alloc (.cells #[.bool u, .int .u16 k] 31)) := (Below.refl _ _).alloc (Nat.le_refl _) _
  have c0 := row_at r0 0 _ rfl
  cases u
  · go_enter Try.func20, Try.ntmps20
    go_wp2
    go_ret
    exact ⟨rfl, ab⟩
  · go_enter Try.func20, Try.ntmps20
    go_wp2
    go_ret
    exact ⟨rfl, ab⟩
theorem side_any (q : Nat) (hq : q < 2) (k : Int) (w : World) : Calls Try.prog 20 #[.agg #[.bool (decide (q = 1)), .int .u16 k]] w fun e w' => e = .returned (.int .i64 q) ∧ Below w.heap.size w w' :=
  side_u _ q (by
    have hc : q = 0 ∨ q = 1 := by omega
    rcases hc with rfl | rfl <;> rfl) k w
end Go.Proofs.Ytehogiondcpbcaa
