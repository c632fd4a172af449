/-
  The laws' caches in memory: fetches, puts and writes of the laws' own. Plain facts: how often pages are held, behind each of the statements' calls. The laws' caches in memory, with how often pages are held. Plain facts: the laws' caches over a disk of which no operation fails; what is left of them behind a crash. The laws' caches in memory: writes, a plan without faults, a crash, a cache anew.
-/
import Derived.Test.YtehogiondcpbcaaJq35
namespace Go.Proofs.Ytehogiondcpbcaa
open Go.ChangeShapes Go.WideShapes Go.ChangeAt Go.RowKit
set_option linter.unusedVariables false
set_option linter.unusedSimpArgs false
set_option maxRecDepth 20000
theorem Fetches.len {s : Cs} {l : Lg} {d : Dsk} {u : Bool} {k : Int} {p : List Int} {E : Int} {s' : Cs} {l' : Lg} {d' : Dsk} (h : Fetches s l d u k p E s' l' d') (ok : s.Ok) (ok' : s'.Ok) : p.length = 224 := by
  rcases h with ⟨h1, rfl, _⟩ | ⟨h0, i, f, h1, h2, rfl, _⟩ | ⟨h0, h1, i1, E1, s1, hl, ⟨h2, rfl, _⟩ | ⟨rfl, rfl, rfl, f, hf, rfl⟩⟩
  · exact zs_length _
  · exact (ok.fs f (List.mem_of_getElem? h2)).len
  · exact zs_length _
  · exact (ok'.fs f (List.mem_of_getElem? (show (fetchP s1 i1).fs[i1]? = some f from hf))).len
theorem Sit.step {w0 : World} {F : Nat → Prop} {gc gd gl gk ak : Nat} {s s' : Cs} {l l' : Lg} {d d' : Dsk} {k : Nat} {last last' : Bool → Int → List Int} {W w' : World} (h : Sit w0 F gc gd gl gk ak s l d k last W) (hk : k ≤ 1000) {M : Int} {N : Nat} (hst : CStep W F gc gd gl gk ak s' l' d' M N w') (hM : M ≤ k + 1) (hN : N ≤ 4004 * k + 4004) (st : St s' l' d' (k + 1) last') : ∃ F', Sit w0 F' gc gd gl gk ak s' l' d' (k + 1) last' w' ∧ Tr F W F' w' := by
  have h2 : CStep W F gc gd gl gk ak s' l' d' ((k + 1 : Nat) : Int) (4004 * (k + 1)) w' := (hst.growM (M' := ((k + 1 : Nat) : Int)) (by push_cast; omega) (by push_cast; omega)).grow (by omega) (by omega)
  obtain ⟨F', c1, c2⟩ := h.cs.step h2
  exact ⟨F', ⟨c1, st⟩, c2⟩
def FetQ (w0 : World) (F : Nat → Prop) (gc gd gl gk ak : Nat) (k : Nat) (last : Bool → Int → List Int) (u : Bool) (j : Int) (W : World) (e : Ending) (w' : World) : Prop :=
  ∃ (p : List Int) (E : Int) (F' : Nat → Prop) (s' : Cs) (l' : Lg) (d' : Dsk), e = .returned (.tuple #[.agg (bs p), .int .i64 E]) ∧ p.length = 224 ∧ Sit w0 F' gc gd gl gk ak s' l' d' (k + 1) last w' ∧ Tr F W F' w' ∧ (E = 0 → p = last u j ∧ Pg u j)
theorem Sit.fetch {w0 : World} {F : Nat → Prop} {gc gd gl gk ak : Nat} {s : Cs} {l : Lg} {d : Dsk} {k : Nat} {last : Bool → Int → List Int} {W : World} (h : Sit w0 F gc gd gl gk ak s l d k last W) (hk : k ≤ 1000) (u : Bool) {j : Int} (hj : 0 ≤ j ∧ j ≤ 65535) : Calls Try.prog 16 #[.pointer (some ⟨gc, 0, none⟩), .agg #[.bool u, .int .u16 j]] W fun e w' => FetQ w0 F gc gd gl gk ak k last u j W e w' := by
  obtain ⟨h1, h2⟩ := h.ops hk
  refine (fetch_any h.cs.2.1 u j (wfu_mk hj) h.st.pi.inv (by omega) h1 (flush_ops h.st.pi.inv d) (by omega) (by omega)).mono ?_
  rintro e w' ⟨p, E, s', l', d', hf, he, hst⟩
  obtain ⟨st', hE⟩ := h.st.fetch h.cs.2.1.ok hk hj.1 hf
  obtain ⟨F', sit, tr⟩ := h.step hk hst (by omega) (by omega) st'
  exact ⟨p, E, F', s', l', d', he, hf.len h.cs.2.1.ok sit.cs.2.1.ok, sit, tr, hE⟩
theorem Sit.append {w0 : World} {F : Nat → Prop} {gc gd gl gk ak : Nat} {s : Cs} {l : Lg} {d : Dsk} {k : Nat} {last : Bool → Int → List Int} {W : World} (h : Sit w0 F gc gd gl gk ak s l d k last W) (hk : k ≤ 1000) (t : ByteArray) (ht : t.size ≤ maxLen) : Calls Try.prog 17 #[.pointer (some ⟨gl, 0, none⟩), .string t] W fun e w' => e = .returned (.tuple #[.int .u64 (appA l t), .int .i64 (appE l t)]) ∧ ∃ F', Sit w0 F' gc gd gl gk ak s (appL l t) d (k + 1) last w' ∧ Tr F W F' w' := by
  obtain ⟨h1, h2⟩ := h.ops hk
  refine (h.cs.2.1.append h.st.pi.inv h2 t ht).mono ?_
  rintro e w' ⟨he, hst⟩
  exact ⟨he, h.step hk hst (by omega) (by omega) (h.st.append hk t)⟩
theorem Sit.put {w0 : World} {F : Nat → Prop} {gc gd gl gk ak : Nat} {s : Cs} {l : Lg} {d : Dsk} {k : Nat} {last : Bool → Int → List Int} {W : World} (h : Sit w0 F gc gd gl gk ak s l d k last W) (hk : k ≤ 1000) (u : Bool) {j : Int} (hj : 0 ≤ j ∧ j ≤ 65535) (p : List Int) (hp : p.length = 224) (hb : Bytes p) (hl : lsnP p < l.fin) : Calls Try.prog 18 #[.pointer (some ⟨gc, 0, none⟩), .agg #[.bool u, .int .u16 j], .agg (bs p)] W fun e w' => e = .returned (.int .i64 (putE s u j p)) ∧ ∃ F', Sit w0 F' gc gd gl gk ak (putS s u j p) l d (k + 1) (if putE s u j p = 0 then lastP last u j p else last) w' ∧ Tr F W F' w' := by
  refine (cput_any h.cs.2.1 u j (wfu_mk hj) p hp hb).mono ?_
  rintro e w' ⟨he, hst⟩
  exact ⟨he, h.step hk hst (by omega) (by omega) ((h.st.put h.cs.2.1.ok hl).mono (by omega))⟩
def pinsAt (ck : List Cl.Fr) (i : Nat) : Int := ((ck[i]?).map Cl.Fr.pins).getD 0
theorem pinsC_is (s : Cs) (u : Bool) (k : Int) : pinsC s u k = match posF s.fs u k with | some i => pinsAt s.ck i | none => 0 := rfl
structure Zr (s : Cs) : Prop where
  nos : ∀ (j : Nat) (x : Cl.Fr), s.ck[j]? = some x → x.no = j
  zero : ∀ j, s.fs.length ≤ j → pinsAt s.ck j = 0
theorem pins_set {ck : List Cl.Fr} {i : Nat} {x y : Cl.Fr} (h : ck[i]? = some x) (j : Nat) : pinsAt (ck.set i y) j = if j = i then y.pins else pinsAt ck j := by
  unfold pinsAt
  by_cases e : j = i
  · subst e
    rw [if_pos rfl, List.getElem?_set_self (List.getElem?_eq_some_iff.1 h).1]; rfl
  · rw [if_neg e, List.getElem?_set_ne (Ne.symm e)]
theorem pins_same2 {ck ck' : List Cl.Fr} (h : Cl.Same ck ck') (j : Nat) : pinsAt ck' j = pinsAt ck j := by
  unfold pinsAt
  cases q : ck[j]? with
  | none =>
    have := List.getElem?_eq_none_iff.1 q
    rw [List.getElem?_eq_none (by rw [h.1]; exact this)]
  | some x =>
    obtain ⟨y, hy, _, e⟩ := h.2 j x q
    rw [hy]; exact e
theorem vict_zero {R : List Cl.Fr} {v : Nat} {S : List Cl.Fr} (h : Cl.Vict R v true S) : ∃ x ∈ R, x.no = v ∧ x.pins = 0 := by
  have hv : ∀ {R S : List Cl.Fr} {v : Nat}, Cl.Vic R v S → ∃ x ∈ R, x.no = v ∧ x.pins = 0 := fun {R S v} q => by
    induction q with
    | hit x T h => exact ⟨x, by simp, rfl, h.1⟩
    | pass x T v S h q ih =>
      obtain ⟨y, hy, e1, e2⟩ := ih
      rcases List.mem_append.1 hy with q | q
      · exact ⟨y, by simp [q], e1, e2⟩
      · simp at q
        subst q
        refine ⟨x, by simp, ?_, ?_⟩
        · rw [← e1]; unfold Cl.Fr.pass; split <;> rfl
        · rw [← e2]; unfold Cl.Fr.pass; split <;> rfl
  rcases h with ⟨A, x, B, e, hA, hx, e1, _, _⟩ | ⟨_, _, hq, _⟩ | ⟨_, _, e, _⟩
  · exact ⟨x, by rw [e]; simp, e1.symm, by unfold Cl.Fr.cf at hx; simp at hx; exact hx.2⟩
  · exact hv hq
  · cases e
theorem mem_ring {fs : List Cl.Fr} {h : Nat} {x : Cl.Fr} (hx : x ∈ Cl.ring fs h) : x ∈ fs := by
  unfold Cl.ring at hx
  rcases List.mem_append.1 hx with q | q
  · exact List.mem_of_mem_drop q
  · exact List.mem_of_mem_take q
theorem pinsC_of {s s' : Cs} (h1 : ∀ u k, posF s'.fs u k = posF s.fs u k) (h2 : ∀ j, pinsAt s'.ck j = pinsAt s.ck j) (u : Bool) (k : Int) : pinsC s' u k = pinsC s u k := by
  rw [pinsC_is, pinsC_is, h1]
  split
  · exact h2 _
  · rfl
theorem Vac.pins {s : Cs} {l : Lg} {d : Dsk} {i : Nat} {E : Int} {s1 : Cs} {l1 : Lg} {d1 : Dsk} (h : Vac s l d i E s1 l1 d1) (z : Zr s) (ok : s.Ok) : (∀ j, pinsAt s1.ck j = pinsAt s.ck j) ∧ (E = 0 → pinsAt s1.ck i = 0) := by
  rcases h with ⟨h1, rfl, rfl, rfl, rfl, rfl⟩ | ⟨h1, b, v, ck', h', h2, h3, ⟨rfl, rfl, rfl, rfl, rfl, rfl⟩ | ⟨rfl, rfl, f, hf, h5⟩⟩
  · exact ⟨fun _ => rfl, fun _ => z.zero _ (Nat.le_refl _)⟩
  · exact ⟨fun j => pins_same2 h3 j, fun q => by cases q⟩
  · have hck : s1.ck = ck' := by
      rcases h5 with ⟨_, _, rfl, _, _⟩ | ⟨_, _, rfl, _, _⟩
      · rfl
      · split <;> rfl
    rw [hck]
    refine ⟨fun j => pins_same2 h3 j, fun _ => ?_⟩
    rw [pins_same2 h3]
    obtain ⟨x, hx, e1, e2⟩ := vict_zero h2
    obtain ⟨n, hn, hne⟩ := List.mem_iff_getElem.1 (mem_ring hx)
    have hxn : s.ck[n]? = some x := by rw [← hne]; exact List.getElem?_eq_getElem hn
    have := z.nos n x hxn
    have hi : i = n := by omega
    unfold pinsAt
    rw [hi, hxn]; exact e2
theorem takeF_ne {fs : List Fm} {i j : Nat} {f' : Fm} (hi : i ≤ fs.length) (h : j ≠ i) : (takeF fs i f')[j]? = fs[j]? := by
  unfold takeF
  split
  · rename_i e
    by_cases q : j < fs.length
    · rw [List.getElem?_append_left q]
    · rw [List.getElem?_eq_none (by simp; omega), List.getElem?_eq_none (by omega)]
  · rw [List.getElem?_set_ne (Ne.symm h)]
theorem takeF_at {fs : List Fm} {i : Nat} {f' : Fm} (hi : i ≤ fs.length) : (takeF fs i f')[i]? = some f' := by
  unfold takeF
  split
  · rename_i e; rw [e]; simp
  · rw [List.getElem?_set_self (by omega)]
theorem takeF_len {fs : List Fm} {i : Nat} {f' : Fm} : fs.length ≤ (takeF fs i f').length := by
  unfold takeF
  split
  · simp
  · rw [List.length_set]; exact Nat.le_refl _
theorem load_pins {s1 : Cs} {i : Nat} {f' : Fm} {u : Bool} {k : Int} (one1 : OneF s1.fs) (hu : f'.un = u) (hk : f'.no = k) (hn : posF s1.fs u k = none) (hi : i ≤ s1.fs.length) (one2 : OneF (takeF s1.fs i f')) (h0 : pinsAt s1.ck i = 0) :
    (∀ j, pinsAt (loadS s1 i f').ck j = pinsAt s1.ck j) ∧ (∀ u' k', pinsC (loadS s1 i f') u' k' = pinsC s1 u' k') ∧ posF (loadS s1 i f').fs u k = some i := by
  have hp : ∀ j, pinsAt (loadS s1 i f').ck j = pinsAt s1.ck j := fun j => by
    show pinsAt (match s1.ck[i]? with | some x => s1.ck.set i { x with seen := false, cold := false } | none => s1.ck) j = _
    cases q : s1.ck[i]? with
    | none => rfl
    | some x =>
      show pinsAt (s1.ck.set i _) j = _
      rw [pins_set q]
      split
      · rename_i e; rw [e]; unfold pinsAt; rw [q]; rfl
      · rfl
  have hpos : posF (takeF s1.fs i f') u k = some i := (posF_iff one2).2 ⟨f', takeF_at hi, hu, hk⟩
  refine ⟨hp, fun u' k' => ?_, hpos⟩
  rw [pinsC_is, pinsC_is]
  show (match posF (takeF s1.fs i f') u' k' with | some j => pinsAt (loadS s1 i f').ck j | none => 0) = _
  cases h' : posF (takeF s1.fs i f') u' k' with
  | some j =>
    show pinsAt (loadS s1 i f').ck j = _
    rw [hp]
    obtain ⟨g, hg, e1, e2⟩ := posF_some h'
    by_cases hj : j = i
    · subst hj
      rw [takeF_at hi] at hg
      cases hg
      rw [← e1, ← e2, hu, hk, hn, h0]
    · rw [takeF_ne hi hj] at hg
      rw [(posF_iff one1).2 ⟨g, hg, e1, e2⟩]
  | none =>
    cases h1 : posF s1.fs u' k' with
    | none => rfl
    | some j =>
      obtain ⟨g, hg, e1, e2⟩ := posF_some h1
      by_cases hj : j = i
      · subst hj; exact h0.symm
      · have : posF (takeF s1.fs i f') u' k' = some j := (posF_iff one2).2 ⟨g, by rw [takeF_ne hi hj]; exact hg, e1, e2⟩
        rw [h'] at this; cases this
theorem hold_pins {s : Cs} {i : Nat} {u : Bool} {k : Int} {n : Int} {ck' : List Cl.Fr} (hp : posF s.fs u k = some i) (hck : ∀ j, pinsAt ck' j = if j = i then pinsAt s.ck i + n else pinsAt s.ck j) (s' : Cs) (h1 : s'.fs = s.fs) (h2 : s'.ck = ck') (u' : Bool) (k' : Int) :
    pinsC s' u' k' = if u' = u ∧ k' = k then pinsC s u k + n else pinsC s u' k' := by
  rw [pinsC_is, pinsC_is, pinsC_is, h1, h2]
  by_cases e : u' = u ∧ k' = k
  · obtain ⟨rfl, rfl⟩ := e
    rw [if_pos ⟨rfl, rfl⟩, hp]
    show pinsAt ck' i = _
    rw [hck, if_pos rfl]
  · rw [if_neg e]
    cases h' : posF s.fs u' k' with
    | none => rfl
    | some j =>
      show pinsAt ck' j = pinsAt s.ck j
      rw [hck, if_neg]
      intro hj
      subst hj
      obtain ⟨g, hg, e1, e2⟩ := posF_some h'
      obtain ⟨g2, hg2, e3, e4⟩ := posF_some hp
      rw [hg] at hg2; cases hg2
      exact e ⟨e1.symm.trans e3, e2.symm.trans e4⟩
theorem fetchP_pins {s : Cs} {i : Nat} (hi : i < s.ck.length) (j : Nat) : pinsAt (fetchP s i).ck j = if j = i then pinsAt s.ck i + 1 else pinsAt s.ck j := by
  obtain ⟨x, hx⟩ : ∃ x, s.ck[i]? = some x := ⟨_, List.getElem?_eq_getElem hi⟩
  show pinsAt (match s.ck[i]? with | some x => s.ck.set i { x with seen := true, pins := x.pins + 1 } | none => s.ck) j = _
  rw [hx]
  show pinsAt (s.ck.set i _) j = _
  rw [pins_set hx]
  split
  · unfold pinsAt; rw [hx]; rfl
  · rfl
theorem fetchP_len (s : Cs) (i : Nat) : (fetchP s i).ck.length = s.ck.length := by
  show (match s.ck[i]? with | some x => s.ck.set i { x with seen := true, pins := x.pins + 1 } | none => s.ck).length = _
  split
  · exact List.length_set ..
  · rfl
theorem one_set {fs : List Fm} (one : OneF fs) {i : Nat} {f f' : Fm} (h : fs[i]? = some f) (h1 : f'.un = f.un) (h2 : f'.no = f.no) : OneF (fs.set i f') := fun a b x y ha hb e1 e2 => by
  rcases set_at ha with ⟨n1, ha2⟩ | ⟨n1, rfl⟩
  · rcases set_at hb with ⟨n2, hb2⟩ | ⟨n2, rfl⟩
    · exact one a b x y ha2 hb2 e1 e2
    · rw [n2]; exact one a i x f ha2 h (e1.trans h1) (e2.trans h2)
  · rcases set_at hb with ⟨n2, hb2⟩ | ⟨n2, rfl⟩
    · rw [n1]; exact one i b f y h hb2 (h1.symm.trans e1) (h2.symm.trans e2)
    · omega
theorem Vac.one {s : Cs} {l : Lg} {d : Dsk} {i : Nat} {E : Int} {s1 : Cs} {l1 : Lg} {d1 : Dsk} (h : Vac s l d i E s1 l1 d1) (ok : s.Ok) : OneF s1.fs := by
  rcases h with ⟨h1, rfl, rfl, rfl, rfl, rfl⟩ | ⟨h1, b, v, ck', h', h2, h3, ⟨rfl, rfl, rfl, rfl, rfl, rfl⟩ | ⟨rfl, rfl, f, hf, ⟨h6, rfl, rfl, rfl, rfl⟩ | ⟨h6, rfl, rfl, rfl, rfl⟩⟩⟩
  · exact ok.one
  · exact ok.one
  · exact ok.one
  · split
    · exact one_set ok.one hf rfl rfl
    · exact ok.one
theorem Fetches.pins {s : Cs} {l : Lg} {d : Dsk} {u : Bool} {k : Int} {p : List Int} {E : Int} {s' : Cs} {l' : Lg} {d' : Dsk} (h : Fetches s l d u k p E s' l' d') (z : Zr s) (ok : s.Ok) (ok' : s'.Ok) :
    (∀ j, s'.fs.length ≤ j → pinsAt s'.ck j = 0) ∧ ∀ u' k', pinsC s' u' k' = if E = 0 ∧ u' = u ∧ k' = k then pinsC s u k + 1 else pinsC s u' k' := by
  have hne : ∀ {E : Int} (hE : E ≠ 0) {A : Int} {B : Int} (u' : Bool) (k' : Int), (if E = 0 ∧ u' = u ∧ k' = k then A else B) = B := fun hE _ _ u' k' => if_neg fun q => hE q.1
  rcases h with ⟨h1, rfl, rfl, rfl, rfl, rfl⟩ | ⟨h0, i, f, h1, h2, rfl, rfl, rfl, rfl, rfl⟩ | ⟨h0, h1, i1, E1, s1, hl, hr⟩
  · exact ⟨z.zero, fun u' k' => (hne (by decide) u' k').symm⟩
  · have hil := (List.getElem?_eq_some_iff.1 h2).1
    have hic : i < s.ck.length := by have := ok.ck; have := ok.few; omega
    have hf := fetchP_pins (s := s) hic
    refine ⟨fun j hj => ?_, fun u' k' => ?_⟩
    · have hj2 : s.fs.length ≤ j := hj
      rw [hf, if_neg (by omega)]; exact z.zero j hj2
    · rw [hold_pins h1 hf (fetchP s i) rfl rfl]
      simp
  · obtain ⟨i2, E2, s2, d2, hv, hr2⟩ := hl
    have vf := hv.f ok
    obtain ⟨v1, v2⟩ := hv.pins z ok
    have hvp : ∀ u' k', pinsC s2 u' k' = pinsC s u' k' := fun u' k' => pinsC_of vf.pos v1 u' k'
    have hvz : ∀ j, s2.fs.length ≤ j → pinsAt s2.ck j = 0 := fun j hj => by rw [v1]; exact z.zero j (by rw [← vf.len]; exact hj)
    rcases hr with ⟨h2, rfl, rfl, rfl⟩ | ⟨rfl, rfl, rfl, f, hf, rfl⟩
    · rcases hr2 with ⟨_, _, _, rfl, _⟩ | ⟨_, _, _, _, rfl, _⟩ | ⟨_, _, _, e, _⟩
      · exact ⟨hvz, fun u' k' => by rw [hne h2]; exact hvp u' k'⟩
      · exact ⟨hvz, fun u' k' => by rw [hne h2]; exact hvp u' k'⟩
      · exact absurd e h2
    · rcases hr2 with ⟨q, _, e, _⟩ | ⟨_, q, _, e, _⟩ | ⟨hE2, _, rfl, _, rfl, _⟩
      · exact absurd e.symm q
      · exact absurd e.symm q
      · have hn2 : posF s2.fs u k = none := by rw [vf.pos]; exact h1
        have hi2 : i1 ≤ s2.fs.length := by have := vf.at_.2; have := vf.len; omega
        obtain ⟨g1, g2⟩ : (openF u k (read d2 (placeC s.pages u k)).1).un = u ∧ (openF u k (read d2 (placeC s.pages u k)).1).no = k := by unfold openF; split <;> exact ⟨rfl, rfl⟩
        generalize openF u k (read d2 (placeC s.pages u k)).1 = f' at *
        have one2 : OneF (takeF s2.fs i1 f') := ok'.one
        have one1 : OneF s2.fs := hv.one ok
        obtain ⟨p1, p2, p3⟩ := load_pins (s1 := s2) one1 g1 g2 hn2 hi2 one2 (v2 hE2)
        have hic : i1 < (loadS s2 i1 f').ck.length := by
          have h3 : (fetchP (loadS s2 i1 f') i1).ck.length = (loadS s2 i1 f').most := ok'.ck
          rw [fetchP_len] at h3
          have h4 : (loadS s2 i1 f').most = s.most := vf.most
          have := vf.at_.1
          omega
        have hfp := fetchP_pins (s := loadS s2 i1 f') hic
        refine ⟨fun j hj => ?_, fun u' k' => ?_⟩
        · have hj2 : (takeF s2.fs i1 f').length ≤ j := hj
          have hj3 := takeF_len (fs := s2.fs) (i := i1) (f' := f')
          have hj4 := (List.getElem?_eq_some_iff.1 (takeF_at (fs := s2.fs) (i := i1) (f' := f') hi2)).1
          rw [hfp, if_neg (by omega), p1]
          exact hvz j (by omega)
        · rw [hold_pins p3 hfp (fetchP (loadS s2 i1 f') i1) rfl rfl, p2, p2, hvp, hvp]
          simp
theorem DoR.pins {s : Cs} {l : Lg} {d : Dsk} {o : XO} {s' : Cs} {l' : Lg} {d' : Dsk} (h : DoR s l d o s' l' d') (h0 : o.kd ≠ 0) (h1 : o.kd ≠ 1) (z : Zr s) (ok : s.Ok) : (∀ j, s'.fs.length ≤ j → pinsAt s'.ck j = 0) ∧ ∀ u k, pinsC s' u k = pinsC s u k := by
  have hput : ∀ (u : Bool) (k : Int) (p : List Int), (∀ j, (putS s u k p).fs.length ≤ j → pinsAt (putS s u k p).ck j = 0) ∧ ∀ u' k', pinsC (putS s u k p) u' k' = pinsC s u' k' := fun u k p => by
    unfold putS
    split
    · cases hp : posF s.fs u k with
      | none => exact ⟨z.zero, fun _ _ => rfl⟩
      | some i =>
        obtain ⟨f, hf, _⟩ := posF_some hp
        simp only [hf]
        exact ⟨fun j hj => z.zero j (by rw [List.length_set] at hj; exact hj), fun u' k' => pinsC_of (s := s) (s' := { s with fs := s.fs.set i (putF f p) }) (fun a b => posF_set (f' := putF f p) hf rfl rfl a b) (fun _ => rfl) u' k'⟩
    · exact ⟨z.zero, fun _ _ => rfl⟩
  rcases h with ⟨q, _⟩ | ⟨q, _⟩ | ⟨q, rfl, rfl, rfl⟩ | ⟨q, rfl, rfl, rfl⟩ | ⟨q, rfl, rfl, rfl⟩ | ⟨q, rfl, rfl, rfl⟩ | ⟨q, rfl, rfl, rfl⟩ | ⟨_, _, _, _, _, _, _, rfl, rfl, rfl⟩
  · exact absurd q h0
  · exact absurd q h1
  · split
    · exact hput _ _ _
    · exact ⟨z.zero, fun _ _ => rfl⟩
  · unfold writeR
    cases hp : posF s.fs o.u o.k with
    | none => exact ⟨z.zero, fun _ _ => rfl⟩
    | some i =>
      obtain ⟨f, hf, _⟩ := posF_some hp
      simp only [hf]
      split
      · split
        · exact ⟨fun j hj => z.zero j (by rw [cleanF_fs, List.length_set] at hj; exact hj), fun u' k' => pinsC_of (s := s) (s' := cleanF s i f) (fun a b => posF_set (f' := { f with dirty := false }) hf rfl rfl a b) (fun _ => rfl) u' k'⟩
        · exact ⟨z.zero, fun _ _ => rfl⟩
      · exact ⟨z.zero, fun _ _ => rfl⟩
  · unfold coldS
    cases hp : posF s.fs o.u o.k with
    | none => exact ⟨z.zero, fun _ _ => rfl⟩
    | some i =>
      have hck : ∀ j, pinsAt (setCold s i (decide (o.b % 2 = 1))).ck j = pinsAt s.ck j := fun j => by
        show pinsAt (match s.ck[i]? with | some x => s.ck.set i { x with cold := decide (o.b % 2 = 1) } | none => s.ck) j = _
        cases q : s.ck[i]? with
        | none => rfl
        | some x =>
          show pinsAt (s.ck.set i _) j = _
          rw [pins_set q]
          split
          · rename_i e; rw [e]; unfold pinsAt; rw [q]; rfl
          · rfl
      exact ⟨fun j hj => by rw [hck]; exact z.zero j hj, fun u' k' => pinsC_of (s := s) (s' := setCold s i (decide (o.b % 2 = 1))) (fun _ _ => rfl) hck u' k'⟩
  · exact ⟨z.zero, fun _ _ => rfl⟩
  · exact ⟨z.zero, fun _ _ => rfl⟩
  · exact ⟨z.zero, fun _ _ => rfl⟩
def Pit (w0 : World) (F : Nat → Prop) (gc gd gl gk ak : Nat) (s : Cs) (l : Lg) (d : Dsk) (k : Nat) (W : World) : Prop := (∃ last, Sit w0 F gc gd gl gk ak s l d k last W) ∧ ∀ j, s.fs.length ≤ j → pinsAt s.ck j = 0
theorem Pit.zr {w0 : World} {F : Nat → Prop} {gc gd gl gk ak : Nat} {s : Cs} {l : Lg} {d : Dsk} {k : Nat} {W : World} (h : Pit w0 F gc gd gl gk ak s l d k W) : Zr s ∧ s.Ok := by
  obtain ⟨⟨last, sit⟩, hz⟩ := h
  obtain ⟨fv, m, n, vl, vs, L, cA, lD, hdis, hF⟩ := sit.cs.2.1.ex
  exact ⟨⟨cA.clk.nos, hz⟩, sit.cs.2.1.ok⟩
theorem Pit.lt {w0 : World} {F : Nat → Prop} {gc gd gl gk ak : Nat} {s : Cs} {l : Lg} {d : Dsk} {k : Nat} {W : World} (h : Pit w0 F gc gd gl gk ak s l d k W) : ∀ j, F j → j < W.heap.size := by
  obtain ⟨⟨last, sit⟩, hz⟩ := h
  exact sit.cs.2.1.lt
theorem Pit.below {w0 : World} {F : Nat → Prop} {gc gd gl gk ak : Nat} {s : Cs} {l : Lg} {d : Dsk} {k : Nat} {W W' : World} (h : Pit w0 F gc gd gl gk ak s l d k W) (hb : Below W.heap.size W W') : Pit w0 F gc gd gl gk ak s l d k W' := by
  obtain ⟨⟨last, sit⟩, hz⟩ := h
  exact ⟨⟨last, sit.below hb⟩, hz⟩
theorem Pit.pins {w0 : World} {F : Nat → Prop} {gc gd gl gk ak : Nat} {s : Cs} {l : Lg} {d : Dsk} {k : Nat} {W : World} (h : Pit w0 F gc gd gl gk ak s l d k W) (u : Bool) {j : Int} (hj : 0 ≤ j ∧ j ≤ 65535) : Calls Try.prog 22 #[.pointer (some ⟨gc, 0, none⟩), .agg #[.bool u, .int .u16 j]] W fun e w' => e = .returned (.int .i64 (pinsC s u j)) ∧ Below W.heap.size W w' := by
  obtain ⟨⟨last, sit⟩, hz⟩ := h
  obtain ⟨fv, m, n, vl, vs, L, cA, lD, hdis, hF⟩ := sit.cs.2.1.ex
  exact cpins_any cA sit.cs.2.1.ok u j (wfu_mk hj)
theorem Pit.has {w0 : World} {F : Nat → Prop} {gc gd gl gk ak : Nat} {s : Cs} {l : Lg} {d : Dsk} {k : Nat} {W : World} (h : Pit w0 F gc gd gl gk ak s l d k W) (u : Bool) {j : Int} (hj : 0 ≤ j ∧ j ≤ 65535) : Calls Try.prog 23 #[.pointer (some ⟨gc, 0, none⟩), .agg #[.bool u, .int .u16 j]] W fun e w' => e = .returned (.bool (posF s.fs u j).isSome) ∧ Below W.heap.size W w' := by
  obtain ⟨⟨last, sit⟩, hz⟩ := h
  obtain ⟨fv, m, n, vl, vs, L, cA, lD, hdis, hF⟩ := sit.cs.2.1.ex
  exact resident_any cA u j (wfu_mk hj)
theorem Fetches.most {s : Cs} {l : Lg} {d : Dsk} {u : Bool} {k : Int} {p : List Int} {E : Int} {s' : Cs} {l' : Lg} {d' : Dsk} (h : Fetches s l d u k p E s' l' d') (ok : s.Ok) : s'.most = s.most := by
  rcases h with ⟨h1, rfl, rfl, rfl, rfl, rfl⟩ | ⟨h0, i, f, h1, h2, rfl, rfl, rfl, rfl, rfl⟩ | ⟨h0, h1, i1, E1, s1, ⟨i2, E2, s2, d2, hv, hr2⟩, hr⟩
  · rfl
  · rfl
  · have hm := (hv.f ok).most
    have h1 : s1.most = s.most := by
      rcases hr2 with ⟨_, _, _, rfl, _⟩ | ⟨_, _, _, _, rfl, _⟩ | ⟨_, _, _, _, rfl, _⟩
      · exact hm
      · exact hm
      · exact hm
    rcases hr with ⟨_, _, _, rfl⟩ | ⟨_, _, rfl, _⟩
    · exact h1
    · exact h1
theorem DoR.most {s : Cs} {l : Lg} {d : Dsk} {o : XO} {s' : Cs} {l' : Lg} {d' : Dsk} (h : DoR s l d o s' l' d') (ok : s.Ok) : s'.most = s.most := by
  rcases h with ⟨_, p, E, v⟩ | ⟨_, rfl, rfl, rfl⟩ | ⟨_, rfl, rfl, rfl⟩ | ⟨_, rfl, rfl, rfl⟩ | ⟨_, rfl, rfl, rfl⟩ | ⟨_, rfl, rfl, rfl⟩ | ⟨_, rfl, rfl, rfl⟩ | ⟨_, _, _, _, _, _, _, rfl, rfl, rfl⟩
  · exact v.most ok
  · unfold unpinS setPins
    split
    · split <;> rfl
    · rfl
  · split
    · unfold putS
      split
      · split
        · split <;> rfl
        · rfl
      · rfl
    · rfl
  · unfold writeR
    split
    · rfl
    · split
      · rfl
      · split
        · dsimp only
          split <;> rfl
        · rfl
  · unfold coldS setCold
    split <;> rfl
  · rfl
  · rfl
  · rfl
def PftQ (w0 : World) (F : Nat → Prop) (gc gd gl gk ak : Nat) (s : Cs) (k : Nat) (u : Bool) (j : Int) (W : World) (e : Ending) (w' : World) : Prop :=
  ∃ (p : List Int) (E : Int) (F' : Nat → Prop) (s' : Cs) (l' : Lg) (d' : Dsk), e = .returned (.tuple #[.agg (bs p), .int .i64 E]) ∧ p.length = 224 ∧ Pit w0 F' gc gd gl gk ak s' l' d' (k + 1) w' ∧ Tr F W F' w' ∧ s'.most = s.most ∧ ∀ u' k', pinsC s' u' k' = if E = 0 ∧ u' = u ∧ k' = j then pinsC s u j + 1 else pinsC s u' k'
theorem Pit.fetch {w0 : World} {F : Nat → Prop} {gc gd gl gk ak : Nat} {s : Cs} {l : Lg} {d : Dsk} {k : Nat} {W : World} (h : Pit w0 F gc gd gl gk ak s l d k W) (hk : k ≤ 1000) (u : Bool) {j : Int} (hj : 0 ≤ j ∧ j ≤ 65535) : Calls Try.prog 16 #[.pointer (some ⟨gc, 0, none⟩), .agg #[.bool u, .int .u16 j]] W fun e w' => PftQ w0 F gc gd gl gk ak s k u j W e w' := by
  obtain ⟨z, ok⟩ := h.zr
  obtain ⟨⟨last, sit⟩, hz⟩ := h
  obtain ⟨h1, h2⟩ := sit.ops hk
  refine (fetch_any sit.cs.2.1 u j (wfu_mk hj) sit.st.pi.inv (by omega) h1 (flush_ops sit.st.pi.inv d) (by omega) (by omega)).mono ?_
  rintro e w' ⟨p, E, s', l', d', hf, he, hst⟩
  obtain ⟨st', _⟩ := sit.st.fetch ok hk hj.1 hf
  obtain ⟨F', sit2, tr⟩ := sit.step hk hst (by omega) (by omega) st'
  obtain ⟨p1, p2⟩ := hf.pins z ok sit2.cs.2.1.ok
  exact ⟨p, E, F', s', l', d', he, hf.len ok sit2.cs.2.1.ok, ⟨⟨last, sit2⟩, p1⟩, tr, hf.most ok, p2⟩
theorem Pit.do_ {w0 : World} {F : Nat → Prop} {gc gd gl gk ak : Nat} {s : Cs} {l : Lg} {d : Dsk} {k : Nat} {W : World} (h : Pit w0 F gc gd gl gk ak s l d k W) (hk : k ≤ 1000) {o : XO} (ho : o.Ok W) (h0 : o.kd ≠ 0) (h1 : o.kd ≠ 1) : Calls Try.prog 9 #[.pointer (some ⟨gd, 0, none⟩), .pointer (some ⟨gl, 0, none⟩), .pointer (some ⟨gc, 0, none⟩), .agg o.cells.toArray] W fun e w' => e = .returned (.tuple #[]) ∧ ∃ F' s' l' d', Pit w0 F' gc gd gl gk ak s' l' d' (k + 1) w' ∧ Tr F W F' w' ∧ s'.most = s.most ∧ ∀ u j, pinsC s' u j = pinsC s u j := by
  obtain ⟨z, ok⟩ := h.zr
  obtain ⟨⟨last, sit⟩, hz⟩ := h
  obtain ⟨q1, q2⟩ := sit.ops hk
  refine (do_any sit.cs.2.1 o ho sit.st.pi.inv q2 q1 (by omega) (by omega)).mono ?_
  rintro e w' ⟨s', l', d', hq, rfl, hst⟩
  obtain ⟨last', st', hl⟩ := sit.st.do_ ok hk ho hq
  obtain ⟨F', sit2, tr⟩ := sit.step hk hst (by omega) (by omega) st'
  obtain ⟨p1, p2⟩ := hq.pins h0 h1 z ok
  exact ⟨rfl, F', s', l', d', ⟨⟨last', sit2⟩, p1⟩, tr, hq.most ok, p2⟩
def Held (s : Cs) (H : List Int) : Prop := H.length = 16 ∧ ∀ q j : Nat, q < 2 → j < 8 → H[q * 8 + j]? = some (pinsC s (decide (q = 1)) j)
theorem Held.to {s s' : Cs} {H : List Int} (h : Held s H) (e : ∀ u k, pinsC s' u k = pinsC s u k) : Held s' H := ⟨h.1, fun q j hq hj => by rw [e]; exact h.2 q j hq hj⟩
theorem Held.set {s s' : Cs} {H : List Int} (h : Held s H) {q j : Nat} (hq : q < 2) (hj : j < 8) {x : Int} (e : ∀ u' k', pinsC s' u' k' = if u' = decide (q = 1) ∧ k' = (j : Int) then x else pinsC s u' k') : Held s' (H.set (q * 8 + j) x) := by
  refine ⟨by rw [List.length_set]; exact h.1, fun a b ha hb => ?_⟩
  rw [e]
  by_cases c : q * 8 + j = a * 8 + b
  · obtain ⟨rfl, rfl⟩ : q = a ∧ j = b := by omega
    rw [List.getElem?_set_self (by rw [h.1]; omega), if_pos ⟨rfl, rfl⟩]
  · rw [List.getElem?_set_ne c, if_neg]
    · exact h.2 a b ha hb
    · rintro ⟨c1, c2⟩
      have := decide_eq_decide.1 c1
      omega
def WellE (d : Dsk) : Prop := ∃ kk, Well d 60 kk
theorem Fz.plan_well {d : Dsk} {k : Int} (h : Fz d 60 k) : WellE (d.plan [] 0) := ⟨0, ⟨h.size, rfl, h.on, (fun i => by show decide (i ∈ ([] : List Int)) = false; simp), (by show (0 : Int) ≤ 0; omega), (by show (0 : Int) ≤ 0; omega)⟩⟩
theorem crash_well {d : Dsk} (h : d.n = 60) (bl : List Bool) : WellE (d.crash bl) := ⟨0, ⟨h, rfl, rfl, (fun i => by show decide (i ∈ ([] : List Int)) = false; simp), (by show (0 : Int) ≤ 0; omega), (by show (0 : Int) ≤ 0; omega)⟩⟩
theorem crash_sure (d : Dsk) (b : Int) : (d.crash []).seen b = d.sure.block b := by
  unfold Dsk.seen Dsk.crash
  show (over (over d.sure (kept d.pend [] d.pend.length)) []).block b = _
  rw [kept_none _ _ _ (fun j hj => by simp)]; rfl
theorem wb_well {s : Cs} {l : Lg} {d : Dsk} {f : Fm} (hs : s.pages = 4) (hp : Pg f.un f.no) (ha : l.at_ = 12) (hz : l.size = 48) (h : WellE d) : (wbR s l d f).1 = 0 ∧ WellE (wbR s l d f).2.2 := by
  obtain ⟨kk, hw⟩ := h
  have hin : ∀ y, 0 ≤ placeV l.at_ l.size y ∧ placeV l.at_ l.size y < (60 : Nat) := fun y => by rw [ha, hz]; exact place_in 12 48 60 y okR12
  obtain ⟨k1, k2, _⟩ := closed_at l
  have hfl : (flushIf l d (lsnP f.p)).1 = 0 ∧ ∃ k2, Well (flushIf l d (lsnP f.p)).2.2 60 k2 := by
    unfold flushIf
    split
    · obtain ⟨d', e, w, _⟩ := flush_well l d kk hw (fun c _ => hin c.num) k1 k2
      rw [e]; exact ⟨rfl, _, w⟩
    · exact ⟨rfl, kk, hw⟩
  have hpl : placeC s.pages f.un f.no = placeC 4 f.un f.no := by rw [hs]; rfl
  have hpi := hp.in_
  unfold wbR
  generalize flushIf l d (lsnP f.p) = a at hfl ⊢
  obtain ⟨h0, k3, w3⟩ := hfl
  simp only
  rw [if_neg (by rw [h0]; simp)]
  have hwr : wrD s f a.2.2 = (0, (a.2.2.tick (a.2.2.ops + 1)).wrote (placeC 4 f.un f.no) (Sl.sealN (lsnP f.p) f.p 4) 4) := by
    unfold wrD
    rw [hpl]
    exact writ_well w3 _ ⟨by omega, by omega⟩ _
  rw [hwr]
  have w4 := (w3.tick).wrote (placeC 4 f.un f.no) (Sl.sealN (lsnP f.p) f.p 4)
  rw [if_neg (by simp), sync_well w4]
  exact ⟨rfl, _, w4.tick.synced⟩
theorem write_well {s : Cs} {l : Lg} {d : Dsk} {k : Nat} {last : Bool → Int → List Int} (h : St s l d k last) (ok : s.Ok) (w : WellE d) {u : Bool} {j : Int} {i : Nat} (hp : posF s.fs u j = some i) : (writeR s l d u j).1 = 0 ∧ WellE (writeR s l d u j).2.2.2 := by
  obtain ⟨f, hf, e1, e2⟩ := posF_some hp
  have hw := wb_well (s := s) (l := l) h.pages (h.page ok (List.mem_of_getElem? hf)) h.at_ h.size w
  unfold writeR
  rw [hp]
  simp only [hf]
  split
  · exact hw
  · exact ⟨rfl, w⟩
theorem write_clean {s : Cs} {l : Lg} {d : Dsk} (u : Bool) (j : Int) (u' : Bool) (j' : Int) : posF (writeR s l d u j).2.1.fs u' j' = posF s.fs u' j' ∧ (cleanC s u' j' = true → cleanC (writeR s l d u j).2.1 u' j' = true) := by
  unfold writeR
  cases hp : posF s.fs u j with
  | none => exact ⟨rfl, id⟩
  | some i =>
    obtain ⟨f, hf, e1, e2⟩ := posF_some hp
    simp only [hf]
    split
    · split
      · have hpos : posF (cleanF s i f).fs u' j' = posF s.fs u' j' := posF_set (f' := { f with dirty := false }) hf rfl rfl u' j'
        refine ⟨hpos, fun hc => ?_⟩
        unfold cleanC at hc ⊢
        rw [hpos]
        cases h' : posF s.fs u' j' with
        | none => rfl
        | some i' =>
          rw [h'] at hc
          show (!((cleanF s i f).fs[i']?.map Fm.dirty).getD false) = true
          rw [cleanF_fs]
          by_cases q : i = i'
          · subst q
            rw [List.getElem?_set_self (List.getElem?_eq_some_iff.1 hf).1]; rfl
          · rw [List.getElem?_set_ne q]; exact hc
      · exact ⟨rfl, id⟩
    · exact ⟨rfl, id⟩
theorem fetch_res {s : Cs} {l : Lg} {d : Dsk} {u : Bool} {k : Int} {p : List Int} {E : Int} {s' : Cs} {l' : Lg} {d' : Dsk} (h : Fetches s l d u k p E s' l' d') (hc : isC s u k = true) {i : Nat} (hp : posF s.fs u k = some i) : E = 0 ∧ s'.fs = s.fs ∧ l' = l ∧ d' = d := by
  rcases h with ⟨h1, _⟩ | ⟨h0, i, f, h1, h2, rfl, rfl, rfl, rfl, rfl⟩ | ⟨h0, h1, _⟩
  · rw [hc] at h1; cases h1
  · exact ⟨rfl, rfl, rfl, rfl⟩
  · rw [hp] at h1; cases h1
theorem St.lasts {s : Cs} {l : Lg} {d : Dsk} {k : Nat} {last : Bool → Int → List Int} (h : St s l d k last) (ok : s.Ok) {u : Bool} {j : Int} (hp : Pg u j) (hc : cleanC s u j = true) : (openF u j ((d.crash []).seen (placeC 4 u j))).p = last u j := by
  obtain ⟨q1, q2⟩ := h.rest u j hp (fun f hf e1 e2 => by
    obtain ⟨n, hn, hne⟩ := List.mem_iff_getElem.1 hf
    have hfn : s.fs[n]? = some f := by rw [← hne]; exact List.getElem?_eq_getElem hn
    have hpos : posF s.fs u j = some n := (posF_iff ok.one).2 ⟨f, hfn, e1, e2⟩
    unfold cleanC at hc
    rw [hpos] at hc
    have hc2 : (!((s.fs[n]?.map Fm.dirty).getD false)) = true := hc
    rw [hfn] at hc2
    have hc3 : (!f.dirty) = true := hc2
    simpa using hc3)
  rw [crash_sure, q2]
  exact q1
structure Fr2 (s : Cs) (d : Dsk) (m : Nat) : Prop where
  pages : s.pages = 4
  undo : s.undo = 5
  most : s.most = 16
  few : s.fs.length ≤ m
  fr : ∀ f ∈ s.fs, f.p = (openF f.un f.no (d.seen (placeC 4 f.un f.no))).p
  well : WellE d
theorem Fr2.fetch {s : Cs} {l : Lg} {d : Dsk} {m : Nat} (h : Fr2 s d m) (hm : m < 16) {u : Bool} {j : Int} (hp : Pg u j) {p : List Int} {E : Int} {s' : Cs} {l' : Lg} {d' : Dsk} (v : Fetches s l d u j p E s' l' d') :
    E = 0 ∧ p = (openF u j (d.seen (placeC 4 u j))).p ∧ Fr2 s' d' (m + 1) ∧ (∀ b, d'.seen b = d.seen b) ∧ l' = l := by
  have hin := hp.in_
  have hc := (isC_pg h.pages h.undo hp.1).2 hp
  rcases v with ⟨h1, _⟩ | ⟨h0, i, f, h1, h2, rfl, rfl, rfl, rfl, rfl⟩ | ⟨h0, h1, i1, E1, s1, ⟨i2, E2, s2, d2, hv, hr2⟩, hr⟩
  · rw [hc] at h1; cases h1
  · obtain ⟨g, hg, e1, e2⟩ := posF_some h1
    rw [h2] at hg; cases hg
    have := h.fr f (List.mem_of_getElem? h2)
    rw [e1, e2] at this
    exact ⟨rfl, this, ⟨h.pages, h.undo, h.most, by have := h.few; show s.fs.length ≤ m + 1; omega, h.fr, h.well⟩, fun _ => rfl, rfl⟩
  · obtain ⟨kk, hw⟩ := h.well
    have hv2 : i2 = s.fs.length ∧ E2 = 0 ∧ s2 = s ∧ l' = l ∧ d2 = d := by
      rcases hv with ⟨_, a, b, c, e, f⟩ | ⟨a, _⟩
      · exact ⟨a, b, c, e, f⟩
      · have := h.few; have := h.most; omega
    obtain ⟨rfl, rfl, rfl, rfl, rfl⟩ := hv2
    have hpl : placeC s2.pages u j = placeC 4 u j := by rw [h.pages]; rfl
    have hrd : read d2 (placeC s2.pages u j) = (d2.seen (placeC 4 u j), 0, d2.tick (d2.ops + 1)) := by rw [hpl]; exact read_well hw _ ⟨by omega, by omega⟩
    rw [hrd] at hr2
    rcases hr2 with ⟨q, _⟩ | ⟨_, q, _⟩ | ⟨_, _, rfl, rfl, rfl, rfl⟩
    · exact absurd rfl q
    · exact absurd rfl q
    · rcases hr with ⟨q, _⟩ | ⟨_, rfl, rfl, f, hf, rfl⟩
      · exact absurd rfl q
      · have hf2 : (takeF s2.fs s2.fs.length (openF u j (d2.seen (placeC 4 u j))))[s2.fs.length]? = some f := hf
        rw [takeF_at (Nat.le_refl _)] at hf2
        cases hf2
        refine ⟨rfl, rfl, ⟨h.pages, h.undo, h.most, ?_, fun g hg => ?_, ⟨_, hw.tick⟩⟩, fun b => rfl, rfl⟩
        · show (takeF s2.fs s2.fs.length _).length ≤ m + 1
          unfold takeF
          rw [if_pos rfl, List.length_append]
          have := h.few
          simp; omega
        · have hg2 : g ∈ takeF s2.fs s2.fs.length (openF u j (d2.seen (placeC 4 u j))) := hg
          unfold takeF at hg2
          rw [if_pos rfl] at hg2
          rcases List.mem_append.1 hg2 with y | y
          · exact h.fr g y
          · have := List.mem_singleton.1 y
            have e1 : g.un = u ∧ g.no = j := by rw [this]; unfold openF; split <;> exact ⟨rfl, rfl⟩
            rw [e1.1, e1.2, this]; rfl
theorem Sit.write {w0 : World} {F : Nat → Prop} {gc gd gl gk ak : Nat} {s : Cs} {l : Lg} {d : Dsk} {k : Nat} {last : Bool → Int → List Int} {W : World} (h : Sit w0 F gc gd gl gk ak s l d k last W) (hk : k ≤ 1000) (u : Bool) {j : Int} (hj : 0 ≤ j ∧ j ≤ 65535) : Calls Try.prog 25 #[.pointer (some ⟨gc, 0, none⟩), .agg #[.bool u, .int .u16 j]] W fun e w' => e = .returned (.int .i64 (writeR s l d u j).1) ∧ ∃ F', Sit w0 F' gc gd gl gk ak (writeR s l d u j).2.1 (writeR s l d u j).2.2.1 (writeR s l d u j).2.2.2 (k + 1) last w' ∧ Tr F W F' w' := by
  obtain ⟨h1, h2⟩ := h.ops hk
  refine (cwrite_any h.cs.2.1 u j (wfu_mk hj) h.st.pi.inv (by omega) (by omega) (flush_ops h.st.pi.inv d) (by omega)).mono ?_
  rintro e w' ⟨he, hst⟩
  exact ⟨he, h.step hk hst (by omega) (by omega) (h.st.write h.cs.2.1.ok hk u j).1⟩
theorem Sit.clean {w0 : World} {F : Nat → Prop} {gc gd gl gk ak : Nat} {s : Cs} {l : Lg} {d : Dsk} {k : Nat} {last : Bool → Int → List Int} {W : World} (h : Sit w0 F gc gd gl gk ak s l d k last W) (u : Bool) {j : Int} (hj : 0 ≤ j ∧ j ≤ 65535) : Calls Try.prog 26 #[.pointer (some ⟨gc, 0, none⟩), .agg #[.bool u, .int .u16 j]] W fun e w' => e = .returned (.bool (cleanC s u j)) ∧ Below W.heap.size W w' := by
  obtain ⟨fv, m, n, vl, vs, L, cA, lD, hdis, hF⟩ := h.cs.2.1.ex
  exact clean_any cA h.cs.2.1.ok u j (wfu_mk hj)
theorem Sit.has {w0 : World} {F : Nat → Prop} {gc gd gl gk ak : Nat} {s : Cs} {l : Lg} {d : Dsk} {k : Nat} {last : Bool → Int → List Int} {W : World} (h : Sit w0 F gc gd gl gk ak s l d k last W) (u : Bool) {j : Int} (hj : 0 ≤ j ∧ j ≤ 65535) : Calls Try.prog 23 #[.pointer (some ⟨gc, 0, none⟩), .agg #[.bool u, .int .u16 j]] W fun e w' => e = .returned (.bool (posF s.fs u j).isSome) ∧ Below W.heap.size W w' := by
  obtain ⟨fv, m, n, vl, vs, L, cA, lD, hdis, hF⟩ := h.cs.2.1.ex
  exact resident_any cA u j (wfu_mk hj)
theorem Sit.plan {w0 : World} {F : Nat → Prop} {gc gd gl gk ak : Nat} {s : Cs} {l : Lg} {d : Dsk} {k : Nat} {last : Bool → Int → List Int} {W : World} (h : Sit w0 F gc gd gl gk ak s l d k last W) (hk : k ≤ 1000) : Calls Try.prog 24 #[.pointer (some ⟨gd, 0, none⟩), .slice none 0 0, .int .i64 0] W fun e w' => e = .returned (.tuple #[]) ∧ ∃ F', Sit w0 F' gc gd gl gk ak s l (d.plan [] 0) (k + 1) last w' ∧ Tr F W F' w' := by
  refine (h.cs.2.1.plan (.slice none 0 0) [] (Or.inl ⟨rfl, rfl⟩) (fun a n c e => by cases e) (fun z hz => by cases hz) (by simp)).mono ?_
  rintro e w' ⟨he, hst⟩
  exact ⟨he, h.step hk hst (by omega) (by omega) ((h.st.plan []).mono (by omega))⟩
theorem CL.crash {w : World} {F : Nat → Prop} {gc gd gl gk ak : Nat} {s : Cs} {l : Lg} {d : Dsk} {M : Int} {N : Nat} (c : CL w F gc gd gl gk ak s l d M N) : Calls Try.prog 27 #[.pointer (some ⟨gd, 0, none⟩), .slice none 0 0] w fun e w' => e = .returned (.tuple #[]) ∧ CStep w F gc gd gl gk ak s l (d.crash []) M N w' := by
  obtain ⟨fv, m, n, vl, vs, L, cA, hst, lD, hdis, hF⟩ := c.self
  refine hst.crash.mono ?_
  rintro e w' ⟨q1, q2⟩
  refine ⟨q1, CStep.logd hdis hF (fun j q => cA.lt q) (q2.off.mono fun j q => Or.inl (hF j (Or.inl q))) q2 (cA.off q2.off fun k q q2 => hdis k q2 q) c.ok⟩
theorem CS.new {w0 : World} {F : Nat → Prop} {gc gd gl gk ak : Nat} {s : Cs} {l : Lg} {d : Dsk} {M : Int} {N : Nat} {W : World} (h : CS w0 F gc gd gl gk ak s l d M N W) (hn : d.n = 60) : Calls Try.prog 28 #[.pointer (some ⟨gd, 0, none⟩), .pointer (some ⟨gl, 0, none⟩), .int .i64 16, .int .i64 4, .int .i64 5] W fun e w' => ∃ gc' gk' ak' F', e = .returned (.pointer (some ⟨gc', 0, none⟩)) ∧ CS w0 F' gc' gd gl gk' ak' (newC 4 5 16) l d 0 N w' ∧ Tr F W F' w' := by
  obtain ⟨hb, c, hF0⟩ := h
  obtain ⟨fv, m, n, vl, vs, L, cA, lD, hdis, hF⟩ := c.ex
  refine (cnew_some lD (F := F) (fun j q => hF j (Or.inl q)) 4 5 16 (by omega) (by omega) (by omega) (by rw [hn]; omega)).mono ?_
  rintro e w' ⟨gc', gk', ak', he, hb2, hgc, F', c', hF'⟩
  have hws := hb.size
  refine ⟨gc', gk', ak', F', he, ⟨hb.trans (hb2.mono hws), c', fun j q => ?_⟩, Off.of_below hb2, fun j hj q => ?_⟩
  · rcases hF' j q with y | y
    · exact hF0 j y
    · omega
  · rcases hF' j q with y | y
    · exact y
    · omega
structure Fit (w0 : World) (F : Nat → Prop) (gc gd gl gk ak : Nat) (s : Cs) (l : Lg) (d : Dsk) (N m : Nat) (sn : Int → List Int) (W : World) : Prop where
  cs : CS w0 F gc gd gl gk ak s l d (m : Int) (N + 4004 * m) W
  fr : Fr2 s d m
  sn : ∀ b, d.seen b = sn b
  li : l.Inv ∧ l.fin ≤ 9223372036854775807
  op : d.ops ≤ 1010 * m
  N : N ≤ 100000000
theorem Fetches.ops {s : Cs} {l : Lg} {d : Dsk} {u : Bool} {k : Int} {p : List Int} {E : Int} {s' : Cs} {l' : Lg} {d' : Dsk} (h : Fetches s l d u k p E s' l' d') (hf : (flushR l d).2.2.ops ≤ d.ops + 1000) : d'.ops ≤ d.ops + 1010 := by
  have hr : ∀ (e : Dsk) (b : Int), (read e b).2.2.ops ≤ e.ops + 1 := fun e b => by
    have ha : (ask e b).2.ops ≤ e.ops + 1 := by
      unfold ask
      split
      · show e.ops ≤ _; omega
      · split
        · unfold count
          split
          · show e.ops + 1 ≤ _; omega
          · split
            · show e.ops + 1 ≤ _; omega
            · show e.ops + 1 ≤ _; omega
        · show e.ops ≤ _; omega
    unfold Ytehogiondcpbcaa.read
    split
    · exact ha
    · exact ha
  rcases h with ⟨h1, rfl, rfl, rfl, rfl, rfl⟩ | ⟨h0, i, f, h1, h2, rfl, rfl, rfl, rfl, rfl⟩ | ⟨h0, h1, i1, E1, s1, ⟨i2, E2, s2, d2, hv, hr2⟩, hr3⟩
  · omega
  · omega
  · have hv2 := hv.ops hf
    have hd := hr d2 (placeC s.pages u k)
    rcases hr2 with ⟨_, _, _, _, rfl⟩ | ⟨_, _, _, _, _, rfl⟩ | ⟨_, _, _, _, _, rfl⟩ <;> omega
theorem Fit.fetch {w0 : World} {F : Nat → Prop} {gc gd gl gk ak : Nat} {s : Cs} {l : Lg} {d : Dsk} {N m : Nat} {sn : Int → List Int} {W : World} (h : Fit w0 F gc gd gl gk ak s l d N m sn W) (hm : m < 16) {u : Bool} {j : Int} (hp : Pg u j) : Calls Try.prog 16 #[.pointer (some ⟨gc, 0, none⟩), .agg #[.bool u, .int .u16 j]] W fun e w' => e = .returned (.tuple #[.agg (bs (openF u j (sn (placeC 4 u j))).p), .int .i64 0]) ∧ (openF u j (sn (placeC 4 u j))).p.length = 224 ∧ ∃ F' s' d', Fit w0 F' gc gd gl gk ak s' l d' N (m + 1) sn w' ∧ Tr F W F' w' := by
  have hop := h.op
  have hN := h.N
  refine (fetch_any h.cs.2.1 u j (wfu_mk hp.lim) h.li.1 (by have := h.li.2; omega) (by omega) (flush_ops h.li.1 d) (by omega) (by omega)).mono ?_
  rintro e w' ⟨p, E, s', l', d', hf, he, hst⟩
  obtain ⟨rfl, rfl, f1, f2, rfl⟩ := h.fr.fetch hm hp hf
  have ho := hf.ops (flush_ops h.li.1 d)
  have h2 : CStep W F gc gd gl gk ak s' l' d' ((m + 1 : Nat) : Int) (N + 4004 * (m + 1)) w' := (hst.growM (M' := ((m + 1 : Nat) : Int)) (by push_cast; omega) (by push_cast; omega)).grow (by omega) (by omega)
  obtain ⟨F', c1, c2⟩ := h.cs.step h2
  have hlen := hf.len h.cs.2.1.ok c1.2.1.ok
  rw [h.sn] at he hlen
  exact ⟨he, hlen, F', s', d', ⟨c1, f1, fun b => (f2 b).trans (h.sn b), h.li, by push_cast; omega, h.N⟩, c2⟩
end Go.Proofs.Ytehogiondcpbcaa
