/-
  Plain facts on frames of which nothing more is said: how they come one behind the other.
-/
import Derived.Test.YtobdeijbmnenmabAwk
namespace Go.Proofs.Ytobdeijbmnenmab
open Go.ChangeShapes Go.WideShapes Go.ChangeAt Go.RowKit
open Go.Deep
set_option linter.unusedVariables false
set_option linter.unusedSimpArgs false

/-- None is cold. -/
def Calm (fs : List Fr) : Prop := ∀ y ∈ fs, y.cold = false
/-- None that nobody holds was seen. -/
def Unseen (R : List Fr) : Prop := ∀ x ∈ fre R, x.seen = false
def nosF (R : List Fr) : List Nat := (fre R).map Fr.no
theorem calm_same {fs fs' : List Fr} (s : Same fs fs') (hc : Calm fs) : Calm fs' := fun y hy => by
  obtain ⟨j, hj, rfl⟩ := List.getElem_of_mem hy
  have hj' : j < fs.length := by rw [← s.1]; exact hj
  obtain ⟨z, hz, e, _⟩ := s.2 j _ (List.getElem?_eq_getElem hj')
  rw [List.getElem?_eq_getElem hj] at hz
  cases hz
  rw [e]; exact hc _ (List.getElem_mem hj')
theorem nos_range {fs : List Fr} (nos : ∀ (j : Nat) (x : Fr), fs[j]? = some x → x.no = j) : fs.map Fr.no = List.range fs.length := by
  apply List.ext_getElem?
  intro j
  rw [List.getElem?_map]
  by_cases hj : j < fs.length
  · rw [List.getElem?_eq_getElem hj, List.getElem?_range hj, Option.map_some, nos j _ (List.getElem?_eq_getElem hj)]
  · rw [List.getElem?_eq_none (by omega), List.getElem?_eq_none (by simp; omega)]; rfl
theorem nosF_nodup {fs : List Fr} (nos : ∀ (j : Nat) (x : Fr), fs[j]? = some x → x.no = j) (h : Nat) : (nosF (ring fs h)).Nodup := by
  have h1 : (fs.map Fr.no).Nodup := by rw [nos_range nos]; exact List.nodup_range
  have h2 : ((ring fs h).map Fr.no).Nodup := by
    refine (List.Perm.nodup_iff ?_).2 h1
    unfold ring
    refine List.Perm.map _ ?_
    have := List.perm_append_comm (l₁ := fs.drop h) (l₂ := fs.take h)
    rwa [List.take_append_drop] at this
  unfold nosF fre
  exact h2.sublist (List.filter_sublist.map _)
theorem calm_vic {fs : List Fr} {h : Nat} {v : Nat} {ok : Bool} {S : List Fr} (hc : Calm fs) (hf : ∃ y ∈ fs, y.pins = 0) (q : Vict (ring fs h) v ok S) : Vic (ring fs h) v S ∧ ok = true := by
  rcases q with ⟨A, x, B, e, _, hx, _⟩ | ⟨_, _, hv, hok⟩ | ⟨hn, _⟩
  · have : x ∈ fs := mem_ring.1 (by rw [e]; simp)
    have h1 := hc x this
    rw [(cf_pins hx).2] at h1; cases h1
  · exact ⟨hv, hok⟩
  · obtain ⟨y, hy, h0⟩ := hf
    exact absurd h0 (hn y (mem_ring.2 hy))
theorem fre_free {R : List Fr} {x : Fr} (h : x ∈ fre R) : x ∈ R ∧ x.pins = 0 := by
  unfold fre at h
  have := List.mem_filter.1 h
  exact ⟨this.1, by simpa using this.2⟩
/-- A clock of which nothing more is said: the frames that nobody holds, in order. -/
def Fair (w : World) (g a K : Nat) (M : Int) (L : List Nat) : Prop := ∃ fs h, CAt w g a fs h M ∧ Calm fs ∧ Unseen (ring fs h) ∧ nosF (ring fs h) = L ∧ fs.length = K
def Prep (w : World) (g a K : Nat) (M : Int) (F m : Nat) : Prop := ∃ fs h, CAt w g a fs h M ∧ Calm fs ∧ (fre (ring fs h)).length = F ∧ (Tail m (fre (ring fs h)) ∨ Unseen (ring fs h)) ∧ fs.length = K
theorem Fair.off {F : Nat → Prop} {w w' : World} {g a K : Nat} {M : Int} {L : List Nat} (f : Fair w g a K M L) (ho : Off F w w') (hF : ∀ k, two g a k → ¬ F k) : Fair w' g a K M L := by
  obtain ⟨fs, h, c, h2⟩ := f
  exact ⟨fs, h, c.off ho hF, h2⟩
theorem Prep.fair {w : World} {g a K : Nat} {M : Int} {F : Nat} (p : Prep w g a K M F F) : ∃ L, Fair w g a K M L ∧ L.length = F ∧ L.Nodup ∧ ∀ k, two g a k → k < w.heap.size := by
  obtain ⟨fs, h, c, hc, hl, ht, hk⟩ := p
  refine ⟨nosF (ring fs h), ⟨fs, h, c, hc, ?_, rfl, hk⟩, by unfold nosF; rw [List.length_map, hl], nosF_nodup c.nos h, fun k hk => c.lt hk⟩
  rcases ht with ⟨A, B, e, hm, hB⟩ | ht
  · have : A = [] := by
      have := congrArg List.length e
      rw [List.length_append, hl] at this
      exact List.eq_nil_of_length_eq_zero (by omega)
    subst this
    intro x hx
    rw [e] at hx
    exact hB x (by simpa using hx)
  · exact ht
theorem vict_prep {w : World} {g a K : Nat} {M : Int} {F m : Nat} (p : Prep w g a K M F m) (hm : m < F) : Calls Try.prog 16 #[.pointer (some ⟨g, 0, none⟩)] w fun e w' => ∃ (v : Nat) (ok : Bool), e = .returned (.tuple #[.int .i64 v, .bool ok]) ∧ Prep w' g a K M F (m + 1) ∧ Off (two g a) w w' := by
  obtain ⟨fs, h, c, hc, hl, ht, hk⟩ := p
  refine (victim_any c).mono ?_
  rintro e w' ⟨v, ok, fs', h', rfl, h1, h2, h3, h4⟩
  refine ⟨v, ok, rfl, ⟨fs', h', h3, calm_same h2 hc, ?_⟩, h4⟩
  have hf : ∃ y ∈ fs, y.pins = 0 := by
    cases q : fre (ring fs h) with
    | nil => rw [q] at hl; simp at hl; omega
    | cons y r =>
      have := fre_free (R := ring fs h) (x := y) (by rw [q]; simp)
      exact ⟨y, mem_ring.1 this.1, this.2⟩
  obtain ⟨hv, _⟩ := calm_vic hc hf h1
  refine ⟨hv.keep.1.trans hl, ?_, h2.1.trans hk⟩
  rcases ht with ht | ht
  · exact hv.tail ht
  · right
    obtain ⟨x, T, e1, _, e2⟩ := hv.round ht
    intro y hy
    rw [e2] at hy
    refine ht y ?_
    rw [e1]
    rcases List.mem_append.1 hy with q | q
    · exact List.mem_cons_of_mem _ q
    · simp at q; rw [q]; exact List.mem_cons_self
theorem vict_fair {w : World} {g a K : Nat} {M : Int} {x : Nat} {T : List Nat} (p : Fair w g a K M (x :: T)) : Calls Try.prog 16 #[.pointer (some ⟨g, 0, none⟩)] w fun e w' => e = .returned (.tuple #[.int .i64 x, .bool true]) ∧ Fair w' g a K M (T ++ [x]) ∧ Off (two g a) w w' := by
  obtain ⟨fs, h, c, hc, hu, hn, hk⟩ := p
  refine (victim_any c).mono ?_
  rintro e w' ⟨v, ok, fs', h', rfl, h1, h2, h3, h4⟩
  have hf : ∃ y ∈ fs, y.pins = 0 := by
    cases q : fre (ring fs h) with
    | nil => unfold nosF at hn; rw [q] at hn; cases hn
    | cons y r =>
      have := fre_free (R := ring fs h) (x := y) (by rw [q]; simp)
      exact ⟨y, mem_ring.1 this.1, this.2⟩
  obtain ⟨hv, rfl⟩ := calm_vic hc hf h1
  obtain ⟨y, S, e1, e2, e3⟩ := hv.round hu
  unfold nosF at hn
  rw [e1] at hn
  simp at hn
  obtain ⟨rfl, rfl⟩ := hn
  subst e2
  refine ⟨rfl, ⟨fs', h', h3, calm_same h2 hc, fun z hz => ?_, by unfold nosF; rw [e3]; simp, h2.1.trans hk⟩, h4⟩
  rw [e3] at hz
  refine hu z ?_
  rw [e1]
  rcases List.mem_append.1 hz with q | q
  · exact List.mem_cons_of_mem _ q
  · simp at q; rw [q]; exact List.mem_cons_self
/-- Numbers that can be read. -/
def Nums (w : World) (W0 : Nat) (v : Value) (L : List Nat) : Prop := ∃ oa cap, v = .slice oa L.length cap ∧ ∀ (j x : Nat), L[j]? = some x → ∃ A : Addr, oa = some A ∧ W0 ≤ A.block ∧ w.cell? (A.add j) = some (.int .i64 x)
def ints (L : List Nat) : List Value := L.map fun x : Nat => Value.int .i64 x
theorem block_add (A : Addr) (j : Nat) : (A.add j).block = A.block := by unfold Addr.add; split <;> rfl
theorem cell_lt {w : World} {p : Addr} {u : Value} (h : w.cell? p = some u) : p.block < w.heap.size := by
  unfold World.cell? at h
  by_cases q : p.block < w.heap.size
  · exact q
  · rw [Array.getElem?_eq_none (by omega)] at h; cases h
theorem Nums.off {F : Nat → Prop} {w w' : World} {W0 : Nat} {v : Value} {L : List Nat} (h : Nums w W0 v L) (ho : Off F w w') (hF : ∀ k, F k → k < W0) : Nums w' W0 v L := by
  obtain ⟨oa, cap, rfl, hc⟩ := h
  refine ⟨oa, cap, rfl, fun j x hx => ?_⟩
  obtain ⟨A, e, hA, hcl⟩ := hc j x hx
  refine ⟨A, e, hA, ?_⟩
  rw [← hcl]
  refine World.cell?_of_block (ho.block _ (cell_lt hcl) (fun q => ?_))
  have := hF _ q
  rw [block_add] at this
  omega
theorem Nums.of_owns {w : World} {base : Nat} {v : Value} {L : List Nat} (h : w.ownsRow base 3 1 v L.length (ints L)) : Nums w base v L := by
  rcases h.2 with ⟨rfl, h0⟩ | ⟨g, cap, cur, rfl, hb, hr, _, _, hs, ht⟩
  · have : L = [] := List.eq_nil_of_length_eq_zero h0
    subst this
    exact ⟨none, 0, rfl, fun j x hx => by simp at hx⟩
  · refine ⟨_, cap, rfl, fun j x hx => ⟨_, rfl, hb, ?_⟩⟩
    have hj := (List.getElem?_eq_some_iff.1 hx).1
    rw [Addr.add_mid, Nat.zero_add]
    refine row_at (cs := cur) (t := 3) hr j _ ?_
    have : (ints L)[j]? = some (.int .i64 x) := by unfold ints; rw [List.getElem?_map, hx]; rfl
    rw [← ht, List.getElem?_take, if_pos (by omega)] at this
    simpa using this
theorem ownsRow_kept {w w' : World} {base : Nat} {e : TypeId} {size : Nat} {v : Value} {n : Nat} {xs : List Value} (h : w.ownsRow base e size v n xs) (hk : ∀ k, v.ownBlock = some k → k < w.heap.size → w'.heap[k]? = w.heap[k]?) : w'.ownsRow base e size v n xs := by
  have hl := h.lt
  obtain ⟨h1, h2⟩ := h
  refine ⟨h1, ?_⟩
  rcases h2 with h2 | ⟨g, cap, cur, rfl, hb, hc, rest⟩
  · exact Or.inl h2
  · have := hl g (by simp [Value.ownBlock])
    exact Or.inr ⟨g, cap, cur, rfl, hb, (hk g (by simp [Value.ownBlock]) this.2).trans hc, rest⟩
theorem ownsRow_off {F : Nat → Prop} {w w' : World} {base : Nat} {e : TypeId} {size : Nat} {v : Value} {n : Nat} {xs : List Value} (h : w.ownsRow base e size v n xs) (ho : Off F w w') (hF : ∀ k, F k → k < base) : w'.ownsRow base e size v n xs :=
  ownsRow_kept h fun k e hl => ho.block k hl fun q => by
    have := hF k q
    have := (h.lt k e).1
    omega
theorem info3 : (Try.prog.info? 3).map (fun i => (i.zero, i.size, i.bytes)) = some (some (.int .i64 0), 1, 8) := by kernel_rfl
end Go.Proofs.Ytobdeijbmnenmab
