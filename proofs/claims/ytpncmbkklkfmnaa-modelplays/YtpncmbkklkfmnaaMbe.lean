/-
  Proved here: what begin answers, and makes of a machine.
-/
import Derived.Test.YtpncmbkklkfmnaaJn
namespace Go.Proofs.Ytpncmbkklkfmnaa
open Go.ChangeShapes Go.WideShapes Go.ChangeAt Go.RowKit
open Go.Deep Go.Maps
set_option linter.unusedVariables false
set_option linter.unusedSimpArgs false
set_option maxRecDepth 20000


theorem begin_full {w : World} {F : Nat → Prop} {g : Nat} {m : M} (c : MA w F g m) (hs : ¬ m.L.length < 8) :
    Calls Try.prog 20 #[.pointer (some ⟨g, 0, none⟩)] w fun r w' => r = .returned (.agg (Rep.fail 10).arr) ∧ Below w.heap.size w w' := by
  have hz := zero40
  have r0 : Row (w.alloc (.cells Rep.zero.arr 40)) w.heap.size Rep.zero.arr 40 := Row.new _ _ _
  have ab : Below w.heap.size w (w.alloc (.cells Rep.zero.arr 40)) := (Below.refl _ _).alloc (Nat.le_refl _) _
  have c1 := c.below ab
  have d4 := c1.at_.c4
  have hown := c1.at_.lown
  have HSZ : Hid (Maps.size (txD m.L) = m.L.length) := txD_size m.L
  have hge : (m.L.length : Int) ≥ 8 := by omega
  have ho := only_any 10 (w.alloc (.cells Rep.zero.arr 40))
  have HFS : Hid ((Rep.fail 10).arr.size = 67) := Rep.arr_size (zs_length _)
  have fo := (Rep.fail 10).one
  have HZS : Hid (Rep.zero.arr.size = 67) := rz
  clear c c1 hs
  generalize (Rep.fail 10).arr = FA at ho HFS fo ⊢
  generalize Rep.zero.arr = Z at hz r0 ab d4 hown ho HZS ⊢
  have ts : Hid (1 = 1) := rfl
  go_enter Try.func20, Try.ntmps20
  go_wp2_with (first
    | (at_len; refine wpList_len_own _ rfl _ 55 rfl 32 70 Try.underlying55 _ m.lm _ _ rfl hown ?_; rw [HSZ.out])
    | (go_at_call 19; refine ho.mono ?_; clear ho; rintro e wc ⟨he, hcb⟩; obtain rfl := he; have r1 := r0.below hcb r0.lt; have ab3 := ab.trans (hcb.mono ab.size))
    | (have hh := ts; clear hh ts; refine store_cells rfl 40 (.tmp 2) (.tmp 9) rfl w.heap.size FA rfl rfl 40 _ r1 67 size40 HZS.out HFS.out fo ?_))
  refine bodyPost_ret (v := .agg FA) ?_ rfl ⟨rfl, below_setRow ab3 (Nat.le_refl _) _⟩
  exact ret_cell (fn := Try.f20) rfl _ _ w.heap.size 40 FA _ rfl (r1.set _) Try.underlying40 rfl (by rw [size40, HFS.out])
theorem began_ok {m : M} (ok : m.abs.Ok) (nb : Nat) (hs : m.L.length < 8) : (M.abs { m with last := m.last, begun := m.begun + 1, closed := m.closed, L := m.L ++ [⟨m.begun + 1, m.last, nb, []⟩] }).Ok := by
  have h := ok
  have hp := ok.pos
  have hl := ok.lo
  have ht := ok.tx
  have hk := ok.keys
  simp only [M.abs] at hp hl ht hk
  refine { n0 := h.n0, n1 := h.n1, vs := h.vs, lo := h.lo, hi := h.hi, mx := h.mx, pos := ?_, keys := ?_, few := ?_, tx := ?_ }
  · simp only [M.abs]; omega
  · simp only [M.abs, List.map_append, List.map_cons, List.map_nil]
    refine List.pairwise_append.2 ⟨hk, List.pairwise_singleton _ _, fun a ha b hb => ?_⟩
    simp at hb
    subst hb
    have := ht a ha
    show a.1 < m.begun + 1
    omega
  · simp [M.abs]; omega
  · simp only [M.abs, List.map_append, List.map_cons, List.map_nil]
    intro t hm
    rcases List.mem_append.1 hm with q | q
    · have := ht t q
      exact ⟨this.1, by omega, this.2.2.1, this.2.2.2.1, this.2.2.2.2⟩
    · simp at q
      subst q
      exact ⟨by show (1 : Int) ≤ m.begun + 1; omega, by show m.begun + 1 ≤ _; omega, hl, Int.le_refl _, ⟨List.Pairwise.nil, by show (0 : Nat) ≤ 4; omega, fun p hp => nomatch hp⟩⟩
theorem begun_ok {m : M} (ok : m.abs.Ok) : (M.abs { m with last := m.last, begun := m.begun + 1, closed := m.closed }).Ok := by
  have h := ok
  have hp := ok.pos
  have ht := ok.tx
  simp only [M.abs] at hp ht
  refine { n0 := h.n0, n1 := h.n1, vs := h.vs, lo := h.lo, hi := h.hi, mx := h.mx, pos := ?_, keys := h.keys, few := h.few, tx := ?_ }
  · simp only [M.abs]; omega
  · intro t q
    have := ht t q
    exact ⟨this.1, by simp only [M.abs]; omega, this.2.2.1, this.2.2.2.1, this.2.2.2.2⟩
theorem MA.began {w1 w2 : World} {F : Nat → Prop} {g : Nat} {m : M} (ok : m.abs.Ok) (c1 : MA w1 F g { m with last := m.last, begun := m.begun + 1, closed := m.closed }) (hs : m.L.length < 8) (nb : Nat) (hn : w1.ownsMap Try.prog 33 wrR nb 0 (setD [])) (hnF : ¬ F nb) {n : Nat}
    (h2 : w2.ownsMap Try.prog 32 txR m.lm n (txD (m.L ++ [⟨m.begun + 1, m.last, nb, []⟩]))) (ht : w1.mapTurned w2 m.lm) : MA w2 (fun k => F k ∨ k = nb) g { m with last := m.last, begun := m.begun + 1, closed := m.closed, L := m.L ++ [⟨m.begun + 1, m.last, nb, []⟩] } ∧ Off (· = m.lm) w1 w2 := by
  have ho : Off (· = m.lm) w1 w2 := Off.of_grown ht.grown (fun j hj => by cases hj; rfl)
  have hlm : F m.lm := c1.foot _ (Or.inr (Or.inr (Or.inl rfl)))
  have hmb : ∀ t ∈ m.L, F t.mb := fun t ht => c1.foot _ (Or.inr (Or.inr (Or.inr (Or.inr ⟨t, ht, rfl⟩))))
  refine ⟨MA.lives c1 (m.L ++ [⟨m.begun + 1, m.last, nb, []⟩]) (· = m.lm) ho (fun k e => by rw [e]; exact c1.at_.kl) ?_ ?_ ?_ ?_ (fun k h => Or.inl h) ?_ ?_ (began_ok ok nb hs), ho⟩
  · have := ownsMap_tight h2
    rw [txD_size] at this
    exact this
  · intro t hm
    rcases List.mem_append.1 hm with q | q
    · exact ownsMap_off (c1.at_.wown t q) ho (fun e => c1.at_.lne t q e)
    · simp at q
      subst q
      exact ownsMap_off hn ho (fun e => hnF (by have e' : nb = m.lm := e; rw [e']; exact hlm))
  · rw [List.map_append]
    refine List.nodup_append.2 ⟨c1.at_.mne, by simp, fun a ha b hb e => ?_⟩
    simp at hb
    subst hb
    obtain ⟨t, ht, e2⟩ := List.mem_map.1 ha
    exact hnF (by rw [← e, ← e2]; exact hmb t ht)
  · intro t hm
    rcases List.mem_append.1 hm with q | q
    · exact c1.at_.lne t q
    · simp at q
      subst q
      exact fun e => hnF (by have e' : nb = m.lm := e; rw [e']; exact hlm)
  · intro t hm
    rcases List.mem_append.1 hm with q | q
    · exact Or.inl (hmb t q)
    · simp at q
      subst q
      exact Or.inr rfl
  · intro k hk
    rcases hk with h | rfl
    · exact Nat.lt_of_lt_of_le (c1.lt k h) ho.size
    · exact Nat.lt_of_lt_of_le hn.lt ho.size
theorem built70 (s : Int) (b : Nat) : Try.prog.built 70 [(0, .int .u32 s), (1, .map (some b))] = some #[.int .u32 s, .map (some b)] := by kernel_rfl
/-- What begin leaves. -/
def Began (w : World) (F : Nat → Prop) (g : Nat) (m : M) (e : Ending) (w' : World) : Prop :=
  e = .returned (.agg (Rep.mk 0 (m.begun + 1) m.last (zs 64)).arr) ∧ Went w F g (beginS m.abs) w'
set_option maxHeartbeats 1000000 in
theorem begin_some {w : World} {F : Nat → Prop} {g : Nat} {m : M} (c : MA w F g m) (hs : m.L.length < 8) (hbig : m.begun < 1000000000000) :
    Calls Try.prog 20 #[.pointer (some ⟨g, 0, none⟩)] w fun e w' => Began w F g m e w' := by
  have hz := zero40
  have r0 : Row (w.alloc (.cells Rep.zero.arr 40)) w.heap.size Rep.zero.arr 40 := Row.new _ _ _
  have ab : Below w.heap.size w (w.alloc (.cells Rep.zero.arr 40)) := (Below.refl _ _).alloc (Nat.le_refl _) _
  have bu := built40_two (m.begun + 1) m.last
  have HFS : Hid ((Rep.mk 0 (m.begun + 1) m.last (zs 64)).arr.size = 67) := Rep.arr_size (zs_length _)
  have fo := (Rep.mk 0 (m.begun + 1) m.last (zs 64)).one
  have HZS : Hid (Rep.zero.arr.size = 67) := rz
  obtain ⟨RA, HRA⟩ : ∃ RA, Hid ((Rep.mk 0 (m.begun + 1) m.last (zs 64)).arr = RA) := ⟨_, rfl⟩
  rw [HRA.out] at bu HFS fo
  generalize Rep.zero.arr = Z at hz r0 ab HZS
  obtain ⟨A0, HA0⟩ : ∃ A0, Hid (w.heap.size = A0) := ⟨_, rfl⟩
  have hnF : ¬ F A0 := fun q => by have := c.lt _ q; have := HA0.out; omega
  have HOK : Hid (m.abs.Ok) := c.ok
  have hpos : 0 ≤ m.begun := c.ok.pos
  have c1 := c.below ab
  have d4 := c1.at_.c4
  have d3 := c1.at_.c3
  have f3 := row_frozen c1.at_.row 3
  have hown := c1.at_.lown
  have HSZ : Hid (Maps.size (txD m.L) = m.L.length) := txD_size m.L
  have hlt : ¬ (m.L.length : Int) ≥ 8 := by omega
  have hw : IntKind.u64.wrap (m.begun + 1) = m.begun + 1 := by rw [IntKind.wrap_u64]; omega
  have hwf : (Lit.int .u64 (m.begun + 1)).wf = true := wf_u64 (by omega) (by omega)
  have hgF : F g := c.foot _ (Or.inl rfl)
  have r0g : ∀ (W : World), isCells W g 58 → isCells W A0 40 → A0 ≠ g := fun W h1 h2 => ne_types h2 h1 (by decide)
  rw [HA0.out] at r0
  have hA0g : A0 ≠ g := r0g _ c1.at_.kg (row_is r0)
  have O1 : Off (· = g) (w.alloc (.cells Z 40)) ((w.alloc (.cells Z 40)).setCell ⟨g, 3, none⟩ (.int .u64 (m.begun + 1))) := Off.of_setCell _ _ _ rfl
  have R1 : Row ((w.alloc (.cells Z 40)).setCell ⟨g, 3, none⟩ (.int .u64 (m.begun + 1))) g (M.cells { m with last := m.last, begun := m.begun + 1, closed := m.closed }) 58 := row_set c1.at_.row 3 _
  have C1 : MA ((w.alloc (.cells Z 40)).setCell ⟨g, 3, none⟩ (.int .u64 (m.begun + 1))) F g { m with last := m.last, begun := m.begun + 1, closed := m.closed } := c1.turn m.last (m.begun + 1) m.closed O1 R1 (begun_ok c.ok)
  have r1 : Row ((w.alloc (.cells Z 40)).setCell ⟨g, 3, none⟩ (.int .u64 (m.begun + 1))) A0 Z 40 := r0.off O1 hA0g
  have F1 : Off F w ((w.alloc (.cells Z 40)).setCell ⟨g, 3, none⟩ (.int .u64 (m.begun + 1))) := (Off.of_below ab).trans O1 (fun j q => Or.inl (by cases q; exact hgF))
  have HPUT : Hid (∀ nb : Nat, (txD m.L).put (.int .u64 (m.begun + 1)) (.held (m.last, some nb)) = txD (m.L ++ [⟨m.begun + 1, m.last, nb, []⟩])) := fun nb => txD_put m.L ⟨m.begun + 1, m.last, nb, []⟩ fun p hp => by
    have := c.ok.tx p.abs (by simp only [M.abs]; exact List.mem_map.2 ⟨p, hp, rfl⟩)
    have h2 := this.2.1
    show p.key < m.begun + 1
    simp only [M.abs, Tx.abs] at h2
    omega
  have HS : Hid (m.L.length < 8) := hs
  have hmm := @run_makeMap Try.prog
  have HCA : Hid (M.abs m = m.abs) := rfl
  clear c c1 O1 R1 r0 hs
  have HPOST : Hid (∀ (w' : World), Went w F g (beginS m.abs) w' → Began w F g m (.returned (.agg RA)) w') := fun w' h => ⟨by rw [HRA.out], h⟩
  obtain ⟨PP, HPP⟩ : ∃ PP : Ending → World → Prop, Hid (PP = fun e w' => Began w F g m e w') := ⟨_, rfl⟩
  rw [← HPP.out]
  go_enter Try.func20, Try.ntmps20
  go_upto_region 4 with (at_len; refine wpList_len_own _ rfl _ 55 rfl 32 70 Try.underlying55 _ m.lm _ _ rfl hown ?_; rw [HSZ.out])
  rw [HA0.out]
  clear d4 d3 f3 hown hw
  generalize (w.alloc (.cells Z 40)).setCell ⟨g, 3, none⟩ (.int .u64 (m.begun + 1)) = W at C1 F1 r1 ⊢
  refine wp_region_last (S := fun w' => MA w' F g { m with last := m.last, begun := m.begun + 1, closed := m.closed } ∧ Row w' A0 Z 40 ∧ Off F w w') 14 (by kernel_rfl) ⟨C1.below (below_drew _), r1, F1.drew⟩ fun hS => ?_
  refine wpAnyL_take (i := 0) (v := .pointer (some ⟨g, 0, none⟩)) rfl (by kernel_rfl) (by kernel_rfl) (by kernel_rfl) (by kernel_rfl) (fun _ _ _ h => h) (Or.inl ⟨by rfl, fun w _ => by rfl⟩) hS ?_
  try simp only [Act.put, List.getElem_toArray, List.getElem_cons_zero, List.getElem_cons_succ, List.setIfInBounds_toArray, List.set_cons_zero, List.set_cons_succ]
  refine wpAnyL_take (i := 1) (v := .pointer (some ⟨g, 0, none⟩)) rfl (by kernel_rfl) (by kernel_rfl) (by kernel_rfl) (by kernel_rfl) (fun _ _ _ h => h) (Or.inl ⟨by rfl, fun w _ => by go_simp⟩) hS ?_
  try simp only [Act.put, List.getElem_toArray, List.getElem_cons_zero, List.getElem_cons_succ, List.setIfInBounds_toArray, List.set_cons_zero, List.set_cons_succ]
  refine wpAnyL_take (i := 2) (v := .pointer (some ⟨g, 4, none⟩)) rfl (by kernel_rfl) (by kernel_rfl) (by kernel_rfl) (by kernel_rfl) (fun _ _ _ h => h) (Or.inl ⟨by rfl, fun w _ => by go_simp⟩) hS ?_
  try simp only [Act.put, List.getElem_toArray, List.getElem_cons_zero, List.getElem_cons_succ, List.setIfInBounds_toArray, List.set_cons_zero, List.set_cons_succ]
  refine wpAnyL_take (i := 3) (v := .map (some m.lm)) rfl (by kernel_rfl) (by kernel_rfl) (by kernel_rfl) (by kernel_rfl) (fun _ _ _ h => h) (Or.inl ⟨by rfl, fun w h => by have c := h.1.at_.c4; go_simp⟩) hS ?_
  try simp only [Act.put, List.getElem_toArray, List.getElem_cons_zero, List.getElem_cons_succ, List.setIfInBounds_toArray, List.set_cons_zero, List.set_cons_succ]
  refine wpAnyL_take (i := 4) (v := .pointer (some ⟨g, 0, none⟩)) rfl (by kernel_rfl) (by kernel_rfl) (by kernel_rfl) (by kernel_rfl) (fun _ _ _ h => h) (Or.inl ⟨by rfl, fun w _ => by rfl⟩) hS ?_
  try simp only [Act.put, List.getElem_toArray, List.getElem_cons_zero, List.getElem_cons_succ, List.setIfInBounds_toArray, List.set_cons_zero, List.set_cons_succ]
  refine wpAnyL_take (i := 5) (v := .pointer (some ⟨g, 0, none⟩)) rfl (by kernel_rfl) (by kernel_rfl) (by kernel_rfl) (by kernel_rfl) (fun _ _ _ h => h) (Or.inl ⟨by rfl, fun w _ => by go_simp⟩) hS ?_
  try simp only [Act.put, List.getElem_toArray, List.getElem_cons_zero, List.getElem_cons_succ, List.setIfInBounds_toArray, List.set_cons_zero, List.set_cons_succ]
  refine wpAnyL_take (i := 6) (v := .pointer (some ⟨g, 3, none⟩)) rfl (by kernel_rfl) (by kernel_rfl) (by kernel_rfl) (by kernel_rfl) (fun _ _ _ h => h) (Or.inl ⟨by rfl, fun w _ => by go_simp⟩) hS ?_
  try simp only [Act.put, List.getElem_toArray, List.getElem_cons_zero, List.getElem_cons_succ, List.setIfInBounds_toArray, List.set_cons_zero, List.set_cons_succ]
  refine wpAnyL_take (i := 7) (v := .int .u64 (m.begun + 1)) rfl (by kernel_rfl) (by kernel_rfl) (by kernel_rfl) (by kernel_rfl) (fun _ _ _ h => h) (Or.inl ⟨by rfl, fun w h => by have c := h.1.at_.c3; go_simp⟩) hS ?_
  try simp only [Act.put, List.getElem_toArray, List.getElem_cons_zero, List.getElem_cons_succ, List.setIfInBounds_toArray, List.set_cons_zero, List.set_cons_succ]
  refine wpAnyL_take (i := 8) (v := .pointer (some ⟨g, 0, none⟩)) rfl (by kernel_rfl) (by kernel_rfl) (by kernel_rfl) (by kernel_rfl) (fun _ _ _ h => h) (Or.inl ⟨by rfl, fun w _ => by rfl⟩) hS ?_
  try simp only [Act.put, List.getElem_toArray, List.getElem_cons_zero, List.getElem_cons_succ, List.setIfInBounds_toArray, List.set_cons_zero, List.set_cons_succ]
  refine wpAnyL_take (i := 9) (v := .pointer (some ⟨g, 0, none⟩)) rfl (by kernel_rfl) (by kernel_rfl) (by kernel_rfl) (by kernel_rfl) (fun _ _ _ h => h) (Or.inl ⟨by rfl, fun w _ => by go_simp⟩) hS ?_
  try simp only [Act.put, List.getElem_toArray, List.getElem_cons_zero, List.getElem_cons_succ, List.setIfInBounds_toArray, List.set_cons_zero, List.set_cons_succ]
  refine wpAnyL_take (i := 10) (v := .pointer (some ⟨g, 2, none⟩)) rfl (by kernel_rfl) (by kernel_rfl) (by kernel_rfl) (by kernel_rfl) (fun _ _ _ h => h) (Or.inl ⟨by rfl, fun w _ => by go_simp⟩) hS ?_
  try simp only [Act.put, List.getElem_toArray, List.getElem_cons_zero, List.getElem_cons_succ, List.setIfInBounds_toArray, List.set_cons_zero, List.set_cons_succ]
  refine wpAnyL_take (i := 11) (v := .int .u32 m.last) rfl (by kernel_rfl) (by kernel_rfl) (by kernel_rfl) (by kernel_rfl) (fun _ _ _ h => h) (Or.inl ⟨by rfl, fun w h => by have c := h.1.at_.c2; go_simp⟩) hS ?_
  try simp only [Act.put, List.getElem_toArray, List.getElem_cons_zero, List.getElem_cons_succ, List.setIfInBounds_toArray, List.set_cons_zero, List.set_cons_succ]
  generalize W.drew = W0 at hS ⊢
  refine wpAnyL_ready (rs := [12]) (by kernel_rfl) (by simp) ?_
  refine AllReadyL.cons rfl (fun K hK => ?_) AllReadyL.nil
  have own0 := World.ownsMap_made (H := List Int) W0 Try.prog 33 wrR
  have abm : Below W0.heap.size W0 (W0.alloc (.map #[] 0)) := (Below.refl _ _).alloc (Nat.le_refl _) _
  have hnb : ¬ F W0.heap.size := fun q => by have := hS.1.lt _ q; omega
  have hnb2 : w.heap.size ≤ W0.heap.size := hS.2.2.size
  go_simp
  refine hK.out _ _ (fun _ => ⟨hS.1.below abm, hS.2.1.alloc _, hS.2.2.trans (Off.of_below (F := fun _ => False) abm) (fun j h => h.elim)⟩) ?_
  have hS : MA (W0.alloc (.map #[] 0)) F g { m with last := m.last, begun := m.begun + 1, closed := m.closed } ∧ Row (W0.alloc (.map #[] 0)) A0 Z 40 ∧ Off F w (W0.alloc (.map #[] 0)) := ⟨hS.1.below abm, hS.2.1.alloc _, hS.2.2.trans (Off.of_below (F := fun _ => False) abm) (fun j h => h.elim)⟩
  try simp only [Act.put, List.getElem_toArray, List.getElem_cons_zero, List.getElem_cons_succ, List.setIfInBounds_toArray, List.set_cons_zero, List.set_cons_succ]
  clear abm
  generalize W0.alloc (.map #[] 0) = W1 at hS own0 ⊢
  generalize W0.heap.size = nb at own0 hnb hnb2 ⊢
  refine wpAnyL_take (i := 13) (v := .agg #[.int .u32 m.last, .map (some nb)]) rfl (by kernel_rfl) (by kernel_rfl) (by kernel_rfl) (by kernel_rfl) (fun _ _ _ h => h) (yields_build (by rfl) 70 #[(0, .tmp 28), (1, .tmp 29)] rfl _ rfl _ (built70 _ _)) hS ?_
  try simp only [Act.put, List.getElem_toArray, List.getElem_cons_zero, List.getElem_cons_succ, List.setIfInBounds_toArray, List.set_cons_zero, List.set_cons_succ]
  refine wpAnyL_ready (rs := [14]) (by kernel_rfl) (by simp) ?_
  refine AllReadyL.cons rfl (fun K hK => step_update rfl _ _ _ 55 rfl 32 70 law32 Try.underlying55 _ m.lm _ _ rfl hS.1.at_.lown (by have := HS.out; unfold maxLen; show m.L.length < _; omega) _ _ _ rfl rfl (keyOf_int_mk Try.underlying32 hwf) _ [] (txR_mk m.last (some nb)) ?_) AllReadyL.nil
  intro w2 hown2 hturn2
  have hown2' : w2.ownsMap Try.prog 32 txR m.lm (m.L.length + 1) (txD (m.L ++ [⟨m.begun + 1, m.last, nb, []⟩])) := by rw [← HPUT.out nb]; exact hown2
  obtain ⟨C2, F2⟩ := MA.began HOK.out hS.1 HS.out nb own0 hnb hown2' hturn2
  have hlm : F m.lm := hS.1.foot _ (Or.inr (Or.inr (Or.inl rfl)))
  have F3 : Off F w w2 := hS.2.2.trans F2 (fun j q => Or.inl (by cases q; exact hlm))
  have r2 : Row w2 A0 Z 40 := hS.2.1.off F2 (fun e => hnF (by rw [e]; exact hlm))
  refine hK.out _ _ (fun q => absurd rfl q) ?_
  try simp only [Act.put, List.getElem_toArray, List.getElem_cons_zero, List.getElem_cons_succ, List.setIfInBounds_toArray, List.set_cons_zero, List.set_cons_succ]
  refine wpAnyL_done (by kernel_rfl) ?_ _
  clear hS hown2 hown2' hturn2 F2 C1 F1 r1
  go_upto_region 5 with fail
  refine wp_region_last (S := fun w' => MA w' (fun k => F k ∨ k = nb) g { m with last := m.last, begun := m.begun + 1, closed := m.closed, L := m.L ++ [⟨m.begun + 1, m.last, nb, []⟩] } ∧ Row w' A0 Z 40 ∧ Off F w w') 9 (by kernel_rfl) ⟨C2.below (below_drew _), r2, F3.drew⟩ fun hS => ?_
  refine wpAnyL_take (i := 0) (v := .pointer (some ⟨g, 0, none⟩)) rfl (by kernel_rfl) (by kernel_rfl) (by kernel_rfl) (by kernel_rfl) (fun _ _ _ h => h) (Or.inl ⟨by rfl, fun w _ => by rfl⟩) hS ?_
  try simp only [Act.put, List.getElem_toArray, List.getElem_cons_zero, List.getElem_cons_succ, List.setIfInBounds_toArray, List.set_cons_zero, List.set_cons_succ]
  refine wpAnyL_take (i := 1) (v := .pointer (some ⟨g, 0, none⟩)) rfl (by kernel_rfl) (by kernel_rfl) (by kernel_rfl) (by kernel_rfl) (fun _ _ _ h => h) (Or.inl ⟨by rfl, fun w _ => by go_simp⟩) hS ?_
  try simp only [Act.put, List.getElem_toArray, List.getElem_cons_zero, List.getElem_cons_succ, List.setIfInBounds_toArray, List.set_cons_zero, List.set_cons_succ]
  refine wpAnyL_take (i := 2) (v := .pointer (some ⟨g, 3, none⟩)) rfl (by kernel_rfl) (by kernel_rfl) (by kernel_rfl) (by kernel_rfl) (fun _ _ _ h => h) (Or.inl ⟨by rfl, fun w _ => by go_simp⟩) hS ?_
  try simp only [Act.put, List.getElem_toArray, List.getElem_cons_zero, List.getElem_cons_succ, List.setIfInBounds_toArray, List.set_cons_zero, List.set_cons_succ]
  refine wpAnyL_take (i := 3) (v := .int .u64 (m.begun + 1)) rfl (by kernel_rfl) (by kernel_rfl) (by kernel_rfl) (by kernel_rfl) (fun _ _ _ h => h) (Or.inl ⟨by rfl, fun w h => by have c := h.1.at_.c3; go_simp⟩) hS ?_
  try simp only [Act.put, List.getElem_toArray, List.getElem_cons_zero, List.getElem_cons_succ, List.setIfInBounds_toArray, List.set_cons_zero, List.set_cons_succ]
  refine wpAnyL_take (i := 4) (v := .pointer (some ⟨g, 0, none⟩)) rfl (by kernel_rfl) (by kernel_rfl) (by kernel_rfl) (by kernel_rfl) (fun _ _ _ h => h) (Or.inl ⟨by rfl, fun w _ => by rfl⟩) hS ?_
  try simp only [Act.put, List.getElem_toArray, List.getElem_cons_zero, List.getElem_cons_succ, List.setIfInBounds_toArray, List.set_cons_zero, List.set_cons_succ]
  refine wpAnyL_take (i := 5) (v := .pointer (some ⟨g, 0, none⟩)) rfl (by kernel_rfl) (by kernel_rfl) (by kernel_rfl) (by kernel_rfl) (fun _ _ _ h => h) (Or.inl ⟨by rfl, fun w _ => by go_simp⟩) hS ?_
  try simp only [Act.put, List.getElem_toArray, List.getElem_cons_zero, List.getElem_cons_succ, List.setIfInBounds_toArray, List.set_cons_zero, List.set_cons_succ]
  refine wpAnyL_take (i := 6) (v := .pointer (some ⟨g, 2, none⟩)) rfl (by kernel_rfl) (by kernel_rfl) (by kernel_rfl) (by kernel_rfl) (fun _ _ _ h => h) (Or.inl ⟨by rfl, fun w _ => by go_simp⟩) hS ?_
  try simp only [Act.put, List.getElem_toArray, List.getElem_cons_zero, List.getElem_cons_succ, List.setIfInBounds_toArray, List.set_cons_zero, List.set_cons_succ]
  refine wpAnyL_take (i := 7) (v := .int .u32 m.last) rfl (by kernel_rfl) (by kernel_rfl) (by kernel_rfl) (by kernel_rfl) (fun _ _ _ h => h) (Or.inl ⟨by rfl, fun w h => by have c := h.1.at_.c2; go_simp⟩) hS ?_
  try simp only [Act.put, List.getElem_toArray, List.getElem_cons_zero, List.getElem_cons_succ, List.setIfInBounds_toArray, List.set_cons_zero, List.set_cons_succ]
  refine wpAnyL_take (i := 8) (v := .agg RA) rfl (by kernel_rfl) (by kernel_rfl) (by kernel_rfl) (by kernel_rfl) (fun _ _ _ h => h) (yields_build (by rfl) 40 #[(1, .tmp 34), (2, .tmp 38)] rfl _ rfl _ bu) hS ?_
  try simp only [Act.put, List.getElem_toArray, List.getElem_cons_zero, List.getElem_cons_succ, List.setIfInBounds_toArray, List.set_cons_zero, List.set_cons_succ]
  generalize w2.drew = W2 at hS ⊢
  refine wpAnyL_ready (rs := [9]) (by kernel_rfl) (by simp) ?_
  refine AllReadyL.cons rfl (fun K hK => step_cells rfl 40 (.tmp 2) (.tmp 39) rfl A0 RA rfl rfl 40 _ hS.2.1 67 size40 HZS.out HFS.out fo (hK.out _ _ (fun q => absurd rfl q) ?_)) AllReadyL.nil
  try simp only [Act.put, List.getElem_toArray, List.getElem_cons_zero, List.getElem_cons_succ, List.setIfInBounds_toArray, List.set_cons_zero, List.set_cons_succ]
  refine wpAnyL_done (by kernel_rfl) ?_ _
  have hA0nb : A0 ≠ nb := fun e => ne_map (row_is hS.2.1) (hS.1.at_.km (t := ⟨m.begun + 1, m.last, nb, []⟩) (by simp)) e
  have OA : Off (· = A0) W2 (W2.setRow A0 RA) := Off.of_setRow _ _ _ rfl
  have C3 : MA (W2.setRow A0 RA) (fun k => F k ∨ k = nb) g { m with last := m.last, begun := m.begun + 1, closed := m.closed, L := m.L ++ [⟨m.begun + 1, m.last, nb, []⟩] } := hS.1.off OA (fun k hk e => by
    rcases hk with h | h
    · exact hnF (by rw [← e]; exact h)
    · exact hA0nb (by rw [← e]; exact h))
  have F4 : Off F w (W2.setRow A0 RA) := hS.2.2.trans OA (fun j e => Or.inr (by rw [e, ← HA0.out]; exact Nat.le_refl _))
  have r3 : Row (W2.setRow A0 RA) A0 RA 40 := hS.2.1.set _
  have HWENT : Hid (Went w F g (beginS m.abs) (W2.setRow A0 RA)) := by
    refine ⟨F4, _, ⟨_, ?_, C3⟩, fun k hk h => ?_⟩
    · have : beginS m.abs = { m.abs with begun := m.abs.begun + 1, live := m.abs.live ++ [(m.abs.begun + 1, m.abs.last, [])] } := if_pos (by simp only [M.abs, List.length_map]; exact HS.out)
      rw [this]
      simp [M.abs, Tx.abs]
    · rcases h with h | h
      · exact h
      · rw [h] at hk
        exact absurd hk (by omega)
  clear hS C2 C3 F3 F4 OA r2
  generalize W2.setRow A0 RA = W3 at r3 HWENT ⊢
  go_wp2
  refine bodyPost_ret (v := .agg RA) (ret_cell (fn := Try.f20) rfl _ _ A0 40 RA _ rfl r3 Try.underlying40 rfl (by rw [size40, HFS.out])) rfl ?_
  rw [HPP.out]
  exact HPOST.out _ HWENT.out
end Go.Proofs.Ytpncmbkklkfmnaa
