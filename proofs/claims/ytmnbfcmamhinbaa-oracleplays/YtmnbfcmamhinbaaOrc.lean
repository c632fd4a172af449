/-
  Proved here: what Begin and Horizon of an oracle answer; calls of an oracle that isn't there; the statements' fixed run.
-/
import Derived.Test.YtmnbfcmamhinbaaOrb
namespace Go.Proofs.Ytmnbfcmamhinbaa
open Go.ChangeShapes Go.WideShapes Go.ChangeAt Go.RowKit
open Go.Deep Go.Maps
set_option linter.unusedVariables false
set_option linter.unusedSimpArgs false


theorem wf_u64 {i : Int} (h : 0 ≤ i) (h' : i ≤ 18446744073709551615) : (Lit.int .u64 i).wf = true := by
  have e : (Lit.int .u64 i).wf = (decide ((0 : Int) ≤ i) && decide (i ≤ 18446744073709551615)) := rfl
  rw [e]; simp [h, h']
theorem wf_u32 {i : Int} (h : 0 ≤ i) (h' : i ≤ 4294967295) : (Lit.int .u32 i).wf = true := by
  have e : (Lit.int .u32 i).wf = (decide ((0 : Int) ≤ i) && decide (i ≤ 4294967295)) := rfl
  rw [e]; simp [h, h']
theorem step_update {H : Type} {P : Program} {ops : Array Oper} {o : Oper} {a : Act} {w : World} {K : Act → World → Prop} {Q : Exit → Act → World → Prop} {E : Prop} (hgd : o.guard = none) (m x v : Operand) (t : TypeId) (hop : o.op = Op.mapUpdate t m x v)
    (k e : TypeId) (KK : Keyed P k) (ht : P.underlying t = some (.map k e)) (R : Value → Option (DataW H × List MemPlace)) (b n : Nat) (D : DataW H)
    (hm : a.eval m = .map (some b)) (hown : w.ownsMap P k R b n D) (hn : n < maxLen) (key val : Value) (kl : Lit) (hx : a.eval x = key) (hv : a.eval v = val) (hkey : keyOf P k key = some kl)
    (d : DataW H) (ps : List MemPlace) (hval : R val = some (d, ps))
    (hK : ∀ w', w'.ownsMap P k R b (n + 1) (D.put kl d) → w.mapTurned w' b → K (a.put o.dst undef) w') :
    if Region.wanted o (yielded ops a.tmps) = true then Oper.wp P o a w K Q else E := by
  have hw : Region.wanted o (yielded ops a.tmps) = true := by simp [Region.wanted, hgd]
  rw [if_pos hw]
  obtain ⟨w', hrun, r1, r2⟩ := hown.store KK ht hn hkey hval
  unfold Oper.wp
  simp [execOp, hop, hm, hx, hv, hrun, Result.andThen]
  exact hK w' r1 r2
/-- What Begin leaves. -/
def BeganAt (w : World) (g m : Nat) (last max begun : Int) (L : List (Int × Int)) (e : Ending) (w' : World) : Prop :=
  e = .returned (.tuple #[.int .u64 (begun + 1), .int .u32 last, .int .i64 0]) ∧ OAt w' g m last max (begun + 1) (L ++ [(begun + 1, last)]) ∧ Off (two g m) w w'
theorem OAt.began {w w' w2 : World} {g m : Nat} {last max begun : Int} {L : List (Int × Int)} {n : Nat} (c : OAt w g m last max begun L) (hs : L.length < 8) (r : Row w' g #[.int .u32 last, .int .u32 max, .int .u64 (begun + 1), .map (some m)] 74) (h : w2.ownsMap Try.prog 31 (plainElem Try.prog 22) m n (liveD (L ++ [(begun + 1, last)]))) (ht : w'.mapTurned w2 m) : OAt w2 g m last max (begun + 1) (L ++ [(begun + 1, last)]) ∧ Off (two g m) w' w2 := by
  have ho : Off (· = m) w' w2 := Off.of_grown ht.grown (fun j hj => by cases hj; rfl)
  have hp := c.pos
  have hlo := c.lo
  refine ⟨{ row := r.off ho c.ne, own := ?_, ne := c.ne, lo := c.lo, nums := fun p hp' => ?_, rising := ?_, small := by simp; omega, pos := by omega }, ho.mono (fun j q => Or.inl (Or.inr q))⟩
  · have := ownsMap_tight h
    rw [liveD_size] at this
    exact this
  · rcases List.mem_append.1 hp' with q | q
    · have := c.nums p q; omega
    · simp at q
      subst q
      refine ⟨?_, ?_, ?_, ?_⟩ <;> simp <;> omega
  · refine List.pairwise_append.2 ⟨c.rising, List.pairwise_singleton _ _, fun a ha b hb => ?_⟩
    simp at hb
    subst hb
    have := c.nums a ha
    show a.1 < begun + 1
    omega
set_option maxHeartbeats 1000000 in
set_option maxRecDepth 20000 in
theorem begin_some {w : World} {g m : Nat} {last max begun : Int} {L : List (Int × Int)} (c : OAt w g m last max begun L) (hs : L.length < 8) (hbig : begun < 1000000000000) :
    Calls Try.prog 14 #[.pointer (some ⟨g, 0, none⟩)] w fun e w' => BeganAt w g m last max begun L e w' := by
  have c0 := row_at c.row 0 _ rfl
  have c2 := row_at c.row 2 _ rfl
  have c3 := row_at c.row 3 _ rfl
  have f2 := row_frozen c.row 2
  have hp := c.pos
  have hw : IntKind.u64.wrap (begun + 1) = begun + 1 := by rw [IntKind.wrap_u64]; omega
  have hown := c.own
  have HSZ : Hid (Maps.size (liveD L) = L.length) := liveD_size L
  have hlt : ¬ (L.length : Int) ≥ 8 := by omega
  have hwf : (Lit.int .u64 (begun + 1)).wf = true := wf_u64 (by omega) (by omega)
  have hwf2 : (Lit.int .u32 last).wf = true := wf_u32 c.lo.1 (by have := c.lo; omega)
  have R1 : Row (w.setCell ⟨g, 2, none⟩ (.int .u64 (begun + 1))) g #[.int .u32 last, .int .u32 max, .int .u64 (begun + 1), .map (some m)] 74 := row_set c.row 2 _
  have O1 : (w.setCell ⟨g, 2, none⟩ (.int .u64 (begun + 1))).ownsMap Try.prog 31 (plainElem Try.prog 22) m L.length (liveD L) := c.own.setCell (fun e => c.ne e.symm) _
  have F1 : Off (two g m) w (w.setCell ⟨g, 2, none⟩ (.int .u64 (begun + 1))) := Off.of_setCell _ _ _ (Or.inl rfl)
  have HPUT : Hid ((liveD L).put (.int .u64 (begun + 1)) (.lit (.int .u32 last)) = liveD (L ++ [(begun + 1, last)])) := liveD_put L _ _ fun p hp => by have := c.nums p hp; omega
  have HBG : Hid (∀ (w' w2 : World) (n : Nat), Row w' g #[.int .u32 last, .int .u32 max, .int .u64 (begun + 1), .map (some m)] 74 → w2.ownsMap Try.prog 31 (plainElem Try.prog 22) m n (liveD (L ++ [(begun + 1, last)])) → w'.mapTurned w2 m → OAt w2 g m last max (begun + 1) (L ++ [(begun + 1, last)]) ∧ Off (two g m) w' w2) := fun w' w2 n r h ht => c.began hs r h ht
  clear hp
  go_enter Try.func14, Try.ntmps14
  go_upto_region 6 with (at_len; refine wpList_len_own _ rfl _ 72 rfl 31 22 Try.underlying72 _ m _ _ rfl hown ?_; rw [HSZ.out])
  generalize w.setCell ⟨g, 2, none⟩ (.int .u64 (begun + 1)) = W at R1 O1 F1 ⊢
  clear c0 c2 c3 f2 hown hw
  refine wp_region_last (S := fun w' => Row w' g #[.int .u32 last, .int .u32 max, .int .u64 (begun + 1), .map (some m)] 74 ∧ w'.ownsMap Try.prog 31 (plainElem Try.prog 22) m L.length (liveD L) ∧ Off (two g m) w w') 12 (by kernel_rfl) ⟨R1, O1.drew, F1.drew⟩ fun hS => ?_
  refine wpAnyL_take (i := 0) (v := .pointer (some ⟨g, 0, none⟩)) rfl (by kernel_rfl) (by kernel_rfl) (by kernel_rfl) (by kernel_rfl) (fun _ _ _ h => h) (Or.inl ⟨by rfl, fun w _ => by rfl⟩) hS ?_
  try simp only [Act.put, List.getElem_toArray, List.getElem_cons_zero, List.getElem_cons_succ, List.setIfInBounds_toArray, List.set_cons_zero, List.set_cons_succ]
  refine wpAnyL_take (i := 1) (v := .pointer (some ⟨g, 0, none⟩)) rfl (by kernel_rfl) (by kernel_rfl) (by kernel_rfl) (by kernel_rfl) (fun _ _ _ h => h) (Or.inl ⟨by rfl, fun w _ => by go_simp⟩) hS ?_
  try simp only [Act.put, List.getElem_toArray, List.getElem_cons_zero, List.getElem_cons_succ, List.setIfInBounds_toArray, List.set_cons_zero, List.set_cons_succ]
  refine wpAnyL_take (i := 2) (v := .pointer (some ⟨g, 3, none⟩)) rfl (by kernel_rfl) (by kernel_rfl) (by kernel_rfl) (by kernel_rfl) (fun _ _ _ h => h) (Or.inl ⟨by rfl, fun w _ => by go_simp⟩) hS ?_
  try simp only [Act.put, List.getElem_toArray, List.getElem_cons_zero, List.getElem_cons_succ, List.setIfInBounds_toArray, List.set_cons_zero, List.set_cons_succ]
  refine wpAnyL_take (i := 3) (v := .map (some m)) rfl (by kernel_rfl) (by kernel_rfl) (by kernel_rfl) (by kernel_rfl) (fun _ _ _ h => h) (Or.inl ⟨by rfl, fun w h => by have c := row_at h.1 3 _ rfl; go_simp⟩) hS ?_
  try simp only [Act.put, List.getElem_toArray, List.getElem_cons_zero, List.getElem_cons_succ, List.setIfInBounds_toArray, List.set_cons_zero, List.set_cons_succ]
  refine wpAnyL_take (i := 4) (v := .pointer (some ⟨g, 0, none⟩)) rfl (by kernel_rfl) (by kernel_rfl) (by kernel_rfl) (by kernel_rfl) (fun _ _ _ h => h) (Or.inl ⟨by rfl, fun w _ => by rfl⟩) hS ?_
  try simp only [Act.put, List.getElem_toArray, List.getElem_cons_zero, List.getElem_cons_succ, List.setIfInBounds_toArray, List.set_cons_zero, List.set_cons_succ]
  refine wpAnyL_take (i := 5) (v := .pointer (some ⟨g, 0, none⟩)) rfl (by kernel_rfl) (by kernel_rfl) (by kernel_rfl) (by kernel_rfl) (fun _ _ _ h => h) (Or.inl ⟨by rfl, fun w _ => by go_simp⟩) hS ?_
  try simp only [Act.put, List.getElem_toArray, List.getElem_cons_zero, List.getElem_cons_succ, List.setIfInBounds_toArray, List.set_cons_zero, List.set_cons_succ]
  refine wpAnyL_take (i := 6) (v := .pointer (some ⟨g, 2, none⟩)) rfl (by kernel_rfl) (by kernel_rfl) (by kernel_rfl) (by kernel_rfl) (fun _ _ _ h => h) (Or.inl ⟨by rfl, fun w _ => by go_simp⟩) hS ?_
  try simp only [Act.put, List.getElem_toArray, List.getElem_cons_zero, List.getElem_cons_succ, List.setIfInBounds_toArray, List.set_cons_zero, List.set_cons_succ]
  refine wpAnyL_take (i := 7) (v := .int .u64 (begun + 1)) rfl (by kernel_rfl) (by kernel_rfl) (by kernel_rfl) (by kernel_rfl) (fun _ _ _ h => h) (Or.inl ⟨by rfl, fun w h => by have c := row_at h.1 2 _ rfl; go_simp⟩) hS ?_
  try simp only [Act.put, List.getElem_toArray, List.getElem_cons_zero, List.getElem_cons_succ, List.setIfInBounds_toArray, List.set_cons_zero, List.set_cons_succ]
  refine wpAnyL_take (i := 8) (v := .pointer (some ⟨g, 0, none⟩)) rfl (by kernel_rfl) (by kernel_rfl) (by kernel_rfl) (by kernel_rfl) (fun _ _ _ h => h) (Or.inl ⟨by rfl, fun w _ => by rfl⟩) hS ?_
  try simp only [Act.put, List.getElem_toArray, List.getElem_cons_zero, List.getElem_cons_succ, List.setIfInBounds_toArray, List.set_cons_zero, List.set_cons_succ]
  refine wpAnyL_take (i := 9) (v := .pointer (some ⟨g, 0, none⟩)) rfl (by kernel_rfl) (by kernel_rfl) (by kernel_rfl) (by kernel_rfl) (fun _ _ _ h => h) (Or.inl ⟨by rfl, fun w _ => by go_simp⟩) hS ?_
  try simp only [Act.put, List.getElem_toArray, List.getElem_cons_zero, List.getElem_cons_succ, List.setIfInBounds_toArray, List.set_cons_zero, List.set_cons_succ]
  refine wpAnyL_take (i := 10) (v := .pointer (some ⟨g, 0, none⟩)) rfl (by kernel_rfl) (by kernel_rfl) (by kernel_rfl) (by kernel_rfl) (fun _ _ _ h => h) (Or.inl ⟨by rfl, fun w _ => by go_simp⟩) hS ?_
  try simp only [Act.put, List.getElem_toArray, List.getElem_cons_zero, List.getElem_cons_succ, List.setIfInBounds_toArray, List.set_cons_zero, List.set_cons_succ]
  refine wpAnyL_take (i := 11) (v := .int .u32 last) rfl (by kernel_rfl) (by kernel_rfl) (by kernel_rfl) (by kernel_rfl) (fun _ _ _ h => h) (Or.inl ⟨by rfl, fun w h => by have c := row_at h.1 0 _ rfl; go_simp⟩) hS ?_
  try simp only [Act.put, List.getElem_toArray, List.getElem_cons_zero, List.getElem_cons_succ, List.setIfInBounds_toArray, List.set_cons_zero, List.set_cons_succ]
  generalize W.drew = W0 at hS ⊢
  refine wpAnyL_ready (rs := [12]) (by kernel_rfl) (by simp) ?_
  refine AllReadyL.cons rfl (fun K hK => step_update rfl _ _ _ 72 rfl 31 22 law31 Try.underlying72 _ m _ _ rfl hS.2.1 (by unfold maxLen; omega) _ _ _ rfl rfl (keyOf_int_mk Try.underlying31 hwf) _ [] (plainElem_int Try.underlying22 hwf2) ?_) AllReadyL.nil
  intro w2 hown2 hturn2
  rw [HPUT.out] at hown2
  obtain ⟨C2, F2⟩ := HBG.out _ _ _ hS.1 hown2 hturn2
  have F3 := hS.2.2.trans F2 (fun j q => Or.inl q)
  refine hK.out _ _ (fun q => absurd rfl q) ?_
  try simp only [Act.put, List.getElem_toArray, List.getElem_cons_zero, List.getElem_cons_succ, List.setIfInBounds_toArray, List.set_cons_zero, List.set_cons_succ]
  refine wpAnyL_done (by kernel_rfl) ?_ _
  have d0 := row_at C2.row 0 _ rfl
  have d2 := row_at C2.row 2 _ rfl
  have HC2 : Hid _ := C2.below (below_drew w2)
  have HF : Hid _ := F3.drew
  clear hS hown2 hturn2 R1 O1 F1 F2 F3 C2
  go_wp2
  go_region
  go_wp2
  go_ret3
  exact ⟨rfl, HC2.out, HF.out⟩
theorem begin_none {w : World} {g m : Nat} {last max begun : Int} {L : List (Int × Int)} (c : OAt w g m last max begun L) (hs : ¬ L.length < 8) :
    Calls Try.prog 14 #[.pointer (some ⟨g, 0, none⟩)] w fun e w' => e = .returned (.tuple #[.int .u64 0, .int .u32 0, .int .i64 10]) ∧ w' = w := by
  have c3 := row_at c.row 3 _ rfl
  have hown := c.own
  have HSZ : Hid (Maps.size (liveD L) = L.length) := liveD_size L
  have hlt : (L.length : Int) ≥ 8 := by omega
  go_enter Try.func14, Try.ntmps14
  go_wp2_with (at_len; refine wpList_len_own _ rfl _ 72 rfl 31 22 Try.underlying72 _ m _ _ rfl hown ?_; rw [HSZ.out])
  go_ret3
  exact ⟨rfl, rfl⟩
/-- The least start, or the last commit's timestamp. -/
def horL (last : Int) (L : List (Int × Int)) : Int := L.foldl (fun h p => min h p.2) last
theorem horL_le (last : Int) (L : List (Int × Int)) : horL last L ≤ last ∧ (∀ p ∈ L, horL last L ≤ p.2) ∧ (horL last L = last ∨ ∃ p ∈ L, horL last L = p.2) := by
  unfold horL
  induction L generalizing last with
  | nil => simp
  | cons p r ih =>
    obtain ⟨h1, h2, h3⟩ := ih (min last p.2)
    simp only [List.foldl_cons]
    refine ⟨by omega, fun q hq => ?_, ?_⟩
    · rcases List.mem_cons.1 hq with rfl | hq
      · omega
      · exact h2 q hq
    · rcases h3 with h3 | ⟨q, hq, h3⟩
      · by_cases e : last ≤ p.2
        · left; omega
        · right; exact ⟨p, by simp, by omega⟩
      · right; exact ⟨q, by simp [hq], h3⟩
theorem horL_is (last h : Int) (L : List (Int × Int)) (h1 : h ≤ last) (h2 : ∀ p ∈ L, h ≤ p.2) (h3 : h = last ∨ ∃ p ∈ L, h = p.2) : h = horL last L := by
  obtain ⟨k1, k2, k3⟩ := horL_le last L
  have a : h ≤ horL last L := by
    rcases k3 with k3 | ⟨p, hp, k3⟩
    · omega
    · have := h2 p hp; omega
  have b : horL last L ≤ h := by
    rcases h3 with h3 | ⟨p, hp, h3⟩
    · omega
    · have := k2 p hp; omega
  omega
theorem liveD_mem {L : List (Int × Int)} {x s : Int} (h : ∀ z, (liveD L).atKey (.int .u64 x) z = .lit (.int .u32 s)) : (x, s) ∈ L := by
  have hh := Maps.has_true_of_atKey h
  rw [liveD_has] at hh
  have ha := h (.lit (.int .u32 0))
  rw [liveD_at] at ha
  have e : startL L x = s := by injection ha with q; injection q
  unfold hasL at hh
  unfold startL at e
  obtain ⟨p, hp, hq⟩ := List.any_eq_true.1 hh
  have hs : (L.find? fun p => decide (p.1 = x)).isSome = true := List.find?_isSome.2 ⟨p, hp, hq⟩
  obtain ⟨y, hy⟩ := Option.isSome_iff_exists.1 hs
  rw [hy] at e
  have h1 := List.find?_some hy
  have h2 := List.mem_of_find?_eq_some hy
  simp at h1 e
  rw [← h1, ← e]; exact h2
theorem mem_one {L : List (Int × Int)} (h : L.Pairwise fun p q => p.1 < q.1) {p q : Int × Int} (hp : p ∈ L) (hq : q ∈ L) (e : p.1 = q.1) : p = q := by
  induction L with
  | nil => simp at hp
  | cons y r ih =>
    obtain ⟨h1, h2⟩ := List.pairwise_cons.1 h
    rcases List.mem_cons.1 hp with rfl | hp' <;> rcases List.mem_cons.1 hq with rfl | hq'
    · rfl
    · have := h1 q hq'; omega
    · have := h1 p hp'; omega
    · exact ih h2 hp' hq'
/-- The least so far. -/
def HorTo (last : Int) (L : List (Int × Int)) (left : Lit → Bool) (h : Int) : Prop := h ≤ last ∧ (∀ p ∈ L, left (.int .u64 p.1) = false → h ≤ p.2) ∧ (h = last ∨ ∃ p ∈ L, h = p.2)
theorem HorTo.step {last : Int} {L : List (Int × Int)} {left : Lit → Bool} {h : Int} (c : HorTo last L left h) (hr : L.Pairwise fun p q => p.1 < q.1) {x s : Int} (hm : (x, s) ∈ L) : HorTo last L (fun z => left z && !z.sameKey (.int .u64 x)) (min h s) := by
  obtain ⟨h1, h2, h3⟩ := c
  refine ⟨by omega, fun p hp hl => ?_, ?_⟩
  · simp only [same_u64] at hl
    by_cases e : p.1 = x
    · have := mem_one hr hp hm e
      rw [this]; simp; omega
    · simp [e] at hl
      have := h2 p hp hl; omega
  · by_cases e : h ≤ s
    · rw [show min h s = h by omega]; exact h3
    · right; exact ⟨_, hm, by simp; omega⟩
theorem horizon_any {w : World} {g m : Nat} {last max begun : Int} {L : List (Int × Int)} (c : OAt w g m last max begun L) :
    Calls Try.prog 19 #[.pointer (some ⟨g, 0, none⟩)] w fun e w' => e = .returned (.int .u32 (horL last L)) ∧ Below w.heap.size w w' := by
  have c0 := row_at c.row 0 _ rfl
  have c3 := row_at c.row 3 _ rfl
  have hown := c.own
  have HR : Hid (L.Pairwise fun p q => p.1 < q.1) := c.rising
  go_enter Try.func19, Try.ntmps19
  go_wp2_with (at_range; refine wpList_range_own _ rfl _ 72 rfl 31 22 law31 Try.underlying72 _ m _ _ rfl hown ?_; intro w0 hrg0 hg0 hs0)
  go_frame
  have HL0 : Hid (HorTo last L (Maps.has (liveD L)) last) := ⟨Int.le_refl _, fun p hp hq => by
    rw [liveD_has] at hq
    have := List.any_eq_false.1 hq p hp
    simp at this, Or.inl rfl⟩
  have B0 : Below w.heap.size w w0 := (Below.refl _ _).grown hg0 (Nat.le_refl _) (fun j hj => by cases hj)
  obtain ⟨r, HRR⟩ : ∃ r, Hid (w.heap.size = r) := ⟨_, rfl⟩
  clear hs0 hg0 hown c0 c3
  go_loopw [3] (fun i wr => ∃ (h : Int) (left : Lit → Bool) (cnt : Nat), i = .int .u32 h ∧ Hid (HorTo last L left h) ∧ wr.ranges Try.prog 31 (plainElem Try.prog 22) m w.heap.size L.length (liveD L) left cnt ∧ Below w.heap.size w wr) (fun _ wr => wr.rangeLeft m w.heap.size)
  case atStart => exact ⟨last, _, _, rfl, HL0, hrg0, B0⟩
  case round =>
    clear hrg0 B0 HL0
    obtain ⟨h, left, cnt, rfl, HT, hrg, rb⟩ := hrel
    go_wp2_with (at_next; refine wpList_next_ranges_ii _ rfl _ rfl 31 22 .u64 .u32 law31 Try.underlying31 Try.underlying22 m _ _ _ _ _ rfl hrg ?_ ?_)
    · intro _ hl0
      go_wp2
      go_ret
      refine ⟨?_, rb⟩
      have q := HT.out
      rw [← horL_is last h L q.1 (fun p hp => q.2.1 p hp (hl0 _)) q.2.2]
      rfl
    · intro x s w1 cnt1 hwx hws hlx hat hrg1 hlt hg1 hs1 hen
      have HN : Hid (HorTo last L (fun z => left z && !z.sameKey (.int .u64 x)) (if s < h then s else h)) := by
        have q := HT.out.step HR.out (liveD_mem hat)
        have e : min h s = if s < h then s else h := by split <;> omega
        rw [e] at q; exact q
      have rb1 := rb.grown hg1 rb.size (fun j hj => by cases hj; exact Nat.le_refl _)
      clear hs1 hat hlx
      go_wp2
      go_roundw
      case rel => exact ⟨_, _, cnt1, rfl, HN, hrg1, rb1⟩
      case measure => rw [hrg1.left_eq, hrg.left_eq]; omega
end Go.Proofs.Ytmnbfcmamhinbaa
