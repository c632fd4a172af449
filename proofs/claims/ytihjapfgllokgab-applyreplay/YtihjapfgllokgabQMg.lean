/-
  Proved here: when the document's Add (varveref07) refuses a record. Plain facts of undo pages (slot's own, in rec's seat). Proved here: the document's Add (varveref07) refuses a record just where the program's does. Proved here: what the document's Add answers where it takes a record.
-/
import Derived.Test.YtihjapfgllokgabQRefV
import Derived.Test.YtihjapfgllokgabAdd
namespace Go.Proofs.Ytihjapfgllokgab
open Go.ChangeShapes Go.WideShapes Go.ChangeAt Go.RowKit
set_option linter.unusedVariables false
set_option linter.unusedSimpArgs false
set_option maxRecDepth 20000

theorem Own.snocG {w : World} {base : Nat} {v : Value} {os : List O} (h : Own w base v os) (ty : TypeId) (X : Nat) (p : O) (hX : Row w X p.arr 35) (hb : base ≤ w.heap.size) (hn : os.length ≤ 1000) :
    ∃ v' w', (Builtin.append_ #[62, 62] ty #[v, .slice (some ⟨X, 0, none⟩) 1 1]).run Try.prog w = .ok v' w' ∧ Own w' base v' (os ++ [p]) ∧ w.grownBy w' v.ownBlock := by
  obtain ⟨i, hi, hz, hs, hby⟩ := info_parts info35
  obtain ⟨v', w', hr, h2, h3, h4, h5⟩ := run_append_own_at (P := Try.prog) w base 62 ty 35 i _ 6 32 Try.underlying62 hi hz hs hby rfl (by decide) v os.length (flat os) h ⟨X, 0, none⟩ 1 1 p.cells rfl (fun j u hj => by rw [Addr.add_mid, Nat.zero_add, cell_of_row w X j _ _ _ hX, ← hj]; show p.cells.toArray[j]? = _; rw [List.getElem?_toArray]) (fun u hu => flat_one [p] u (by simpa [flat] using hu)) (by unfold maxLen; omega) (by omega) hb
  refine ⟨v', w', hr, ?_, h3⟩
  unfold Own
  rw [flat_append, List.length_append]
  have e : flat [p] = p.cells := by simp [flat]
  rw [e]
  exact h2
/-- An answer whose error is told. -/
def RAns (w : World) (E : Int) (e : Ending) (w' : World) : Prop := ∃ (l : Int) (oa : Option Addr) (n cap : Nat) (y : Int), e = .returned (.tuple #[.agg #[.int .u64 l, .slice oa n cap], .int .i64 y, .int .i64 E]) ∧ Below w.heap.size w w'
theorem fit_false {os : List O} {o : O} (h : fit os o = false) : may os = false ∨ (may os = true ∧ o.live = false) ∨ (may os = true ∧ o.live = true ∧ 66 < o.delta.size) := by
  unfold fit at h
  cases h1 : may os with
  | false => exact Or.inl rfl
  | true =>
    cases h2 : o.live with
    | false => exact Or.inr (Or.inl ⟨rfl, rfl⟩)
    | true =>
      rw [h1, h2] at h
      refine Or.inr (Or.inr ⟨rfl, rfl, ?_⟩)
      simpa using h
theorem dead_zero {os : List O} (hm : may os = true) {k : Nat} {o : O} (h : os[k]? = some o) (hl : o.live = false) : o = O.zero := by
  have := (may_small hm).2.2.1 o (List.mem_of_getElem? h)
  unfold okO at this
  rw [hl] at this
  simp at this
  exact this.1
set_option maxHeartbeats 4000000 in
theorem radd_bad (lsn : Int) (v : Value) (os : List O) (o : O) (w : World) (ho : Olds w v os) (hF : ∀ x ∈ os, x.Fits) (hf : fit os o = false) :
    Calls Try.prog 37 #[.agg #[.int .u64 lsn, v], .agg o.arr] w fun e w' => RAns w 1 e w' := by
  obtain ⟨oa, cap, rfl, _⟩ := ho.open
  obtain ⟨n, HN⟩ : ∃ n, Hid (os.length = n) := ⟨_, rfl⟩
  rw [HN.out] at ho ⊢
  obtain ⟨r0, r1, r2, ab, hsz⟩ := W0_rows w lsn (.slice oa n cap) o
  have hz := zero64
  have hmy := rmay_any lsn _ os (W0 w lsn (.slice oa n cap) o) (ho.keep ab) hF
  have HB : Hid _ := built64
  rcases fit_false hf with h1 | ⟨h1, h2⟩ | ⟨h1, h2, h3⟩
  all_goals
    rw [h1] at hmy
    go_enter Try.func37, Try.ntmps37
    go_upto_region 1 with fail
    have HW : W0 w lsn (.slice oa n cap) o = ((w.alloc (.cells #[.int .u64 lsn, .slice oa n cap] 64)).alloc (.cells o.arr 35)).alloc (.cells #[.int .u64 0, .slice none 0 0] 64) := rfl
    rw [← HW]
    clear HW
    generalize W0 w lsn (.slice oa n cap) o = w1 at r0 r1 r2 ab hsz hmy ⊢
    have rg := range_two r0
    have tl : Hid (1 = 1) := rfl
    have ts : Hid (1 = 1) := rfl
    go_wp2_with (first
      | (have hh := tl; clear hh tl; refine wpList_load_mid rfl 64 (.tmp 2) rfl w.heap.size 0 rfl [.int .u64 lsn, .slice oa n cap] _ rg Try.underlying64 rfl size64 ?_)
      | (go_at_call 54; refine hmy.mono ?_; clear hmy; rintro e w2 ⟨rfl, b2⟩; have s1 := r1.below b2 r1.lt; have c0 := row_at s1 0 (.bool o.live) rfl; have c5 := row_at s1 5 (.string o.delta) rfl; have s2 := r2.below b2 r2.lt; have B2 := ab.trans (b2.mono ab.size); first | rw [h2] at c0 | skip; first | (have h3' : (o.delta.size : Int) > 66 := by omega) | skip)
      | (refine build_none rfl 64 rfl _ HB.out ?_)
      | (have hh := ts; clear hh ts; refine store_cells rfl 64 (.tmp 4) (.tmp 23) rfl (w.heap.size + 2) #[.int .u64 0, .slice none 0 0] rfl rfl 64 _ s2 2 size64 rfl rfl (by simp [Value.oneCell']) ?_))
    refine bodyPost_ret (v := .tuple #[.agg #[.int .u64 0, .slice none 0 0], .int .i64 0, .int .i64 1]) ?_ rfl ⟨_, _, _, _, _, rfl, below_setRow B2 (by omega) _⟩
    exact ret_cell3 (fn := Try.f37) rfl _ _ (w.heap.size + 2) 64 #[.int .u64 0, .slice none 0 0] _ (.int .i64 0) (.int .i64 1) rfl rfl rfl (s2.set _) Try.underlying64 rfl size64
end Go.Proofs.Ytihjapfgllokgab
namespace Go.Proofs.Ytihjapfgllokgab
open Go.ChangeShapes Go.WideShapes Go.ChangeAt Go.RowKit
set_option linter.unusedVariables false
set_option linter.unusedSimpArgs false
set_option maxRecDepth 20000

def addE (os : List O) (o : O) : Int := if fit os o then if may (added os o) then 0 else 5 else 1
theorem live_ne {o : O} (h : o.live = true) : o ≠ O.zero := by rintro rfl; cases h
theorem Row.ne {w : World} {g k : Nat} {cs ds : Array Value} {t u : TypeId} (h : Row w g cs t) (h' : Row w k ds u) (hn : t ≠ u) : g ≠ k := by
  rintro rfl
  unfold Row at h h'
  rw [h] at h'
  simp at h'
  exact hn h'.2
theorem Own.off {F : Nat → Prop} {w w' : World} {base : Nat} {v : Value} {os : List O} (h : Own w base v os) (ho : Off F w w') (hF : ∀ g cs, Row w g cs 35 → ¬ F g) : Own w' base v os := by
  have hl := World.ownsRow.lt h
  obtain ⟨h1, h2⟩ := h
  refine ⟨h1, ?_⟩
  rcases h2 with h2 | ⟨g, cap, cur, rfl, hb', hc, rest⟩
  · exact Or.inl h2
  · have := hl g (by simp [Value.ownBlock])
    exact Or.inr ⟨g, cap, cur, rfl, hb', (ho.block g this.2 (hF g cur hc)).trans hc, rest⟩
end Go.Proofs.Ytihjapfgllokgab
namespace Go.Proofs.Ytihjapfgllokgab
open Go.ChangeShapes Go.WideShapes Go.ChangeAt Go.RowKit
set_option linter.unusedVariables false
set_option linter.unusedSimpArgs false
set_option maxRecDepth 20000

theorem setCells_off {F : Nat → Prop} (w : World) (g o : Nat) (hF : F g) : ∀ (vs : List Value), Off F w (w.setCells g o vs) := by
  intro vs
  induction vs generalizing w o with
  | nil => exact Off.refl _ _
  | cons v r ih =>
    rw [World.setCells]
    exact (Off.of_setCell (F := F) w ⟨g, o, none⟩ v hF).trans (ih _ _) (fun j q => Or.inl q)
set_option maxHeartbeats 8000000 in
theorem radd_fit (lsn : Int) (v : Value) (os : List O) (o : O) (w : World) (ho : Olds w v os) (hF : ∀ x ∈ os, x.Fits) (hFo : o.Fits) (hf : fit os o = true) :
    Calls Try.prog 37 #[.agg #[.int .u64 lsn, v], .agg o.arr] w fun e w' => RAns w (addE os o) e w' := by
  have hf' := hf
  unfold fit at hf'
  simp only [Bool.and_eq_true, decide_eq_true_eq] at hf'
  obtain ⟨⟨hm, hlv⟩, hd⟩ := hf'
  have hlen := (may_small hm).1
  have HMY : Hid (may os = true) := hm
  have HFT : Hid (∀ x ∈ os, x.Fits) := hF
  have HFO : Hid o.Fits := hFo
  have HB : Hid _ := built64
  obtain ⟨oa, cap, rfl, _⟩ := ho.open
  obtain ⟨n, HN⟩ : ∃ n, Hid (os.length = n) := ⟨_, rfl⟩
  rw [HN.out] at ho hlen ⊢
  obtain ⟨r0, r1, r2, ab, hsz⟩ := W0_rows w lsn (.slice oa n cap) o
  have hz := zero64
  have hmy := rmay_any lsn _ os (W0 w lsn (.slice oa n cap) o) (ho.keep ab) hF
  rw [hm] at hmy
  clear hF hFo
  go_enter Try.func37, Try.ntmps37
  go_upto_region 1 with fail
  have HW : W0 w lsn (.slice oa n cap) o = ((w.alloc (.cells #[.int .u64 lsn, .slice oa n cap] 64)).alloc (.cells o.arr 35)).alloc (.cells #[.int .u64 0, .slice none 0 0] 64) := rfl
  rw [← HW]
  clear HW
  generalize W0 w lsn (.slice oa n cap) o = w1 at r0 r1 r2 ab hsz hmy ⊢
  have HSZ := show Hid _ from hsz
  clear hsz
  have rg := range_two r0
  have tl : Hid (1 = 1) := rfl
  have hd' : ¬ (o.delta.size : Int) > 66 := by omega
  go_upto_region 3 with (first
    | (have hh := tl; clear hh tl; refine wpList_load_mid rfl 64 (.tmp 2) rfl w.heap.size 0 rfl [.int .u64 lsn, .slice oa n cap] _ rg Try.underlying64 rfl size64 ?_)
    | (go_at_call 54; refine hmy.mono ?_; rintro e w2 ⟨rfl, b2⟩
       have s1 := r1.below b2 r1.lt
       have c0 := row_at s1 0 (.bool true) (by rw [← hlv]; rfl)
       have c5 := row_at s1 5 (.string o.delta) rfl))
  have s0 := r0.below b2 r0.lt
  have s2 := r2.below b2 r2.lt
  have B2 : Below w.heap.size w w2 := ab.trans (b2.mono ab.size)
  have hw2 : Hid (w.heap.size + 3 ≤ w2.heap.size) := by have := HSZ.out; have := b2.size; show _ ≤ _; omega
  clear c0 c5 r0 r1 r2 rg b2 ab hmy HSZ
  have hcl := kept_any lsn _ os w2 (ho.keep B2) (by rw [HN.out]; omega)
  have rg := range_two s0
  have tl : Hid (1 = 1) := rfl
  have ts : Hid (1 = 1) := rfl
  go_upto_region 4 with (first
    | (have hh := tl; clear hh tl; refine wpList_load_mid rfl 64 (.tmp 2) rfl w.heap.size 0 rfl [.int .u64 lsn, .slice oa n cap] _ rg Try.underlying64 rfl size64 ?_)
    | (go_at_call 55; refine hcl.mono ?_; rintro e w4 ⟨v', rfl, hO, b4⟩
       obtain ⟨oa', cap', rfl⟩ := hO.form
       rw [HN.out] at hO ⊢
       have y0 : Row (w4.alloc (.cells #[.int .u64 0, .slice none 0 0] 64)) w4.heap.size #[.int .u64 0, .slice none 0 0] 64 := Row.new _ _ _)
    | (have hh := ts; clear hh ts; refine store_cells rfl 64 (.tmp 7) (.tmp 25) rfl w4.heap.size #[.int .u64 lsn, .slice oa' n cap'] rfl rfl 64 _ y0 2 size64 rfl rfl (by simp [Value.oneCell']) ?_))
  have b5 : Below w4.heap.size w4 ((w4.alloc (.cells #[.int .u64 0, .slice none 0 0] 64)).setRow w4.heap.size #[.int .u64 lsn, .slice oa' n cap']) := below_setRow ((Below.refl _ _).alloc (Nat.le_refl _) _) (Nat.le_refl _) _
  have p1 := (s1.below b4 s1.lt).below b5 (s1.below b4 s1.lt).lt
  have p2 := (s2.below b4 s2.lt).below b5 (s2.below b4 s2.lt).lt
  have pQ := y0.set #[.int .u64 lsn, .slice oa' n cap']
  have B5 : Below w.heap.size w ((w4.alloc (.cells #[.int .u64 0, .slice none 0 0] 64)).setRow w4.heap.size #[.int .u64 lsn, .slice oa' n cap']) := (B2.trans (b4.mono B2.size)).trans (b5.mono (Nat.le_trans B2.size b4.size))
  have hO5 := hO.keep b5
  have hQw : Hid (w.heap.size + 3 ≤ w4.heap.size) := Nat.le_trans hw2.out b4.size
  have hbw : Hid (w2.heap.size ≤ ((w4.alloc (.cells #[.int .u64 0, .slice none 0 0] 64)).setRow w4.heap.size #[.int .u64 lsn, .slice oa' n cap']).heap.size) := Nat.le_trans b4.size b5.size
  clear b5 y0 hO s0 s1 s2 rg hcl b4
  generalize (w4.alloc (.cells #[.int .u64 0, .slice none 0 0] 64)).setRow w4.heap.size #[.int .u64 lsn, .slice oa' n cap'] = w5 at p1 p2 pQ B5 hO5 hbw ⊢
  generalize w4.heap.size = Q at pQ hQw ⊢
  have cQ := row_at pQ 1 _ rfl
  have HOC : Hid (∀ (i : Nat) (x : O), os[i]? = some x → ∃ g, oa' = some ⟨g, 0, none⟩ ∧ w2.heap.size ≤ g ∧ w5.cell? ⟨g, i * 6, none⟩ = some (.bool x.live)) := fun i x hx => by
    have hi := (List.getElem?_eq_some_iff.1 hx).1
    obtain ⟨g, c', hv, hg⟩ := hO5.blkS (by omega)
    simp only [Value.slice.injEq] at hv
    obtain ⟨hv1, _, _⟩ := hv
    subst hv1
    have h1 := World.ownsRow.cells hO5 (g := g) rfl (i * 6 + 0) (.bool x.live) (by rw [flat_at os i 0 x hx (by omega)]; rfl)
    rw [Addr.add_mid, Nat.zero_add] at h1
    exact ⟨g, rfl, hg, by simpa using h1⟩
  go_wp2
  go_loopw [8] (fun d wr => ∃ k : Nat, d = .int .i64 k ∧ k ≤ n ∧ wr = w5 ∧ Hid (∀ (i : Nat) (x : O), i < k → os[i]? = some x → x.live = true)) (fun d _ => n - (intOf d).toNat)
  case atStart => exact ⟨0, rfl, by omega, rfl, fun i x hi => absurd hi (by omega)⟩
  case round =>
    obtain ⟨k, rfl, hk, rfl, HLV⟩ := hrel
    by_cases hkn : k < n
    · have hkn' : (k : Int) < (n : Int) := by omega
      obtain ⟨x, hx⟩ : ∃ x, os[k]? = some x := ⟨os[k]'(by rw [HN.out]; exact hkn), List.getElem?_eq_getElem (by rw [HN.out]; exact hkn)⟩
      obtain ⟨g, rfl, hgb, cx⟩ := HOC.out k x hx
      cases hxl : x.live with
      | true =>
        rw [hxl] at cx
        go_wp2
        go_roundw
        case rel => exact ⟨k + 1, by go_num, by omega, by first | rfl | trivial, fun i y hi hy => by
          by_cases z : i = k
          · subst z; rw [hx] at hy; simp at hy; subst hy; exact hxl
          · exact HLV.out i y (by omega) hy⟩
        case measure => simp [intOf]; omega
      | false =>
        rw [hxl] at cx
        have hx0 : os[k]? = some O.zero := by rw [hx, dead_zero HMY.out hx hxl]
        have hsp : spareAt os = k := spare_some os k hx0 (fun i y hi hy => live_ne (HLV.out i y hi hy))
        have HAD : Hid (added os o = os.set k o) := by show _ = _; unfold added; rw [hsp, if_neg (by rw [HN.out]; omega)]
        have HFN : Hid (∀ y ∈ os.set k o, y.Fits) := fun y hy => (List.mem_or_eq_of_mem_set hy).elim (HFT.out y) (fun q => q ▸ HFO.out)
        have hkne : ¬ (k : Int) = (n : Int) := by omega
        have hrow : ∃ cur, Row wr g cur 35 := by
          rcases hO5.2 with ⟨q, _⟩ | ⟨g', c', cur, q, _, hc, _⟩
          · cases q
          · cases q; exact ⟨cur, hc⟩
        obtain ⟨cur, hrow⟩ := hrow
        have th := hO5.there k (by rw [HN.out]; exact hkn)
        have hO6 := hO5.put k (by rw [HN.out]; exact hkn) o
        have of6 := setCells_off (F := (· = g)) wr g (k * 6) rfl o.cells
        have hgn : Hid (w.heap.size + 3 ≤ g) := Nat.le_trans hw2.out hgb
        have hgQ : Q ≠ g := fun q => by subst q; exact Row.ne hrow pQ (by decide) rfl
        have k2 := p2.off of6 (by have := hgn.out; omega)
        have kQ := pQ.off of6 hgQ
        have BW : Below w.heap.size w (wr.setCells g (k * 6) o.cells) := B5.trans (of6.below B5.size (by rintro j rfl; have := hgn.out; omega))
        have hkb : ((k : Int) == (n : Int)) = false := by simp; omega
        have HHX : Hid (os[k]? = some x ∧ os[k]? = some O.zero ∧ spareAt os = k ∧ x.live = false) := ⟨hx, hx0, hsp, hxl⟩
        have HLO : Hid (o.live = true) := hlv
        clear hx hx0 hsp hxl hkne hlv
        go_upto_region 9 with fail
        have t1 : Hid (1 = 1) := rfl
        have t2 : Hid (1 = 1) := rfl
        go_upto_region 10 with (first
          | (have hh := t1; clear hh t1; refine wpList_load_row rfl 35 (.tmp 3) rfl (w.heap.size + 1) rfl 35 _ (0, 0) _ p1 Try.underlying35 rfl size35 ?_)
          | (have hh := t2; clear hh t2; refine wpList_store_mid rfl 35 (.tmp 56) (.tmp 55) rfl g (k * 6) o.arr rfl rfl th size35 (arr_one _) ?_))
        have eC : wr.setCells g (k * 6) o.arr.toList = wr.setCells g (k * 6) o.cells := rfl
        rw [eC]
        clear eC th of6 hrow cx cQ p1 p2 pQ B5 hO5
        generalize wr.setCells g (k * 6) o.cells = w8 at hO6 k2 kQ BW ⊢
        have hmy2 := rmay_any lsn (.slice (some ⟨g, 0, none⟩) n cap') (os.set k o) w8 hO6.olds HFN.out
        have rgQ := range_two kQ
        have tl : Hid (1 = 1) := rfl
        have ts : Hid (1 = 1) := rfl
        cases hmz : may (os.set k o) with
        | true =>
          have hE : addE os o = 0 := by unfold addE; rw [hf, HAD.out, hmz]; rfl
          rw [hmz] at hmy2
          have t3 : Hid (1 = 1) := rfl
          go_wp2_with (first
            | (have hh := tl; clear hh tl; refine wpList_load_mid rfl 64 (.tmp 7) rfl Q 0 rfl [.int .u64 lsn, (.slice (some ⟨g, 0, none⟩) n cap')] _ rgQ Try.underlying64 rfl size64 ?_)
            | (go_at_call 54; refine hmy2.mono ?_; clear hmy2; rintro e w9 ⟨rfl, b9⟩; have s2 := (k2).below b9 (k2).lt; have sQ := range_two ((kQ).below b9 (kQ).lt); have B9 := (BW).trans (b9.mono (BW).size); have t4 : Hid (2 = 2) := rfl)
            | (have hh := t4; clear hh t4; refine wpList_load_mid rfl 64 (.tmp 7) rfl Q 0 rfl [.int .u64 lsn, (.slice (some ⟨g, 0, none⟩) n cap')] _ sQ Try.underlying64 rfl size64 ?_)
            | (have hh := ts; clear hh ts; refine store_cells rfl 64 (.tmp 4) (.tmp 61) rfl (w.heap.size + 2) #[.int .u64 lsn, (.slice (some ⟨g, 0, none⟩) n cap')] rfl rfl 64 _ s2 2 size64 rfl rfl (by simp [Value.oneCell']) ?_))
          refine bodyPost_ret (v := .tuple #[.agg #[.int .u64 lsn, (.slice (some ⟨g, 0, none⟩) n cap')], .int .i64 k, .int .i64 0]) ?_ rfl ⟨_, _, _, _, _, by rw [hE], below_setRow B9 (by omega) _⟩
          exact ret_cell3 (fn := Try.f37) rfl _ _ (w.heap.size + 2) 64 #[.int .u64 lsn, (.slice (some ⟨g, 0, none⟩) n cap')] _ (.int .i64 k) (.int .i64 0) rfl rfl rfl (s2.set _) Try.underlying64 rfl size64
        | false =>
          have hE : addE os o = 5 := by unfold addE; rw [hf, HAD.out, hmz]; rfl
          rw [hmz] at hmy2
          go_wp2_with (first
            | (have hh := tl; clear hh tl; refine wpList_load_mid rfl 64 (.tmp 7) rfl Q 0 rfl [.int .u64 lsn, (.slice (some ⟨g, 0, none⟩) n cap')] _ rgQ Try.underlying64 rfl size64 ?_)
            | (go_at_call 54; refine hmy2.mono ?_; clear hmy2; rintro e w9 ⟨rfl, b9⟩; have s2 := (k2).below b9 (k2).lt; have B9 := (BW).trans (b9.mono (BW).size))
            | (refine build_none rfl 64 rfl _ HB.out ?_)
            | (have hh := ts; clear hh ts; refine store_cells rfl 64 (.tmp 4) (.tmp 60) rfl (w.heap.size + 2) #[.int .u64 0, .slice none 0 0] rfl rfl 64 _ s2 2 size64 rfl rfl (by simp [Value.oneCell']) ?_))
          refine bodyPost_ret (v := .tuple #[.agg #[.int .u64 0, .slice none 0 0], .int .i64 0, .int .i64 5]) ?_ rfl ⟨_, _, _, _, _, by rw [hE], below_setRow B9 (by omega) _⟩
          exact ret_cell3 (fn := Try.f37) rfl _ _ (w.heap.size + 2) 64 #[.int .u64 0, .slice none 0 0] _ (.int .i64 0) (.int .i64 5) rfl rfl rfl (s2.set _) Try.underlying64 rfl size64
    · have hkn' : ¬ (k : Int) < (n : Int) := by omega
      have eK : n = k := by omega
      subst eK
      have hsp : spareAt os = n := by rw [← HN.out]; exact spare_none os (fun i y hy => live_ne (HLV.out i y (by have := (List.getElem?_eq_some_iff.1 hy).1; have := HN.out; omega) hy))
      have HAD : Hid (added os o = os ++ [o]) := by show _ = _; unfold added; rw [hsp, if_pos HN.out.symm]
      have HFN : Hid (∀ y ∈ os ++ [o], y.Fits) := fun y hy => (List.mem_append.1 hy).elim (HFT.out y) (fun q => by simp at q; subst q; exact HFO.out)
      have hrr : ∀ ty, ∃ v' w', (Builtin.append_ #[62, 62] ty #[.slice oa' n cap', .slice (some ⟨wr.heap.size, 0, none⟩) 1 1]).run Try.prog (wr.alloc (.cells #[.bool o.live, .int .u16 o.page, .int .u32 o.ts, .int .u16 o.np, .int .u8 o.ns, .string o.delta] 35)) = .ok v' w' ∧ (Own w' w2.heap.size v' (os ++ [o]) ∧ (wr.alloc (.cells #[.bool o.live, .int .u16 o.page, .int .u32 o.ts, .int .u16 o.np, .int .u8 o.ns, .string o.delta] 35)).grownBy w' (Value.slice oa' n cap').ownBlock) := fun ty => (hO5.alloc (.cells #[.bool o.live, .int .u16 o.page, .int .u32 o.ts, .int .u16 o.np, .int .u8 o.ns, .string o.delta] 35)).snocG ty wr.heap.size o (show Row _ _ o.arr 35 from Row.new _ _ _) (by have := hbw.out; simp; omega) (by rw [HN.out]; omega)
      have HR : Hid _ := hrr
      have HOB : Hid (∀ g, (Value.slice oa' n cap').ownBlock = some g → w2.heap.size ≤ g ∧ ∃ cur, Row wr g cur 35) := fun g hg => by
        refine ⟨(World.ownsRow.lt hO5 g hg).1, ?_⟩
        rcases hO5.2 with ⟨q, _⟩ | ⟨g', c', cur, q, _, hc, _⟩
        · rw [q] at hg; simp [Value.ownBlock] at hg
        · rw [q] at hg; simp [Value.ownBlock] at hg; subst hg; exact ⟨cur, hc⟩
      have HHX : Hid (spareAt os = n) := hsp
      have HLO : Hid (o.live = true) := hlv
      have hkb : ((n : Int) == (n : Int)) = true := by simp
      have HO5 : Hid _ := hO5
      have HL2 : Hid ((os ++ [o]).length = n + 1) := by show _ = _; rw [List.length_append, HN.out]; rfl
      clear hrr hsp hlv hO5
      go_upto_region 8 with fail
      have p1' : Row wr (w.heap.size + 1) #[.bool o.live, .int .u16 o.page, .int .u32 o.ts, .int .u16 o.np, .int .u8 o.ns, .string o.delta] 35 := p1
      have t1 : Hid (1 = 1) := rfl
      have t2 : Hid (1 = 1) := rfl
      go_upto_region 10 with (first
        | (have hh := t1; clear hh t1; refine wpList_load_row rfl 35 (.tmp 3) rfl (w.heap.size + 1) rfl 35 _ (0, 0) _ p1' Try.underlying35 rfl size35 ?_)
        | (at_builtin; refine wpList_copy rfl (.tmp 47) (.tmp 49) 62 rfl _ _ rfl rfl (fun ty => HR.out ty) ?_; clear HR
           rintro v2 w7 ⟨hO7, gr⟩
           obtain ⟨oa2, cap2, hv2⟩ := hO7.form
           rw [HL2.out] at hv2
           subst hv2
           have of7 : Off (fun q => (Value.slice oa' n cap').ownBlock = some q) (wr.alloc (.cells #[.bool o.live, .int .u16 o.page, .int .u32 o.ts, .int .u16 o.np, .int .u8 o.ns, .string o.delta] 35)) w7 := Off.of_grown gr (fun q hq => hq)
           have t2 := (p2.alloc (.cells #[.bool o.live, .int .u16 o.page, .int .u32 o.ts, .int .u16 o.np, .int .u8 o.ns, .string o.delta] 35)).off of7 (fun q => by have h1 := (HOB.out _ q).1; have h2 := hw2.out; omega)
           have tQ := (pQ.alloc (.cells #[.bool o.live, .int .u16 o.page, .int .u32 o.ts, .int .u16 o.np, .int .u8 o.ns, .string o.delta] 35)).off of7 (fun q => by obtain ⟨_, cur, h1⟩ := HOB.out _ q; exact Row.ne h1 pQ (by decide) rfl)
           have tB : Below w.heap.size w w7 := (B5.alloc B5.size _).trans (of7.below (by have := B5.size; simp; omega) (by rintro q hq; have h1 := (HOB.out _ hq).1; have h2 := hw2.out; omega))
           have dQ := row_at tQ 1 _ rfl
           have eQ := row_frozen tQ 1))
      have kQ := row_set tQ 1 (.slice oa2 (n + 1) cap2)
      have k2 := row_setCell_other t2 (g := Q) (by have := hQw.out; omega) 1 (.slice oa2 (n + 1) cap2)
      have hO8 : Own (w7.setCell ⟨Q, 1, none⟩ (.slice oa2 (n + 1) cap2)) w2.heap.size (.slice oa2 (n + 1) cap2) (os ++ [o]) := hO7.off (Off.of_setCell (F := (· = Q)) w7 ⟨Q, 1, none⟩ (.slice oa2 (n + 1) cap2) rfl) (fun g cs hg q => by subst q; exact Row.ne hg tQ (by decide) rfl)
      have BW : Below w.heap.size w (w7.setCell ⟨Q, 1, none⟩ (.slice oa2 (n + 1) cap2)) := tB.setCell (p := ⟨Q, 1, none⟩) (by show w.heap.size ≤ Q; have := hQw.out; omega) _
      simp only [List.setIfInBounds_toArray, List.set_cons_zero, List.set_cons_succ] at kQ
      clear dQ eQ t2 tQ tB of7 hO7 gr
      generalize w7.setCell ⟨Q, 1, none⟩ (.slice oa2 (n + 1) cap2) = w8 at kQ k2 hO8 BW ⊢
      have hmy2 := rmay_any lsn (.slice oa2 (n + 1) cap2) (os ++ [o]) w8 hO8.olds HFN.out
      have rgQ := range_two kQ
      have tl : Hid (1 = 1) := rfl
      have ts : Hid (1 = 1) := rfl
      cases hmz : may (os ++ [o]) with
      | true =>
        have hE : addE os o = 0 := by unfold addE; rw [hf, HAD.out, hmz]; rfl
        rw [hmz] at hmy2
        have t3 : Hid (1 = 1) := rfl
        go_wp2_with (first
          | (have hh := tl; clear hh tl; refine wpList_load_mid rfl 64 (.tmp 7) rfl Q 0 rfl [.int .u64 lsn, (.slice oa2 (n + 1) cap2)] _ rgQ Try.underlying64 rfl size64 ?_)
          | (go_at_call 54; refine hmy2.mono ?_; clear hmy2; rintro e w9 ⟨rfl, b9⟩; have s2 := (k2).below b9 (k2).lt; have sQ := range_two ((kQ).below b9 (kQ).lt); have B9 := (BW).trans (b9.mono (BW).size); have t4 : Hid (2 = 2) := rfl)
          | (have hh := t4; clear hh t4; refine wpList_load_mid rfl 64 (.tmp 7) rfl Q 0 rfl [.int .u64 lsn, (.slice oa2 (n + 1) cap2)] _ sQ Try.underlying64 rfl size64 ?_)
          | (have hh := ts; clear hh ts; refine store_cells rfl 64 (.tmp 4) (.tmp 61) rfl (w.heap.size + 2) #[.int .u64 lsn, (.slice oa2 (n + 1) cap2)] rfl rfl 64 _ s2 2 size64 rfl rfl (by simp [Value.oneCell']) ?_))
        refine bodyPost_ret (v := .tuple #[.agg #[.int .u64 lsn, (.slice oa2 (n + 1) cap2)], .int .i64 n, .int .i64 0]) ?_ rfl ⟨_, _, _, _, _, by rw [hE], below_setRow B9 (by omega) _⟩
        exact ret_cell3 (fn := Try.f37) rfl _ _ (w.heap.size + 2) 64 #[.int .u64 lsn, (.slice oa2 (n + 1) cap2)] _ (.int .i64 n) (.int .i64 0) rfl rfl rfl (s2.set _) Try.underlying64 rfl size64
      | false =>
        have hE : addE os o = 5 := by unfold addE; rw [hf, HAD.out, hmz]; rfl
        rw [hmz] at hmy2
        go_wp2_with (first
          | (have hh := tl; clear hh tl; refine wpList_load_mid rfl 64 (.tmp 7) rfl Q 0 rfl [.int .u64 lsn, (.slice oa2 (n + 1) cap2)] _ rgQ Try.underlying64 rfl size64 ?_)
          | (go_at_call 54; refine hmy2.mono ?_; clear hmy2; rintro e w9 ⟨rfl, b9⟩; have s2 := (k2).below b9 (k2).lt; have B9 := (BW).trans (b9.mono (BW).size))
          | (refine build_none rfl 64 rfl _ HB.out ?_)
          | (have hh := ts; clear hh ts; refine store_cells rfl 64 (.tmp 4) (.tmp 60) rfl (w.heap.size + 2) #[.int .u64 0, .slice none 0 0] rfl rfl 64 _ s2 2 size64 rfl rfl (by simp [Value.oneCell']) ?_))
        refine bodyPost_ret (v := .tuple #[.agg #[.int .u64 0, .slice none 0 0], .int .i64 0, .int .i64 5]) ?_ rfl ⟨_, _, _, _, _, by rw [hE], below_setRow B9 (by omega) _⟩
        exact ret_cell3 (fn := Try.f37) rfl _ _ (w.heap.size + 2) 64 #[.int .u64 0, .slice none 0 0] _ (.int .i64 0) (.int .i64 5) rfl rfl rfl (s2.set _) Try.underlying64 rfl size64
theorem radd_any (lsn : Int) (v : Value) (os : List O) (o : O) (w : World) (ho : Olds w v os) (hF : ∀ x ∈ os, x.Fits) (hFo : o.Fits) :
    Calls Try.prog 37 #[.agg #[.int .u64 lsn, v], .agg o.arr] w fun e w' => RAns w (addE os o) e w' := by
  cases hf : fit os o with
  | true => exact radd_fit lsn v os o w ho hF hFo hf
  | false =>
    have e : addE os o = 1 := by unfold addE; rw [hf]; rfl
    rw [e]; exact radd_bad lsn v os o w ho hF hf
end Go.Proofs.Ytihjapfgllokgab
namespace Go.Proofs.Ytihjapfgllokgab
open Go.ChangeShapes Go.WideShapes Go.ChangeAt Go.RowKit
set_option linter.unusedVariables false
set_option linter.unusedSimpArgs false
set_option maxRecDepth 20000

/-- The page with the record, and its place. -/
def RAnsF (w : World) (lsn : Int) (os : List O) (o : O) (e : Ending) (w' : World) : Prop := ∃ v', e = .returned (.tuple #[.agg #[.int .u64 lsn, v'], .int .i64 (spareAt os : Nat), .int .i64 0]) ∧ Own w' w.heap.size v' (added os o) ∧ Below w.heap.size w w'
set_option maxHeartbeats 8000000 in
theorem radd_okf (lsn : Int) (v : Value) (os : List O) (o : O) (w : World) (ho : Olds w v os) (hF : ∀ x ∈ os, x.Fits) (hFo : o.Fits) (hf : fit os o = true) (hmA : may (added os o) = true) :
    Calls Try.prog 37 #[.agg #[.int .u64 lsn, v], .agg o.arr] w fun e w' => RAnsF w lsn os o e w' := by
  have HMA : Hid _ := hmA
  clear hmA
  have hf' := hf
  unfold fit at hf'
  simp only [Bool.and_eq_true, decide_eq_true_eq] at hf'
  obtain ⟨⟨hm, hlv⟩, hd⟩ := hf'
  have hlen := (may_small hm).1
  have HMY : Hid (may os = true) := hm
  have HFT : Hid (∀ x ∈ os, x.Fits) := hF
  have HFO : Hid o.Fits := hFo
  have HB : Hid _ := built64
  obtain ⟨oa, cap, rfl, _⟩ := ho.open
  obtain ⟨n, HN⟩ : ∃ n, Hid (os.length = n) := ⟨_, rfl⟩
  rw [HN.out] at ho hlen ⊢
  obtain ⟨r0, r1, r2, ab, hsz⟩ := W0_rows w lsn (.slice oa n cap) o
  have hz := zero64
  have hmy := rmay_any lsn _ os (W0 w lsn (.slice oa n cap) o) (ho.keep ab) hF
  rw [hm] at hmy
  clear hF hFo
  go_enter Try.func37, Try.ntmps37
  go_upto_region 1 with fail
  have HW : W0 w lsn (.slice oa n cap) o = ((w.alloc (.cells #[.int .u64 lsn, .slice oa n cap] 64)).alloc (.cells o.arr 35)).alloc (.cells #[.int .u64 0, .slice none 0 0] 64) := rfl
  rw [← HW]
  clear HW
  generalize W0 w lsn (.slice oa n cap) o = w1 at r0 r1 r2 ab hsz hmy ⊢
  have HSZ := show Hid _ from hsz
  clear hsz
  have rg := range_two r0
  have tl : Hid (1 = 1) := rfl
  have hd' : ¬ (o.delta.size : Int) > 66 := by omega
  go_upto_region 3 with (first
    | (have hh := tl; clear hh tl; refine wpList_load_mid rfl 64 (.tmp 2) rfl w.heap.size 0 rfl [.int .u64 lsn, .slice oa n cap] _ rg Try.underlying64 rfl size64 ?_)
    | (go_at_call 54; refine hmy.mono ?_; rintro e w2 ⟨rfl, b2⟩
       have s1 := r1.below b2 r1.lt
       have c0 := row_at s1 0 (.bool true) (by rw [← hlv]; rfl)
       have c5 := row_at s1 5 (.string o.delta) rfl))
  have s0 := r0.below b2 r0.lt
  have s2 := r2.below b2 r2.lt
  have B2 : Below w.heap.size w w2 := ab.trans (b2.mono ab.size)
  have hw2 : Hid (w.heap.size + 3 ≤ w2.heap.size) := by have := HSZ.out; have := b2.size; show _ ≤ _; omega
  clear c0 c5 r0 r1 r2 rg b2 ab hmy HSZ
  have hcl := kept_any lsn _ os w2 (ho.keep B2) (by rw [HN.out]; omega)
  have rg := range_two s0
  have tl : Hid (1 = 1) := rfl
  have ts : Hid (1 = 1) := rfl
  go_upto_region 4 with (first
    | (have hh := tl; clear hh tl; refine wpList_load_mid rfl 64 (.tmp 2) rfl w.heap.size 0 rfl [.int .u64 lsn, .slice oa n cap] _ rg Try.underlying64 rfl size64 ?_)
    | (go_at_call 55; refine hcl.mono ?_; rintro e w4 ⟨v', rfl, hO, b4⟩
       obtain ⟨oa', cap', rfl⟩ := hO.form
       rw [HN.out] at hO ⊢
       have y0 : Row (w4.alloc (.cells #[.int .u64 0, .slice none 0 0] 64)) w4.heap.size #[.int .u64 0, .slice none 0 0] 64 := Row.new _ _ _)
    | (have hh := ts; clear hh ts; refine store_cells rfl 64 (.tmp 7) (.tmp 25) rfl w4.heap.size #[.int .u64 lsn, .slice oa' n cap'] rfl rfl 64 _ y0 2 size64 rfl rfl (by simp [Value.oneCell']) ?_))
  have b5 : Below w4.heap.size w4 ((w4.alloc (.cells #[.int .u64 0, .slice none 0 0] 64)).setRow w4.heap.size #[.int .u64 lsn, .slice oa' n cap']) := below_setRow ((Below.refl _ _).alloc (Nat.le_refl _) _) (Nat.le_refl _) _
  have p1 := (s1.below b4 s1.lt).below b5 (s1.below b4 s1.lt).lt
  have p2 := (s2.below b4 s2.lt).below b5 (s2.below b4 s2.lt).lt
  have pQ := y0.set #[.int .u64 lsn, .slice oa' n cap']
  have B5 : Below w.heap.size w ((w4.alloc (.cells #[.int .u64 0, .slice none 0 0] 64)).setRow w4.heap.size #[.int .u64 lsn, .slice oa' n cap']) := (B2.trans (b4.mono B2.size)).trans (b5.mono (Nat.le_trans B2.size b4.size))
  have hO5 := hO.keep b5
  have hQw : Hid (w.heap.size + 3 ≤ w4.heap.size) := Nat.le_trans hw2.out b4.size
  have hbw : Hid (w2.heap.size ≤ ((w4.alloc (.cells #[.int .u64 0, .slice none 0 0] 64)).setRow w4.heap.size #[.int .u64 lsn, .slice oa' n cap']).heap.size) := Nat.le_trans b4.size b5.size
  clear b5 y0 hO s0 s1 s2 rg hcl b4
  generalize (w4.alloc (.cells #[.int .u64 0, .slice none 0 0] 64)).setRow w4.heap.size #[.int .u64 lsn, .slice oa' n cap'] = w5 at p1 p2 pQ B5 hO5 hbw ⊢
  generalize w4.heap.size = Q at pQ hQw ⊢
  have cQ := row_at pQ 1 _ rfl
  have HOC : Hid (∀ (i : Nat) (x : O), os[i]? = some x → ∃ g, oa' = some ⟨g, 0, none⟩ ∧ w2.heap.size ≤ g ∧ w5.cell? ⟨g, i * 6, none⟩ = some (.bool x.live)) := fun i x hx => by
    have hi := (List.getElem?_eq_some_iff.1 hx).1
    obtain ⟨g, c', hv, hg⟩ := hO5.blkS (by omega)
    simp only [Value.slice.injEq] at hv
    obtain ⟨hv1, _, _⟩ := hv
    subst hv1
    have h1 := World.ownsRow.cells hO5 (g := g) rfl (i * 6 + 0) (.bool x.live) (by rw [flat_at os i 0 x hx (by omega)]; rfl)
    rw [Addr.add_mid, Nat.zero_add] at h1
    exact ⟨g, rfl, hg, by simpa using h1⟩
  go_wp2
  go_loopw [8] (fun d wr => ∃ k : Nat, d = .int .i64 k ∧ k ≤ n ∧ wr = w5 ∧ Hid (∀ (i : Nat) (x : O), i < k → os[i]? = some x → x.live = true)) (fun d _ => n - (intOf d).toNat)
  case atStart => exact ⟨0, rfl, by omega, rfl, fun i x hi => absurd hi (by omega)⟩
  case round =>
    obtain ⟨k, rfl, hk, rfl, HLV⟩ := hrel
    by_cases hkn : k < n
    · have hkn' : (k : Int) < (n : Int) := by omega
      obtain ⟨x, hx⟩ : ∃ x, os[k]? = some x := ⟨os[k]'(by rw [HN.out]; exact hkn), List.getElem?_eq_getElem (by rw [HN.out]; exact hkn)⟩
      obtain ⟨g, rfl, hgb, cx⟩ := HOC.out k x hx
      cases hxl : x.live with
      | true =>
        rw [hxl] at cx
        go_wp2
        go_roundw
        case rel => exact ⟨k + 1, by go_num, by omega, by first | rfl | trivial, fun i y hi hy => by
          by_cases z : i = k
          · subst z; rw [hx] at hy; simp at hy; subst hy; exact hxl
          · exact HLV.out i y (by omega) hy⟩
        case measure => simp [intOf]; omega
      | false =>
        rw [hxl] at cx
        have hx0 : os[k]? = some O.zero := by rw [hx, dead_zero HMY.out hx hxl]
        have hsp : spareAt os = k := spare_some os k hx0 (fun i y hi hy => live_ne (HLV.out i y hi hy))
        have HAD : Hid (added os o = os.set k o) := by show _ = _; unfold added; rw [hsp, if_neg (by rw [HN.out]; omega)]
        have HFN : Hid (∀ y ∈ os.set k o, y.Fits) := fun y hy => (List.mem_or_eq_of_mem_set hy).elim (HFT.out y) (fun q => q ▸ HFO.out)
        have hkne : ¬ (k : Int) = (n : Int) := by omega
        have hrow : ∃ cur, Row wr g cur 35 := by
          rcases hO5.2 with ⟨q, _⟩ | ⟨g', c', cur, q, _, hc, _⟩
          · cases q
          · cases q; exact ⟨cur, hc⟩
        obtain ⟨cur, hrow⟩ := hrow
        have th := hO5.there k (by rw [HN.out]; exact hkn)
        have hO6 := hO5.put k (by rw [HN.out]; exact hkn) o
        have of6 := setCells_off (F := (· = g)) wr g (k * 6) rfl o.cells
        have hgn : Hid (w.heap.size + 3 ≤ g) := Nat.le_trans hw2.out hgb
        have hgQ : Q ≠ g := fun q => by subst q; exact Row.ne hrow pQ (by decide) rfl
        have k2 := p2.off of6 (by have := hgn.out; omega)
        have kQ := pQ.off of6 hgQ
        have BW : Below w.heap.size w (wr.setCells g (k * 6) o.cells) := B5.trans (of6.below B5.size (by rintro j rfl; have := hgn.out; omega))
        have hkb : ((k : Int) == (n : Int)) = false := by simp; omega
        have HSPX : Hid (spareAt os = k) := hsp
        have HHX : Hid (os[k]? = some x ∧ os[k]? = some O.zero ∧ spareAt os = k ∧ x.live = false) := ⟨hx, hx0, hsp, hxl⟩
        have HLO : Hid (o.live = true) := hlv
        clear hx hx0 hsp hxl hkne hlv
        go_upto_region 9 with fail
        have t1 : Hid (1 = 1) := rfl
        have t2 : Hid (1 = 1) := rfl
        go_upto_region 10 with (first
          | (have hh := t1; clear hh t1; refine wpList_load_row rfl 35 (.tmp 3) rfl (w.heap.size + 1) rfl 35 _ (0, 0) _ p1 Try.underlying35 rfl size35 ?_)
          | (have hh := t2; clear hh t2; refine wpList_store_mid rfl 35 (.tmp 56) (.tmp 55) rfl g (k * 6) o.arr rfl rfl th size35 (arr_one _) ?_))
        have eC : wr.setCells g (k * 6) o.arr.toList = wr.setCells g (k * 6) o.cells := rfl
        rw [eC]
        clear eC th of6 hrow cx cQ p1 p2 pQ B5 hO5
        generalize wr.setCells g (k * 6) o.cells = w8 at hO6 k2 kQ BW ⊢
        have hmy2 := rmay_any lsn (.slice (some ⟨g, 0, none⟩) n cap') (os.set k o) w8 hO6.olds HFN.out
        have rgQ := range_two kQ
        have hOO := hO6
        have tl : Hid (1 = 1) := rfl
        have ts : Hid (1 = 1) := rfl
        cases hmz : may (os.set k o) with
        | true =>
          have hE : addE os o = 0 := by unfold addE; rw [hf, HAD.out, hmz]; rfl
          rw [hmz] at hmy2
          have t3 : Hid (1 = 1) := rfl
          go_wp2_with (first
            | (have hh := tl; clear hh tl; refine wpList_load_mid rfl 64 (.tmp 7) rfl Q 0 rfl [.int .u64 lsn, (.slice (some ⟨g, 0, none⟩) n cap')] _ rgQ Try.underlying64 rfl size64 ?_)
            | (go_at_call 54; refine hmy2.mono ?_; clear hmy2; rintro e w9 ⟨rfl, b9⟩; have s2 := (k2).below b9 (k2).lt; have sQ := range_two ((kQ).below b9 (kQ).lt); have hO9 := hOO.keep b9; have B9 := (BW).trans (b9.mono (BW).size); have t4 : Hid (2 = 2) := rfl)
            | (have hh := t4; clear hh t4; refine wpList_load_mid rfl 64 (.tmp 7) rfl Q 0 rfl [.int .u64 lsn, (.slice (some ⟨g, 0, none⟩) n cap')] _ sQ Try.underlying64 rfl size64 ?_)
            | (have hh := ts; clear hh ts; refine store_cells rfl 64 (.tmp 4) (.tmp 61) rfl (w.heap.size + 2) #[.int .u64 lsn, (.slice (some ⟨g, 0, none⟩) n cap')] rfl rfl 64 _ s2 2 size64 rfl rfl (by simp [Value.oneCell']) ?_))
          refine bodyPost_ret (v := .tuple #[.agg #[.int .u64 lsn, (.slice (some ⟨g, 0, none⟩) n cap')], .int .i64 k, .int .i64 0]) ?_ rfl ⟨_, by rw [HSPX.out], by rw [HAD.out]; exact (hO9.setRow (w.heap.size + 2) (by have := hw2.out; omega) _).base (by have := hw2.out; omega), below_setRow B9 (by omega) _⟩
          exact ret_cell3 (fn := Try.f37) rfl _ _ (w.heap.size + 2) 64 #[.int .u64 lsn, (.slice (some ⟨g, 0, none⟩) n cap')] _ (.int .i64 k) (.int .i64 0) rfl rfl rfl (s2.set _) Try.underlying64 rfl size64
        | false =>
          exfalso; have hq := HMA.out; rw [HAD.out, hmz] at hq; cases hq
    · have hkn' : ¬ (k : Int) < (n : Int) := by omega
      have eK : n = k := by omega
      subst eK
      have hsp : spareAt os = n := by rw [← HN.out]; exact spare_none os (fun i y hy => live_ne (HLV.out i y (by have := (List.getElem?_eq_some_iff.1 hy).1; have := HN.out; omega) hy))
      have HAD : Hid (added os o = os ++ [o]) := by show _ = _; unfold added; rw [hsp, if_pos HN.out.symm]
      have HFN : Hid (∀ y ∈ os ++ [o], y.Fits) := fun y hy => (List.mem_append.1 hy).elim (HFT.out y) (fun q => by simp at q; subst q; exact HFO.out)
      have hrr : ∀ ty, ∃ v' w', (Builtin.append_ #[62, 62] ty #[.slice oa' n cap', .slice (some ⟨wr.heap.size, 0, none⟩) 1 1]).run Try.prog (wr.alloc (.cells #[.bool o.live, .int .u16 o.page, .int .u32 o.ts, .int .u16 o.np, .int .u8 o.ns, .string o.delta] 35)) = .ok v' w' ∧ (Own w' w2.heap.size v' (os ++ [o]) ∧ (wr.alloc (.cells #[.bool o.live, .int .u16 o.page, .int .u32 o.ts, .int .u16 o.np, .int .u8 o.ns, .string o.delta] 35)).grownBy w' (Value.slice oa' n cap').ownBlock) := fun ty => (hO5.alloc (.cells #[.bool o.live, .int .u16 o.page, .int .u32 o.ts, .int .u16 o.np, .int .u8 o.ns, .string o.delta] 35)).snocG ty wr.heap.size o (show Row _ _ o.arr 35 from Row.new _ _ _) (by have := hbw.out; simp; omega) (by rw [HN.out]; omega)
      have HR : Hid _ := hrr
      have HOB : Hid (∀ g, (Value.slice oa' n cap').ownBlock = some g → w2.heap.size ≤ g ∧ ∃ cur, Row wr g cur 35) := fun g hg => by
        refine ⟨(World.ownsRow.lt hO5 g hg).1, ?_⟩
        rcases hO5.2 with ⟨q, _⟩ | ⟨g', c', cur, q, _, hc, _⟩
        · rw [q] at hg; simp [Value.ownBlock] at hg
        · rw [q] at hg; simp [Value.ownBlock] at hg; subst hg; exact ⟨cur, hc⟩
      have HSPX : Hid (spareAt os = n) := hsp
      have HLO : Hid (o.live = true) := hlv
      have hkb : ((n : Int) == (n : Int)) = true := by simp
      have HO5 : Hid _ := hO5
      have HL2 : Hid ((os ++ [o]).length = n + 1) := by show _ = _; rw [List.length_append, HN.out]; rfl
      clear hrr hsp hlv hO5
      go_upto_region 8 with fail
      have p1' : Row wr (w.heap.size + 1) #[.bool o.live, .int .u16 o.page, .int .u32 o.ts, .int .u16 o.np, .int .u8 o.ns, .string o.delta] 35 := p1
      have t1 : Hid (1 = 1) := rfl
      have t2 : Hid (1 = 1) := rfl
      go_upto_region 10 with (first
        | (have hh := t1; clear hh t1; refine wpList_load_row rfl 35 (.tmp 3) rfl (w.heap.size + 1) rfl 35 _ (0, 0) _ p1' Try.underlying35 rfl size35 ?_)
        | (at_builtin; refine wpList_copy rfl (.tmp 47) (.tmp 49) 62 rfl _ _ rfl rfl (fun ty => HR.out ty) ?_; clear HR
           rintro v2 w7 ⟨hO7, gr⟩
           obtain ⟨oa2, cap2, hv2⟩ := hO7.form
           rw [HL2.out] at hv2
           subst hv2
           have of7 : Off (fun q => (Value.slice oa' n cap').ownBlock = some q) (wr.alloc (.cells #[.bool o.live, .int .u16 o.page, .int .u32 o.ts, .int .u16 o.np, .int .u8 o.ns, .string o.delta] 35)) w7 := Off.of_grown gr (fun q hq => hq)
           have t2 := (p2.alloc (.cells #[.bool o.live, .int .u16 o.page, .int .u32 o.ts, .int .u16 o.np, .int .u8 o.ns, .string o.delta] 35)).off of7 (fun q => by have h1 := (HOB.out _ q).1; have h2 := hw2.out; omega)
           have tQ := (pQ.alloc (.cells #[.bool o.live, .int .u16 o.page, .int .u32 o.ts, .int .u16 o.np, .int .u8 o.ns, .string o.delta] 35)).off of7 (fun q => by obtain ⟨_, cur, h1⟩ := HOB.out _ q; exact Row.ne h1 pQ (by decide) rfl)
           have tB : Below w.heap.size w w7 := (B5.alloc B5.size _).trans (of7.below (by have := B5.size; simp; omega) (by rintro q hq; have h1 := (HOB.out _ hq).1; have h2 := hw2.out; omega))
           have dQ := row_at tQ 1 _ rfl
           have eQ := row_frozen tQ 1))
      have kQ := row_set tQ 1 (.slice oa2 (n + 1) cap2)
      have k2 := row_setCell_other t2 (g := Q) (by have := hQw.out; omega) 1 (.slice oa2 (n + 1) cap2)
      have hO8 : Own (w7.setCell ⟨Q, 1, none⟩ (.slice oa2 (n + 1) cap2)) w2.heap.size (.slice oa2 (n + 1) cap2) (os ++ [o]) := hO7.off (Off.of_setCell (F := (· = Q)) w7 ⟨Q, 1, none⟩ (.slice oa2 (n + 1) cap2) rfl) (fun g cs hg q => by subst q; exact Row.ne hg tQ (by decide) rfl)
      have BW : Below w.heap.size w (w7.setCell ⟨Q, 1, none⟩ (.slice oa2 (n + 1) cap2)) := tB.setCell (p := ⟨Q, 1, none⟩) (by show w.heap.size ≤ Q; have := hQw.out; omega) _
      simp only [List.setIfInBounds_toArray, List.set_cons_zero, List.set_cons_succ] at kQ
      clear dQ eQ t2 tQ tB of7 hO7 gr
      generalize w7.setCell ⟨Q, 1, none⟩ (.slice oa2 (n + 1) cap2) = w8 at kQ k2 hO8 BW ⊢
      have hmy2 := rmay_any lsn (.slice oa2 (n + 1) cap2) (os ++ [o]) w8 hO8.olds HFN.out
      have rgQ := range_two kQ
      have hOO := hO8
      have tl : Hid (1 = 1) := rfl
      have ts : Hid (1 = 1) := rfl
      cases hmz : may (os ++ [o]) with
      | true =>
        have hE : addE os o = 0 := by unfold addE; rw [hf, HAD.out, hmz]; rfl
        rw [hmz] at hmy2
        have t3 : Hid (1 = 1) := rfl
        go_wp2_with (first
          | (have hh := tl; clear hh tl; refine wpList_load_mid rfl 64 (.tmp 7) rfl Q 0 rfl [.int .u64 lsn, (.slice oa2 (n + 1) cap2)] _ rgQ Try.underlying64 rfl size64 ?_)
          | (go_at_call 54; refine hmy2.mono ?_; clear hmy2; rintro e w9 ⟨rfl, b9⟩; have s2 := (k2).below b9 (k2).lt; have sQ := range_two ((kQ).below b9 (kQ).lt); have hO9 := hOO.keep b9; have B9 := (BW).trans (b9.mono (BW).size); have t4 : Hid (2 = 2) := rfl)
          | (have hh := t4; clear hh t4; refine wpList_load_mid rfl 64 (.tmp 7) rfl Q 0 rfl [.int .u64 lsn, (.slice oa2 (n + 1) cap2)] _ sQ Try.underlying64 rfl size64 ?_)
          | (have hh := ts; clear hh ts; refine store_cells rfl 64 (.tmp 4) (.tmp 61) rfl (w.heap.size + 2) #[.int .u64 lsn, (.slice oa2 (n + 1) cap2)] rfl rfl 64 _ s2 2 size64 rfl rfl (by simp [Value.oneCell']) ?_))
        refine bodyPost_ret (v := .tuple #[.agg #[.int .u64 lsn, (.slice oa2 (n + 1) cap2)], .int .i64 n, .int .i64 0]) ?_ rfl ⟨_, by rw [HSPX.out], by rw [HAD.out]; exact (hO9.setRow (w.heap.size + 2) (by have := hw2.out; omega) _).base (by have := hw2.out; omega), below_setRow B9 (by omega) _⟩
        exact ret_cell3 (fn := Try.f37) rfl _ _ (w.heap.size + 2) 64 #[.int .u64 lsn, (.slice oa2 (n + 1) cap2)] _ (.int .i64 n) (.int .i64 0) rfl rfl rfl (s2.set _) Try.underlying64 rfl size64
      | false =>
        exfalso; have hq := HMA.out; rw [HAD.out, hmz] at hq; cases hq
theorem radd_ok (lsn : Int) (v : Value) (os : List O) (o : O) (w : World) (ho : Olds w v os) (hF : ∀ x ∈ os, x.Fits) (hFo : o.Fits) (hE : addE os o = 0) :
    Calls Try.prog 37 #[.agg #[.int .u64 lsn, v], .agg o.arr] w fun e w' => RAnsF w lsn os o e w' := by
  unfold addE at hE
  split at hE
  · next hf =>
    split at hE
    · next hm => exact radd_okf lsn v os o w ho hF hFo hf hm
    · cases hE
  · cases hE
end Go.Proofs.Ytihjapfgllokgab
