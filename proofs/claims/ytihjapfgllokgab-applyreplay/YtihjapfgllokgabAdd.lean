/-
  Proved here: a page with a further record (slot.Add).
-/
import Derived.Test.YtihjapfgllokgabCut
namespace Go.Proofs.Ytihjapfgllokgab
open Go.ChangeShapes Go.WideShapes Go.ChangeAt Go.RowKit
set_option linter.unusedVariables false
set_option linter.unusedSimpArgs false
set_option maxRecDepth 20000

/-- A page, a slot and an error that are handed back. -/
def AnsA (w : World) (lsn : Int) (os : List O) (a : Int) (er : Int) (e : Ending) (w' : World) : Prop := ∃ v', e = .returned (.tuple #[.agg #[.int .u64 lsn, v'], .int .u8 a, .int .i64 er]) ∧ Own w' w.heap.size v' os ∧ Below w.heap.size w w'
/-- The page with the record in its first empty place, or behind all. -/
def added (os : List O) (o : O) : List O := if spareAt os = os.length then os ++ [o] else os.set (spareAt os) o
def fit (os : List O) (o : O) : Bool := may os && o.live && decide (o.delta.size ≤ 66)
abbrev Z6 : Array Value := #[.bool false, .int .u16 0, .int .u32 0, .int .u16 0, .int .u8 0, .string ByteArray.empty]
abbrev Z2 : Array Value := #[.int .u64 0, .slice none 0 0]
/-- The three blocks of a call of Add. -/
def W0 (w : World) (lsn : Int) (v : Value) (o : O) : World := ((w.alloc (.cells #[.int .u64 lsn, v] 64)).alloc (.cells o.arr 35)).alloc (.cells #[.int .u64 0, .slice none 0 0] 64)
theorem W0_rows (w : World) (lsn : Int) (v : Value) (o : O) : Row (W0 w lsn v o) w.heap.size #[.int .u64 lsn, v] 64 ∧ Row (W0 w lsn v o) (w.heap.size + 1) o.arr 35 ∧ Row (W0 w lsn v o) (w.heap.size + 2) #[.int .u64 0, .slice none 0 0] 64 ∧ Below w.heap.size w (W0 w lsn v o) ∧ (W0 w lsn v o).heap.size = w.heap.size + 3 := by
  refine ⟨((Row.new _ _ _).alloc _).alloc _, ?_, ?_, (((Below.refl _ _).alloc (Nat.le_refl _) _).alloc (by simp) _).alloc (by simp; omega) _, by simp [W0]⟩
  · have := (Row.new (w.alloc (.cells #[.int .u64 lsn, v] 64)) o.arr 35).alloc (.cells #[.int .u64 0, .slice none 0 0] 64)
    simpa [W0] using this
  · have := Row.new ((w.alloc (.cells #[.int .u64 lsn, v] 64)).alloc (.cells o.arr 35)) #[.int .u64 0, .slice none 0 0] 64
    simpa [W0] using this

set_option maxHeartbeats 2000000 in
theorem add_bad (lsn : Int) (v : Value) (os : List O) (o : O) (w : World) (ho : Olds w v os) (hf : fit os o = false) :
    Calls Try.prog 58 #[.agg #[.int .u64 lsn, v], .agg o.arr] w fun e w' => AnsA w 0 [] 0 1 e w' := by
  obtain ⟨oa, cap, rfl, _⟩ := ho.open
  obtain ⟨n, HN⟩ : ∃ n, Hid (os.length = n) := ⟨_, rfl⟩
  rw [HN.out] at ho ⊢
  obtain ⟨r0, r1, r2, ab, hsz⟩ := W0_rows w lsn (.slice oa n cap) o
  have hz := zero64
  have hmy := may_any lsn _ os (W0 w lsn (.slice oa n cap) o) (ho.keep ab)
  go_enter Try.func58, Try.ntmps58
  go_upto_region 1 with fail
  have HW : W0 w lsn (.slice oa n cap) o = ((w.alloc (.cells #[.int .u64 lsn, .slice oa n cap] 64)).alloc (.cells o.arr 35)).alloc (.cells #[.int .u64 0, .slice none 0 0] 64) := rfl
  rw [← HW]
  clear HW
  generalize W0 w lsn (.slice oa n cap) o = w1 at r0 r1 r2 ab hsz hmy ⊢
  obtain ⟨l, p, t, np, ns, dl⟩ := o
  have HSZ := show Hid _ from hsz
  clear hsz
  have rg := range_two r0
  have tl : Hid (1 = 1) := rfl
  have fin : True := trivial
  cases hm : may os
  · rw [hm] at hmy
    go_wp2_with (first
      | (have hh := tl; clear hh tl; refine wpList_load_mid rfl 64 (.tmp 2) rfl w.heap.size 0 rfl [.int .u64 lsn, .slice oa n cap] _ rg Try.underlying64 rfl size64 ?_)
      | (go_at_call 45; refine hmy.mono ?_; rintro e w2 ⟨rfl, b2⟩
         have s2 := r2.below b2 r2.lt)
      | (refine build_none rfl 64 rfl _ built64 ?_)
      | (refine store_cells rfl 64 (.tmp 4) (.tmp 23) rfl (w.heap.size + 2) #[.int .u64 0, .slice none 0 0] rfl rfl 64 _ s2 2 size64 rfl rfl (by simp [Value.oneCell']) ?_))
    refine bodyPost_ret (v := .tuple #[.agg #[.int .u64 0, .slice none 0 0], .int .u8 0, .int .i64 1]) ?_ rfl ⟨_, rfl, ⟨rfl, Or.inl ⟨rfl, rfl⟩⟩, below_setRow (ab.trans (b2.mono ab.size)) (by omega) _⟩
    exact ret_cell3 (fn := Try.f58) rfl _ _ (w.heap.size + 2) 64 _ _ _ _ rfl rfl rfl (s2.set _) Try.underlying64 rfl size64
  · rw [hm] at hmy
    cases l
    · go_wp2_with (first
        | (have hh := tl; clear hh tl; refine wpList_load_mid rfl 64 (.tmp 2) rfl w.heap.size 0 rfl [.int .u64 lsn, .slice oa n cap] _ rg Try.underlying64 rfl size64 ?_)
        | (go_at_call 45; refine hmy.mono ?_; rintro e w2 ⟨rfl, b2⟩
           have s2 := r2.below b2 r2.lt
           have c0 := row_at (r1.below b2 r1.lt) 0 (.bool false) rfl)
        | (refine build_none rfl 64 rfl _ built64 ?_)
        | (refine store_cells rfl 64 (.tmp 4) (.tmp 23) rfl (w.heap.size + 2) #[.int .u64 0, .slice none 0 0] rfl rfl 64 _ s2 2 size64 rfl rfl (by simp [Value.oneCell']) ?_))
      refine bodyPost_ret (v := .tuple #[.agg #[.int .u64 0, .slice none 0 0], .int .u8 0, .int .i64 1]) ?_ rfl ⟨_, rfl, ⟨rfl, Or.inl ⟨rfl, rfl⟩⟩, below_setRow (ab.trans (b2.mono ab.size)) (by omega) _⟩
      exact ret_cell3 (fn := Try.f58) rfl _ _ (w.heap.size + 2) 64 _ _ _ _ rfl rfl rfl (s2.set _) Try.underlying64 rfl size64
    · have hd : (dl.size : Int) > 66 := by
        unfold fit at hf; rw [hm] at hf; simp at hf; omega
      clear hf
      go_wp2_with (first
        | (have hh := tl; clear hh tl; refine wpList_load_mid rfl 64 (.tmp 2) rfl w.heap.size 0 rfl [.int .u64 lsn, .slice oa n cap] _ rg Try.underlying64 rfl size64 ?_)
        | (go_at_call 45; refine hmy.mono ?_; rintro e w2 ⟨rfl, b2⟩
           have s2 := r2.below b2 r2.lt
           have c0 := row_at (r1.below b2 r1.lt) 0 (.bool true) rfl
           have c5 := row_at (r1.below b2 r1.lt) 5 (.string dl) rfl)
        | (refine build_none rfl 64 rfl _ built64 ?_)
        | (refine store_cells rfl 64 (.tmp 4) (.tmp 23) rfl (w.heap.size + 2) #[.int .u64 0, .slice none 0 0] rfl rfl 64 _ s2 2 size64 rfl rfl (by simp [Value.oneCell']) ?_))
      refine bodyPost_ret (v := .tuple #[.agg #[.int .u64 0, .slice none 0 0], .int .u8 0, .int .i64 1]) ?_ rfl ⟨_, rfl, ⟨rfl, Or.inl ⟨rfl, rfl⟩⟩, below_setRow (ab.trans (b2.mono ab.size)) (by omega) _⟩
      exact ret_cell3 (fn := Try.f58) rfl _ _ (w.heap.size + 2) 64 _ _ _ _ rfl rfl rfl (s2.set _) Try.underlying64 rfl size64
theorem Row.grownS {w w' : World} {k : Nat} {cs : Array Value} {t : TypeId} {row : Option Nat} (h : Row w k cs t) (hg : w.grownBy w' row) (hk : row ≠ some k) : Row w' k cs t := (hg.block k h.lt (fun q => hk q.symm)).trans h
theorem spare_lt (os : List O) (h : spareAt os ≠ os.length) : spareAt os < os.length := by
  have : spareAt os ≤ os.length := List.findIdx_le_length
  omega
theorem spare_le (os : List O) : spareAt os ≤ os.length := List.findIdx_le_length
theorem Own.snoc {w : World} {base : Nat} {v : Value} {os : List O} (h : Own w base v os) (ty : TypeId) (X : Nat) (hX : Row w X #[.bool false, .int .u16 0, .int .u32 0, .int .u16 0, .int .u8 0, .string ByteArray.empty] 35) (hb : base ≤ w.heap.size) (hn : os.length ≤ 1000) :
    ∃ v' w', (Builtin.append_ #[62, 62] ty #[v, .slice (some ⟨X, 0, none⟩) 1 1]).run Try.prog w = .ok v' w' ∧ Own w' base v' (os ++ [O.zero]) ∧ w.grownBy w' v.ownBlock := by
  obtain ⟨i, hi, hz, hs, hby⟩ := info_parts info35
  obtain ⟨v', w', hr, h2, h3, h4, h5⟩ := run_append_own_at (P := Try.prog) w base 62 ty 35 i _ 6 32 Try.underlying62 hi hz hs hby rfl (by decide) v os.length (flat os) h ⟨X, 0, none⟩ 1 1 O.zero.cells rfl (fun j u hj => by rw [Addr.add_mid, Nat.zero_add, cell_of_row w X j _ _ _ hX, ← hj]; show O.zero.cells.toArray[j]? = _; rw [List.getElem?_toArray]) (fun u hu => flat_one [O.zero] u (by simpa [flat] using hu)) (by unfold maxLen; omega) (by omega) hb
  refine ⟨v', w', hr, ?_, h3⟩
  unfold Own
  rw [flat_append, List.length_append]
  exact h2
theorem range_arr {w : World} {g : Nat} {o : O} {t : TypeId} (h : Row w g o.arr t) : w.rangeAt g 0 o.cells := by
  intro j v hv
  rw [cell_of_row w g _ _ _ _ h, Nat.zero_add, ← hv]
  show o.cells.toArray[j]? = _
  rw [List.getElem?_toArray]
theorem set_snoc (os : List O) (o : O) : (os ++ [O.zero]).set os.length o = os ++ [o] := by simp

set_option maxHeartbeats 4000000 in
theorem add_fit (lsn : Int) (v : Value) (os : List O) (o : O) (w : World) (ho : Olds w v os) (hf : fit os o = true) (E : Int) (ls : Int) (rs : List O) (at_ : Int) (hE : (may (added os o) = true → E = 0 ∧ ls = lsn ∧ rs = added os o ∧ at_ = spareAt os) ∧ (may (added os o) = false → E = 5 ∧ ls = 0 ∧ rs = [] ∧ at_ = 0)) :
    Calls Try.prog 58 #[.agg #[.int .u64 lsn, v], .agg o.arr] w fun e w' => AnsA w ls rs at_ E e w' := by
  have hf' := hf
  unfold fit at hf'
  simp only [Bool.and_eq_true, decide_eq_true_eq] at hf'
  obtain ⟨⟨hm, hlv⟩, hd⟩ := hf'
  have hlen := (may_small hm).1
  have HE : Hid _ := hE
  clear hE hf
  obtain ⟨oa, cap, rfl, _⟩ := ho.open
  obtain ⟨n, HN⟩ : ∃ n, Hid (os.length = n) := ⟨_, rfl⟩
  have hsl := spare_le os
  have hsp := fun (v : Value) (w : World) (h : Olds w v os) => spare_any lsn v os w h (by omega)
  have HSP : Hid _ := hsp
  clear hsp
  rw [HN.out] at ho hlen hsl ⊢
  obtain ⟨r0, r1, r2, ab, hsz⟩ := W0_rows w lsn (.slice oa n cap) o
  have hz := zero64
  have hmy := may_any lsn _ os (W0 w lsn (.slice oa n cap) o) (ho.keep ab)
  rw [hm] at hmy
  go_enter Try.func58, Try.ntmps58
  go_upto_region 1 with fail
  have HW : W0 w lsn (.slice oa n cap) o = ((w.alloc (.cells #[.int .u64 lsn, .slice oa n cap] 64)).alloc (.cells o.arr 35)).alloc (.cells #[.int .u64 0, .slice none 0 0] 64) := rfl
  rw [← HW]
  clear HW
  generalize W0 w lsn (.slice oa n cap) o = w1 at r0 r1 r2 ab hsz hmy ⊢
  have HSZ := show Hid _ from hsz
  clear hsz
  have rg := range_two r0
  have tl : Hid (1 = 1) := rfl
  have hd' : ¬ (o.delta.size : Int) > 66 := by omega
  go_upto_region 3 with (first
    | (have hh := tl; clear hh tl; refine wpList_load_mid rfl 64 (.tmp 2) rfl w.heap.size 0 rfl [.int .u64 lsn, .slice oa n cap] _ rg Try.underlying64 rfl size64 ?_)
    | (go_at_call 45; refine hmy.mono ?_; rintro e w2 ⟨rfl, b2⟩
       have s1 := r1.below b2 r1.lt
       have c0 := row_at s1 0 (.bool true) (by rw [← hlv]; rfl)
       have c5 := row_at s1 5 (.string o.delta) rfl))
  have s0 := r0.below b2 r0.lt
  have s2 := r2.below b2 r2.lt
  have B2 : Below w.heap.size w w2 := ab.trans (b2.mono ab.size)
  have hw2 : Hid (w.heap.size + 3 ≤ w2.heap.size) := by have := HSZ.out; have := b2.size; show _ ≤ _; omega
  clear c0 c5 r0 r1 r2 rg b2 ab hmy HSZ
  have hcl := cloned_any lsn _ os w2 (ho.keep B2) (by rw [HN.out]; omega)
  have rg := range_two s0
  have tl : Hid (1 = 1) := rfl
  have ts : Hid (1 = 1) := rfl
  go_upto_region 4 with (first
    | (have hh := tl; clear hh tl; refine wpList_load_mid rfl 64 (.tmp 2) rfl w.heap.size 0 rfl [.int .u64 lsn, .slice oa n cap] _ rg Try.underlying64 rfl size64 ?_)
    | (go_at_call 67; refine hcl.mono ?_; rintro e w4 ⟨v', rfl, hO, b4⟩
       obtain ⟨oa', cap', rfl⟩ := hO.form
       rw [HN.out] at hO ⊢
       have y0 : Row (w4.alloc (.cells #[.int .u64 0, .slice none 0 0] 64)) w4.heap.size #[.int .u64 0, .slice none 0 0] 64 := Row.new _ _ _)
    | (have hh := ts; clear hh ts; refine store_cells rfl 64 (.tmp 7) (.tmp 25) rfl w4.heap.size #[.int .u64 lsn, .slice oa' n cap'] rfl rfl 64 _ y0 2 size64 rfl rfl (by simp [Value.oneCell']) ?_))
  have b5 : Below w4.heap.size w4 ((w4.alloc (.cells #[.int .u64 0, .slice none 0 0] 64)).setRow w4.heap.size #[.int .u64 lsn, .slice oa' n cap']) := below_setRow ((Below.refl _ _).alloc (Nat.le_refl _) _) (Nat.le_refl _) _
  have p1 := (s1.below b4 s1.lt).below b5 (s1.below b4 s1.lt).lt
  have p2 := (s2.below b4 s2.lt).below b5 (s2.below b4 s2.lt).lt
  have pQ : Row ((w4.alloc (.cells #[.int .u64 0, .slice none 0 0] 64)).setRow w4.heap.size #[.int .u64 lsn, .slice oa' n cap']) w4.heap.size #[.int .u64 lsn, .slice oa' n cap'] 64 := y0.set _
  have B5 : Below w.heap.size w ((w4.alloc (.cells #[.int .u64 0, .slice none 0 0] 64)).setRow w4.heap.size #[.int .u64 lsn, .slice oa' n cap']) := (B2.trans (b4.mono B2.size)).trans (b5.mono (Nat.le_trans B2.size b4.size))
  have hO5 := hO.keep b5
  have hgQ : Hid (∀ g, (Value.slice oa' n cap').ownBlock = some g → w.heap.size + 3 ≤ g ∧ g ≠ w4.heap.size) := fun g hg => by
    have := World.ownsRow.lt hO g hg
    have := hw2.out
    exact ⟨by omega, by omega⟩
  have hQw : Hid (w.heap.size + 3 ≤ w4.heap.size) := Nat.le_trans hw2.out b4.size
  have hbw : Hid (w.heap.size ≤ w2.heap.size) := B2.size
  have hb5 : Hid (w2.heap.size ≤ ((w4.alloc (.cells #[.int .u64 0, .slice none 0 0] 64)).setRow w4.heap.size #[.int .u64 lsn, .slice oa' n cap']).heap.size) := Nat.le_trans b4.size b5.size
  clear b5 y0 hO s0 s1 s2 rg hcl b4
  generalize (w4.alloc (.cells #[.int .u64 0, .slice none 0 0] 64)).setRow w4.heap.size #[.int .u64 lsn, .slice oa' n cap'] = w5 at p1 p2 pQ B5 hO5 hb5 ⊢
  generalize w4.heap.size = Q at pQ hgQ hQw ⊢
  have hspa := HSP.out _ w5 hO5.olds
  obtain ⟨k, HK⟩ : ∃ k, Hid (spareAt os = k) := ⟨_, rfl⟩
  rw [HK.out] at hspa hsl
  have rg := range_two pQ
  have tl : Hid (1 = 1) := rfl
  go_upto_region 5 with (first
    | (have hh := tl; clear hh tl; refine wpList_load_mid rfl 64 (.tmp 7) rfl Q 0 rfl [.int .u64 lsn, .slice oa' n cap'] _ rg Try.underlying64 rfl size64 ?_)
    | (go_at_call 68; refine hspa.mono ?_; rintro e w6 ⟨rfl, b6⟩))
  have q1 := p1.below b6 p1.lt
  have q2 := p2.below b6 p2.lt
  have qQ := pQ.below b6 pQ.lt
  have hO6 := hO5.keep b6
  have B6 : Below w.heap.size w w6 := B5.trans (b6.mono B5.size)
  have hb6 : Hid (w2.heap.size ≤ w6.heap.size) := Nat.le_trans hb5.out b6.size
  clear rg hspa b6 p1 p2 pQ hO5 B5 hb5
  have cQ := row_at qQ 1 _ rfl
  by_cases hkn : k = n
  · have hkb : ((k : Int) == (n : Int)) = true := by simp [hkn]
    have HKN := show Hid _ from hkn
    clear hkn
    have fQ := row_frozen qQ 1
    have xX : Row (w6.alloc (.cells #[.bool false, .int .u16 0, .int .u32 0, .int .u16 0, .int .u8 0, .string ByteArray.empty] 35)) w6.heap.size #[.bool false, .int .u16 0, .int .u32 0, .int .u16 0, .int .u8 0, .string ByteArray.empty] 35 := Row.new _ _ _
    have hr := fun ty => (hO6.alloc (.cells #[.bool false, .int .u16 0, .int .u32 0, .int .u16 0, .int .u8 0, .string ByteArray.empty] 35)).snoc ty w6.heap.size xX (by have := hb6.out; simp; omega) (by rw [HN.out]; omega)
    have HR := show Hid _ from hr
    clear hr
    have a1 := q1.alloc (.cells #[.bool false, .int .u16 0, .int .u32 0, .int .u16 0, .int .u8 0, .string ByteArray.empty] 35)
    have a2 := q2.alloc (.cells #[.bool false, .int .u16 0, .int .u32 0, .int .u16 0, .int .u8 0, .string ByteArray.empty] 35)
    have aQ := qQ.alloc (.cells #[.bool false, .int .u16 0, .int .u32 0, .int .u16 0, .int .u8 0, .string ByteArray.empty] 35)
    have aB : Below w.heap.size w (w6.alloc (.cells #[.bool false, .int .u16 0, .int .u32 0, .int .u16 0, .int .u8 0, .string ByteArray.empty] 35)) := B6.alloc B6.size _
    go_upto_region 7 with (first
      | (refine build_none rfl 35 rfl _ built35 ?_)
      | (at_builtin; refine wpList_copy rfl (.tmp 34) (.tmp 36) 62 rfl _ _ rfl rfl (T := fun v' w' => Own w' w2.heap.size v' (os ++ [O.zero]) ∧ (w6.alloc (.cells #[.bool false, .int .u16 0, .int .u32 0, .int .u16 0, .int .u8 0, .string ByteArray.empty] 35)).grownBy w' (Value.slice oa' n cap').ownBlock) (fun ty => HR.out ty) ?_
         intro v2 w7 hT
         obtain ⟨hO7, gr⟩ := hT
         obtain ⟨g, cap2, rfl, hgb⟩ := hO7.blkS (by simp)
         obtain ⟨m, hmn0⟩ : ∃ m, (os ++ [O.zero]).length = m := ⟨_, rfl⟩
         rw [hmn0] at hO7 ⊢
         have HM := show Hid _ from hmn0
         clear hmn0
         have t1 := a1.grownS gr (fun q => (by have := (hgQ.out _ q).1; omega))
         have t2 := a2.grownS gr (fun q => (by have := (hgQ.out _ q).1; omega))
         have tQ := aQ.grownS gr (fun q => (hgQ.out _ q).2 rfl)
         have tB : Below w.heap.size w w7 := aB.grown gr (by have := B6.size; simp; omega) (fun k hk => (by have := (hgQ.out _ hk).1; omega))
         have dQ := row_at tQ 1 _ rfl
         have eQ := row_frozen tQ 1))
    have hgl := World.ownsRow.lt hO7 g (by simp [Value.ownBlock])
    have hmn : Hid (m = n + 1) := (show m = n + 1 by rw [← HM.out, ← HN.out]; simp)
    have hgz : Hid (w.heap.size + 3 ≤ g ∧ g ≠ Q) := by
      have := hw2.out
      refine ⟨by omega, fun q => ?_⟩
      subst q
      have hc : ∃ cur, w7.heap[g]? = some (.cells cur 35 (0, 0)) := by
        rcases hO7.2 with ⟨q, _⟩ | ⟨g', c', cur, q, _, hc, _⟩
        · cases q
        · cases q; exact ⟨cur, hc⟩
      obtain ⟨cur, hc⟩ := hc
      have := tQ
      unfold Row at this
      rw [this] at hc; cases hc
    have z1 : Row (w7.setCell ⟨Q, 1, none⟩ (.slice (some ⟨g, 0, none⟩) m cap2)) (w.heap.size + 1) o.arr 35 := row_setCell_other t1 (by have := hQw.out; omega) 1 _
    have z2 : Row (w7.setCell ⟨Q, 1, none⟩ (.slice (some ⟨g, 0, none⟩) m cap2)) (w.heap.size + 2) #[.int .u64 0, .slice none 0 0] 64 := row_setCell_other t2 (by have := hQw.out; omega) 1 _
    have zQ : Row (w7.setCell ⟨Q, 1, none⟩ (.slice (some ⟨g, 0, none⟩) m cap2)) Q #[.int .u64 lsn, .slice (some ⟨g, 0, none⟩) m cap2] 64 := row_set tQ 1 _
    have zO : Own (w7.setCell ⟨Q, 1, none⟩ (.slice (some ⟨g, 0, none⟩) m cap2)) w2.heap.size (.slice (some ⟨g, 0, none⟩) m cap2) (os ++ [O.zero]) := hO7.apart Q 1 _ hgz.out.2
    have zB : Below w.heap.size w (w7.setCell ⟨Q, 1, none⟩ (.slice (some ⟨g, 0, none⟩) m cap2)) := tB.setCell (p := ⟨Q, 1, none⟩) (by show w.heap.size ≤ Q; have := hQw.out; omega) _
    clear dQ eQ hO7 tQ t1 t2 tB aB a1 a2 aQ hO6 qQ q1 q2 B6 gr hgl hgb HR fQ cQ xX
    generalize w7.setCell ⟨Q, 1, none⟩ (.slice (some ⟨g, 0, none⟩) m cap2) = w8 at z1 z2 zQ zO zB ⊢
    have hkm : (k : Int) < (m : Int) := by have := HKN.out; have := hmn.out; omega
    have cV := row_at zQ 1 _ rfl
    have th := zO.there k (by have := HKN.out; simp [HN.out]; omega)
    have ro := range_arr z1
    have tl : Hid (1 = 1) := rfl
    have ts : Hid (1 = 1) := rfl
    go_upto_region 8 with (first
      | (have hh := tl; clear hh tl; refine wpList_load_mid rfl 35 (.tmp 3) rfl (w.heap.size + 1) 0 rfl o.cells _ ro Try.underlying35 rfl size35 ?_)
      | (have hh := ts; clear hh ts; refine wpList_store_mid rfl 35 (.tmp 43) (.tmp 42) rfl g (k * 6) o.arr rfl rfl th size35 (arr_one _) ?_))
    have yO : Own (w8.setCells g (k * 6) o.cells) w2.heap.size (.slice (some ⟨g, 0, none⟩) m cap2) (added os o) := by
      have := zO.put k (by have := HKN.out; simp [HN.out]; omega) o
      rw [show (os ++ [O.zero]).set k o = added os o by unfold added; rw [if_pos (by rw [HK.out, HN.out]; exact HKN.out), show k = os.length by rw [HN.out]; exact HKN.out, set_snoc]] at this
      exact this
    have y2 : Row (w8.setCells g (k * 6) o.cells) (w.heap.size + 2) #[.int .u64 0, .slice none 0 0] 64 := z2.cells g (by have := hgz.out; omega) _ _
    have yQ : Row (w8.setCells g (k * 6) o.cells) Q #[.int .u64 lsn, .slice (some ⟨g, 0, none⟩) m cap2] 64 := zQ.cells g (by have := hgz.out; omega) _ _
    have yB : Below w.heap.size w (w8.setCells g (k * 6) o.cells) := below_setCells (by have := hgz.out; omega) _ _ _ zB
    rw [O.arr_toList]
    clear th cV zO z1 z2 zQ zB ro
    generalize w8.setCells g (k * 6) o.cells = w9 at yO y2 yQ yB ⊢
    have hm2 := may_any lsn _ (added os o) w9 yO.olds
    have rg := range_two yQ
    have tl : Hid (1 = 1) := rfl
    have ts : Hid (1 = 1) := rfl
    have hwk : IntKind.u8.wrap (k : Int) = k := by have := HKN.out; rw [IntKind.wrap_u8]; omega
    cases hma : may (added os o)
    · rw [hma] at hm2
      obtain ⟨rfl, rfl, rfl, rfl⟩ : E = 5 ∧ ls = 0 ∧ rs = [] ∧ at_ = 0 := HE.out.2 hma
      go_wp2_with (first
        | (have hh := tl; clear hh tl; refine wpList_load_mid rfl 64 (.tmp 7) rfl Q 0 rfl [.int .u64 lsn, .slice (some ⟨g, 0, none⟩) m cap2] _ rg Try.underlying64 rfl size64 ?_)
        | (go_at_call 45; refine hm2.mono ?_; rintro e w10 ⟨rfl, b10⟩
           have x2 := y2.below b10 y2.lt)
        | (refine build_none rfl 64 rfl _ built64 ?_)
        | (have hh := ts; clear hh ts; refine store_cells rfl 64 (.tmp 4) (.tmp 47) rfl (w.heap.size + 2) #[.int .u64 0, .slice none 0 0] rfl rfl 64 _ x2 2 size64 rfl rfl (by simp [Value.oneCell']) ?_))
      refine bodyPost_ret (v := .tuple #[.agg #[.int .u64 0, .slice none 0 0], .int .u8 0, .int .i64 5]) ?_ rfl ⟨_, rfl, ⟨rfl, Or.inl ⟨rfl, rfl⟩⟩, below_setRow (yB.trans (b10.mono yB.size)) (by omega) _⟩
      exact ret_cell3 (fn := Try.f58) rfl _ _ (w.heap.size + 2) 64 _ _ _ _ rfl rfl rfl (x2.set _) Try.underlying64 rfl size64
    · rw [hma] at hm2
      obtain ⟨rfl, rfl, rfl, rfl⟩ : E = 0 ∧ ls = lsn ∧ rs = added os o ∧ at_ = spareAt os := HE.out.1 hma
      have tz : Hid (1 = 1) := rfl
      go_wp2_with (first
        | (have hh := tl; clear hh tl; refine wpList_load_mid rfl 64 (.tmp 7) rfl Q 0 rfl [.int .u64 ls, .slice (some ⟨g, 0, none⟩) m cap2] _ rg Try.underlying64 rfl size64 ?_)
        | (go_at_call 45; refine hm2.mono ?_; rintro e w10 ⟨rfl, b10⟩
           have x2 := y2.below b10 y2.lt
           have rg2 := range_two (yQ.below b10 yQ.lt))
        | (have hh := tz; clear hh tz; refine wpList_load_mid rfl 64 (.tmp 7) rfl Q 0 rfl [.int .u64 ls, .slice (some ⟨g, 0, none⟩) m cap2] _ rg2 Try.underlying64 rfl size64 ?_)
        | (have hh := ts; clear hh ts; refine store_cells rfl 64 (.tmp 4) (.tmp 48) rfl (w.heap.size + 2) #[.int .u64 ls, .slice (some ⟨g, 0, none⟩) m cap2] rfl rfl 64 _ x2 2 size64 rfl rfl (by simp [Value.oneCell']) ?_))
      refine bodyPost_ret (v := .tuple #[.agg #[.int .u64 ls, .slice (some ⟨g, 0, none⟩) m cap2], .int .u8 k, .int .i64 0]) ?_ rfl ⟨_, by rw [HK.out], ((yO.keep b10).row (w.heap.size + 2) _ (by have := hgz.out; omega)).base (by have := hbw.out; omega), below_setRow (yB.trans (b10.mono yB.size)) (by omega) _⟩
      exact ret_cell3 (fn := Try.f58) rfl _ _ (w.heap.size + 2) 64 _ _ _ _ rfl rfl rfl (x2.set _) Try.underlying64 rfl size64
  · skip
    have hkb : ((k : Int) == (n : Int)) = false := by simp; omega
    have hkn' : ¬ (k : Int) = (n : Int) := by omega
    have hklt : k < n := by omega
    go_upto_region 7 with fail
    obtain ⟨g, cap2, hv, hgb⟩ := hO6.blkS (by rw [HN.out]; omega)
    rw [HN.out] at hv
    obtain ⟨rfl, rfl⟩ : oa' = some ⟨g, 0, none⟩ ∧ cap' = cap2 := by simpa using hv
    have hgz : Hid (w.heap.size + 3 ≤ g ∧ g ≠ Q) := hgQ.out g rfl
    obtain ⟨m, rfl⟩ : ∃ m, m = n := ⟨_, rfl⟩
    have z1 := q1
    have z2 := q2
    have zQ := qQ
    have zO := hO6
    have zB := B6
    clear hO6 qQ q1 q2 B6 hv hgb cQ
    obtain ⟨w8, rfl⟩ : ∃ w8, w8 = w6 := ⟨_, rfl⟩
    obtain ⟨cap2, rfl⟩ : ∃ c, c = cap' := ⟨_, rfl⟩
    have hkm : (k : Int) < (m : Int) := by omega
    have cV := row_at zQ 1 _ rfl
    have th := zO.there k (by simp [HN.out]; omega)
    have ro := range_arr z1
    have tl : Hid (1 = 1) := rfl
    have ts : Hid (1 = 1) := rfl
    go_upto_region 8 with (first
      | (have hh := tl; clear hh tl; refine wpList_load_mid rfl 35 (.tmp 3) rfl (w.heap.size + 1) 0 rfl o.cells _ ro Try.underlying35 rfl size35 ?_)
      | (have hh := ts; clear hh ts; refine wpList_store_mid rfl 35 (.tmp 43) (.tmp 42) rfl g (k * 6) o.arr rfl rfl th size35 (arr_one _) ?_))
    have yO : Own (w8.setCells g (k * 6) o.cells) w2.heap.size (.slice (some ⟨g, 0, none⟩) m cap2) (added os o) := by
      have := zO.put k (by simp [HN.out]; omega) o
      rw [show os.set k o = added os o by unfold added; rw [if_neg (by rw [HK.out, HN.out]; exact hkn), HK.out]] at this
      exact this
    have y2 : Row (w8.setCells g (k * 6) o.cells) (w.heap.size + 2) #[.int .u64 0, .slice none 0 0] 64 := z2.cells g (by have := hgz.out; omega) _ _
    have yQ : Row (w8.setCells g (k * 6) o.cells) Q #[.int .u64 lsn, .slice (some ⟨g, 0, none⟩) m cap2] 64 := zQ.cells g (by have := hgz.out; omega) _ _
    have yB : Below w.heap.size w (w8.setCells g (k * 6) o.cells) := below_setCells (by have := hgz.out; omega) _ _ _ zB
    rw [O.arr_toList]
    clear th cV zO z1 z2 zQ zB ro
    generalize w8.setCells g (k * 6) o.cells = w9 at yO y2 yQ yB ⊢
    have hm2 := may_any lsn _ (added os o) w9 yO.olds
    have rg := range_two yQ
    have tl : Hid (1 = 1) := rfl
    have ts : Hid (1 = 1) := rfl
    have hwk : IntKind.u8.wrap (k : Int) = k := by rw [IntKind.wrap_u8]; omega
    cases hma : may (added os o)
    · rw [hma] at hm2
      obtain ⟨rfl, rfl, rfl, rfl⟩ : E = 5 ∧ ls = 0 ∧ rs = [] ∧ at_ = 0 := HE.out.2 hma
      go_wp2_with (first
        | (have hh := tl; clear hh tl; refine wpList_load_mid rfl 64 (.tmp 7) rfl Q 0 rfl [.int .u64 lsn, .slice (some ⟨g, 0, none⟩) m cap2] _ rg Try.underlying64 rfl size64 ?_)
        | (go_at_call 45; refine hm2.mono ?_; rintro e w10 ⟨rfl, b10⟩
           have x2 := y2.below b10 y2.lt)
        | (refine build_none rfl 64 rfl _ built64 ?_)
        | (have hh := ts; clear hh ts; refine store_cells rfl 64 (.tmp 4) (.tmp 47) rfl (w.heap.size + 2) #[.int .u64 0, .slice none 0 0] rfl rfl 64 _ x2 2 size64 rfl rfl (by simp [Value.oneCell']) ?_))
      refine bodyPost_ret (v := .tuple #[.agg #[.int .u64 0, .slice none 0 0], .int .u8 0, .int .i64 5]) ?_ rfl ⟨_, rfl, ⟨rfl, Or.inl ⟨rfl, rfl⟩⟩, below_setRow (yB.trans (b10.mono yB.size)) (by omega) _⟩
      exact ret_cell3 (fn := Try.f58) rfl _ _ (w.heap.size + 2) 64 _ _ _ _ rfl rfl rfl (x2.set _) Try.underlying64 rfl size64
    · rw [hma] at hm2
      obtain ⟨rfl, rfl, rfl, rfl⟩ : E = 0 ∧ ls = lsn ∧ rs = added os o ∧ at_ = spareAt os := HE.out.1 hma
      have tz : Hid (1 = 1) := rfl
      go_wp2_with (first
        | (have hh := tl; clear hh tl; refine wpList_load_mid rfl 64 (.tmp 7) rfl Q 0 rfl [.int .u64 ls, .slice (some ⟨g, 0, none⟩) m cap2] _ rg Try.underlying64 rfl size64 ?_)
        | (go_at_call 45; refine hm2.mono ?_; rintro e w10 ⟨rfl, b10⟩
           have x2 := y2.below b10 y2.lt
           have rg2 := range_two (yQ.below b10 yQ.lt))
        | (have hh := tz; clear hh tz; refine wpList_load_mid rfl 64 (.tmp 7) rfl Q 0 rfl [.int .u64 ls, .slice (some ⟨g, 0, none⟩) m cap2] _ rg2 Try.underlying64 rfl size64 ?_)
        | (have hh := ts; clear hh ts; refine store_cells rfl 64 (.tmp 4) (.tmp 48) rfl (w.heap.size + 2) #[.int .u64 ls, .slice (some ⟨g, 0, none⟩) m cap2] rfl rfl 64 _ x2 2 size64 rfl rfl (by simp [Value.oneCell']) ?_))
      refine bodyPost_ret (v := .tuple #[.agg #[.int .u64 ls, .slice (some ⟨g, 0, none⟩) m cap2], .int .u8 k, .int .i64 0]) ?_ rfl ⟨_, by rw [HK.out], ((yO.keep b10).row (w.heap.size + 2) _ (by have := hgz.out; omega)).base (by have := hbw.out; omega), below_setRow (yB.trans (b10.mono yB.size)) (by omega) _⟩
      exact ret_cell3 (fn := Try.f58) rfl _ _ (w.heap.size + 2) 64 _ _ _ _ rfl rfl rfl (x2.set _) Try.underlying64 rfl size64
end Go.Proofs.Ytihjapfgllokgab
