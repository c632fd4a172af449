/-
  Proved here: a page without a record (slot.Free), and one in which nothing follows a record (slot.Cut).
-/
import Derived.Test.YtihjapfgllokgabQMk
namespace Go.Proofs.Ytihjapfgllokgab
open Go.ChangeShapes Go.WideShapes Go.ChangeAt Go.RowKit
set_option linter.unusedVariables false
set_option linter.unusedSimpArgs false
set_option maxRecDepth 20000

/-- A page and an error that are handed back. -/
def Ans (w : World) (lsn : Int) (os : List O) (er : Int) (e : Ending) (w' : World) : Prop := ∃ v', e = .returned (.tuple #[.agg #[.int .u64 lsn, v'], .int .i64 er]) ∧ Own w' w.heap.size v' os ∧ Below w.heap.size w w'
def freed (os : List O) (s : Nat) : List O := (os.set s O.zero).take (endAt (os.set s O.zero) os.length)
theorem endAt_le (os : List O) : ∀ n, endAt os n ≤ n
  | 0 => Nat.le_refl _
  | n + 1 => by rw [endAt_succ]; split; · exact Nat.le_succ_of_le (endAt_le os n)
                · exact Nat.le_refl _
theorem got_inv {os : List O} {s : Nat} {o : O} (h : got os s = (o, true)) : os[s]? = some o ∧ may os = true ∧ o.live = true := by
  rcases got_cases os s with h' | ⟨o', h1, h2, h3, h4⟩
  · rw [h'] at h; cases h
  · rw [h4] at h; cases h; exact ⟨h1, h2, h3⟩
theorem arr_one (o : O) : o.arr.all (·.oneCell') = true := by simp [O.arr, Value.oneCell']

set_option maxHeartbeats 2000000 in
theorem free_bad (lsn : Int) (v : Value) (os : List O) (s : Nat) (hs : s < 256) (w : World) (ho : Olds w v os) (hg : got os s = (O.zero, false)) :
    Calls Try.prog 59 #[.agg #[.int .u64 lsn, v], .int .u8 s] w fun e w' => Ans w 0 [] 1 e w' := by
  obtain ⟨oa, cap, rfl, _⟩ := ho.open
  obtain ⟨n, HN⟩ : ∃ n, Hid (os.length = n) := ⟨_, rfl⟩
  rw [HN.out] at ho ⊢
  have hz := zero64
  have hz3 := zero35
  have r0 : Row ((w.alloc (.cells #[.int .u64 lsn, .slice oa n cap] 64)).alloc (.cells #[.int .u64 0, .slice none 0 0] 64)) w.heap.size #[.int .u64 lsn, .slice oa n cap] 64 := (Row.new _ _ _).alloc _
  have r1 : Row ((w.alloc (.cells #[.int .u64 lsn, .slice oa n cap] 64)).alloc (.cells #[.int .u64 0, .slice none 0 0] 64)) (w.heap.size + 1) #[.int .u64 0, .slice none 0 0] 64 := by have := Row.new (w.alloc (.cells #[.int .u64 lsn, .slice oa n cap] 64)) #[.int .u64 0, .slice none 0 0] 64; simpa using this
  have ab : Below w.heap.size w ((w.alloc (.cells #[.int .u64 lsn, .slice oa n cap] 64)).alloc (.cells #[.int .u64 0, .slice none 0 0] 64)) := ((Below.refl _ _).alloc (Nat.le_refl _) _).alloc (by simp) _
  go_enter Try.func59, Try.ntmps59
  go_upto_region 1 with fail
  generalize (w.alloc (.cells #[.int .u64 lsn, .slice oa n cap] 64)).alloc (.cells #[.int .u64 0, .slice none 0 0] 64) = w1 at r0 r1 ab ⊢
  have hget := gets_any lsn _ os s hs w1 (ho.keep ab)
  rw [hg] at hget
  have rg := range_two r0
  have tl : Hid (1 = 1) := rfl
  have ts : Hid (1 = 1) := rfl
  go_wp2_with (first
    | (have hh := tl; clear hh tl; refine wpList_load_mid rfl 64 (.tmp 2) rfl w.heap.size 0 rfl [.int .u64 lsn, .slice oa n cap] _ rg Try.underlying64 rfl size64 ?_)
    | (go_at_call 69; refine hget.mono ?_; rintro e w2 ⟨rfl, b2⟩
       have y0 : Row (w2.alloc (.cells #[.bool false, .int .u16 0, .int .u32 0, .int .u16 0, .int .u8 0, .string ByteArray.empty] 35)) w2.heap.size #[.bool false, .int .u16 0, .int .u32 0, .int .u16 0, .int .u8 0, .string ByteArray.empty] 35 := Row.new _ _ _
       have q1 := r1.below b2 r1.lt
       have s1 : Row ((w2.alloc (.cells #[.bool false, .int .u16 0, .int .u32 0, .int .u16 0, .int .u8 0, .string ByteArray.empty] 35)).setRow w2.heap.size O.zero.arr) (w.heap.size + 1) #[.int .u64 0, .slice none 0 0] 64 := (q1.alloc _).other (by have := q1.lt; omega) _
       have B2 : Below w.heap.size w w2 := ab.trans (b2.mono ab.size)
       have B3 : Below w.heap.size w ((w2.alloc (.cells #[.bool false, .int .u16 0, .int .u32 0, .int .u16 0, .int .u8 0, .string ByteArray.empty] 35)).setRow w2.heap.size O.zero.arr) := below_setRow (B2.alloc B2.size _) B2.size _)
    | (have hh := ts; clear hh ts; refine store_cells rfl 35 (.tmp 6) (.tmp 13) rfl w2.heap.size O.zero.arr rfl rfl 35 _ y0 6 size35 rfl rfl (arr_one _) ?_)
    | (refine build_none rfl 64 rfl _ built64 ?_)
    | (refine store_cells rfl 64 (.tmp 4) (.tmp 17) rfl (w.heap.size + 1) #[.int .u64 0, .slice none 0 0] rfl rfl 64 _ s1 2 size64 rfl rfl (by simp [Value.oneCell']) ?_))
  refine bodyPost_ret (v := .tuple #[.agg #[.int .u64 0, .slice none 0 0], .int .i64 1]) ?_ rfl ⟨_, rfl, ⟨rfl, Or.inl ⟨rfl, rfl⟩⟩, below_setRow B3 (by omega) _⟩
  exact ret_cell2 (fn := Try.f59) rfl _ _ (w.heap.size + 1) 64 _ _ _ rfl rfl (s1.set _) Try.underlying64 rfl size64
theorem Own.apart {w : World} {base g n cap : Nat} {os : List O} (h : Own w base (.slice (some ⟨g, 0, none⟩) n cap) os) (j o : Nat) (x : Value) (hj : g ≠ j) : Own (w.setCell ⟨j, o, none⟩ x) base (.slice (some ⟨g, 0, none⟩) n cap) os := by
  obtain ⟨h1, h2⟩ := h
  refine ⟨h1, ?_⟩
  rcases h2 with h2 | ⟨g', cap', cur, q, hb', hc, rest⟩
  · exact Or.inl h2
  · cases q
    exact Or.inr ⟨g, cap, cur, rfl, hb', by rw [Below.heap_setCell w _ x g hj]; exact hc, rest⟩
theorem Own.row {w : World} {base g n cap : Nat} {os : List O} (h : Own w base (.slice (some ⟨g, 0, none⟩) n cap) os) (j : Nat) (cs : Array Value) (hj : g ≠ j) : Own (w.setRow j cs) base (.slice (some ⟨g, 0, none⟩) n cap) os := by
  obtain ⟨h1, h2⟩ := h
  refine ⟨h1, ?_⟩
  rcases h2 with h2 | ⟨g', cap', cur, q, hb', hc, rest⟩
  · exact Or.inl h2
  · cases q
    exact Or.inr ⟨g, cap, cur, rfl, hb', by rw [setRow_other w j g cs hj]; exact hc, rest⟩
set_option maxHeartbeats 4000000 in
theorem free_ok (lsn : Int) (v : Value) (os : List O) (s : Nat) (hs : s < 256) (w : World) (ho : Olds w v os) (o : O) (hg : got os s = (o, true)) :
    Calls Try.prog 59 #[.agg #[.int .u64 lsn, v], .int .u8 s] w fun e w' => Ans w lsn (freed os s) 0 e w' := by
  obtain ⟨hat, hmy, hlv⟩ := got_inv hg
  have hlen := (may_small hmy).1
  have hsl : s < os.length := (List.getElem?_eq_some_iff.1 hat).1
  have HAT : Hid _ := hat
  clear hat hmy hlv
  obtain ⟨oa, cap, rfl, _⟩ := ho.open
  obtain ⟨n, HN⟩ : ∃ n, Hid (os.length = n) := ⟨_, rfl⟩
  rw [HN.out] at ho hlen hsl ⊢
  have hz := zero64
  have hz3 := zero35
  have hws : IntKind.i64.wrap (s : Int) = s := by rw [IntKind.wrap_i64]; omega
  have hsn' : (s : Int) < (n : Int) := by omega
  have r0 : Row ((w.alloc (.cells #[.int .u64 lsn, .slice oa n cap] 64)).alloc (.cells #[.int .u64 0, .slice none 0 0] 64)) w.heap.size #[.int .u64 lsn, .slice oa n cap] 64 := (Row.new _ _ _).alloc _
  have r1 : Row ((w.alloc (.cells #[.int .u64 lsn, .slice oa n cap] 64)).alloc (.cells #[.int .u64 0, .slice none 0 0] 64)) (w.heap.size + 1) #[.int .u64 0, .slice none 0 0] 64 := by have := Row.new (w.alloc (.cells #[.int .u64 lsn, .slice oa n cap] 64)) #[.int .u64 0, .slice none 0 0] 64; simpa using this
  have ab : Below w.heap.size w ((w.alloc (.cells #[.int .u64 lsn, .slice oa n cap] 64)).alloc (.cells #[.int .u64 0, .slice none 0 0] 64)) := ((Below.refl _ _).alloc (Nat.le_refl _) _).alloc (by simp) _
  have hw1 : Hid (w.heap.size + 2 ≤ ((w.alloc (.cells #[.int .u64 lsn, .slice oa n cap] 64)).alloc (.cells #[.int .u64 0, .slice none 0 0] 64)).heap.size) := by simp [Hid]
  go_enter Try.func59, Try.ntmps59
  go_upto_region 1 with fail
  generalize (w.alloc (.cells #[.int .u64 lsn, .slice oa n cap] 64)).alloc (.cells #[.int .u64 0, .slice none 0 0] 64) = w1 at r0 r1 ab hw1 ⊢
  have hget := gets_any lsn _ os s hs w1 (ho.keep ab)
  rw [hg] at hget
  have rg := range_two r0
  have tl : Hid (1 = 1) := rfl
  have ts : Hid (1 = 1) := rfl
  go_upto_region 4 with (first
    | (have hh := tl; clear hh tl; refine wpList_load_mid rfl 64 (.tmp 2) rfl w.heap.size 0 rfl [.int .u64 lsn, .slice oa n cap] _ rg Try.underlying64 rfl size64 ?_)
    | (go_at_call 69; refine hget.mono ?_; rintro e w2 ⟨rfl, b2⟩
       have y0 : Row (w2.alloc (.cells #[.bool false, .int .u16 0, .int .u32 0, .int .u16 0, .int .u8 0, .string ByteArray.empty] 35)) w2.heap.size #[.bool false, .int .u16 0, .int .u32 0, .int .u16 0, .int .u8 0, .string ByteArray.empty] 35 := Row.new _ _ _)
    | (have hh := ts; clear hh ts; refine store_cells rfl 35 (.tmp 6) (.tmp 13) rfl w2.heap.size o.arr rfl rfl 35 _ y0 6 size35 rfl rfl (arr_one _) ?_))
  have b3 : Below w2.heap.size w2 ((w2.alloc (.cells #[.bool false, .int .u16 0, .int .u32 0, .int .u16 0, .int .u8 0, .string ByteArray.empty] 35)).setRow w2.heap.size o.arr) := below_setRow ((Below.refl _ _).alloc (Nat.le_refl _) _) (Nat.le_refl _) _
  have q0 := (r0.below b2 r0.lt).below b3 (r0.below b2 r0.lt).lt
  have q1 := (r1.below b2 r1.lt).below b3 (r1.below b2 r1.lt).lt
  have B2 : Below w.heap.size w w2 := ab.trans (b2.mono ab.size)
  have B3 : Below w.heap.size w ((w2.alloc (.cells #[.bool false, .int .u16 0, .int .u32 0, .int .u16 0, .int .u8 0, .string ByteArray.empty] 35)).setRow w2.heap.size o.arr) := B2.trans (b3.mono B2.size)
  have hw3 : Hid (w.heap.size + 2 ≤ ((w2.alloc (.cells #[.bool false, .int .u16 0, .int .u32 0, .int .u16 0, .int .u8 0, .string ByteArray.empty] 35)).setRow w2.heap.size o.arr).heap.size) := Nat.le_trans hw1.out (Nat.le_trans b2.size b3.size)
  clear b2 b3 y0 r0 r1 ab hw1 hget rg B2
  generalize (w2.alloc (.cells #[.bool false, .int .u16 0, .int .u32 0, .int .u16 0, .int .u8 0, .string ByteArray.empty] 35)).setRow w2.heap.size o.arr = w3 at q0 q1 B3 hw3 ⊢
  have hcl := cloned_any lsn _ os w3 (ho.keep B3) (by rw [HN.out]; omega)
  have rg := range_two q0
  have tl : Hid (1 = 1) := rfl
  have ts : Hid (1 = 1) := rfl
  go_upto_region 5 with (first
    | (have hh := tl; clear hh tl; refine wpList_load_mid rfl 64 (.tmp 2) rfl w.heap.size 0 rfl [.int .u64 lsn, .slice oa n cap] _ rg Try.underlying64 rfl size64 ?_)
    | (go_at_call 67; refine hcl.mono ?_; rintro e w4 ⟨v', rfl, hO, b4⟩
       obtain ⟨g, cap', rfl, hgb⟩ := hO.blkS (by rw [HN.out]; omega)
       rw [HN.out] at hO ⊢
       have y0 : Row (w4.alloc (.cells #[.int .u64 0, .slice none 0 0] 64)) w4.heap.size #[.int .u64 0, .slice none 0 0] 64 := Row.new _ _ _)
    | (have hh := ts; clear hh ts; refine store_cells rfl 64 (.tmp 8) (.tmp 19) rfl w4.heap.size #[.int .u64 lsn, .slice (some ⟨g, 0, none⟩) n cap'] rfl rfl 64 _ y0 2 size64 rfl rfl (by simp [Value.oneCell']) ?_))
  have b5 : Below w4.heap.size w4 ((w4.alloc (.cells #[.int .u64 0, .slice none 0 0] 64)).setRow w4.heap.size #[.int .u64 lsn, .slice (some ⟨g, 0, none⟩) n cap']) := below_setRow ((Below.refl _ _).alloc (Nat.le_refl _) _) (Nat.le_refl _) _
  have p1 := (q1.below b4 q1.lt).below b5 (q1.below b4 q1.lt).lt
  have pQ : Row ((w4.alloc (.cells #[.int .u64 0, .slice none 0 0] 64)).setRow w4.heap.size #[.int .u64 lsn, .slice (some ⟨g, 0, none⟩) n cap']) w4.heap.size #[.int .u64 lsn, .slice (some ⟨g, 0, none⟩) n cap'] 64 := y0.set _
  have B5 : Below w.heap.size w ((w4.alloc (.cells #[.int .u64 0, .slice none 0 0] 64)).setRow w4.heap.size #[.int .u64 lsn, .slice (some ⟨g, 0, none⟩) n cap']) := (B3.trans (b4.mono B3.size)).trans (b5.mono (Nat.le_trans B3.size b4.size))
  have hO5 := hO.keep b5
  have hgQ : Hid (g < w4.heap.size) := (World.ownsRow.lt hO g (by simp [Value.ownBlock])).2
  have hgw : Hid (w.heap.size + 2 ≤ g) := Nat.le_trans hw3.out hgb
  have hQw : Hid (w.heap.size + 2 ≤ w4.heap.size) := Nat.le_trans hw3.out b4.size
  have hcp : Hid (n ≤ cap') := by
    rcases hO.2 with ⟨q, _⟩ | ⟨g', c', cur, q, _, _, hle, _⟩
    · cases q
    · cases q; rw [← HN.out]; exact hle
  clear b5 y0 hO q0 q1 rg hcl b4 hgb hw3
  generalize (w4.alloc (.cells #[.int .u64 0, .slice none 0 0] 64)).setRow w4.heap.size #[.int .u64 lsn, .slice (some ⟨g, 0, none⟩) n cap'] = w5 at p1 pQ B5 hO5 ⊢
  generalize w4.heap.size = Q at pQ hgQ hQw ⊢
  have cQ := row_at pQ 1 _ rfl
  have th := hO5.there s (by rw [HN.out]; omega)
  have tl : Hid (1 = 1) := rfl
  go_upto_region 6 with (first
    | (refine build_none rfl 35 rfl _ built35 ?_)
    | (have hh := tl; clear hh tl; refine wpList_store_mid rfl 35 (.tmp 24) (.tmp 23) rfl g (s * 6) O.zero.arr rfl rfl th size35 (arr_one _) ?_))
  have hO6 : Own _ _ (.slice (some ⟨g, 0, none⟩) n cap') (os.set s O.zero) := hO5.put s (by rw [HN.out]; omega) O.zero
  have s1 : Row (w5.setCells g (s * 6) O.zero.cells) (w.heap.size + 1) #[.int .u64 0, .slice none 0 0] 64 := p1.cells g (by have := hgw.out; omega) _ _
  have sQ : Row (w5.setCells g (s * 6) O.zero.cells) Q #[.int .u64 lsn, .slice (some ⟨g, 0, none⟩) n cap'] 64 := pQ.cells g (by have := hgQ.out; omega) _ _
  have B6 : Below w.heap.size w (w5.setCells g (s * 6) O.zero.cells) := below_setCells (by have := hgw.out; omega) _ _ _ B5
  rw [O.arr_toList]
  clear th cQ hO5 p1 pQ B5
  generalize w5.setCells g (s * 6) O.zero.cells = w6 at hO6 s1 sQ B6 ⊢
  have hen := end_any lsn _ (os.set s O.zero) w6.drew (hO6.keep (Below.refl _ _).drew).olds (by rw [List.length_set, HN.out]; omega)
  rw [List.length_set, HN.out] at hen
  have hkn := endAt_le (os.set s O.zero) n
  obtain ⟨k, HK⟩ : ∃ k, Hid (endAt (os.set s O.zero) n = k) := ⟨_, rfl⟩
  rw [HK.out] at hen hkn
  have hkc : (k : Int) ≤ (cap' : Int) := by have := hcp.out; omega
  have cQ1 := row_at sQ 1 _ rfl
  have rg := range_two sQ
  refine wp_region_held_drew (S := fun _ => True) (by kernel_rfl) trivial fun hS => ?_
  refine wpAnyH_take (i := 0) (v := .pointer (some ⟨Q, 1, none⟩)) rfl (by kernel_rfl) (by kernel_rfl) (by kernel_rfl) (fun _ _ _ h => h) (Or.inl ⟨by rfl, fun w _ => by go_simp⟩) hS ?_
  try simp only [Act.put, List.getElem_toArray, List.getElem_cons_zero, List.getElem_cons_succ, List.setIfInBounds_toArray, List.set_cons_zero, List.set_cons_succ]
  refine wpAnyH_ready (rs := [1, 2]) (by kernel_rfl) (by simp) ?_
  refine AllReadyH.cons rfl (fun K hK => ?_) (AllReadyH.cons rfl (fun K hK => ?_) AllReadyH.nil)
  · have cq := row_at (sQ) 1 _ rfl
    go_simp
    refine hK.out _ _ trivial fun hS => ?_
    try simp only [Act.put, List.getElem_toArray, List.getElem_cons_zero, List.getElem_cons_succ, List.setIfInBounds_toArray, List.set_cons_zero, List.set_cons_succ]
    refine wpAnyH_ready (rs := [2]) (by kernel_rfl) (by simp) ?_
    refine AllReadyH.cons rfl (fun K hK => ?_) AllReadyH.nil
    · refine step_of rfl (wp_load_mid 64 (.tmp 8) rfl Q 0 rfl [.int .u64 lsn, .slice (some ⟨g, 0, none⟩) n cap'] _ (range_two (sQ)) Try.underlying64 rfl size64 (hK.out _ _ trivial fun hS => ?_))
      try simp only [Act.put, List.getElem_toArray, List.getElem_cons_zero, List.getElem_cons_succ, List.setIfInBounds_toArray, List.set_cons_zero, List.set_cons_succ]
      refine wpAnyH_ready (rs := [3]) (by kernel_rfl) (by simp) ?_
      refine AllReadyH.cons rfl (fun K hK => ?_) AllReadyH.nil
      · go_simp
        go_at_call 70
        refine hen.mono ?_
        rintro e w7 ⟨rfl, b7⟩
        refine hK.out _ _ trivial fun hS => ?_
        try simp only [Act.put, List.getElem_toArray, List.getElem_cons_zero, List.getElem_cons_succ, List.setIfInBounds_toArray, List.set_cons_zero, List.set_cons_succ]
        refine wpAnyH_take (i := 4) (v := .slice (some ⟨g, 0, none⟩) k cap') rfl (by kernel_rfl) (by kernel_rfl) (by kernel_rfl) (fun _ _ _ h => h) (Or.inl ⟨by rfl, fun w _ => by go_simp⟩) hS ?_
        try simp only [Act.put, List.getElem_toArray, List.getElem_cons_zero, List.getElem_cons_succ, List.setIfInBounds_toArray, List.set_cons_zero, List.set_cons_succ]
        refine wpAnyH_take (i := 5) (v := .pointer (some ⟨Q, 1, none⟩)) rfl (by kernel_rfl) (by kernel_rfl) (by kernel_rfl) (fun _ _ _ h => h) (Or.inl ⟨by rfl, fun w _ => by go_simp⟩) hS ?_
        try simp only [Act.put, List.getElem_toArray, List.getElem_cons_zero, List.getElem_cons_succ, List.setIfInBounds_toArray, List.set_cons_zero, List.set_cons_succ]
        have sQ7 := Row.below (w := w6.drew) sQ b7 sQ.lt
        have s17 := Row.below (w := w6.drew) s1 b7 s1.lt
        have hO7 := Own.keep (w := w6.drew) hO6 b7
        have B7 : Below w.heap.size w w7 := B6.drew.trans (b7.mono B6.size)
        have cQ7 := row_at sQ7 1 _ rfl
        have fQ7 := row_frozen sQ7 1
        refine wpAnyH_ready (rs := [6]) (by kernel_rfl) (by simp) ?_
        refine AllReadyH.cons rfl (fun K hK => ?_) AllReadyH.nil
        · go_simp
          refine hK.out _ _ trivial fun hS => ?_
          try simp only [Act.put, List.getElem_toArray, List.getElem_cons_zero, List.getElem_cons_succ, List.setIfInBounds_toArray, List.set_cons_zero, List.set_cons_succ]
          refine wpAnyH_done (by kernel_rfl) ?_ _
          have z1 : Row (w7.setCell ⟨Q, 1, none⟩ (.slice (some ⟨g, 0, none⟩) k cap')) (w.heap.size + 1) #[.int .u64 0, .slice none 0 0] 64 := row_setCell_other s17 (by have := hQw.out; omega) 1 _
          have zQ : Row (w7.setCell ⟨Q, 1, none⟩ (.slice (some ⟨g, 0, none⟩) k cap')) Q #[.int .u64 lsn, .slice (some ⟨g, 0, none⟩) k cap'] 64 := row_set sQ7 1 _
          have zO : Own (w7.setCell ⟨Q, 1, none⟩ (.slice (some ⟨g, 0, none⟩) k cap')) w3.heap.size (.slice (some ⟨g, 0, none⟩) k cap') (freed os s) := by
            unfold freed
            rw [HN.out, HK.out]
            exact (hO7.cut k (by rw [List.length_set, HN.out]; exact hkn)).apart Q 1 _ (by have := hgQ.out; omega)
          have zB : Below w.heap.size w (w7.setCell ⟨Q, 1, none⟩ (.slice (some ⟨g, 0, none⟩) k cap')) := B7.setCell (p := ⟨Q, 1, none⟩) (by show w.heap.size ≤ Q; have := hQw.out; omega) _
          clear cQ7 fQ7 hO7 sQ7 s17 B7 hO6 sQ s1 B6
          generalize w7.setCell ⟨Q, 1, none⟩ (.slice (some ⟨g, 0, none⟩) k cap') = w8 at z1 zQ zO zB ⊢
          have rz := range_two zQ
          have tz : Hid (1 = 1) := rfl
          go_wp2_with (first
            | (have hh := tz; clear hh tz; refine wpList_load_mid rfl 64 (.tmp 8) rfl Q 0 rfl [.int .u64 lsn, .slice (some ⟨g, 0, none⟩) k cap'] _ rz Try.underlying64 rfl size64 ?_)
            | (refine store_cells rfl 64 (.tmp 4) (.tmp 31) rfl (w.heap.size + 1) #[.int .u64 lsn, .slice (some ⟨g, 0, none⟩) k cap'] rfl rfl 64 _ z1 2 size64 rfl rfl (by simp [Value.oneCell']) ?_))
          refine bodyPost_ret (v := .tuple #[.agg #[.int .u64 lsn, .slice (some ⟨g, 0, none⟩) k cap'], .int .i64 0]) ?_ rfl ⟨_, rfl, (zO.row (w.heap.size + 1) _ (by have := hgw.out; omega)).base (by have := B3.size; omega), below_setRow zB (by omega) _⟩
          exact ret_cell2 (fn := Try.f59) rfl _ _ (w.heap.size + 1) 64 _ _ _ rfl rfl (z1.set _) Try.underlying64 rfl size64
  · refine step_of rfl (wp_load_mid 64 (.tmp 8) rfl Q 0 rfl [.int .u64 lsn, .slice (some ⟨g, 0, none⟩) n cap'] _ (range_two (sQ)) Try.underlying64 rfl size64 (hK.out _ _ trivial fun hS => ?_))
    try simp only [Act.put, List.getElem_toArray, List.getElem_cons_zero, List.getElem_cons_succ, List.setIfInBounds_toArray, List.set_cons_zero, List.set_cons_succ]
    refine wpAnyH_ready (rs := [1, 3]) (by kernel_rfl) (by simp) ?_
    refine AllReadyH.cons rfl (fun K hK => ?_) (AllReadyH.cons rfl (fun K hK => ?_) AllReadyH.nil)
    · have cq := row_at (sQ) 1 _ rfl
      go_simp
      refine hK.out _ _ trivial fun hS => ?_
      try simp only [Act.put, List.getElem_toArray, List.getElem_cons_zero, List.getElem_cons_succ, List.setIfInBounds_toArray, List.set_cons_zero, List.set_cons_succ]
      refine wpAnyH_ready (rs := [3]) (by kernel_rfl) (by simp) ?_
      refine AllReadyH.cons rfl (fun K hK => ?_) AllReadyH.nil
      · go_simp
        go_at_call 70
        refine hen.mono ?_
        rintro e w7 ⟨rfl, b7⟩
        refine hK.out _ _ trivial fun hS => ?_
        try simp only [Act.put, List.getElem_toArray, List.getElem_cons_zero, List.getElem_cons_succ, List.setIfInBounds_toArray, List.set_cons_zero, List.set_cons_succ]
        refine wpAnyH_take (i := 4) (v := .slice (some ⟨g, 0, none⟩) k cap') rfl (by kernel_rfl) (by kernel_rfl) (by kernel_rfl) (fun _ _ _ h => h) (Or.inl ⟨by rfl, fun w _ => by go_simp⟩) hS ?_
        try simp only [Act.put, List.getElem_toArray, List.getElem_cons_zero, List.getElem_cons_succ, List.setIfInBounds_toArray, List.set_cons_zero, List.set_cons_succ]
        refine wpAnyH_take (i := 5) (v := .pointer (some ⟨Q, 1, none⟩)) rfl (by kernel_rfl) (by kernel_rfl) (by kernel_rfl) (fun _ _ _ h => h) (Or.inl ⟨by rfl, fun w _ => by go_simp⟩) hS ?_
        try simp only [Act.put, List.getElem_toArray, List.getElem_cons_zero, List.getElem_cons_succ, List.setIfInBounds_toArray, List.set_cons_zero, List.set_cons_succ]
        have sQ7 := Row.below (w := w6.drew) sQ b7 sQ.lt
        have s17 := Row.below (w := w6.drew) s1 b7 s1.lt
        have hO7 := Own.keep (w := w6.drew) hO6 b7
        have B7 : Below w.heap.size w w7 := B6.drew.trans (b7.mono B6.size)
        have cQ7 := row_at sQ7 1 _ rfl
        have fQ7 := row_frozen sQ7 1
        refine wpAnyH_ready (rs := [6]) (by kernel_rfl) (by simp) ?_
        refine AllReadyH.cons rfl (fun K hK => ?_) AllReadyH.nil
        · go_simp
          refine hK.out _ _ trivial fun hS => ?_
          try simp only [Act.put, List.getElem_toArray, List.getElem_cons_zero, List.getElem_cons_succ, List.setIfInBounds_toArray, List.set_cons_zero, List.set_cons_succ]
          refine wpAnyH_done (by kernel_rfl) ?_ _
          have z1 : Row (w7.setCell ⟨Q, 1, none⟩ (.slice (some ⟨g, 0, none⟩) k cap')) (w.heap.size + 1) #[.int .u64 0, .slice none 0 0] 64 := row_setCell_other s17 (by have := hQw.out; omega) 1 _
          have zQ : Row (w7.setCell ⟨Q, 1, none⟩ (.slice (some ⟨g, 0, none⟩) k cap')) Q #[.int .u64 lsn, .slice (some ⟨g, 0, none⟩) k cap'] 64 := row_set sQ7 1 _
          have zO : Own (w7.setCell ⟨Q, 1, none⟩ (.slice (some ⟨g, 0, none⟩) k cap')) w3.heap.size (.slice (some ⟨g, 0, none⟩) k cap') (freed os s) := by
            unfold freed
            rw [HN.out, HK.out]
            exact (hO7.cut k (by rw [List.length_set, HN.out]; exact hkn)).apart Q 1 _ (by have := hgQ.out; omega)
          have zB : Below w.heap.size w (w7.setCell ⟨Q, 1, none⟩ (.slice (some ⟨g, 0, none⟩) k cap')) := B7.setCell (p := ⟨Q, 1, none⟩) (by show w.heap.size ≤ Q; have := hQw.out; omega) _
          clear cQ7 fQ7 hO7 sQ7 s17 B7 hO6 sQ s1 B6
          generalize w7.setCell ⟨Q, 1, none⟩ (.slice (some ⟨g, 0, none⟩) k cap') = w8 at z1 zQ zO zB ⊢
          have rz := range_two zQ
          have tz : Hid (1 = 1) := rfl
          go_wp2_with (first
            | (have hh := tz; clear hh tz; refine wpList_load_mid rfl 64 (.tmp 8) rfl Q 0 rfl [.int .u64 lsn, .slice (some ⟨g, 0, none⟩) k cap'] _ rz Try.underlying64 rfl size64 ?_)
            | (refine store_cells rfl 64 (.tmp 4) (.tmp 31) rfl (w.heap.size + 1) #[.int .u64 lsn, .slice (some ⟨g, 0, none⟩) k cap'] rfl rfl 64 _ z1 2 size64 rfl rfl (by simp [Value.oneCell']) ?_))
          refine bodyPost_ret (v := .tuple #[.agg #[.int .u64 lsn, .slice (some ⟨g, 0, none⟩) k cap'], .int .i64 0]) ?_ rfl ⟨_, rfl, (zO.row (w.heap.size + 1) _ (by have := hgw.out; omega)).base (by have := B3.size; omega), below_setRow zB (by omega) _⟩
          exact ret_cell2 (fn := Try.f59) rfl _ _ (w.heap.size + 1) 64 _ _ _ rfl rfl (z1.set _) Try.underlying64 rfl size64
    · go_simp
      go_at_call 70
      refine hen.mono ?_
      rintro e w7 ⟨rfl, b7⟩
      refine hK.out _ _ trivial fun hS => ?_
      try simp only [Act.put, List.getElem_toArray, List.getElem_cons_zero, List.getElem_cons_succ, List.setIfInBounds_toArray, List.set_cons_zero, List.set_cons_succ]
      refine wpAnyH_ready (rs := [1]) (by kernel_rfl) (by simp) ?_
      refine AllReadyH.cons rfl (fun K hK => ?_) AllReadyH.nil
      · have cq := row_at (Row.below (w := w6.drew) sQ b7 sQ.lt) 1 _ rfl
        go_simp
        refine hK.out _ _ trivial fun hS => ?_
        try simp only [Act.put, List.getElem_toArray, List.getElem_cons_zero, List.getElem_cons_succ, List.setIfInBounds_toArray, List.set_cons_zero, List.set_cons_succ]
        refine wpAnyH_take (i := 4) (v := .slice (some ⟨g, 0, none⟩) k cap') rfl (by kernel_rfl) (by kernel_rfl) (by kernel_rfl) (fun _ _ _ h => h) (Or.inl ⟨by rfl, fun w _ => by go_simp⟩) hS ?_
        try simp only [Act.put, List.getElem_toArray, List.getElem_cons_zero, List.getElem_cons_succ, List.setIfInBounds_toArray, List.set_cons_zero, List.set_cons_succ]
        refine wpAnyH_take (i := 5) (v := .pointer (some ⟨Q, 1, none⟩)) rfl (by kernel_rfl) (by kernel_rfl) (by kernel_rfl) (fun _ _ _ h => h) (Or.inl ⟨by rfl, fun w _ => by go_simp⟩) hS ?_
        try simp only [Act.put, List.getElem_toArray, List.getElem_cons_zero, List.getElem_cons_succ, List.setIfInBounds_toArray, List.set_cons_zero, List.set_cons_succ]
        have sQ7 := Row.below (w := w6.drew) sQ b7 sQ.lt
        have s17 := Row.below (w := w6.drew) s1 b7 s1.lt
        have hO7 := Own.keep (w := w6.drew) hO6 b7
        have B7 : Below w.heap.size w w7 := B6.drew.trans (b7.mono B6.size)
        have cQ7 := row_at sQ7 1 _ rfl
        have fQ7 := row_frozen sQ7 1
        refine wpAnyH_ready (rs := [6]) (by kernel_rfl) (by simp) ?_
        refine AllReadyH.cons rfl (fun K hK => ?_) AllReadyH.nil
        · go_simp
          refine hK.out _ _ trivial fun hS => ?_
          try simp only [Act.put, List.getElem_toArray, List.getElem_cons_zero, List.getElem_cons_succ, List.setIfInBounds_toArray, List.set_cons_zero, List.set_cons_succ]
          refine wpAnyH_done (by kernel_rfl) ?_ _
          have z1 : Row (w7.setCell ⟨Q, 1, none⟩ (.slice (some ⟨g, 0, none⟩) k cap')) (w.heap.size + 1) #[.int .u64 0, .slice none 0 0] 64 := row_setCell_other s17 (by have := hQw.out; omega) 1 _
          have zQ : Row (w7.setCell ⟨Q, 1, none⟩ (.slice (some ⟨g, 0, none⟩) k cap')) Q #[.int .u64 lsn, .slice (some ⟨g, 0, none⟩) k cap'] 64 := row_set sQ7 1 _
          have zO : Own (w7.setCell ⟨Q, 1, none⟩ (.slice (some ⟨g, 0, none⟩) k cap')) w3.heap.size (.slice (some ⟨g, 0, none⟩) k cap') (freed os s) := by
            unfold freed
            rw [HN.out, HK.out]
            exact (hO7.cut k (by rw [List.length_set, HN.out]; exact hkn)).apart Q 1 _ (by have := hgQ.out; omega)
          have zB : Below w.heap.size w (w7.setCell ⟨Q, 1, none⟩ (.slice (some ⟨g, 0, none⟩) k cap')) := B7.setCell (p := ⟨Q, 1, none⟩) (by show w.heap.size ≤ Q; have := hQw.out; omega) _
          clear cQ7 fQ7 hO7 sQ7 s17 B7 hO6 sQ s1 B6
          generalize w7.setCell ⟨Q, 1, none⟩ (.slice (some ⟨g, 0, none⟩) k cap') = w8 at z1 zQ zO zB ⊢
          have rz := range_two zQ
          have tz : Hid (1 = 1) := rfl
          go_wp2_with (first
            | (have hh := tz; clear hh tz; refine wpList_load_mid rfl 64 (.tmp 8) rfl Q 0 rfl [.int .u64 lsn, .slice (some ⟨g, 0, none⟩) k cap'] _ rz Try.underlying64 rfl size64 ?_)
            | (refine store_cells rfl 64 (.tmp 4) (.tmp 31) rfl (w.heap.size + 1) #[.int .u64 lsn, .slice (some ⟨g, 0, none⟩) k cap'] rfl rfl 64 _ z1 2 size64 rfl rfl (by simp [Value.oneCell']) ?_))
          refine bodyPost_ret (v := .tuple #[.agg #[.int .u64 lsn, .slice (some ⟨g, 0, none⟩) k cap'], .int .i64 0]) ?_ rfl ⟨_, rfl, (zO.row (w.heap.size + 1) _ (by have := hgw.out; omega)).base (by have := B3.size; omega), below_setRow zB (by omega) _⟩
          exact ret_cell2 (fn := Try.f59) rfl _ _ (w.heap.size + 1) 64 _ _ _ rfl rfl (z1.set _) Try.underlying64 rfl size64
end Go.Proofs.Ytihjapfgllokgab
