/-
  Proved here: a page in which nothing follows a record (slot.Cut).
-/
import Derived.Test.YtihjapfgllokgabFree
namespace Go.Proofs.Ytihjapfgllokgab
open Go.ChangeShapes Go.WideShapes Go.ChangeAt Go.RowKit
set_option linter.unusedVariables false
set_option linter.unusedSimpArgs false
set_option maxRecDepth 20000

theorem size33S : (Try.prog.info? 33).map (·.size) = some 2 := by kernel_rfl
theorem Own.putNext {w : World} {base g n cap : Nat} {os : List O} (h : Own w base (.slice (some ⟨g, 0, none⟩) n cap) os) (s : Nat) (o : O) (hs : os[s]? = some o) : Own (w.setCells g (s * 6 + 3) [.int .u16 0, .int .u8 0]) base (.slice (some ⟨g, 0, none⟩) n cap) (os.set s { o with np := 0, ns := 0 }) := by
  have hsl : s < os.length := (List.getElem?_eq_some_iff.1 hs).1
  obtain ⟨h1, h2⟩ := h
  rcases h2 with ⟨q, _⟩ | ⟨g', cap', cur, q, hb, hc, hle, hmx, hsz, ht⟩
  · cases q
  · cases q
    have r : Row w g cur 35 := hc
    have hm : os.length * 6 ≤ cap * 6 := Nat.mul_le_mul_right _ hle
    refine ⟨by rw [flat_length], Or.inr ⟨g, cap, _, by rw [List.length_set], hb, row_setMany g _ (s * 6 + 3) w cur 35 r, by simpa using hle, hmx, by rw [setMany_size]; exact hsz, ?_⟩⟩
    apply List.ext_getElem?
    intro j
    rw [List.length_set, flat_get, List.getElem?_take]
    by_cases hj : j < os.length * 6
    · rw [if_pos hj, Array.getElem?_toList, setMany_at _ _ _ _ (by simp; omega), List.getElem?_set]
      have e : (flat os)[j]? = cur[j]? := by rw [← ht, List.getElem?_take, if_pos hj, Array.getElem?_toList]
      rw [← e, flat_get]
      by_cases q : s = j / 6
      · rw [if_pos q, if_pos hsl, ← q, hs]
        have h6 : j % 6 < 6 := Nat.mod_lt _ (by omega)
        show (if s * 6 + 3 ≤ j ∧ j < s * 6 + 3 + 2 then [Value.int .u16 0, .int .u8 0][j - (s * 6 + 3)]? else o.cells[j % 6]?) = _
        have hj6 : j = s * 6 + j % 6 := by omega
        generalize j % 6 = m at hj6 h6
        subst hj6
        match m, h6 with
        | 0, _ => rw [if_neg (by omega)]; rfl
        | 1, _ => rw [if_neg (by omega)]; rfl
        | 2, _ => rw [if_neg (by omega)]; rfl
        | 3, _ => rw [if_pos (by omega), show s * 6 + 3 - (s * 6 + 3) = 0 by omega]; rfl
        | 4, _ => rw [if_pos (by omega), show s * 6 + 4 - (s * 6 + 3) = 1 by omega]; rfl
        | 5, _ => rw [if_neg (by omega)]; rfl
      · rw [if_neg q, if_neg (by simp; omega)]
    · rw [if_neg hj]
      rw [List.getElem?_eq_none (by simp; omega)]; rfl

set_option maxHeartbeats 2000000 in
theorem cut_bad (lsn : Int) (v : Value) (os : List O) (s : Nat) (hs : s < 256) (w : World) (ho : Olds w v os) (hg : got os s = (O.zero, false)) :
    Calls Try.prog 60 #[.agg #[.int .u64 lsn, v], .int .u8 s] w fun e w' => Ans w 0 [] 1 e w' := by
  obtain ⟨oa, cap, rfl, _⟩ := ho.open
  obtain ⟨n, HN⟩ : ∃ n, Hid (os.length = n) := ⟨_, rfl⟩
  rw [HN.out] at ho ⊢
  have hz := zero64
  have hz3 := zero35
  have r0 : Row ((w.alloc (.cells #[.int .u64 lsn, .slice oa n cap] 64)).alloc (.cells #[.int .u64 0, .slice none 0 0] 64)) w.heap.size #[.int .u64 lsn, .slice oa n cap] 64 := (Row.new _ _ _).alloc _
  have r1 : Row ((w.alloc (.cells #[.int .u64 lsn, .slice oa n cap] 64)).alloc (.cells #[.int .u64 0, .slice none 0 0] 64)) (w.heap.size + 1) #[.int .u64 0, .slice none 0 0] 64 := by have := Row.new (w.alloc (.cells #[.int .u64 lsn, .slice oa n cap] 64)) #[.int .u64 0, .slice none 0 0] 64; simpa using this
  have ab : Below w.heap.size w ((w.alloc (.cells #[.int .u64 lsn, .slice oa n cap] 64)).alloc (.cells #[.int .u64 0, .slice none 0 0] 64)) := ((Below.refl _ _).alloc (Nat.le_refl _) _).alloc (by simp) _
  go_enter Try.func60, Try.ntmps60
  go_upto_region 1 with fail
  generalize (w.alloc (.cells #[.int .u64 lsn, .slice oa n cap] 64)).alloc (.cells #[.int .u64 0, .slice none 0 0] 64) = w1 at r0 r1 ab ⊢
  have hget := gets_any lsn _ os s hs w1 (ho.keep ab)
  rw [hg] at hget
  have rg := range_two r0
  have tl : Hid (1 = 1) := rfl
  have ts : Hid (1 = 1) := rfl
  go_wp2_with (first
    | (have hh := tl; clear hh tl; refine wpList_load_mid rfl 64 (.tmp 2) rfl w.heap.size 0 rfl [.int .u64 lsn, .slice oa n cap] _ rg Try.underlying64 rfl size64 ?_)
    | (go_at_call 69; refine hget.mono ?_; rintro e w2 ⟨rfl, b2⟩
       have y0 : Row (w2.alloc (.cells #[.bool false, .int .u16 0, .int .u32 0, .int .u16 0, .int .u8 0, .string ByteArray.empty] 35)) w2.heap.size #[.bool false, .int .u16 0, .int .u32 0, .int .u16 0, .int .u8 0, .string ByteArray.empty] 35 := Row.new _ _ _
       have q1 := r1.below b2 r1.lt
       have s1 : Row ((w2.alloc (.cells #[.bool false, .int .u16 0, .int .u32 0, .int .u16 0, .int .u8 0, .string ByteArray.empty] 35)).setRow w2.heap.size O.zero.arr) (w.heap.size + 1) #[.int .u64 0, .slice none 0 0] 64 := (q1.alloc _).other (by have := q1.lt; omega) _
       have B2 : Below w.heap.size w w2 := ab.trans (b2.mono ab.size)
       have B3 : Below w.heap.size w ((w2.alloc (.cells #[.bool false, .int .u16 0, .int .u32 0, .int .u16 0, .int .u8 0, .string ByteArray.empty] 35)).setRow w2.heap.size O.zero.arr) := below_setRow (B2.alloc B2.size _) B2.size _)
    | (have hh := ts; clear hh ts; refine store_cells rfl 35 (.tmp 6) (.tmp 13) rfl w2.heap.size O.zero.arr rfl rfl 35 _ y0 6 size35 rfl rfl (arr_one _) ?_)
    | (refine build_none rfl 64 rfl _ built64 ?_)
    | (refine store_cells rfl 64 (.tmp 4) (.tmp 17) rfl (w.heap.size + 1) #[.int .u64 0, .slice none 0 0] rfl rfl 64 _ s1 2 size64 rfl rfl (by simp [Value.oneCell']) ?_))
  refine bodyPost_ret (v := .tuple #[.agg #[.int .u64 0, .slice none 0 0], .int .i64 1]) ?_ rfl ⟨_, rfl, ⟨rfl, Or.inl ⟨rfl, rfl⟩⟩, below_setRow B3 (by omega) _⟩
  exact ret_cell2 (fn := Try.f60) rfl _ _ (w.heap.size + 1) 64 _ _ _ rfl rfl (s1.set _) Try.underlying64 rfl size64
set_option maxHeartbeats 4000000 in
theorem cut_ok (lsn : Int) (v : Value) (os : List O) (s : Nat) (hs : s < 256) (w : World) (ho : Olds w v os) (o : O) (hg : got os s = (o, true)) :
    Calls Try.prog 60 #[.agg #[.int .u64 lsn, v], .int .u8 s] w fun e w' => Ans w lsn (os.set s { o with np := 0, ns := 0 }) 0 e w' := by
  obtain ⟨hat, hmy, hlv⟩ := got_inv hg
  have hlen := (may_small hmy).1
  have hsl : s < os.length := (List.getElem?_eq_some_iff.1 hat).1
  have HAT : Hid _ := hat
  clear hat hmy hlv
  obtain ⟨oa, cap, rfl, _⟩ := ho.open
  obtain ⟨n, HN⟩ : ∃ n, Hid (os.length = n) := ⟨_, rfl⟩
  rw [HN.out] at ho hlen hsl ⊢
  have hz := zero64
  have hz3 := zero35
  have hws : IntKind.i64.wrap (s : Int) = s := by rw [IntKind.wrap_i64]; omega
  have hsn' : (s : Int) < (n : Int) := by omega
  have r0 : Row ((w.alloc (.cells #[.int .u64 lsn, .slice oa n cap] 64)).alloc (.cells #[.int .u64 0, .slice none 0 0] 64)) w.heap.size #[.int .u64 lsn, .slice oa n cap] 64 := (Row.new _ _ _).alloc _
  have r1 : Row ((w.alloc (.cells #[.int .u64 lsn, .slice oa n cap] 64)).alloc (.cells #[.int .u64 0, .slice none 0 0] 64)) (w.heap.size + 1) #[.int .u64 0, .slice none 0 0] 64 := by have := Row.new (w.alloc (.cells #[.int .u64 lsn, .slice oa n cap] 64)) #[.int .u64 0, .slice none 0 0] 64; simpa using this
  have ab : Below w.heap.size w ((w.alloc (.cells #[.int .u64 lsn, .slice oa n cap] 64)).alloc (.cells #[.int .u64 0, .slice none 0 0] 64)) := ((Below.refl _ _).alloc (Nat.le_refl _) _).alloc (by simp) _
  have hw1 : Hid (w.heap.size + 2 ≤ ((w.alloc (.cells #[.int .u64 lsn, .slice oa n cap] 64)).alloc (.cells #[.int .u64 0, .slice none 0 0] 64)).heap.size) := by simp [Hid]
  go_enter Try.func60, Try.ntmps60
  go_upto_region 1 with fail
  generalize (w.alloc (.cells #[.int .u64 lsn, .slice oa n cap] 64)).alloc (.cells #[.int .u64 0, .slice none 0 0] 64) = w1 at r0 r1 ab hw1 ⊢
  have hget := gets_any lsn _ os s hs w1 (ho.keep ab)
  rw [hg] at hget
  have rg := range_two r0
  have tl : Hid (1 = 1) := rfl
  have ts : Hid (1 = 1) := rfl
  go_upto_region 4 with (first
    | (have hh := tl; clear hh tl; refine wpList_load_mid rfl 64 (.tmp 2) rfl w.heap.size 0 rfl [.int .u64 lsn, .slice oa n cap] _ rg Try.underlying64 rfl size64 ?_)
    | (go_at_call 69; refine hget.mono ?_; rintro e w2 ⟨rfl, b2⟩
       have y0 : Row (w2.alloc (.cells #[.bool false, .int .u16 0, .int .u32 0, .int .u16 0, .int .u8 0, .string ByteArray.empty] 35)) w2.heap.size #[.bool false, .int .u16 0, .int .u32 0, .int .u16 0, .int .u8 0, .string ByteArray.empty] 35 := Row.new _ _ _)
    | (have hh := ts; clear hh ts; refine store_cells rfl 35 (.tmp 6) (.tmp 13) rfl w2.heap.size o.arr rfl rfl 35 _ y0 6 size35 rfl rfl (arr_one _) ?_))
  have b3 : Below w2.heap.size w2 ((w2.alloc (.cells #[.bool false, .int .u16 0, .int .u32 0, .int .u16 0, .int .u8 0, .string ByteArray.empty] 35)).setRow w2.heap.size o.arr) := below_setRow ((Below.refl _ _).alloc (Nat.le_refl _) _) (Nat.le_refl _) _
  have q0 := (r0.below b2 r0.lt).below b3 (r0.below b2 r0.lt).lt
  have q1 := (r1.below b2 r1.lt).below b3 (r1.below b2 r1.lt).lt
  have B2 : Below w.heap.size w w2 := ab.trans (b2.mono ab.size)
  have B3 : Below w.heap.size w ((w2.alloc (.cells #[.bool false, .int .u16 0, .int .u32 0, .int .u16 0, .int .u8 0, .string ByteArray.empty] 35)).setRow w2.heap.size o.arr) := B2.trans (b3.mono B2.size)
  have hw3 : Hid (w.heap.size + 2 ≤ ((w2.alloc (.cells #[.bool false, .int .u16 0, .int .u32 0, .int .u16 0, .int .u8 0, .string ByteArray.empty] 35)).setRow w2.heap.size o.arr).heap.size) := Nat.le_trans hw1.out (Nat.le_trans b2.size b3.size)
  clear b2 b3 y0 r0 r1 ab hw1 hget rg B2
  generalize (w2.alloc (.cells #[.bool false, .int .u16 0, .int .u32 0, .int .u16 0, .int .u8 0, .string ByteArray.empty] 35)).setRow w2.heap.size o.arr = w3 at q0 q1 B3 hw3 ⊢
  have hcl := cloned_any lsn _ os w3 (ho.keep B3) (by rw [HN.out]; omega)
  have rg := range_two q0
  have tl : Hid (1 = 1) := rfl
  have ts : Hid (1 = 1) := rfl
  go_upto_region 5 with (first
    | (have hh := tl; clear hh tl; refine wpList_load_mid rfl 64 (.tmp 2) rfl w.heap.size 0 rfl [.int .u64 lsn, .slice oa n cap] _ rg Try.underlying64 rfl size64 ?_)
    | (go_at_call 67; refine hcl.mono ?_; rintro e w4 ⟨v', rfl, hO, b4⟩
       obtain ⟨g, cap', rfl, hgb⟩ := hO.blkS (by rw [HN.out]; omega)
       rw [HN.out] at hO ⊢
       have y0 : Row (w4.alloc (.cells #[.int .u64 0, .slice none 0 0] 64)) w4.heap.size #[.int .u64 0, .slice none 0 0] 64 := Row.new _ _ _)
    | (have hh := ts; clear hh ts; refine store_cells rfl 64 (.tmp 8) (.tmp 19) rfl w4.heap.size #[.int .u64 lsn, .slice (some ⟨g, 0, none⟩) n cap'] rfl rfl 64 _ y0 2 size64 rfl rfl (by simp [Value.oneCell']) ?_))
  have b5 : Below w4.heap.size w4 ((w4.alloc (.cells #[.int .u64 0, .slice none 0 0] 64)).setRow w4.heap.size #[.int .u64 lsn, .slice (some ⟨g, 0, none⟩) n cap']) := below_setRow ((Below.refl _ _).alloc (Nat.le_refl _) _) (Nat.le_refl _) _
  have p1 := (q1.below b4 q1.lt).below b5 (q1.below b4 q1.lt).lt
  have pQ : Row ((w4.alloc (.cells #[.int .u64 0, .slice none 0 0] 64)).setRow w4.heap.size #[.int .u64 lsn, .slice (some ⟨g, 0, none⟩) n cap']) w4.heap.size #[.int .u64 lsn, .slice (some ⟨g, 0, none⟩) n cap'] 64 := y0.set _
  have B5 : Below w.heap.size w ((w4.alloc (.cells #[.int .u64 0, .slice none 0 0] 64)).setRow w4.heap.size #[.int .u64 lsn, .slice (some ⟨g, 0, none⟩) n cap']) := (B3.trans (b4.mono B3.size)).trans (b5.mono (Nat.le_trans B3.size b4.size))
  have hO5 := hO.keep b5
  have hgQ : Hid (g < w4.heap.size) := (World.ownsRow.lt hO g (by simp [Value.ownBlock])).2
  have hgw : Hid (w.heap.size + 2 ≤ g) := Nat.le_trans hw3.out hgb
  have hQw : Hid (w.heap.size + 2 ≤ w4.heap.size) := Nat.le_trans hw3.out b4.size
  have hcp : Hid (n ≤ cap') := by
    rcases hO.2 with ⟨q, _⟩ | ⟨g', c', cur, q, _, _, hle, _⟩
    · cases q
    · cases q; rw [← HN.out]; exact hle
  clear b5 y0 hO q0 q1 rg hcl b4 hgb hw3
  generalize (w4.alloc (.cells #[.int .u64 0, .slice none 0 0] 64)).setRow w4.heap.size #[.int .u64 lsn, .slice (some ⟨g, 0, none⟩) n cap'] = w5 at p1 pQ B5 hO5 ⊢
  generalize w4.heap.size = Q at pQ hgQ hQw ⊢
  have cQ := row_at pQ 1 _ rfl
  have th : w5.there g (s * 6 + 3) 2 := fun j hj => by
    have := hO5.there s (by rw [HN.out]; omega) (3 + j) (by omega)
    rw [← Nat.add_assoc] at this; exact this
  have tl : Hid (1 = 1) := rfl
  go_upto_region 6 with (first
    | (refine build_none rfl 33 rfl _ built33 ?_)
    | (have hh := tl; clear hh tl; refine wpList_store_mid rfl 33 (.tmp 25) (.tmp 23) rfl g (s * 6 + 3) #[.int .u16 0, .int .u8 0] rfl rfl th size33S (by simp [Value.oneCell']) ?_))
  have hO6 : Own (w5.setCells g (s * 6 + 3) [.int .u16 0, .int .u8 0]) w3.heap.size (.slice (some ⟨g, 0, none⟩) n cap') (os.set s { o with np := 0, ns := 0 }) := hO5.putNext s o HAT.out
  have s1 : Row (w5.setCells g (s * 6 + 3) [.int .u16 0, .int .u8 0]) (w.heap.size + 1) #[.int .u64 0, .slice none 0 0] 64 := p1.cells g (by have := hgw.out; omega) _ _
  have sQ : Row (w5.setCells g (s * 6 + 3) [.int .u16 0, .int .u8 0]) Q #[.int .u64 lsn, .slice (some ⟨g, 0, none⟩) n cap'] 64 := pQ.cells g (by have := hgQ.out; omega) _ _
  have B6 : Below w.heap.size w (w5.setCells g (s * 6 + 3) [.int .u16 0, .int .u8 0]) := below_setCells (by have := hgw.out; omega) _ _ _ B5
  clear th cQ hO5 p1 pQ B5
  generalize w5.setCells g (s * 6 + 3) [.int .u16 0, .int .u8 0] = w6 at hO6 s1 sQ B6 ⊢
  have rz := range_two sQ
  have tz : Hid (1 = 1) := rfl
  go_wp2_with (first
    | (have hh := tz; clear hh tz; refine wpList_load_mid rfl 64 (.tmp 8) rfl Q 0 rfl [.int .u64 lsn, .slice (some ⟨g, 0, none⟩) n cap'] _ rz Try.underlying64 rfl size64 ?_)
    | (refine store_cells rfl 64 (.tmp 4) (.tmp 26) rfl (w.heap.size + 1) #[.int .u64 lsn, .slice (some ⟨g, 0, none⟩) n cap'] rfl rfl 64 _ s1 2 size64 rfl rfl (by simp [Value.oneCell']) ?_))
  refine bodyPost_ret (v := .tuple #[.agg #[.int .u64 lsn, .slice (some ⟨g, 0, none⟩) n cap'], .int .i64 0]) ?_ rfl ⟨_, rfl, (hO6.row (w.heap.size + 1) _ (by have := hgw.out; omega)).base (by have := B3.size; omega), below_setRow B6 (by omega) _⟩
  exact ret_cell2 (fn := Try.f60) rfl _ _ (w.heap.size + 1) 64 _ _ _ rfl rfl (s1.set _) Try.underlying64 rfl size64
end Go.Proofs.Ytihjapfgllokgab
