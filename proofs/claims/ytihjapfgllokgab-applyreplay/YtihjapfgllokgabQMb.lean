/-
  Proved here: the document's Get of a slot. Proved here: the document's Cut of a slot. Proved here: the document's Cut and Free of a slot, where they refuse. Proved here: the document's Free of a slot, where it frees.
-/
import Derived.Test.YtihjapfgllokgabQMg
import Derived.Test.YtihjapfgllokgabQRefV
import Derived.Test.YtihjapfgllokgabCut
namespace Go.Proofs.Ytihjapfgllokgab
open Go.ChangeShapes Go.WideShapes Go.ChangeAt Go.RowKit
set_option linter.unusedVariables false
set_option linter.unusedSimpArgs false
set_option maxRecDepth 20000

/-- Which record the document tells, and whether. -/
def rgot (os : List O) (s : Nat) : O × Bool := match os[s]? with
  | some o => if o.live then (o, true) else (O.zero, false)
  | none => (O.zero, false)
theorem rgot_none {os : List O} {s : Nat} (h : os.length ≤ s) : rgot os s = (O.zero, false) := by
  unfold rgot; rw [List.getElem?_eq_none h]
theorem rgot_some {os : List O} {s : Nat} {o : O} (h : os[s]? = some o) : rgot os s = if o.live then (o, true) else (O.zero, false) := by
  unfold rgot; rw [h]
theorem addr_zero (a : Addr) : a.add 0 = a := by unfold Addr.add; split <;> simp_all

set_option maxHeartbeats 4000000 in
theorem rgets_any (lsn : Int) (v : Value) (os : List O) (s : Nat) (hs : s < 256) (w : World) (ho : Olds w v os) (hl : os.length ≤ 1000000000) :
    Calls Try.prog 56 #[.agg #[.int .u64 lsn, v], .int .u8 s] w fun e w' => Got w (rgot os s) e w' := by
  have HN1 : Hid _ := @rgot_none os s
  have HS1 : Hid _ := @rgot_some os s
  have HG : Hid (∀ r w', rgot os s = r → Below w.heap.size w w' → Got w (rgot os s) (.returned (.tuple #[.agg r.1.arr, .bool r.2])) w') := fun r w' h b => ⟨by rw [h], b⟩
  generalize Got w (rgot os s) = PP at HG ⊢
  obtain ⟨oa, cap, rfl, hcs⟩ := ho.hold
  have HCS : Hid _ := hcs
  clear hcs ho
  obtain ⟨n, HN⟩ : ∃ n, Hid (os.length = n) := ⟨_, rfl⟩
  rw [HN.out] at HCS HN1 hl ⊢
  have hz := zero35
  have hb31 := built35
  have hws : IntKind.i64.wrap (s : Int) = s := by rw [IntKind.wrap_i64]; omega
  have r0 : Row ((w.alloc (.cells #[.int .u64 lsn, .slice oa n cap] 64)).alloc (.cells #[.bool false, .int .u16 0, .int .u32 0, .int .u16 0, .int .u8 0, .string ByteArray.empty] 35)) w.heap.size #[.int .u64 lsn, .slice oa n cap] 64 := (Row.new _ _ _).alloc _
  have r1 : Row ((w.alloc (.cells #[.int .u64 lsn, .slice oa n cap] 64)).alloc (.cells #[.bool false, .int .u16 0, .int .u32 0, .int .u16 0, .int .u8 0, .string ByteArray.empty] 35)) (w.heap.size + 1) #[.bool false, .int .u16 0, .int .u32 0, .int .u16 0, .int .u8 0, .string ByteArray.empty] 35 := by have := Row.new (w.alloc (.cells #[.int .u64 lsn, .slice oa n cap] 64)) #[.bool false, .int .u16 0, .int .u32 0, .int .u16 0, .int .u8 0, .string ByteArray.empty] 35; simpa using this
  have ab : Below w.heap.size w ((w.alloc (.cells #[.int .u64 lsn, .slice oa n cap] 64)).alloc (.cells #[.bool false, .int .u16 0, .int .u32 0, .int .u16 0, .int .u8 0, .string ByteArray.empty] 35)) := ((Below.refl _ _).alloc (Nat.le_refl _) _).alloc (by simp) _
  go_enter Try.func56, Try.ntmps56
  go_upto_region 2 with fail
  generalize (w.alloc (.cells #[.int .u64 lsn, .slice oa n cap] 64)).alloc (.cells #[.bool false, .int .u16 0, .int .u32 0, .int .u16 0, .int .u8 0, .string ByteArray.empty] 35) = w1 at r0 r1 ab ⊢
  have c1 := row_at r0 1 (.slice oa n cap) rfl
  go_loopw [6] (fun i wr => ∃ k : Nat, i = .int .i64 k ∧ k ≤ n ∧ wr = w1 ∧ Hid (s < k → (rgot os s) = (O.zero, false))) (fun i _ => n - (intOf i).toNat)
  case atStart => exact ⟨0, rfl, by omega, rfl, fun q => absurd q (by omega)⟩
  case round =>
    obtain ⟨k, rfl, hk, rfl, hno⟩ := hrel
    by_cases hkn : k < n
    · have hkn' : (k : Int) < (n : Int) := by omega
      obtain ⟨A, bb, pg, tt, np, ns, dl, hoa, he, hcell⟩ := HCS.out k hkn
      subst hoa
      have hcw : ∀ u x, [Value.bool bb, .int .u16 pg, .int .u32 tt, .int .u16 np, .int .u8 ns, .string dl][u]? = some x → wr.cell? ((A.add (k * 6)).add u) = some x := fun u x hx => cell_keep (hcell u x hx) ab
      have cb := hcw 0 _ rfl
      rw [addr_zero] at cb
      by_cases hks : k = s
      · have hks' : ((k : Int) == (s : Int)) = true := by simp; omega
        subst hks
        have hr := HS1.out he
        cases bb
        · have HR : Hid (rgot os k = (O.zero, false)) := hr
          clear hr hcw hcell
          go_wp2
          go_roundw
          case rel => exact ⟨k + 1, by go_num, by omega, (by first | rfl | trivial), fun _ => HR.out⟩
          case measure => simp [intOf]; omega
        · have HR : Hid (rgot os k = (⟨true, pg, tt, np, ns, dl⟩, true)) := hr
          clear hr hcell
          have tl : Hid (1 = 1) := rfl
          go_wp2_with (first
            | (have hh := tl; clear hh tl; refine wpList_load_any rfl 35 (.tmp 29) rfl (A.add (k * 6)) rfl [.bool true, .int .u16 pg, .int .u32 tt, .int .u16 np, .int .u8 ns, .string dl] _ hcw Try.underlying35 rfl size35 ?_)
            | (refine store_cells rfl 35 (.tmp 4) (.tmp 30) rfl (w.heap.size + 1) #[.bool true, .int .u16 pg, .int .u32 tt, .int .u16 np, .int .u8 ns, .string dl] rfl rfl 35 _ r1 6 size35 rfl rfl (by simp [Value.oneCell']) ?_))
          refine bodyPost_ret (v := .tuple #[.agg #[.bool true, .int .u16 pg, .int .u32 tt, .int .u16 np, .int .u8 ns, .string dl], .bool true]) ?_ rfl (HG.out _ _ HR.out (below_setRow ab (by omega) _))
          exact ret_cell2 (fn := Try.f56) rfl _ _ (w.heap.size + 1) 35 #[.bool true, .int .u16 pg, .int .u32 tt, .int .u16 np, .int .u8 ns, .string dl] _ _ rfl rfl (r1.set _) Try.underlying35 rfl size35
      · have hks' : ((k : Int) == (s : Int)) = false := by simp; omega
        clear hcw cb hcell
        go_wp2
        go_roundw
        case rel => exact ⟨k + 1, by go_num, by omega, (by first | rfl | trivial), fun q => hno.out (by omega)⟩
        case measure => simp [intOf]; omega
    · have hkn' : ¬ (k : Int) < (n : Int) := by omega
      have HR : Hid (rgot os s = (O.zero, false)) := by
        show _ = _
        by_cases q : s < k
        · exact hno.out q
        · exact HN1.out (by omega)
      go_wp2_with (first
        | (refine build_none rfl 35 rfl _ built35 ?_)
        | (refine store_cells rfl 35 (.tmp 4) (.tmp 31) rfl (w.heap.size + 1) #[.bool false, .int .u16 0, .int .u32 0, .int .u16 0, .int .u8 0, .string ByteArray.empty] rfl rfl 35 _ r1 6 size35 rfl rfl (by simp [Value.oneCell']) ?_))
      refine bodyPost_ret (v := .tuple #[.agg #[.bool false, .int .u16 0, .int .u32 0, .int .u16 0, .int .u8 0, .string ByteArray.empty], .bool false]) ?_ rfl (HG.out _ _ HR.out (below_setRow ab (by omega) _))
      exact ret_cell2 (fn := Try.f56) rfl _ _ (w.heap.size + 1) 35 #[.bool false, .int .u16 0, .int .u32 0, .int .u16 0, .int .u8 0, .string ByteArray.empty] _ _ rfl rfl (r1.set _) Try.underlying35 rfl size35
end Go.Proofs.Ytihjapfgllokgab
namespace Go.Proofs.Ytihjapfgllokgab
open Go.ChangeShapes Go.WideShapes Go.ChangeAt Go.RowKit
set_option linter.unusedVariables false
set_option linter.unusedSimpArgs false
set_option maxRecDepth 20000

/-- What the document answers: a page, and whether. -/
def AnsB (w : World) (lsn : Int) (os : List O) (b : Bool) (e : Ending) (w' : World) : Prop := ∃ v', e = .returned (.tuple #[.agg #[.int .u64 lsn, v'], .bool b]) ∧ Own w' w.heap.size v' os ∧ Below w.heap.size w w'
theorem rgot_at {os : List O} {s : Nat} {o : O} (h : rgot os s = (o, true)) : os[s]? = some o := by
  unfold rgot at h
  cases e : os[s]? with
  | none => rw [e] at h; simp at h
  | some p =>
    rw [e] at h
    simp only at h
    split at h
    · simp at h; rw [h]
    · simp at h
set_option maxHeartbeats 4000000 in
theorem rcut_ok (lsn : Int) (v : Value) (os : List O) (s : Nat) (hs : s < 256) (w : World) (ho : Olds w v os) (o : O) (hg : rgot os s = (o, true)) (hmy : may os = true) (hof : ∀ o ∈ os, o.Fits) :
    Calls Try.prog 39 #[.agg #[.int .u64 lsn, v], .int .u8 s] w fun e w' => AnsB w lsn (os.set s { o with np := 0, ns := 0 }) true e w' := by
  have hat : os[s]? = some o := rgot_at hg
  have hlen := (may_small hmy).1
  have hsl : s < os.length := (List.getElem?_eq_some_iff.1 hat).1
  have HAT : Hid _ := hat
  clear hat
  obtain ⟨oa, cap, rfl, _⟩ := ho.open
  obtain ⟨n, HN⟩ : ∃ n, Hid (os.length = n) := ⟨_, rfl⟩
  rw [HN.out] at ho hlen hsl ⊢
  have hz := zero64
  have hz3 := zero35
  have hws : IntKind.i64.wrap (s : Int) = s := by rw [IntKind.wrap_i64]; omega
  have hsn' : (s : Int) < (n : Int) := by omega
  have r0 : Row ((w.alloc (.cells #[.int .u64 lsn, .slice oa n cap] 64)).alloc (.cells #[.int .u64 0, .slice none 0 0] 64)) w.heap.size #[.int .u64 lsn, .slice oa n cap] 64 := (Row.new _ _ _).alloc _
  have r1 : Row ((w.alloc (.cells #[.int .u64 lsn, .slice oa n cap] 64)).alloc (.cells #[.int .u64 0, .slice none 0 0] 64)) (w.heap.size + 1) #[.int .u64 0, .slice none 0 0] 64 := by have := Row.new (w.alloc (.cells #[.int .u64 lsn, .slice oa n cap] 64)) #[.int .u64 0, .slice none 0 0] 64; simpa using this
  have ab : Below w.heap.size w ((w.alloc (.cells #[.int .u64 lsn, .slice oa n cap] 64)).alloc (.cells #[.int .u64 0, .slice none 0 0] 64)) := ((Below.refl _ _).alloc (Nat.le_refl _) _).alloc (by simp) _
  have hw1 : Hid (w.heap.size + 2 ≤ ((w.alloc (.cells #[.int .u64 lsn, .slice oa n cap] 64)).alloc (.cells #[.int .u64 0, .slice none 0 0] 64)).heap.size) := by simp [Hid]
  go_enter Try.func39, Try.ntmps39
  go_upto_region 1 with fail
  generalize (w.alloc (.cells #[.int .u64 lsn, .slice oa n cap] 64)).alloc (.cells #[.int .u64 0, .slice none 0 0] 64) = w1 at r0 r1 ab hw1 ⊢
  have hget := rgets_any lsn _ os s hs w1 (ho.keep ab) (by rw [HN.out]; omega)
  rw [hg] at hget
  have rg := range_two r0
  have tl : Hid (1 = 1) := rfl
  have ts : Hid (1 = 1) := rfl
  go_upto_region 2 with (first
    | (have hh := tl; clear hh tl; refine wpList_load_mid rfl 64 (.tmp 2) rfl w.heap.size 0 rfl [.int .u64 lsn, .slice oa n cap] _ rg Try.underlying64 rfl size64 ?_)
    | (go_at_call 56; refine hget.mono ?_; rintro e w2 ⟨rfl, b2⟩
       have y0 : Row (w2.alloc (.cells #[.bool false, .int .u16 0, .int .u32 0, .int .u16 0, .int .u8 0, .string ByteArray.empty] 35)) w2.heap.size #[.bool false, .int .u16 0, .int .u32 0, .int .u16 0, .int .u8 0, .string ByteArray.empty] 35 := Row.new _ _ _)
    | (have hh := ts; clear hh ts; refine store_cells rfl 35 (.tmp 6) (.tmp 13) rfl w2.heap.size o.arr rfl rfl 35 _ y0 6 size35 rfl rfl (arr_one _) ?_))
  have b3 : Below w2.heap.size w2 ((w2.alloc (.cells #[.bool false, .int .u16 0, .int .u32 0, .int .u16 0, .int .u8 0, .string ByteArray.empty] 35)).setRow w2.heap.size o.arr) := below_setRow ((Below.refl _ _).alloc (Nat.le_refl _) _) (Nat.le_refl _) _
  have q0 := (r0.below b2 r0.lt).below b3 (r0.below b2 r0.lt).lt
  have q1 := (r1.below b2 r1.lt).below b3 (r1.below b2 r1.lt).lt
  have B2 : Below w.heap.size w w2 := ab.trans (b2.mono ab.size)
  have B3 : Below w.heap.size w ((w2.alloc (.cells #[.bool false, .int .u16 0, .int .u32 0, .int .u16 0, .int .u8 0, .string ByteArray.empty] 35)).setRow w2.heap.size o.arr) := B2.trans (b3.mono B2.size)
  have hw3 : Hid (w.heap.size + 2 ≤ ((w2.alloc (.cells #[.bool false, .int .u16 0, .int .u32 0, .int .u16 0, .int .u8 0, .string ByteArray.empty] 35)).setRow w2.heap.size o.arr).heap.size) := Nat.le_trans hw1.out (Nat.le_trans b2.size b3.size)
  clear b2 b3 y0 r0 r1 ab hw1 hget rg B2
  generalize (w2.alloc (.cells #[.bool false, .int .u16 0, .int .u32 0, .int .u16 0, .int .u8 0, .string ByteArray.empty] 35)).setRow w2.heap.size o.arr = w3 at q0 q1 B3 hw3 ⊢
  have hmay := rmay_any lsn _ os w3 (ho.keep B3) hof
  rw [hmy] at hmay
  go_upto_region 4 with (first
    | (refine load_cells_g rfl 64 (.tmp 2) rfl w.heap.size rfl 64 #[.int .u64 lsn, .slice oa n cap] q0 2 Try.underlying64 rfl size64 rfl ?_)
    | (go_at_call 54; refine hmay.mono ?_; clear hmay; rintro e w3b ⟨rfl, b3b⟩))
  have q0 := q0.below b3b q0.lt
  have q1 := q1.below b3b q1.lt
  have B3 := B3.trans (b3b.mono B3.size)
  have hw3 : Hid (w.heap.size + 2 ≤ w3b.heap.size) := Nat.le_trans hw3.out b3b.size
  have hcl := kept_any lsn _ os w3b (ho.keep B3) (by rw [HN.out]; omega)
  have rg := range_two q0
  have tl : Hid (1 = 1) := rfl
  have ts : Hid (1 = 1) := rfl
  go_upto_region 5 with (first
    | (have hh := tl; clear hh tl; refine wpList_load_mid rfl 64 (.tmp 2) rfl w.heap.size 0 rfl [.int .u64 lsn, .slice oa n cap] _ rg Try.underlying64 rfl size64 ?_)
    | (go_at_call 55; refine hcl.mono ?_; rintro e w4 ⟨v', rfl, hO, b4⟩
       obtain ⟨g, cap', rfl, hgb⟩ := hO.blkS (by rw [HN.out]; omega)
       rw [HN.out] at hO ⊢
       have y0 : Row (w4.alloc (.cells #[.int .u64 0, .slice none 0 0] 64)) w4.heap.size #[.int .u64 0, .slice none 0 0] 64 := Row.new _ _ _)
    | (have hh := ts; clear hh ts; refine store_cells rfl 64 (.tmp 8) (.tmp 24) rfl w4.heap.size #[.int .u64 lsn, .slice (some ⟨g, 0, none⟩) n cap'] rfl rfl 64 _ y0 2 size64 rfl rfl (by simp [Value.oneCell']) ?_))
  have b5 : Below w4.heap.size w4 ((w4.alloc (.cells #[.int .u64 0, .slice none 0 0] 64)).setRow w4.heap.size #[.int .u64 lsn, .slice (some ⟨g, 0, none⟩) n cap']) := below_setRow ((Below.refl _ _).alloc (Nat.le_refl _) _) (Nat.le_refl _) _
  have p1 := (q1.below b4 q1.lt).below b5 (q1.below b4 q1.lt).lt
  have pQ : Row ((w4.alloc (.cells #[.int .u64 0, .slice none 0 0] 64)).setRow w4.heap.size #[.int .u64 lsn, .slice (some ⟨g, 0, none⟩) n cap']) w4.heap.size #[.int .u64 lsn, .slice (some ⟨g, 0, none⟩) n cap'] 64 := y0.set _
  have B5 : Below w.heap.size w ((w4.alloc (.cells #[.int .u64 0, .slice none 0 0] 64)).setRow w4.heap.size #[.int .u64 lsn, .slice (some ⟨g, 0, none⟩) n cap']) := (B3.trans (b4.mono B3.size)).trans (b5.mono (Nat.le_trans B3.size b4.size))
  have hO5 := hO.keep b5
  have hgQ : Hid (g < w4.heap.size) := (World.ownsRow.lt hO g (by simp [Value.ownBlock])).2
  have hgw : Hid (w.heap.size + 2 ≤ g) := Nat.le_trans hw3.out hgb
  have hQw : Hid (w.heap.size + 2 ≤ w4.heap.size) := Nat.le_trans hw3.out b4.size
  have hcp : Hid (n ≤ cap') := by
    rcases hO.2 with ⟨q, _⟩ | ⟨g', c', cur, q, _, _, hle, _⟩
    · cases q
    · cases q; rw [← HN.out]; exact hle
  clear b5 y0 hO q0 q1 rg hcl b4 hgb hw3
  generalize (w4.alloc (.cells #[.int .u64 0, .slice none 0 0] 64)).setRow w4.heap.size #[.int .u64 lsn, .slice (some ⟨g, 0, none⟩) n cap'] = w5 at p1 pQ B5 hO5 ⊢
  generalize w4.heap.size = Q at pQ hgQ hQw ⊢
  have cQ := row_at pQ 1 _ rfl
  have th : w5.there g (s * 6 + 3) 2 := fun j hj => by
    have := hO5.there s (by rw [HN.out]; omega) (3 + j) (by omega)
    rw [← Nat.add_assoc] at this; exact this
  have tl : Hid (1 = 1) := rfl
  go_upto_region 6 with (first
    | (refine build_none rfl 33 rfl _ built33 ?_)
    | (have hh := tl; clear hh tl; refine wpList_store_mid rfl 33 (.tmp 30) (.tmp 28) rfl g (s * 6 + 3) #[.int .u16 0, .int .u8 0] rfl rfl th size33 (by simp [Value.oneCell']) ?_))
  have hO6 : Own (w5.setCells g (s * 6 + 3) [.int .u16 0, .int .u8 0]) w3b.heap.size (.slice (some ⟨g, 0, none⟩) n cap') (os.set s { o with np := 0, ns := 0 }) := hO5.putNext s o HAT.out
  have s1 : Row (w5.setCells g (s * 6 + 3) [.int .u16 0, .int .u8 0]) (w.heap.size + 1) #[.int .u64 0, .slice none 0 0] 64 := p1.cells g (by have := hgw.out; omega) _ _
  have sQ : Row (w5.setCells g (s * 6 + 3) [.int .u16 0, .int .u8 0]) Q #[.int .u64 lsn, .slice (some ⟨g, 0, none⟩) n cap'] 64 := pQ.cells g (by have := hgQ.out; omega) _ _
  have B6 : Below w.heap.size w (w5.setCells g (s * 6 + 3) [.int .u16 0, .int .u8 0]) := below_setCells (by have := hgw.out; omega) _ _ _ B5
  clear th cQ hO5 p1 pQ B5
  generalize w5.setCells g (s * 6 + 3) [.int .u16 0, .int .u8 0] = w6 at hO6 s1 sQ B6 ⊢
  have rz := range_two sQ
  have tz : Hid (1 = 1) := rfl
  go_wp2_with (first
    | (have hh := tz; clear hh tz; refine wpList_load_mid rfl 64 (.tmp 8) rfl Q 0 rfl [.int .u64 lsn, .slice (some ⟨g, 0, none⟩) n cap'] _ rz Try.underlying64 rfl size64 ?_)
    | (refine store_cells rfl 64 (.tmp 4) (.tmp 31) rfl (w.heap.size + 1) #[.int .u64 lsn, .slice (some ⟨g, 0, none⟩) n cap'] rfl rfl 64 _ s1 2 size64 rfl rfl (by simp [Value.oneCell']) ?_))
  refine bodyPost_ret (v := .tuple #[.agg #[.int .u64 lsn, .slice (some ⟨g, 0, none⟩) n cap'], .bool true]) ?_ rfl ⟨_, rfl, (hO6.row (w.heap.size + 1) _ (by have := hgw.out; omega)).base (by have := B3.size; omega), below_setRow B6 (by omega) _⟩
  exact ret_cell2 (fn := Try.f39) rfl _ _ (w.heap.size + 1) 64 _ _ _ rfl rfl (s1.set _) Try.underlying64 rfl size64
end Go.Proofs.Ytihjapfgllokgab
namespace Go.Proofs.Ytihjapfgllokgab
open Go.ChangeShapes Go.WideShapes Go.ChangeAt Go.RowKit
set_option linter.unusedVariables false
set_option linter.unusedSimpArgs false
set_option maxRecDepth 20000

set_option maxHeartbeats 4000000 in
theorem rcut_bad (lsn : Int) (v : Value) (os : List O) (s : Nat) (hs : s < 256) (w : World) (ho : Olds w v os) (hl : os.length ≤ 1000000000) (hof : ∀ o ∈ os, o.Fits) (hb : ((rgot os s).2 && may os) = false) :
    Calls Try.prog 39 #[.agg #[.int .u64 lsn, v], .int .u8 s] w fun e w' => AnsB w 0 [] false e w' := by
  have HG : Hid (∀ w', Below w.heap.size w w' → AnsB w 0 [] false (.returned (.tuple #[.agg #[.int .u64 0, .slice none 0 0], .bool false])) w') := fun w' b => ⟨.slice none 0 0, rfl, ⟨rfl, Or.inl ⟨rfl, rfl⟩⟩, b⟩
  generalize AnsB w 0 [] false = PP at HG ⊢
  have HGT : Hid (∀ w', Below w.heap.size w w' → Calls Try.prog 56 #[.agg #[.int .u64 lsn, v], .int .u8 s] w' fun e w'' => Got w' (rgot os s) e w'') := fun w' b => rgets_any lsn v os s hs w' (ho.keep b) hl
  have HMY : Hid (∀ w', Below w.heap.size w w' → Calls Try.prog 54 #[.agg #[.int .u64 lsn, v]] w' fun e w'' => e = .returned (.bool (may os)) ∧ Below w'.heap.size w' w'') := fun w' b => rmay_any lsn v os w' (ho.keep b) hof
  obtain ⟨oa, cap, rfl, _⟩ := ho.open
  clear ho
  obtain ⟨n, HN⟩ : ∃ n, Hid (os.length = n) := ⟨_, rfl⟩
  rw [HN.out] at HGT HMY ⊢
  obtain ⟨⟨o, ok⟩, hro⟩ : ∃ x, rgot os s = x := ⟨_, rfl⟩
  rw [hro] at hb HGT
  simp only at hb
  obtain ⟨my, hmo⟩ : ∃ x, may os = x := ⟨_, rfl⟩
  rw [hmo] at hb HMY
  clear hro hmo
  have hz := zero64
  have hz3 := zero35
  have r0 : Row ((w.alloc (.cells #[.int .u64 lsn, .slice oa n cap] 64)).alloc (.cells #[.int .u64 0, .slice none 0 0] 64)) w.heap.size #[.int .u64 lsn, .slice oa n cap] 64 := (Row.new _ _ _).alloc _
  have r1 : Row ((w.alloc (.cells #[.int .u64 lsn, .slice oa n cap] 64)).alloc (.cells #[.int .u64 0, .slice none 0 0] 64)) (w.heap.size + 1) #[.int .u64 0, .slice none 0 0] 64 := by have := Row.new (w.alloc (.cells #[.int .u64 lsn, .slice oa n cap] 64)) #[.int .u64 0, .slice none 0 0] 64; simpa using this
  have ab : Below w.heap.size w ((w.alloc (.cells #[.int .u64 lsn, .slice oa n cap] 64)).alloc (.cells #[.int .u64 0, .slice none 0 0] 64)) := ((Below.refl _ _).alloc (Nat.le_refl _) _).alloc (by simp) _
  go_enter Try.func39, Try.ntmps39
  go_upto_region 1 with fail
  generalize (w.alloc (.cells #[.int .u64 lsn, .slice oa n cap] 64)).alloc (.cells #[.int .u64 0, .slice none 0 0] 64) = w1 at r0 r1 ab ⊢
  go_upto_region 2 with (first
    | (refine load_cells rfl 64 (.tmp 2) rfl w.heap.size rfl 64 #[.int .u64 lsn, .slice oa n cap] r0 2 Try.underlying64 rfl size64 rfl ?_)
    | (go_at_call 56; refine (HGT.out _ ab).mono ?_; clear HGT; rintro e w2 ⟨rfl, b2⟩
       have y0 : Row (w2.alloc (.cells #[.bool false, .int .u16 0, .int .u32 0, .int .u16 0, .int .u8 0, .string ByteArray.empty] 35)) w2.heap.size #[.bool false, .int .u16 0, .int .u32 0, .int .u16 0, .int .u8 0, .string ByteArray.empty] 35 := Row.new _ _ _)
    | (refine store_cells rfl 35 (.tmp 6) (.tmp 13) rfl w2.heap.size o.arr rfl rfl 35 _ y0 6 size35 rfl rfl (arr_one _) ?_))
  have r0 := r0.below b2 r0.lt
  have r1 := r1.below b2 r1.lt
  have l2 := r1.lt
  have ab := ab.trans (b2.mono ab.size)
  have r0 := (r0.alloc (.cells #[.bool false, .int .u16 0, .int .u32 0, .int .u16 0, .int .u8 0, .string ByteArray.empty] 35)).other (g := w2.heap.size) (by omega) o.arr
  have r1 := (r1.alloc (.cells #[.bool false, .int .u16 0, .int .u32 0, .int .u16 0, .int .u8 0, .string ByteArray.empty] 35)).other (g := w2.heap.size) (by omega) o.arr
  have ab := below_setRow (ab.alloc ab.size (.cells #[.bool false, .int .u16 0, .int .u32 0, .int .u16 0, .int .u8 0, .string ByteArray.empty] 35)) ab.size o.arr
  clear b2 y0
  show Code.wp _ _ _ _ ((w2.alloc (.cells #[.bool false, .int .u16 0, .int .u32 0, .int .u16 0, .int .u8 0, .string ByteArray.empty] 35)).setRow w2.heap.size o.arr)
  generalize (w2.alloc (.cells #[.bool false, .int .u16 0, .int .u32 0, .int .u16 0, .int .u8 0, .string ByteArray.empty] 35)).setRow w2.heap.size o.arr = w3 at r0 r1 ab ⊢
  generalize w2.heap.size = g2 at l2 ⊢
  cases ok
  · clear HMY hb
    go_wp2_with (first
      | (refine build_none rfl 64 rfl _ built64 ?_)
      | (refine store_cells rfl 64 (.tmp 4) (.tmp 22) rfl (w.heap.size + 1) #[.int .u64 0, .slice none 0 0] rfl rfl 64 _ r1 2 size64 rfl rfl (by simp [Value.oneCell']) ?_))
    refine bodyPost_ret (v := .tuple #[.agg #[.int .u64 0, .slice none 0 0], .bool false]) ?_ rfl (HG.out _ (below_setRow ab (by omega) _))
    exact ret_cell2 (fn := Try.f39) rfl _ _ (w.heap.size + 1) 64 #[.int .u64 0, .slice none 0 0] _ _ rfl rfl (r1.set _) Try.underlying64 rfl size64
  · obtain rfl : my = false := by simpa using hb
    clear hb
    go_wp2_with (first
      | (refine load_cells_g rfl 64 (.tmp 2) rfl w.heap.size rfl 64 #[.int .u64 lsn, .slice oa n cap] r0 2 Try.underlying64 rfl size64 rfl ?_)
      | (go_at_call 54; refine (HMY.out _ ab).mono ?_; clear HMY; rintro e w4 ⟨rfl, b4⟩)
      | (refine build_none rfl 64 rfl _ built64 ?_)
      | (refine store_cells rfl 64 (.tmp 4) (.tmp 22) rfl (w.heap.size + 1) #[.int .u64 0, .slice none 0 0] rfl rfl 64 _ (r1.below b4 r1.lt) 2 size64 rfl rfl (by simp [Value.oneCell']) ?_))
    refine bodyPost_ret (v := .tuple #[.agg #[.int .u64 0, .slice none 0 0], .bool false]) ?_ rfl (HG.out _ (below_setRow (ab.trans (b4.mono ab.size)) (by omega) _))
    exact ret_cell2 (fn := Try.f39) rfl _ _ (w.heap.size + 1) 64 #[.int .u64 0, .slice none 0 0] _ _ rfl rfl ((r1.below b4 r1.lt).set _) Try.underlying64 rfl size64

set_option maxHeartbeats 4000000 in
theorem rfree_bad (lsn : Int) (v : Value) (os : List O) (s : Nat) (hs : s < 256) (w : World) (ho : Olds w v os) (hl : os.length ≤ 1000000000) (hof : ∀ o ∈ os, o.Fits) (hb : ((rgot os s).2 && may os) = false) :
    Calls Try.prog 38 #[.agg #[.int .u64 lsn, v], .int .u8 s] w fun e w' => AnsB w 0 [] false e w' := by
  have HG : Hid (∀ w', Below w.heap.size w w' → AnsB w 0 [] false (.returned (.tuple #[.agg #[.int .u64 0, .slice none 0 0], .bool false])) w') := fun w' b => ⟨.slice none 0 0, rfl, ⟨rfl, Or.inl ⟨rfl, rfl⟩⟩, b⟩
  generalize AnsB w 0 [] false = PP at HG ⊢
  have HGT : Hid (∀ w', Below w.heap.size w w' → Calls Try.prog 56 #[.agg #[.int .u64 lsn, v], .int .u8 s] w' fun e w'' => Got w' (rgot os s) e w'') := fun w' b => rgets_any lsn v os s hs w' (ho.keep b) hl
  have HMY : Hid (∀ w', Below w.heap.size w w' → Calls Try.prog 54 #[.agg #[.int .u64 lsn, v]] w' fun e w'' => e = .returned (.bool (may os)) ∧ Below w'.heap.size w' w'') := fun w' b => rmay_any lsn v os w' (ho.keep b) hof
  obtain ⟨oa, cap, rfl, _⟩ := ho.open
  clear ho
  obtain ⟨n, HN⟩ : ∃ n, Hid (os.length = n) := ⟨_, rfl⟩
  rw [HN.out] at HGT HMY ⊢
  obtain ⟨⟨o, ok⟩, hro⟩ : ∃ x, rgot os s = x := ⟨_, rfl⟩
  rw [hro] at hb HGT
  simp only at hb
  obtain ⟨my, hmo⟩ : ∃ x, may os = x := ⟨_, rfl⟩
  rw [hmo] at hb HMY
  clear hro hmo
  have hz := zero64
  have hz3 := zero35
  have r0 : Row ((w.alloc (.cells #[.int .u64 lsn, .slice oa n cap] 64)).alloc (.cells #[.int .u64 0, .slice none 0 0] 64)) w.heap.size #[.int .u64 lsn, .slice oa n cap] 64 := (Row.new _ _ _).alloc _
  have r1 : Row ((w.alloc (.cells #[.int .u64 lsn, .slice oa n cap] 64)).alloc (.cells #[.int .u64 0, .slice none 0 0] 64)) (w.heap.size + 1) #[.int .u64 0, .slice none 0 0] 64 := by have := Row.new (w.alloc (.cells #[.int .u64 lsn, .slice oa n cap] 64)) #[.int .u64 0, .slice none 0 0] 64; simpa using this
  have ab : Below w.heap.size w ((w.alloc (.cells #[.int .u64 lsn, .slice oa n cap] 64)).alloc (.cells #[.int .u64 0, .slice none 0 0] 64)) := ((Below.refl _ _).alloc (Nat.le_refl _) _).alloc (by simp) _
  go_enter Try.func38, Try.ntmps38
  go_upto_region 1 with fail
  generalize (w.alloc (.cells #[.int .u64 lsn, .slice oa n cap] 64)).alloc (.cells #[.int .u64 0, .slice none 0 0] 64) = w1 at r0 r1 ab ⊢
  go_upto_region 2 with (first
    | (refine load_cells rfl 64 (.tmp 2) rfl w.heap.size rfl 64 #[.int .u64 lsn, .slice oa n cap] r0 2 Try.underlying64 rfl size64 rfl ?_)
    | (go_at_call 56; refine (HGT.out _ ab).mono ?_; clear HGT; rintro e w2 ⟨rfl, b2⟩
       have y0 : Row (w2.alloc (.cells #[.bool false, .int .u16 0, .int .u32 0, .int .u16 0, .int .u8 0, .string ByteArray.empty] 35)) w2.heap.size #[.bool false, .int .u16 0, .int .u32 0, .int .u16 0, .int .u8 0, .string ByteArray.empty] 35 := Row.new _ _ _)
    | (refine store_cells rfl 35 (.tmp 6) (.tmp 14) rfl w2.heap.size o.arr rfl rfl 35 _ y0 6 size35 rfl rfl (arr_one _) ?_))
  have r0 := r0.below b2 r0.lt
  have r1 := r1.below b2 r1.lt
  have l2 := r1.lt
  have ab := ab.trans (b2.mono ab.size)
  have r0 := (r0.alloc (.cells #[.bool false, .int .u16 0, .int .u32 0, .int .u16 0, .int .u8 0, .string ByteArray.empty] 35)).other (g := w2.heap.size) (by omega) o.arr
  have r1 := (r1.alloc (.cells #[.bool false, .int .u16 0, .int .u32 0, .int .u16 0, .int .u8 0, .string ByteArray.empty] 35)).other (g := w2.heap.size) (by omega) o.arr
  have ab := below_setRow (ab.alloc ab.size (.cells #[.bool false, .int .u16 0, .int .u32 0, .int .u16 0, .int .u8 0, .string ByteArray.empty] 35)) ab.size o.arr
  clear b2 y0
  show Code.wp _ _ _ _ ((w2.alloc (.cells #[.bool false, .int .u16 0, .int .u32 0, .int .u16 0, .int .u8 0, .string ByteArray.empty] 35)).setRow w2.heap.size o.arr)
  generalize (w2.alloc (.cells #[.bool false, .int .u16 0, .int .u32 0, .int .u16 0, .int .u8 0, .string ByteArray.empty] 35)).setRow w2.heap.size o.arr = w3 at r0 r1 ab ⊢
  generalize w2.heap.size = g2 at l2 ⊢
  cases ok
  · clear HMY hb
    go_wp2_with (first
      | (refine build_none rfl 64 rfl _ built64 ?_)
      | (refine store_cells rfl 64 (.tmp 4) (.tmp 23) rfl (w.heap.size + 1) #[.int .u64 0, .slice none 0 0] rfl rfl 64 _ r1 2 size64 rfl rfl (by simp [Value.oneCell']) ?_))
    refine bodyPost_ret (v := .tuple #[.agg #[.int .u64 0, .slice none 0 0], .bool false]) ?_ rfl (HG.out _ (below_setRow ab (by omega) _))
    exact ret_cell2 (fn := Try.f38) rfl _ _ (w.heap.size + 1) 64 #[.int .u64 0, .slice none 0 0] _ _ rfl rfl (r1.set _) Try.underlying64 rfl size64
  · obtain rfl : my = false := by simpa using hb
    clear hb
    go_wp2_with (first
      | (refine load_cells_g rfl 64 (.tmp 2) rfl w.heap.size rfl 64 #[.int .u64 lsn, .slice oa n cap] r0 2 Try.underlying64 rfl size64 rfl ?_)
      | (go_at_call 54; refine (HMY.out _ ab).mono ?_; clear HMY; rintro e w4 ⟨rfl, b4⟩)
      | (refine build_none rfl 64 rfl _ built64 ?_)
      | (refine store_cells rfl 64 (.tmp 4) (.tmp 23) rfl (w.heap.size + 1) #[.int .u64 0, .slice none 0 0] rfl rfl 64 _ (r1.below b4 r1.lt) 2 size64 rfl rfl (by simp [Value.oneCell']) ?_))
    refine bodyPost_ret (v := .tuple #[.agg #[.int .u64 0, .slice none 0 0], .bool false]) ?_ rfl (HG.out _ (below_setRow (ab.trans (b4.mono ab.size)) (by omega) _))
    exact ret_cell2 (fn := Try.f38) rfl _ _ (w.heap.size + 1) 64 #[.int .u64 0, .slice none 0 0] _ _ rfl rfl ((r1.below b4 r1.lt).set _) Try.underlying64 rfl size64
end Go.Proofs.Ytihjapfgllokgab
namespace Go.Proofs.Ytihjapfgllokgab
open Go.ChangeShapes Go.WideShapes Go.ChangeAt Go.RowKit
set_option linter.unusedVariables false
set_option linter.unusedSimpArgs false
set_option maxRecDepth 20000

set_option maxHeartbeats 4000000 in
theorem rfree_ok (lsn : Int) (v : Value) (os : List O) (s : Nat) (hs : s < 256) (w : World) (ho : Olds w v os) (o : O) (hg : rgot os s = (o, true)) (hmy : may os = true) (hof : ∀ o ∈ os, o.Fits) :
    Calls Try.prog 38 #[.agg #[.int .u64 lsn, v], .int .u8 s] w fun e w' => AnsB w lsn (freed os s) true e w' := by
  have hat : os[s]? = some o := rgot_at hg
  have HDZ : Hid (∀ m p, (os.set s O.zero)[m]? = some p → p.live = false → p = O.zero) := fun m p hp hl => by
    by_cases e : m = s
    · subst e
      rw [List.getElem?_set_self (by have := (List.getElem?_eq_some_iff.1 hat).1; omega)] at hp
      cases hp; rfl
    · rw [List.getElem?_set_ne (fun q => e q.symm)] at hp
      exact dead_zero hmy hp hl
  have hlen := (may_small hmy).1
  have hsl : s < os.length := (List.getElem?_eq_some_iff.1 hat).1
  have HAT : Hid _ := hat
  clear hat
  obtain ⟨oa, cap, rfl, _⟩ := ho.open
  obtain ⟨n, HN⟩ : ∃ n, Hid (os.length = n) := ⟨_, rfl⟩
  rw [HN.out] at ho hlen hsl ⊢
  have hz := zero64
  have hz3 := zero35
  have hws : IntKind.i64.wrap (s : Int) = s := by rw [IntKind.wrap_i64]; omega
  have hsn' : (s : Int) < (n : Int) := by omega
  have r0 : Row ((w.alloc (.cells #[.int .u64 lsn, .slice oa n cap] 64)).alloc (.cells #[.int .u64 0, .slice none 0 0] 64)) w.heap.size #[.int .u64 lsn, .slice oa n cap] 64 := (Row.new _ _ _).alloc _
  have r1 : Row ((w.alloc (.cells #[.int .u64 lsn, .slice oa n cap] 64)).alloc (.cells #[.int .u64 0, .slice none 0 0] 64)) (w.heap.size + 1) #[.int .u64 0, .slice none 0 0] 64 := by have := Row.new (w.alloc (.cells #[.int .u64 lsn, .slice oa n cap] 64)) #[.int .u64 0, .slice none 0 0] 64; simpa using this
  have ab : Below w.heap.size w ((w.alloc (.cells #[.int .u64 lsn, .slice oa n cap] 64)).alloc (.cells #[.int .u64 0, .slice none 0 0] 64)) := ((Below.refl _ _).alloc (Nat.le_refl _) _).alloc (by simp) _
  have hw1 : Hid (w.heap.size + 2 ≤ ((w.alloc (.cells #[.int .u64 lsn, .slice oa n cap] 64)).alloc (.cells #[.int .u64 0, .slice none 0 0] 64)).heap.size) := by simp [Hid]
  go_enter Try.func38, Try.ntmps38
  go_upto_region 1 with fail
  generalize (w.alloc (.cells #[.int .u64 lsn, .slice oa n cap] 64)).alloc (.cells #[.int .u64 0, .slice none 0 0] 64) = w1 at r0 r1 ab hw1 ⊢
  have hget := rgets_any lsn _ os s hs w1 (ho.keep ab) (by rw [HN.out]; omega)
  rw [hg] at hget
  have rg := range_two r0
  have tl : Hid (1 = 1) := rfl
  have ts : Hid (1 = 1) := rfl
  go_upto_region 2 with (first
    | (have hh := tl; clear hh tl; refine wpList_load_mid rfl 64 (.tmp 2) rfl w.heap.size 0 rfl [.int .u64 lsn, .slice oa n cap] _ rg Try.underlying64 rfl size64 ?_)
    | (go_at_call 56; refine hget.mono ?_; rintro e w2 ⟨rfl, b2⟩
       have y0 : Row (w2.alloc (.cells #[.bool false, .int .u16 0, .int .u32 0, .int .u16 0, .int .u8 0, .string ByteArray.empty] 35)) w2.heap.size #[.bool false, .int .u16 0, .int .u32 0, .int .u16 0, .int .u8 0, .string ByteArray.empty] 35 := Row.new _ _ _)
    | (have hh := ts; clear hh ts; refine store_cells rfl 35 (.tmp 6) (.tmp 14) rfl w2.heap.size o.arr rfl rfl 35 _ y0 6 size35 rfl rfl (arr_one _) ?_))
  have b3 : Below w2.heap.size w2 ((w2.alloc (.cells #[.bool false, .int .u16 0, .int .u32 0, .int .u16 0, .int .u8 0, .string ByteArray.empty] 35)).setRow w2.heap.size o.arr) := below_setRow ((Below.refl _ _).alloc (Nat.le_refl _) _) (Nat.le_refl _) _
  have q0 := (r0.below b2 r0.lt).below b3 (r0.below b2 r0.lt).lt
  have q1 := (r1.below b2 r1.lt).below b3 (r1.below b2 r1.lt).lt
  have B2 : Below w.heap.size w w2 := ab.trans (b2.mono ab.size)
  have B3 : Below w.heap.size w ((w2.alloc (.cells #[.bool false, .int .u16 0, .int .u32 0, .int .u16 0, .int .u8 0, .string ByteArray.empty] 35)).setRow w2.heap.size o.arr) := B2.trans (b3.mono B2.size)
  have hw3 : Hid (w.heap.size + 2 ≤ ((w2.alloc (.cells #[.bool false, .int .u16 0, .int .u32 0, .int .u16 0, .int .u8 0, .string ByteArray.empty] 35)).setRow w2.heap.size o.arr).heap.size) := Nat.le_trans hw1.out (Nat.le_trans b2.size b3.size)
  clear b2 b3 y0 r0 r1 ab hw1 hget rg B2
  generalize (w2.alloc (.cells #[.bool false, .int .u16 0, .int .u32 0, .int .u16 0, .int .u8 0, .string ByteArray.empty] 35)).setRow w2.heap.size o.arr = w3 at q0 q1 B3 hw3 ⊢
  have hmay := rmay_any lsn _ os w3 (ho.keep B3) hof
  rw [hmy] at hmay
  go_upto_region 4 with (first
    | (refine load_cells_g rfl 64 (.tmp 2) rfl w.heap.size rfl 64 #[.int .u64 lsn, .slice oa n cap] q0 2 Try.underlying64 rfl size64 rfl ?_)
    | (go_at_call 54; refine hmay.mono ?_; clear hmay; rintro e w3b ⟨rfl, b3b⟩))
  have q0 := q0.below b3b q0.lt
  have q1 := q1.below b3b q1.lt
  have B3 := B3.trans (b3b.mono B3.size)
  have hw3 : Hid (w.heap.size + 2 ≤ w3b.heap.size) := Nat.le_trans hw3.out b3b.size
  have hcl := kept_any lsn _ os w3b (ho.keep B3) (by rw [HN.out]; omega)
  have rg := range_two q0
  have tl : Hid (1 = 1) := rfl
  have ts : Hid (1 = 1) := rfl
  go_upto_region 5 with (first
    | (have hh := tl; clear hh tl; refine wpList_load_mid rfl 64 (.tmp 2) rfl w.heap.size 0 rfl [.int .u64 lsn, .slice oa n cap] _ rg Try.underlying64 rfl size64 ?_)
    | (go_at_call 55; refine hcl.mono ?_; rintro e w4 ⟨v', rfl, hO, b4⟩
       obtain ⟨g, cap', rfl, hgb⟩ := hO.blkS (by rw [HN.out]; omega)
       rw [HN.out] at hO ⊢
       have y0 : Row (w4.alloc (.cells #[.int .u64 0, .slice none 0 0] 64)) w4.heap.size #[.int .u64 0, .slice none 0 0] 64 := Row.new _ _ _)
    | (have hh := ts; clear hh ts; refine store_cells rfl 64 (.tmp 8) (.tmp 25) rfl w4.heap.size #[.int .u64 lsn, .slice (some ⟨g, 0, none⟩) n cap'] rfl rfl 64 _ y0 2 size64 rfl rfl (by simp [Value.oneCell']) ?_))
  have b5 : Below w4.heap.size w4 ((w4.alloc (.cells #[.int .u64 0, .slice none 0 0] 64)).setRow w4.heap.size #[.int .u64 lsn, .slice (some ⟨g, 0, none⟩) n cap']) := below_setRow ((Below.refl _ _).alloc (Nat.le_refl _) _) (Nat.le_refl _) _
  have p1 := (q1.below b4 q1.lt).below b5 (q1.below b4 q1.lt).lt
  have pQ : Row ((w4.alloc (.cells #[.int .u64 0, .slice none 0 0] 64)).setRow w4.heap.size #[.int .u64 lsn, .slice (some ⟨g, 0, none⟩) n cap']) w4.heap.size #[.int .u64 lsn, .slice (some ⟨g, 0, none⟩) n cap'] 64 := y0.set _
  have B5 : Below w.heap.size w ((w4.alloc (.cells #[.int .u64 0, .slice none 0 0] 64)).setRow w4.heap.size #[.int .u64 lsn, .slice (some ⟨g, 0, none⟩) n cap']) := (B3.trans (b4.mono B3.size)).trans (b5.mono (Nat.le_trans B3.size b4.size))
  have hO5 := hO.keep b5
  have hgQ : Hid (g < w4.heap.size) := (World.ownsRow.lt hO g (by simp [Value.ownBlock])).2
  have hgw : Hid (w.heap.size + 2 ≤ g) := Nat.le_trans hw3.out hgb
  have hQw : Hid (w.heap.size + 2 ≤ w4.heap.size) := Nat.le_trans hw3.out b4.size
  have hcp : Hid (n ≤ cap') := by
    rcases hO.2 with ⟨q, _⟩ | ⟨g', c', cur, q, _, _, hle, _⟩
    · cases q
    · cases q; rw [← HN.out]; exact hle
  clear b5 y0 hO q0 q1 rg hcl b4 hgb hw3
  generalize (w4.alloc (.cells #[.int .u64 0, .slice none 0 0] 64)).setRow w4.heap.size #[.int .u64 lsn, .slice (some ⟨g, 0, none⟩) n cap'] = w5 at p1 pQ B5 hO5 ⊢
  generalize w4.heap.size = Q at pQ hgQ hQw ⊢
  have cQ := row_at pQ 1 _ rfl
  have th := hO5.there s (by rw [HN.out]; omega)
  have tl : Hid (1 = 1) := rfl
  go_upto_region 6 with (first
    | (refine build_none rfl 35 rfl _ built35 ?_)
    | (have hh := tl; clear hh tl; refine wpList_store_mid rfl 35 (.tmp 30) (.tmp 29) rfl g (s * 6) O.zero.arr rfl rfl th size35 (arr_one _) ?_))
  have hO6 : Own (w5.setCells g (s * 6) O.zero.cells) w3b.heap.size (.slice (some ⟨g, 0, none⟩) n cap') (os.set s O.zero) := hO5.put s (by rw [HN.out]; omega) O.zero
  have s1 : Row (w5.setCells g (s * 6) O.zero.cells) (w.heap.size + 1) #[.int .u64 0, .slice none 0 0] 64 := p1.cells g (by have := hgw.out; omega) _ _
  have sQ : Row (w5.setCells g (s * 6) O.zero.cells) Q #[.int .u64 lsn, .slice (some ⟨g, 0, none⟩) n cap'] 64 := pQ.cells g (by have := hgQ.out; omega) _ _
  have B6 : Below w.heap.size w (w5.setCells g (s * 6) O.zero.cells) := below_setCells (by have := hgw.out; omega) _ _ _ B5
  clear th cQ hO5 p1 pQ B5
  show Code.wp _ _ _ _ (w5.setCells g (s * 6) O.zero.cells)
  generalize w5.setCells g (s * 6) O.zero.cells = w6 at hO6 s1 sQ B6 ⊢
  have cQ := row_at sQ 1 (.slice (some ⟨g, 0, none⟩) n cap') rfl
  have hcs := hO6.olds.open
  go_upto_region 7 with fail
  obtain ⟨L, HL⟩ : ∃ L, Hid (os.set s O.zero = L) := ⟨_, rfl⟩
  have hLl : L.length = n := by rw [← HL.out, List.length_set, HN.out]
  rw [HL.out] at hcs HDZ
  obtain ⟨oa9, cap9, hv9, hcs⟩ := hcs
  have HCS : Hid _ := hcs
  rw [hLl] at HCS hv9
  simp only [Value.slice.injEq] at hv9
  obtain ⟨rfl, _, rfl⟩ := hv9
  clear hcs
  go_loopw [9] (fun d wr => ∃ k : Nat, d = .int .i64 k ∧ k ≤ n ∧ wr = w6 ∧ Hid (endAt L n = endAt L k)) (fun d _ => (intOf d).toNat)
  case atStart => exact ⟨n, rfl, by omega, rfl, rfl⟩
  case round =>
    obtain ⟨k, rfl, hk, rfl, HO⟩ := hrel
    by_cases hkz : k = 0
    · have hgt : ¬ (k : Int) > 0 := by omega
      have HEK : Hid (endAt (os.set s O.zero) n = k) := by
        show _ = _
        rw [HL.out, HO.out, hkz]; rfl
      clear hkz
      have hkc : (k : Int) ≤ (cap' : Int) := by have := hcp.out; omega
      have hk0 : (0 : Int) ≤ (k : Int) := by omega
      have cQ7 := row_at sQ 1 (.slice (some ⟨g, 0, none⟩) n cap') rfl
      have fQ7 := row_frozen sQ 1
      have z1 : Row (wr.setCell ⟨Q, 1, none⟩ (.slice (some ⟨g, 0, none⟩) k cap')) (w.heap.size + 1) #[.int .u64 0, .slice none 0 0] 64 := row_setCell_other s1 (by have := hQw.out; omega) 1 _
      have zQ : Row (wr.setCell ⟨Q, 1, none⟩ (.slice (some ⟨g, 0, none⟩) k cap')) Q #[.int .u64 lsn, .slice (some ⟨g, 0, none⟩) k cap'] 64 := row_set sQ 1 _
      have zO : Own (wr.setCell ⟨Q, 1, none⟩ (.slice (some ⟨g, 0, none⟩) k cap')) w3b.heap.size (.slice (some ⟨g, 0, none⟩) k cap') (freed os s) := by
        unfold freed
        rw [HN.out, HEK.out]
        exact (hO6.cut k (by rw [List.length_set, HN.out]; exact hk)).apart Q 1 _ (by have := hgQ.out; omega)
      have zB : Below w.heap.size w (wr.setCell ⟨Q, 1, none⟩ (.slice (some ⟨g, 0, none⟩) k cap')) := B6.setCell (p := ⟨Q, 1, none⟩) (by show w.heap.size ≤ Q; have := hQw.out; omega) _
      go_upto_region 10 with fail
      clear cQ7 fQ7 hO6 sQ s1 B6
      generalize wr.setCell ⟨Q, 1, none⟩ (.slice (some ⟨g, 0, none⟩) k cap') = w8 at z1 zQ zO zB ⊢
      have rz := range_two zQ
      have tz : Hid (1 = 1) := rfl
      go_wp2_with (first
        | (have hh := tz; clear hh tz; refine wpList_load_mid rfl 64 (.tmp 8) rfl Q 0 rfl [.int .u64 lsn, .slice (some ⟨g, 0, none⟩) k cap'] _ rz Try.underlying64 rfl size64 ?_)
        | (refine store_cells rfl 64 (.tmp 4) (.tmp 53) rfl (w.heap.size + 1) #[.int .u64 lsn, .slice (some ⟨g, 0, none⟩) k cap'] rfl rfl 64 _ z1 2 size64 rfl rfl (by simp [Value.oneCell']) ?_))
      refine bodyPost_ret (v := .tuple #[.agg #[.int .u64 lsn, .slice (some ⟨g, 0, none⟩) k cap'], .bool true]) ?_ rfl ⟨_, rfl, (zO.row (w.heap.size + 1) _ (by have := hgw.out; omega)).base (by have := B3.size; omega), below_setRow zB (by omega) _⟩
      exact ret_cell2 (fn := Try.f38) rfl _ _ (w.heap.size + 1) 64 _ _ _ rfl rfl (z1.set _) Try.underlying64 rfl size64
    · obtain ⟨m, hm⟩ : ∃ m, k = m + 1 := ⟨k - 1, by omega⟩
      have hgt : (k : Int) > 0 := by omega
      have hm2 : IntKind.i64.wrap ((k : Int) - 1) = (m : Int) := by rw [IntKind.wrap_i64]; omega
      have hm3 : (m : Int) < (n : Int) := by omega
      obtain ⟨a9, o9, ha9, ho9, hcell⟩ := HCS.out m (by omega)
      cases ha9
      have cl := hcell 0 _ rfl
      rw [addr_zero, Addr.add_mid, Nat.zero_add] at cl
      clear hcell
      obtain ⟨lv, hlv⟩ : ∃ x, o9.live = x := ⟨_, rfl⟩
      rw [hlv] at cl
      cases lv
      · have HZ : Hid (endAt L k = endAt L m) := by
          show _ = _
          rw [hm, endAt_succ, if_pos (by rw [ho9, HDZ.out m o9 ho9 hlv])]
        have HKM : Hid (k = m + 1) := hm
        clear hlv ho9 hm hkz
        go_wp2
        go_roundw
        case rel => exact ⟨m, by go_num, by omega, (by first | rfl | trivial), by show _ = _; rw [HO.out, HZ.out]⟩
        case measure => have := HKM.out; simp [intOf]; omega
      · have HEK : Hid (endAt (os.set s O.zero) n = k) := by
          show _ = _
          rw [HL.out, HO.out, hm, endAt_succ, if_neg (by rw [ho9]; intro q; cases q; cases hlv)]
        clear hlv ho9 hm hkz
        have hkc : (k : Int) ≤ (cap' : Int) := by have := hcp.out; omega
        have hk0 : (0 : Int) ≤ (k : Int) := by omega
        have cQ7 := row_at sQ 1 (.slice (some ⟨g, 0, none⟩) n cap') rfl
        have fQ7 := row_frozen sQ 1
        have z1 : Row (wr.setCell ⟨Q, 1, none⟩ (.slice (some ⟨g, 0, none⟩) k cap')) (w.heap.size + 1) #[.int .u64 0, .slice none 0 0] 64 := row_setCell_other s1 (by have := hQw.out; omega) 1 _
        have zQ : Row (wr.setCell ⟨Q, 1, none⟩ (.slice (some ⟨g, 0, none⟩) k cap')) Q #[.int .u64 lsn, .slice (some ⟨g, 0, none⟩) k cap'] 64 := row_set sQ 1 _
        have zO : Own (wr.setCell ⟨Q, 1, none⟩ (.slice (some ⟨g, 0, none⟩) k cap')) w3b.heap.size (.slice (some ⟨g, 0, none⟩) k cap') (freed os s) := by
          unfold freed
          rw [HN.out, HEK.out]
          exact (hO6.cut k (by rw [List.length_set, HN.out]; exact hk)).apart Q 1 _ (by have := hgQ.out; omega)
        have zB : Below w.heap.size w (wr.setCell ⟨Q, 1, none⟩ (.slice (some ⟨g, 0, none⟩) k cap')) := B6.setCell (p := ⟨Q, 1, none⟩) (by show w.heap.size ≤ Q; have := hQw.out; omega) _
        go_upto_region 10 with fail
        clear cQ7 fQ7 hO6 sQ s1 B6
        generalize wr.setCell ⟨Q, 1, none⟩ (.slice (some ⟨g, 0, none⟩) k cap') = w8 at z1 zQ zO zB ⊢
        have rz := range_two zQ
        have tz : Hid (1 = 1) := rfl
        go_wp2_with (first
          | (have hh := tz; clear hh tz; refine wpList_load_mid rfl 64 (.tmp 8) rfl Q 0 rfl [.int .u64 lsn, .slice (some ⟨g, 0, none⟩) k cap'] _ rz Try.underlying64 rfl size64 ?_)
          | (refine store_cells rfl 64 (.tmp 4) (.tmp 53) rfl (w.heap.size + 1) #[.int .u64 lsn, .slice (some ⟨g, 0, none⟩) k cap'] rfl rfl 64 _ z1 2 size64 rfl rfl (by simp [Value.oneCell']) ?_))
        refine bodyPost_ret (v := .tuple #[.agg #[.int .u64 lsn, .slice (some ⟨g, 0, none⟩) k cap'], .bool true]) ?_ rfl ⟨_, rfl, (zO.row (w.heap.size + 1) _ (by have := hgw.out; omega)).base (by have := B3.size; omega), below_setRow zB (by omega) _⟩
        exact ret_cell2 (fn := Try.f38) rfl _ _ (w.heap.size + 1) 64 _ _ _ rfl rfl (z1.set _) Try.underlying64 rfl size64
end Go.Proofs.Ytihjapfgllokgab
