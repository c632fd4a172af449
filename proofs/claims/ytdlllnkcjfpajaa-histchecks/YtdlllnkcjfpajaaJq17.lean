/-
  Proved here: the document's Writes, end, wrote. Proved here: the document's committed; what depends, what is ahead. Proved here: the document's follows.
-/
import Derived.Test.YtdlllnkcjfpajaaJq16
namespace Go.Proofs.Ytdlllnkcjfpajaa
open Go.ChangeShapes Go.WideShapes Go.ChangeAt Go.RowKit
set_option linter.unusedVariables false
set_option linter.unusedSimpArgs false
set_option maxRecDepth 20000
theorem rwrites_any (o : Pa.O) (w : World) : Calls Try.prog 25 #[.agg o.arr] w fun e w' => e = .returned (.bool o.com) ∧ Below w.heap.size w w' := by
  have r1 : Row (w.alloc (.cells o.arr 39)) w.heap.size o.arr 39 := Row.new _ _ _
  have b1 : Below w.heap.size w (w.alloc (.cells o.arr 39)) := (Below.refl _ _).alloc (Nat.le_refl _) _
  have HB : Hid _ := b1
  obtain ⟨st, co, dn, ⟨ra, rn, rc⟩, ⟨wa, wn, wc⟩⟩ := o
  have c2 := row_at r1 2 _ rfl
  have c4 := row_at r1 4 _ rfl
  clear r1 b1
  have HC : Hid (Pa.O.com ⟨st, co, dn, ⟨ra, rn, rc⟩, ⟨wa, wn, wc⟩⟩ = (dn && decide (0 < wn))) := rfl
  rw [HC.out]
  unfold Pa.O.arr at c2 c4 HB ⊢
  simp only at c2 c4 HB ⊢
  cases dn
  · go_enter Try.func25, Try.ntmps25
    go_wp2
    go_ret
    exact ⟨rfl, HB.out⟩
  · go_enter Try.func25, Try.ntmps25
    go_wp2
    go_ret
    exact ⟨rfl, HB.out⟩
theorem rend_any (o : Pa.O) (w : World) : Calls Try.prog 52 #[.agg o.arr] w fun e w' => e = .returned (.int .u32 o.en) ∧ Below w.heap.size w w' := by
  have r1 : Row (w.alloc (.cells o.arr 39)) w.heap.size o.arr 39 := Row.new _ _ _
  have b1 : Below w.heap.size w (w.alloc (.cells o.arr 39)) := (Below.refl _ _).alloc (Nat.le_refl _) _
  have hcom := rwrites_any o (w.alloc (.cells o.arr 39))
  have HKEEP : Hid (∀ wb, Below (w.alloc (.cells o.arr 39)).heap.size (w.alloc (.cells o.arr 39)) wb → Below w.heap.size w wb ∧ wb.cell? ⟨w.heap.size, 0, none⟩ = some (.int .u32 o.start) ∧ wb.cell? ⟨w.heap.size, 1, none⟩ = some (.int .u32 o.commit)) := fun wb h =>
    have r2 : Row wb w.heap.size o.arr 39 := r1.below h (by simp)
    ⟨⟨h.os.trans b1.os, h.tape.trans b1.tape, h.output.trans b1.output, Nat.le_trans b1.size h.size, fun k hk => (h.block k (by have := b1.size; omega)).trans (b1.block k hk)⟩, row_at r2 0 _ rfl, row_at r2 1 _ rfl⟩
  clear b1
  cases hc : o.com
  · have HE : Hid (o.en = o.start) := by show _ = _; unfold Pa.O.en; rw [hc]; rfl
    rw [HE.out]
    rw [hc] at hcom
    go_enter Try.func52, Try.ntmps52
    go_wp2_with (first
      | (refine wpList_load_any rfl 39 (.tmp 1) rfl ⟨w.heap.size, 0, none⟩ rfl o.cells _ (fun j v hj => by rw [Addr.add_mid, Nat.zero_add, cell_of_row _ _ _ _ _ _ r1]; rw [← hj]; show o.cells.toArray[j]? = _; rw [List.getElem?_toArray]) Try.underlying39 rfl Pa.size39 ?_)
      | (go_at_call 25; refine hcom.mono ?_; clear hcom; rintro e wb ⟨he, hb⟩; obtain rfl := he; obtain ⟨k1, k2, k3⟩ := HKEEP.out _ hb))
    go_ret
    exact ⟨rfl, k1⟩
  · have HE : Hid (o.en = o.commit) := by show _ = _; unfold Pa.O.en; rw [hc]; rfl
    rw [HE.out]
    rw [hc] at hcom
    go_enter Try.func52, Try.ntmps52
    go_wp2_with (first
      | (refine wpList_load_any rfl 39 (.tmp 1) rfl ⟨w.heap.size, 0, none⟩ rfl o.cells _ (fun j v hj => by rw [Addr.add_mid, Nat.zero_add, cell_of_row _ _ _ _ _ _ r1]; rw [← hj]; show o.cells.toArray[j]? = _; rw [List.getElem?_toArray]) Try.underlying39 rfl Pa.size39 ?_)
      | (go_at_call 25; refine hcom.mono ?_; clear hcom; rintro e wb ⟨he, hb⟩; obtain rfl := he; obtain ⟨k1, k2, k3⟩ := HKEEP.out _ hb))
    go_ret
    exact ⟨rfl, k1⟩
theorem old_page {w : World} {s : Sl} {ws : List Int} (h : Pg.Olds w (.slice s.a s.n s.c) (ws.map gO)) : s.n = ws.length ∧ ∀ (j : Nat) x, ws[j]? = some x → ∃ b, s.a = some b ∧ w.cell? (b.add j) = some (.int .u16 x) := by
  obtain ⟨oa, cap, e, hc⟩ := Pg.Olds.hold h
  injection e with e1 e2 e3
  refine ⟨by simpa using e2, fun j x hx => ?_⟩
  obtain ⟨a, x0, ha, ho, hcell⟩ := hc j (by rw [List.length_map]; exact (List.getElem?_eq_some_iff.1 hx).1)
  rw [List.getElem?_map, hx] at ho
  have e0 : x = x0 := by
    have := Option.some.inj ho
    exact congrArg Pg.O.x this
  subst e0
  have := hcell 0 _ (rfl : ([.int .u16 x] : List Value)[0]? = some _)
  rw [Pg.add_add, Nat.mul_one, Nat.add_zero] at this
  exact ⟨a, by rw [e1, ha], this⟩
theorem old_seen {w : World} {s : Sl} {rs : List (Int × Int)} (h : Sn.Olds w (.slice s.a s.n s.c) (rs.map sO)) : s.n = rs.length ∧ ∀ (j : Nat) v, rs[j]? = some v → ∃ b, s.a = some b ∧ ∀ q u, ([.int .u16 v.1, .int .u32 v.2] : List Value)[q]? = some u → w.cell? ((b.add (j * 2)).add q) = some u := by
  obtain ⟨oa, cap, e, hc⟩ := Sn.Olds.hold h
  injection e with e1 e2 e3
  refine ⟨by simpa using e2, fun j v hx => ?_⟩
  obtain ⟨a, x0, x1, ha, ho, hcell⟩ := hc j (by rw [List.length_map]; exact (List.getElem?_eq_some_iff.1 hx).1)
  rw [List.getElem?_map, hx] at ho
  have e0 : v = (x0, x1) := by
    have := Option.some.inj ho
    exact Prod.ext (congrArg Sn.O.page this) (congrArg Sn.O.ts this)
  subst e0
  exact ⟨a, by rw [e1, ha], hcell⟩
def WroR (h : Hm) (page : Int) : Prop := h.p.dn = true ∧ page ∈ h.p.ws
theorem Says.yes {w w' : World} {P : Prop} (h : P) (hb : Below w.heap.size w w') : Says w P (.returned (.bool true)) w' := ⟨true, rfl, ⟨fun _ => h, fun _ => rfl⟩, hb⟩
theorem Says.no {w w' : World} {P : Prop} (h : ¬ P) (hb : Below w.heap.size w w') : Says w P (.returned (.bool false)) w' := ⟨false, rfl, ⟨(fun q => by cases q), fun q => absurd q h⟩, hb⟩
set_option maxHeartbeats 4000000 in
theorem wrote_any {w : World} {h : Hm} (h1 : Held1 w h) (hn : h.p.ws.length ≤ 1000) (page : Int) :
    Calls Try.prog 29 #[.agg h.o.arr, .int .u16 page] w fun e w' => Says w (WroR h page) e w' := by
  have HYES : Hid (WroR h page → ∀ w', Below w.heap.size w w' → Says w (WroR h page) (.returned (.bool true)) w') := fun q w' hb => Says.yes q hb
  have HNOT : Hid (¬ WroR h page → ∀ w', Below w.heap.size w w' → Says w (WroR h page) (.returned (.bool false)) w') := fun q w' hb => Says.no q hb
  generalize Says w (WroR h page) = PP at HYES HNOT ⊢
  obtain ⟨hwn, hpg⟩ := old_page h1.ws
  obtain ⟨⟨st, co, dn, rs, ws⟩, ⟨ra, rn, rc⟩, ⟨wa, wn, wc⟩⟩ := h
  replace hwn : wn = ws.length := hwn
  replace hn : ws.length ≤ 1000 := hn
  have HPG : Hid (∀ (j : Nat) x, ws[j]? = some x → ∃ b, wa = some b ∧ w.cell? (b.add j) = some (.int .u16 x)) := hpg
  have HWR : Hid (WroR ⟨⟨st, co, dn, rs, ws⟩, ⟨ra, rn, rc⟩, ⟨wa, wn, wc⟩⟩ page ↔ (dn = true ∧ page ∈ ws)) := Iff.rfl
  have r1 : Row (w.alloc (.cells #[.int .u32 st, .int .u32 co, .bool dn, .slice ra rn rc, .slice wa wn wc] 39)) w.heap.size #[.int .u32 st, .int .u32 co, .bool dn, .slice ra rn rc, .slice wa wn wc] 39 := Row.new _ _ _
  have b1 : Below w.heap.size w (w.alloc (.cells #[.int .u32 st, .int .u32 co, .bool dn, .slice ra rn rc, .slice wa wn wc] 39)) := (Below.refl _ _).alloc (Nat.le_refl _) _
  have c2 := row_at r1 2 _ rfl
  have c4 := row_at r1 4 _ rfl
  have HB1 : Hid _ := b1
  have HN : Hid (wn = ws.length) := hwn
  have hw9 : wn ≤ 1000 := by rw [hwn]; exact hn
  have L0 : dn = true → ∀ x ∈ ws.take 0, x ≠ page := fun _ x hx => by simp at hx
  clear h1 hpg r1 b1 hwn hn
  show Calls Try.prog 29 #[.agg #[.int .u32 st, .int .u32 co, .bool dn, .slice ra rn rc, .slice wa wn wc], .int .u16 page] w PP
  go_enter Try.func29, Try.ntmps29
  go_upto_region 2 with fail
  generalize w.alloc (.cells #[.int .u32 st, .int .u32 co, .bool dn, .slice ra rn rc, .slice wa wn wc] 39) = w1 at c2 c4 HB1 ⊢
  generalize w.heap.size = X at c2 c4 ⊢
  go_loopw [10] (fun q wr => ∃ j : Nat, q = .int .i64 (j : Int) ∧ j ≤ wn ∧ Hid (wr = w1) ∧ (dn = true → ∀ x ∈ ws.take j, x ≠ page)) (fun q _ => 1001 - (intOf q).toNat)
  case atStart => exact ⟨0, rfl, Nat.zero_le _, rfl, L0⟩
  case round =>
    clear L0
    obtain ⟨j, rfl, hj, hww, hL⟩ := hrel; obtain rfl := hww.out
    have HL : Hid (dn = true → ∀ x ∈ ws.take j, x ≠ page) := hL
    clear hL
    by_cases hlt : j < wn
    · have hlt' : (j : Int) < (wn : Int) := by omega
      have hj0 : (0 : Int) ≤ (j : Int) := by omega
      obtain ⟨x, hx⟩ : ∃ x, ws[j]? = some x := ⟨_, List.getElem?_eq_getElem (by rw [← HN.out]; exact hlt)⟩
      obtain ⟨b, rfl, hcx⟩ := HPG.out j x hx
      replace hcx := cell_keep hcx HB1.out
      have HX : Hid (ws[j]? = some x) := hx
      have HNX : Hid (∀ (q : dn = true → x ≠ page), dn = true → ∀ y ∈ ws.take (j + 1), y ≠ page) := fun q hd y hy => by
        obtain ⟨q1, q2⟩ := List.getElem?_eq_some_iff.1 HX.out
        rw [List.take_succ_eq_append_getElem q1, q2] at hy
        rcases List.mem_append.1 hy with hy | hy
        · exact HL.out hd y hy
        · simp at hy; subst hy; exact q hd
      clear hx
      by_cases hp : x = page
      · cases dn with
        | true =>
          have hfin := HYES.out (HWR.out.2 ⟨rfl, by rw [← hp]; exact List.mem_of_getElem? HX.out⟩) _ HB1.out
          subst hp
          go_wp2
          exact hfin
        | false =>
          subst hp
          have HL2 : Hid (false = true → ∀ y ∈ ws.take (j + 1), y ≠ x) := HNX.out (fun q => by cases q)
          go_wp2
          go_roundw
          case rel => exact ⟨j + 1, by go_num, by omega, by first | exact rfl | exact trivial, HL2.out⟩
          case measure => simp [intOf]; omega
      · have HL2 : Hid (dn = true → ∀ y ∈ ws.take (j + 1), y ≠ page) := HNX.out (fun _ => hp)
        go_wp2
        go_roundw
        case rel => exact ⟨j + 1, by go_num, by omega, by first | exact rfl | exact trivial, HL2.out⟩
        case measure => simp [intOf]; omega
    · have hlt' : ¬ (j : Int) < (wn : Int) := by omega
      have hfin := HNOT.out (fun q => by
        obtain ⟨q1, q2⟩ := HWR.out.1 q
        have e : j = ws.length := by rw [← HN.out]; omega
        have := HL.out q1 page (by rw [e, List.take_length]; exact q2)
        exact this rfl) _ HB1.out
      go_wp2
      exact hfin
theorem Says.calls_yes {fn : Nat} {args : Array Value} {w : World} {P : Prop} (h : Calls Try.prog fn args w fun e w' => Says w P e w') (hp : P) : Calls Try.prog fn args w fun e w' => e = .returned (.bool true) ∧ Below w.heap.size w w' :=
  h.mono fun e w' ⟨b, he, hb, hw⟩ => ⟨by rw [he, hb.2 hp], hw⟩
theorem Says.calls_no {fn : Nat} {args : Array Value} {w : World} {P : Prop} (h : Calls Try.prog fn args w fun e w' => Says w P e w') (hp : ¬ P) : Calls Try.prog fn args w fun e w' => e = .returned (.bool false) ∧ Below w.heap.size w w' :=
  h.mono fun e w' ⟨b, he, hb, hw⟩ => ⟨by cases b; exact he; exact absurd (hb.1 rfl) hp, hw⟩
def FolR (ps : List Hm) (page ts : Int) (b : Nat) : Prop := ∃ h, ps[b]? = some h ∧ WroR h page ∧ ts < h.p.co ∧ ∀ x ∈ ps, WroR x page → ¬ (ts < x.p.co ∧ x.p.co < h.p.co)
def DepR (ps : List Hm) (a b : Nat) : Prop := a ≠ b ∧ ∃ x y, ps[a]? = some x ∧ ps[b]? = some y ∧ x.p.dn = true ∧ y.p.dn = true ∧ ((∃ v ∈ y.p.rs, WroR x v.1 ∧ x.p.co = v.2) ∨ ∃ p ∈ x.p.ws, FolR ps p x.p.co b)
def AheR (ps : List Hm) (a b : Nat) : Prop := a ≠ b ∧ ∃ x y, ps[a]? = some x ∧ ps[b]? = some y ∧ x.p.dn = true ∧ y.p.dn = true ∧ x.p.en ≤ y.p.st
def ComR (ps : List Hm) (v : Int × Int) : Prop := ∃ x ∈ ps, WroR x v.1 ∧ x.p.co = v.2
theorem take_all {α : Type} {l : List α} {P : α → Prop} {j : Nat} {x : α} (hx : l[j]? = some x) (h : ∀ y ∈ l.take j, P y) (hp : P x) : ∀ y ∈ l.take (j + 1), P y := fun y hy => by
  obtain ⟨q1, q2⟩ := List.getElem?_eq_some_iff.1 hx
  rw [List.take_succ_eq_append_getElem q1, q2] at hy
  rcases List.mem_append.1 hy with hy | hy
  · exact h y hy
  · simp at hy; subst hy; exact hp
set_option maxHeartbeats 4000000 in
theorem committed_any {w : World} {v : Value} {ps : List Hm} (hh : Helds w v ps) (hn : ps.length ≤ 1000) (s : Int × Int) :
    Calls Try.prog 31 #[v, .agg #[.int .u16 s.1, .int .u32 s.2]] w fun e w' => Says w (ComR ps s) e w' := by
  have hz39 := Pa.zero39
  have HYES : Hid (ComR ps s → ∀ w', Below w.heap.size w w' → Says w (ComR ps s) (.returned (.bool true)) w') := fun q w' hb => Says.yes q hb
  have HNOT : Hid (¬ ComR ps s → ∀ w', Below w.heap.size w w' → Says w (ComR ps s) (.returned (.bool false)) w') := fun q w' hb => Says.no q hb
  generalize Says w (ComR ps s) = PP at HYES HNOT ⊢
  obtain ⟨oa, cap, rfl, hcs⟩ := hh.hold
  have HH : Hid _ := hh
  obtain ⟨n, HN⟩ : ∃ n, Hid (ps.length = n) := ⟨_, rfl⟩
  rw [HN.out] at hn hcs ⊢
  have HCS : Hid _ := hcs
  clear hcs hh
  have r1 : Row (w.alloc (.cells #[.int .u16 s.1, .int .u32 s.2] 46)) w.heap.size #[.int .u16 s.1, .int .u32 s.2] 46 := Row.new _ _ _
  have b1 : Below w.heap.size w (w.alloc (.cells #[.int .u16 s.1, .int .u32 s.2] 46)) := (Below.refl _ _).alloc (Nat.le_refl _) _
  have L0 : ∀ x ∈ ps.take 0, ¬ (WroR x s.1 ∧ x.p.co = s.2) := fun x hx => by simp at hx
  go_enter Try.func31, Try.ntmps31
  go_upto_region 2 with fail
  generalize w.alloc (.cells #[.int .u16 s.1, .int .u32 s.2] 46) = w1 at r1 b1 ⊢
  obtain ⟨X, HX⟩ : ∃ X, Hid (w.heap.size = X) := ⟨_, rfl⟩
  rw [HX.out] at r1 ⊢
  go_loopw [9] (fun q wr => ∃ j : Nat, q = .int .i64 (j : Int) ∧ j ≤ n ∧ Row wr X #[.int .u16 s.1, .int .u32 s.2] 46 ∧ Below w.heap.size w wr ∧ (∀ x ∈ ps.take j, ¬ (WroR x s.1 ∧ x.p.co = s.2))) (fun q _ => 1001 - (intOf q).toNat)
  case atStart => exact ⟨0, rfl, Nat.zero_le _, r1, b1, L0⟩
  case round =>
    clear r1 b1 L0
    obtain ⟨j, rfl, hj, rX, hb, hL⟩ := hrel
    have HL : Hid (∀ x ∈ ps.take j, ¬ (WroR x s.1 ∧ x.p.co = s.2)) := hL
    clear hL
    by_cases hjn : j < n
    · have hjn' : (j : Int) < (n : Int) := by omega
      have hj0 : (0 : Int) ≤ (j : Int) := by omega
      obtain ⟨a, h, rfl, he, hcell⟩ := HCS.out j hjn
      have hcw : ∀ q x, h.o.cells[q]? = some x → wr.cell? ((a.add (j * 5)).add q) = some x := fun q x hq => cell_keep (hcell q x hq) hb
      have hmem : h ∈ ps := List.mem_of_getElem? he
      have h1 := (HH.out.each h hmem).keep hb
      have hfit := HH.out.fit h hmem
      have HE : Hid (ps[j]? = some h) := he
      have HM : Hid (h ∈ ps) := hmem
      clear he hcell hmem
      have tl : Hid (1 = 1) := rfl
      have q1 : Row (wr.alloc (.cells Pa.O.zero.arr 39)) wr.heap.size Pa.O.zero.arr 39 := Row.new _ _ _
      obtain ⟨k1, k2⟩ := copied wr h.o
      have hwr := wrote_any (h1.keep k2) hfit.wl s.1
      have HB : Hid (Below w.heap.size w wr) := hb
      have HRX : Hid (Row wr X #[.int .u16 s.1, .int .u32 s.2] 46) := rX
      clear hb rX h1 hfit
      go_upto_region 4 with (first
        | (have hh := tl; clear hh tl; refine wpList_load_any rfl 39 (.tmp 11) rfl (a.add (j * 5)) rfl h.o.cells _ hcw Try.underlying39 rfl Pa.size39 ?_)
        | (refine store_cells rfl 39 (.tmp 6) (.tmp 12) rfl wr.heap.size h.o.arr rfl rfl 39 _ q1 5 Pa.size39 rfl rfl h.o.arr_one ?_))
      clear q1 hcw
      generalize (wr.alloc (.cells Pa.O.zero.arr 39)).setRow wr.heap.size h.o.arr = w5 at k1 k2 hwr ⊢
      have rX5 := HRX.out.below k2 HRX.out.lt
      have HK : Hid (∀ w6, Below w5.heap.size w5 w6 → Row w6 wr.heap.size h.o.arr 39 ∧ Row w6 X #[.int .u16 s.1, .int .u32 s.2] 46 ∧ Below w.heap.size w w6) := fun w6 hb6 =>
        ⟨k1.below hb6 k1.lt, rX5.below hb6 rX5.lt, below_trans (below_trans HB.out k2) hb6⟩
      have f0 : w5.cell? ⟨X, 0, none⟩ = some (.int .u16 s.1) := row_at rX5 0 _ rfl
      clear k2 rX5 HB HRX
      generalize hY : wr.heap.size = Y at k1 HK ⊢
      clear hY
      by_cases hW : WroR h s.1
      · have hcw := Says.calls_yes hwr hW
        by_cases hc : h.p.co = s.2
        · have HYE : Hid (ComR ps s) := ⟨h, HM.out, hW, hc⟩
          clear hwr hW
          go_wp2_with (first
            | (refine wpList_load_any rfl 39 (.tmp 6) rfl ⟨Y, 0, none⟩ rfl h.o.cells _ (Pa.O.row_cells k1) Try.underlying39 rfl Pa.size39 ?_)
            | (go_at_call 29; refine hcw.mono ?_; clear hcw; rintro e w6 ⟨he, hb6⟩; obtain rfl := he; obtain ⟨z1, z2, z3⟩ := HK.out _ hb6; have g1 : w6.cell? ⟨Y, 1, none⟩ = some (.int .u32 h.p.co) := row_at z1 1 _ rfl; have g2 : w6.cell? ⟨X, 1, none⟩ = some (.int .u32 s.2) := row_at z2 1 _ rfl; have hfin := HYES.out HYE.out w6 z3))
          exact hfin
        · have HL2 : Hid (∀ x ∈ ps.take (j + 1), ¬ (WroR x s.1 ∧ x.p.co = s.2)) := take_all HE.out HL.out (fun q => hc q.2)
          clear hwr hW
          go_wp2_with (first
            | (refine wpList_load_any rfl 39 (.tmp 6) rfl ⟨Y, 0, none⟩ rfl h.o.cells _ (Pa.O.row_cells k1) Try.underlying39 rfl Pa.size39 ?_)
            | (go_at_call 29; refine hcw.mono ?_; clear hcw; rintro e w6 ⟨he, hb6⟩; obtain rfl := he; obtain ⟨z1, z2, z3⟩ := HK.out _ hb6; have g1 : w6.cell? ⟨Y, 1, none⟩ = some (.int .u32 h.p.co) := row_at z1 1 _ rfl; have g2 : w6.cell? ⟨X, 1, none⟩ = some (.int .u32 s.2) := row_at z2 1 _ rfl))
          go_roundw
          case rel => exact ⟨j + 1, by go_num, by omega, z2, z3, HL2.out⟩
          case measure => simp [intOf]; omega
      · have hcw := Says.calls_no hwr hW
        have HL2 : Hid (∀ x ∈ ps.take (j + 1), ¬ (WroR x s.1 ∧ x.p.co = s.2)) := take_all HE.out HL.out (fun q => hW q.1)
        clear hwr hW
        go_wp2_with (first
          | (refine wpList_load_any rfl 39 (.tmp 6) rfl ⟨Y, 0, none⟩ rfl h.o.cells _ (Pa.O.row_cells k1) Try.underlying39 rfl Pa.size39 ?_)
          | (go_at_call 29; refine hcw.mono ?_; clear hcw; rintro e w6 ⟨he, hb6⟩; obtain rfl := he; obtain ⟨z1, z2, z3⟩ := HK.out _ hb6))
        go_roundw
        case rel => exact ⟨j + 1, by go_num, by omega, z2, z3, HL2.out⟩
        case measure => simp [intOf]; omega
    · have hjn' : ¬ (j : Int) < (n : Int) := by omega
      have hfin := HNOT.out (fun ⟨x, q1, q2⟩ => HL.out x (by rw [List.take_of_length_le (by rw [HN.out]; omega)]; exact q1) q2) wr hb
      clear hb rX
      go_wp2
      exact hfin
theorem addr_off (p : Addr) (k : Nat) (hk : k ≠ 0) : p.add k = ⟨p.block, p.off + k, none⟩ := by unfold Addr.add; simp [hk]
set_option maxHeartbeats 4000000 in
theorem follows_any {w : World} {v : Value} {ps : List Hm} (hh : Helds w v ps) (hn : ps.length ≤ 1000) (page ts : Int) (b : Nat) (hbl : b < ps.length) :
    Calls Try.prog 30 #[v, .int .u16 page, .int .u32 ts, .int .i64 (b : Int)] w fun e w' => Says w (FolR ps page ts b) e w' := by
  have hz39 := Pa.zero39
  have HYES : Hid (FolR ps page ts b → ∀ w', Below w.heap.size w w' → Says w (FolR ps page ts b) (.returned (.bool true)) w') := fun q w' hb => Says.yes q hb
  have HNOT : Hid (¬ FolR ps page ts b → ∀ w', Below w.heap.size w w' → Says w (FolR ps page ts b) (.returned (.bool false)) w') := fun q w' hb => Says.no q hb
  generalize Says w (FolR ps page ts b) = PP at HYES HNOT ⊢
  obtain ⟨oa, cap, rfl, hcs⟩ := hh.hold
  have HH : Hid _ := hh
  obtain ⟨n, HN⟩ : ∃ n, Hid (ps.length = n) := ⟨_, rfl⟩
  rw [HN.out] at hn hcs hbl ⊢
  have HCS : Hid _ := hcs
  obtain ⟨a, y, rfl, hy, hcy⟩ := hcs b hbl
  have hb0 : (0 : Int) ≤ (b : Int) := by omega
  have hbn : (b : Int) < (n : Int) := by omega
  have hwr := wrote_any (HH.out.each y (List.mem_of_getElem? hy)) (HH.out.fit y (List.mem_of_getElem? hy)).wl page
  have HY : Hid (ps[b]? = some y) := hy
  obtain ⟨cy, HCY⟩ : ∃ cy, Hid (y.p.co = cy) := ⟨_, rfl⟩
  have HC1 : Hid (w.cell? ⟨(a.add (b * 5)).block, (a.add (b * 5)).off + 1, none⟩ = some (.int .u32 cy)) := by show _ = _; rw [← HCY.out, ← addr_off _ 1 (by decide)]; exact hcy 1 _ rfl
  clear hcs hh hy
  by_cases hW : WroR y page
  · have hcw := Says.calls_yes hwr hW
    have HWY : Hid (WroR y page) := hW
    clear hwr hW
    by_cases hts : ts < cy
    · have hts' : ¬ cy ≤ ts := by omega
      have L0 : ∀ x ∈ ps.take 0, ¬ (WroR x page ∧ ts < x.p.co ∧ x.p.co < cy) := fun x hx => by simp at hx
      go_enter Try.func30, Try.ntmps30
      go_upto_region 4 with (first
        | (refine wpList_load_any rfl 39 (.tmp 13) rfl (a.add (b * 5)) rfl y.o.cells _ hcy Try.underlying39 rfl Pa.size39 ?_)
        | (go_at_call 29; refine hcw.mono ?_; clear hcw; rintro e w2 ⟨he, hb2⟩; obtain rfl := he; have c1 := cell_keep HC1.out hb2; have BW : Hid (Below w.heap.size w w2) := hb2; clear hb2))
      have bw2 := BW.out
      clear c1 hcy BW
      go_loopw [29] (fun q wr => ∃ j : Nat, q = .int .i64 (j : Int) ∧ j ≤ n ∧ Below w.heap.size w wr ∧ (∀ x ∈ ps.take j, ¬ (WroR x page ∧ ts < x.p.co ∧ x.p.co < cy))) (fun q _ => 1001 - (intOf q).toNat)
      case atStart => exact ⟨0, rfl, Nat.zero_le _, bw2, L0⟩
      case round =>
        clear L0 bw2
        obtain ⟨j, rfl, hj, hb, hL⟩ := hrel
        have HL : Hid (∀ x ∈ ps.take j, ¬ (WroR x page ∧ ts < x.p.co ∧ x.p.co < cy)) := hL
        clear hL
        by_cases hjn : j < n
        · have hjn' : (j : Int) < (n : Int) := by omega
          have hj0 : (0 : Int) ≤ (j : Int) := by omega
          obtain ⟨a', xh, ha', he, hcell⟩ := HCS.out j hjn
          obtain rfl : a = a' := Option.some.inj ha'
          have hcw : ∀ q x, xh.o.cells[q]? = some x → wr.cell? ((a.add (j * 5)).add q) = some x := fun q x hq => cell_keep (hcell q x hq) hb
          have hmem : xh ∈ ps := List.mem_of_getElem? he
          have h1 := (HH.out.each xh hmem).keep hb
          have hfit := HH.out.fit xh hmem
          have HE : Hid (ps[j]? = some xh) := he
          have HM : Hid (xh ∈ ps) := hmem
          clear he hcell hmem ha'
          have tl : Hid (1 = 1) := rfl
          have q1 : Row (wr.alloc (.cells Pa.O.zero.arr 39)) wr.heap.size Pa.O.zero.arr 39 := Row.new _ _ _
          obtain ⟨k1, k2⟩ := copied wr xh.o
          have HB : Hid (Below w.heap.size w wr) := hb
          have HWL : Hid (xh.p.ws.length ≤ 1000) := hfit.wl
          have H1 : Hid (Held1 wr xh) := h1
          clear hb h1 hfit
          go_upto_region 6 with (first
            | (have hh := tl; clear hh tl; refine wpList_load_any rfl 39 (.tmp 31) rfl (a.add (j * 5)) rfl xh.o.cells _ hcw Try.underlying39 rfl Pa.size39 ?_)
            | (refine store_cells rfl 39 (.tmp 10) (.tmp 32) rfl wr.heap.size xh.o.arr rfl rfl 39 _ q1 5 Pa.size39 rfl rfl xh.o.arr_one ?_))
          clear q1 hcw
          have H15 : Held1 ((wr.alloc (.cells Pa.O.zero.arr 39)).setRow wr.heap.size xh.o.arr) xh := H1.out.keep k2
          generalize (wr.alloc (.cells Pa.O.zero.arr 39)).setRow wr.heap.size xh.o.arr = w5 at k1 k2 H15 ⊢
          have BW5 : Hid (Below w.heap.size w w5) := below_trans HB.out k2
          have hcy : w5.cell? ⟨(a.add (b * 5)).block, (a.add (b * 5)).off + 1, none⟩ = some (.int .u32 cy) := cell_keep HC1.out BW5.out
          have hwr := wrote_any (w := w5.drew) (h := xh) (H15.keep (Below.refl _ _).drew) HWL.out page
          clear k2 HB H1 H15
          generalize wr.heap.size = Y at k1 ⊢
          refine wp_region_held_drew (S := fun w' => Row w' Y xh.o.arr 39 ∧ w'.cell? ⟨(a.add (b * 5)).block, (a.add (b * 5)).off + 1, none⟩ = some (.int .u32 cy)) (by kernel_rfl) ⟨k1, hcy⟩ fun hS => ?_
          refine tkH (i := 0) (v := .agg xh.o.arr) rfl (by kernel_rfl) (fun _ _ _ h => h) (yields_cells (by rfl) 39 (.tmp 10) rfl Y rfl 39 xh.o.arr (fun w h => h.1) 5 Try.underlying39 rfl Pa.size39 rfl) hS ?_
          try simp only [Act.put, nz0, nz1, nz2, nz3, nz4, nz5]
          refine tkH (i := 1) (v := .int .u16 page) rfl (by kernel_rfl) (fun _ _ _ h => h) (Or.inl ⟨by rfl, fun w _ => by go_simp⟩) hS ?_
          try simp only [Act.put, nz0, nz1, nz2, nz3, nz4, nz5]
          by_cases hW : WroR xh page
          · have hcw := Says.calls_yes hwr hW
            clear hwr
            by_cases c1 : ts < xh.p.co
            · have c1' : xh.p.co > ts := c1
              by_cases c2 : xh.p.co < cy
              · have HNF : Hid (¬ FolR ps page ts b) := fun ⟨h, q1, q2, q3, q4⟩ => by
                  rw [HY.out] at q1; injection q1 with q1; subst q1
                  exact q4 xh HM.out hW ⟨c1, by rw [HCY.out]; exact c2⟩
                clear hW
                refine wpAnyH_ready (rs := [2]) (by kernel_rfl) (by simp) ?_
                refine AllReadyH.cons rfl (fun K hK => ?_) AllReadyH.nil
                go_simp
                go_at_call 29
                refine Calls.mono hcw ?_
                clear hcw
                rintro e wb ⟨he, hb2⟩
                obtain rfl := he
                have hb3 : Below w5.heap.size w5 wb := below_trans (Below.refl _ _).drew hb2
                have rY6 := k1.below hb3 k1.lt
                have hcy6 := cell_keep hcy hb3
                have BW6 : Hid (Below w.heap.size w wb) := below_trans BW5.out hb3
                refine hK.out _ _ ⟨rY6, hcy6⟩ fun hS => ?_
                try simp only [Act.put, nz0, nz1, nz2, nz3, nz4, nz5]
                clear k1 hcy rY6 hcy6 hb2 hb3
                have hfin := HNOT.out HNF.out _ BW6.out
                refine tkH (i := 3) (v := .bool true) rfl (by kernel_rfl) (fun _ _ _ h => h) (Or.inl ⟨by rfl, fun w _ => by go_simp⟩) hS ?_
                try simp only [Act.put, nz0, nz1, nz2, nz3, nz4, nz5]
                refine tkH (i := 4) (v := .pointer (some ⟨Y, 1, none⟩)) rfl (by kernel_rfl) (fun _ _ _ h => h) (Or.inl ⟨by rfl, fun w _ => by go_simp⟩) hS ?_
                try simp only [Act.put, nz0, nz1, nz2, nz3, nz4, nz5]
                refine tkH (i := 5) (v := .int .u32 xh.p.co) rfl (by kernel_rfl) (fun _ _ _ h => h) (Or.inl ⟨by rfl, fun w h => by have c : w.cell? ⟨Y, 1, none⟩ = some (.int .u32 xh.p.co) := row_at h.1 1 _ rfl; go_simp⟩) hS ?_
                try simp only [Act.put, nz0, nz1, nz2, nz3, nz4, nz5]
                refine tkH (i := 6) (v := .int .u32 ts) rfl (by kernel_rfl) (fun _ _ _ h => h) (Or.inl ⟨by rfl, fun w _ => by go_simp⟩) hS ?_
                try simp only [Act.put, nz0, nz1, nz2, nz3, nz4, nz5]
                refine tkH (i := 7) (v := .bool true) rfl (by kernel_rfl) (fun _ _ _ h => h) (Or.inl ⟨by rfl, fun w _ => by go_simp⟩) hS ?_
                try simp only [Act.put, nz0, nz1, nz2, nz3, nz4, nz5]
                refine tkH (i := 8) (v := .bool true) rfl (by kernel_rfl) (fun _ _ _ h => h) (Or.inl ⟨by rfl, fun w _ => by go_simp⟩) hS ?_
                try simp only [Act.put, nz0, nz1, nz2, nz3, nz4, nz5]
                refine tkH (i := 9) (v := .bool true) rfl (by kernel_rfl) (fun _ _ _ h => h) (Or.inl ⟨by rfl, fun w _ => by go_simp⟩) hS ?_
                try simp only [Act.put, nz0, nz1, nz2, nz3, nz4, nz5]
                refine tkH (i := 10) (v := .pointer (some ⟨Y, 1, none⟩)) rfl (by kernel_rfl) (fun _ _ _ h => h) (Or.inl ⟨by rfl, fun w _ => by go_simp⟩) hS ?_
                try simp only [Act.put, nz0, nz1, nz2, nz3, nz4, nz5]
                refine tkH (i := 11) (v := .int .u32 xh.p.co) rfl (by kernel_rfl) (fun _ _ _ h => h) (Or.inl ⟨by rfl, fun w h => by have c : w.cell? ⟨Y, 1, none⟩ = some (.int .u32 xh.p.co) := row_at h.1 1 _ rfl; go_simp⟩) hS ?_
                try simp only [Act.put, nz0, nz1, nz2, nz3, nz4, nz5]
                refine tkH (i := 12) (v := .slice (some a) n cap) rfl (by kernel_rfl) (fun _ _ _ h => h) (Or.inl ⟨by rfl, fun w _ => by go_simp⟩) hS ?_
                try simp only [Act.put, nz0, nz1, nz2, nz3, nz4, nz5]
                refine tkH (i := 13) (v := .int .i64 (b : Int)) rfl (by kernel_rfl) (fun _ _ _ h => h) (Or.inl ⟨by rfl, fun w _ => by go_simp⟩) hS ?_
                try simp only [Act.put, nz0, nz1, nz2, nz3, nz4, nz5]
                refine tkH (i := 14) (v := .pointer (some (a.add (b * 5)))) rfl (by kernel_rfl) (fun _ _ _ h => h) (Or.inl ⟨by rfl, fun w _ => by go_simp⟩) hS ?_
                try simp only [Act.put, nz0, nz1, nz2, nz3, nz4, nz5]
                refine tkH (i := 15) (v := .pointer (some ⟨(a.add (b * 5)).block, (a.add (b * 5)).off + 1, none⟩)) rfl (by kernel_rfl) (fun _ _ _ h => h) (Or.inl ⟨by rfl, fun w _ => by go_simp⟩) hS ?_
                try simp only [Act.put, nz0, nz1, nz2, nz3, nz4, nz5]
                refine tkH (i := 16) (v := .int .u32 cy) rfl (by kernel_rfl) (fun _ _ _ h => h) (Or.inl ⟨by rfl, fun w h => by have c := h.2; go_simp⟩) hS ?_
                try simp only [Act.put, nz0, nz1, nz2, nz3, nz4, nz5]
                refine tkH (i := 17) (v := .bool true) rfl (by kernel_rfl) (fun _ _ _ h => h) (Or.inl ⟨by rfl, fun w _ => by go_simp⟩) hS ?_
                try simp only [Act.put, nz0, nz1, nz2, nz3, nz4, nz5]
                refine tkH (i := 18) (v := .bool true) rfl (by kernel_rfl) (fun _ _ _ h => h) (Or.inl ⟨by rfl, fun w _ => by go_simp⟩) hS ?_
                try simp only [Act.put, nz0, nz1, nz2, nz3, nz4, nz5]
                refine wpAnyH_done (by kernel_rfl) ?_ _
                clear hS
                go_wp2
                exact hfin
              · have HL2 : Hid (∀ x ∈ ps.take (j + 1), ¬ (WroR x page ∧ ts < x.p.co ∧ x.p.co < cy)) := take_all HE.out HL.out (fun q => c2 q.2.2)
                clear hW
                refine wpAnyH_ready (rs := [2]) (by kernel_rfl) (by simp) ?_
                refine AllReadyH.cons rfl (fun K hK => ?_) AllReadyH.nil
                go_simp
                go_at_call 29
                refine Calls.mono hcw ?_
                clear hcw
                rintro e wb ⟨he, hb2⟩
                obtain rfl := he
                have hb3 : Below w5.heap.size w5 wb := below_trans (Below.refl _ _).drew hb2
                have rY6 := k1.below hb3 k1.lt
                have hcy6 := cell_keep hcy hb3
                have BW6 : Hid (Below w.heap.size w wb) := below_trans BW5.out hb3
                refine hK.out _ _ ⟨rY6, hcy6⟩ fun hS => ?_
                try simp only [Act.put, nz0, nz1, nz2, nz3, nz4, nz5]
                clear k1 hcy rY6 hcy6 hb2 hb3
                refine tkH (i := 3) (v := .bool true) rfl (by kernel_rfl) (fun _ _ _ h => h) (Or.inl ⟨by rfl, fun w _ => by go_simp⟩) hS ?_
                try simp only [Act.put, nz0, nz1, nz2, nz3, nz4, nz5]
                refine tkH (i := 4) (v := .pointer (some ⟨Y, 1, none⟩)) rfl (by kernel_rfl) (fun _ _ _ h => h) (Or.inl ⟨by rfl, fun w _ => by go_simp⟩) hS ?_
                try simp only [Act.put, nz0, nz1, nz2, nz3, nz4, nz5]
                refine tkH (i := 5) (v := .int .u32 xh.p.co) rfl (by kernel_rfl) (fun _ _ _ h => h) (Or.inl ⟨by rfl, fun w h => by have c : w.cell? ⟨Y, 1, none⟩ = some (.int .u32 xh.p.co) := row_at h.1 1 _ rfl; go_simp⟩) hS ?_
                try simp only [Act.put, nz0, nz1, nz2, nz3, nz4, nz5]
                refine tkH (i := 6) (v := .int .u32 ts) rfl (by kernel_rfl) (fun _ _ _ h => h) (Or.inl ⟨by rfl, fun w _ => by go_simp⟩) hS ?_
                try simp only [Act.put, nz0, nz1, nz2, nz3, nz4, nz5]
                refine tkH (i := 7) (v := .bool true) rfl (by kernel_rfl) (fun _ _ _ h => h) (Or.inl ⟨by rfl, fun w _ => by go_simp⟩) hS ?_
                try simp only [Act.put, nz0, nz1, nz2, nz3, nz4, nz5]
                refine tkH (i := 8) (v := .bool true) rfl (by kernel_rfl) (fun _ _ _ h => h) (Or.inl ⟨by rfl, fun w _ => by go_simp⟩) hS ?_
                try simp only [Act.put, nz0, nz1, nz2, nz3, nz4, nz5]
                refine tkH (i := 9) (v := .bool true) rfl (by kernel_rfl) (fun _ _ _ h => h) (Or.inl ⟨by rfl, fun w _ => by go_simp⟩) hS ?_
                try simp only [Act.put, nz0, nz1, nz2, nz3, nz4, nz5]
                refine tkH (i := 10) (v := .pointer (some ⟨Y, 1, none⟩)) rfl (by kernel_rfl) (fun _ _ _ h => h) (Or.inl ⟨by rfl, fun w _ => by go_simp⟩) hS ?_
                try simp only [Act.put, nz0, nz1, nz2, nz3, nz4, nz5]
                refine tkH (i := 11) (v := .int .u32 xh.p.co) rfl (by kernel_rfl) (fun _ _ _ h => h) (Or.inl ⟨by rfl, fun w h => by have c : w.cell? ⟨Y, 1, none⟩ = some (.int .u32 xh.p.co) := row_at h.1 1 _ rfl; go_simp⟩) hS ?_
                try simp only [Act.put, nz0, nz1, nz2, nz3, nz4, nz5]
                refine tkH (i := 12) (v := .slice (some a) n cap) rfl (by kernel_rfl) (fun _ _ _ h => h) (Or.inl ⟨by rfl, fun w _ => by go_simp⟩) hS ?_
                try simp only [Act.put, nz0, nz1, nz2, nz3, nz4, nz5]
                refine tkH (i := 13) (v := .int .i64 (b : Int)) rfl (by kernel_rfl) (fun _ _ _ h => h) (Or.inl ⟨by rfl, fun w _ => by go_simp⟩) hS ?_
                try simp only [Act.put, nz0, nz1, nz2, nz3, nz4, nz5]
                refine tkH (i := 14) (v := .pointer (some (a.add (b * 5)))) rfl (by kernel_rfl) (fun _ _ _ h => h) (Or.inl ⟨by rfl, fun w _ => by go_simp⟩) hS ?_
                try simp only [Act.put, nz0, nz1, nz2, nz3, nz4, nz5]
                refine tkH (i := 15) (v := .pointer (some ⟨(a.add (b * 5)).block, (a.add (b * 5)).off + 1, none⟩)) rfl (by kernel_rfl) (fun _ _ _ h => h) (Or.inl ⟨by rfl, fun w _ => by go_simp⟩) hS ?_
                try simp only [Act.put, nz0, nz1, nz2, nz3, nz4, nz5]
                refine tkH (i := 16) (v := .int .u32 cy) rfl (by kernel_rfl) (fun _ _ _ h => h) (Or.inl ⟨by rfl, fun w h => by have c := h.2; go_simp⟩) hS ?_
                try simp only [Act.put, nz0, nz1, nz2, nz3, nz4, nz5]
                refine tkH (i := 17) (v := .bool false) rfl (by kernel_rfl) (fun _ _ _ h => h) (Or.inl ⟨by rfl, fun w _ => by go_simp⟩) hS ?_
                try simp only [Act.put, nz0, nz1, nz2, nz3, nz4, nz5]
                refine tkH (i := 18) (v := .bool false) rfl (by kernel_rfl) (fun _ _ _ h => h) (Or.inl ⟨by rfl, fun w _ => by go_simp⟩) hS ?_
                try simp only [Act.put, nz0, nz1, nz2, nz3, nz4, nz5]
                refine wpAnyH_done (by kernel_rfl) ?_ _
                clear hS
                go_wp2
                go_roundw
                case rel => exact ⟨j + 1, by go_num, by omega, BW6.out, HL2.out⟩
                case measure => simp [intOf]; omega
            · have c1' : ¬ xh.p.co > ts := c1
              have HL2 : Hid (∀ x ∈ ps.take (j + 1), ¬ (WroR x page ∧ ts < x.p.co ∧ x.p.co < cy)) := take_all HE.out HL.out (fun q => c1 q.2.1)
              clear hW
              refine wpAnyH_ready (rs := [2]) (by kernel_rfl) (by simp) ?_
              refine AllReadyH.cons rfl (fun K hK => ?_) AllReadyH.nil
              go_simp
              go_at_call 29
              refine Calls.mono hcw ?_
              clear hcw
              rintro e wb ⟨he, hb2⟩
              obtain rfl := he
              have hb3 : Below w5.heap.size w5 wb := below_trans (Below.refl _ _).drew hb2
              have rY6 := k1.below hb3 k1.lt
              have hcy6 := cell_keep hcy hb3
              have BW6 : Hid (Below w.heap.size w wb) := below_trans BW5.out hb3
              refine hK.out _ _ ⟨rY6, hcy6⟩ fun hS => ?_
              try simp only [Act.put, nz0, nz1, nz2, nz3, nz4, nz5]
              clear k1 hcy rY6 hcy6 hb2 hb3
              refine tkH (i := 3) (v := .bool true) rfl (by kernel_rfl) (fun _ _ _ h => h) (Or.inl ⟨by rfl, fun w _ => by go_simp⟩) hS ?_
              try simp only [Act.put, nz0, nz1, nz2, nz3, nz4, nz5]
              refine tkH (i := 4) (v := .pointer (some ⟨Y, 1, none⟩)) rfl (by kernel_rfl) (fun _ _ _ h => h) (Or.inl ⟨by rfl, fun w _ => by go_simp⟩) hS ?_
              try simp only [Act.put, nz0, nz1, nz2, nz3, nz4, nz5]
              refine tkH (i := 5) (v := .int .u32 xh.p.co) rfl (by kernel_rfl) (fun _ _ _ h => h) (Or.inl ⟨by rfl, fun w h => by have c : w.cell? ⟨Y, 1, none⟩ = some (.int .u32 xh.p.co) := row_at h.1 1 _ rfl; go_simp⟩) hS ?_
              try simp only [Act.put, nz0, nz1, nz2, nz3, nz4, nz5]
              refine tkH (i := 6) (v := .int .u32 ts) rfl (by kernel_rfl) (fun _ _ _ h => h) (Or.inl ⟨by rfl, fun w _ => by go_simp⟩) hS ?_
              try simp only [Act.put, nz0, nz1, nz2, nz3, nz4, nz5]
              refine tkH (i := 7) (v := .bool false) rfl (by kernel_rfl) (fun _ _ _ h => h) (Or.inl ⟨by rfl, fun w _ => by go_simp⟩) hS ?_
              try simp only [Act.put, nz0, nz1, nz2, nz3, nz4, nz5]
              refine tkH (i := 8) (v := .bool false) rfl (by kernel_rfl) (fun _ _ _ h => h) (Or.inl ⟨by rfl, fun w _ => by go_simp⟩) hS ?_
              try simp only [Act.put, nz0, nz1, nz2, nz3, nz4, nz5]
              refine tkH (i := 9) (v := .bool false) rfl (by kernel_rfl) (fun _ _ _ h => h) (Or.inl ⟨by rfl, fun w _ => by go_simp⟩) hS ?_
              try simp only [Act.put, nz0, nz1, nz2, nz3, nz4, nz5]
              refine tkH (i := 10) (v := undef) rfl (by kernel_rfl) (fun _ _ _ h => h) (Or.inr ⟨by rfl, rfl⟩) hS ?_
              try simp only [Act.put, nz0, nz1, nz2, nz3, nz4, nz5]
              refine tkH (i := 11) (v := undef) rfl (by kernel_rfl) (fun _ _ _ h => h) (Or.inr ⟨by rfl, rfl⟩) hS ?_
              try simp only [Act.put, nz0, nz1, nz2, nz3, nz4, nz5]
              refine tkH (i := 12) (v := undef) rfl (by kernel_rfl) (fun _ _ _ h => h) (Or.inr ⟨by rfl, rfl⟩) hS ?_
              try simp only [Act.put, nz0, nz1, nz2, nz3, nz4, nz5]
              refine tkH (i := 13) (v := undef) rfl (by kernel_rfl) (fun _ _ _ h => h) (Or.inr ⟨by rfl, rfl⟩) hS ?_
              try simp only [Act.put, nz0, nz1, nz2, nz3, nz4, nz5]
              refine tkH (i := 14) (v := undef) rfl (by kernel_rfl) (fun _ _ _ h => h) (Or.inr ⟨by rfl, rfl⟩) hS ?_
              try simp only [Act.put, nz0, nz1, nz2, nz3, nz4, nz5]
              refine tkH (i := 15) (v := undef) rfl (by kernel_rfl) (fun _ _ _ h => h) (Or.inr ⟨by rfl, rfl⟩) hS ?_
              try simp only [Act.put, nz0, nz1, nz2, nz3, nz4, nz5]
              refine tkH (i := 16) (v := undef) rfl (by kernel_rfl) (fun _ _ _ h => h) (Or.inr ⟨by rfl, rfl⟩) hS ?_
              try simp only [Act.put, nz0, nz1, nz2, nz3, nz4, nz5]
              refine tkH (i := 17) (v := undef) rfl (by kernel_rfl) (fun _ _ _ h => h) (Or.inr ⟨by rfl, rfl⟩) hS ?_
              try simp only [Act.put, nz0, nz1, nz2, nz3, nz4, nz5]
              refine tkH (i := 18) (v := .bool false) rfl (by kernel_rfl) (fun _ _ _ h => h) (Or.inl ⟨by rfl, fun w _ => by go_simp⟩) hS ?_
              try simp only [Act.put, nz0, nz1, nz2, nz3, nz4, nz5]
              refine wpAnyH_done (by kernel_rfl) ?_ _
              clear hS
              go_wp2
              go_roundw
              case rel => exact ⟨j + 1, by go_num, by omega, BW6.out, HL2.out⟩
              case measure => simp [intOf]; omega
          · have hcw := Says.calls_no hwr hW
            have HL2 : Hid (∀ x ∈ ps.take (j + 1), ¬ (WroR x page ∧ ts < x.p.co ∧ x.p.co < cy)) := take_all HE.out HL.out (fun q => hW q.1)
            clear hwr hW
            refine wpAnyH_ready (rs := [2]) (by kernel_rfl) (by simp) ?_
            refine AllReadyH.cons rfl (fun K hK => ?_) AllReadyH.nil
            go_simp
            go_at_call 29
            refine Calls.mono hcw ?_
            clear hcw
            rintro e wb ⟨he, hb2⟩
            obtain rfl := he
            have hb3 : Below w5.heap.size w5 wb := below_trans (Below.refl _ _).drew hb2
            have rY6 := k1.below hb3 k1.lt
            have hcy6 := cell_keep hcy hb3
            have BW6 : Hid (Below w.heap.size w wb) := below_trans BW5.out hb3
            refine hK.out _ _ ⟨rY6, hcy6⟩ fun hS => ?_
            try simp only [Act.put, nz0, nz1, nz2, nz3, nz4, nz5]
            clear k1 hcy rY6 hcy6 hb2 hb3
            refine tkH (i := 3) (v := .bool false) rfl (by kernel_rfl) (fun _ _ _ h => h) (Or.inl ⟨by rfl, fun w _ => by go_simp⟩) hS ?_
            try simp only [Act.put, nz0, nz1, nz2, nz3, nz4, nz5]
            refine tkH (i := 4) (v := undef) rfl (by kernel_rfl) (fun _ _ _ h => h) (Or.inr ⟨by rfl, rfl⟩) hS ?_
            try simp only [Act.put, nz0, nz1, nz2, nz3, nz4, nz5]
            refine tkH (i := 5) (v := undef) rfl (by kernel_rfl) (fun _ _ _ h => h) (Or.inr ⟨by rfl, rfl⟩) hS ?_
            try simp only [Act.put, nz0, nz1, nz2, nz3, nz4, nz5]
            refine tkH (i := 6) (v := undef) rfl (by kernel_rfl) (fun _ _ _ h => h) (Or.inr ⟨by rfl, rfl⟩) hS ?_
            try simp only [Act.put, nz0, nz1, nz2, nz3, nz4, nz5]
            refine tkH (i := 7) (v := undef) rfl (by kernel_rfl) (fun _ _ _ h => h) (Or.inr ⟨by rfl, rfl⟩) hS ?_
            try simp only [Act.put, nz0, nz1, nz2, nz3, nz4, nz5]
            refine tkH (i := 8) (v := .bool false) rfl (by kernel_rfl) (fun _ _ _ h => h) (Or.inl ⟨by rfl, fun w _ => by go_simp⟩) hS ?_
            try simp only [Act.put, nz0, nz1, nz2, nz3, nz4, nz5]
            refine tkH (i := 9) (v := .bool false) rfl (by kernel_rfl) (fun _ _ _ h => h) (Or.inl ⟨by rfl, fun w _ => by go_simp⟩) hS ?_
            try simp only [Act.put, nz0, nz1, nz2, nz3, nz4, nz5]
            refine tkH (i := 10) (v := undef) rfl (by kernel_rfl) (fun _ _ _ h => h) (Or.inr ⟨by rfl, rfl⟩) hS ?_
            try simp only [Act.put, nz0, nz1, nz2, nz3, nz4, nz5]
            refine tkH (i := 11) (v := undef) rfl (by kernel_rfl) (fun _ _ _ h => h) (Or.inr ⟨by rfl, rfl⟩) hS ?_
            try simp only [Act.put, nz0, nz1, nz2, nz3, nz4, nz5]
            refine tkH (i := 12) (v := undef) rfl (by kernel_rfl) (fun _ _ _ h => h) (Or.inr ⟨by rfl, rfl⟩) hS ?_
            try simp only [Act.put, nz0, nz1, nz2, nz3, nz4, nz5]
            refine tkH (i := 13) (v := undef) rfl (by kernel_rfl) (fun _ _ _ h => h) (Or.inr ⟨by rfl, rfl⟩) hS ?_
            try simp only [Act.put, nz0, nz1, nz2, nz3, nz4, nz5]
            refine tkH (i := 14) (v := undef) rfl (by kernel_rfl) (fun _ _ _ h => h) (Or.inr ⟨by rfl, rfl⟩) hS ?_
            try simp only [Act.put, nz0, nz1, nz2, nz3, nz4, nz5]
            refine tkH (i := 15) (v := undef) rfl (by kernel_rfl) (fun _ _ _ h => h) (Or.inr ⟨by rfl, rfl⟩) hS ?_
            try simp only [Act.put, nz0, nz1, nz2, nz3, nz4, nz5]
            refine tkH (i := 16) (v := undef) rfl (by kernel_rfl) (fun _ _ _ h => h) (Or.inr ⟨by rfl, rfl⟩) hS ?_
            try simp only [Act.put, nz0, nz1, nz2, nz3, nz4, nz5]
            refine tkH (i := 17) (v := undef) rfl (by kernel_rfl) (fun _ _ _ h => h) (Or.inr ⟨by rfl, rfl⟩) hS ?_
            try simp only [Act.put, nz0, nz1, nz2, nz3, nz4, nz5]
            refine tkH (i := 18) (v := .bool false) rfl (by kernel_rfl) (fun _ _ _ h => h) (Or.inl ⟨by rfl, fun w _ => by go_simp⟩) hS ?_
            try simp only [Act.put, nz0, nz1, nz2, nz3, nz4, nz5]
            refine wpAnyH_done (by kernel_rfl) ?_ _
            clear hS
            go_wp2
            go_roundw
            case rel => exact ⟨j + 1, by go_num, by omega, BW6.out, HL2.out⟩
            case measure => simp [intOf]; omega
        · have hjn' : ¬ (j : Int) < (n : Int) := by omega
          have hfin := HYES.out ⟨y, HY.out, HWY.out, by rw [HCY.out]; exact hts, fun x q1 q2 q3 => HL.out x (by rw [List.take_of_length_le (by rw [HN.out]; omega)]; exact q1) ⟨q2, q3.1, by rw [← HCY.out]; exact q3.2⟩⟩ wr hb
          clear hb
          go_wp2
          exact hfin
    · have hts' : cy ≤ ts := by omega
      have HNF : Hid (¬ FolR ps page ts b) := fun ⟨h, q1, q2, q3, q4⟩ => by
        rw [HY.out] at q1; injection q1 with q1; subst q1
        rw [HCY.out] at q3; omega
      go_enter Try.func30, Try.ntmps30
      go_wp2_with (first
        | (refine wpList_load_any rfl 39 (.tmp 13) rfl (a.add (b * 5)) rfl y.o.cells _ hcy Try.underlying39 rfl Pa.size39 ?_)
        | (go_at_call 29; refine hcw.mono ?_; clear hcw; rintro e w2 ⟨he, hb2⟩; obtain rfl := he; have c1 := cell_keep HC1.out hb2; have hfin := HNOT.out HNF.out w2 hb2; clear hb2))
      exact hfin
  · have hcw := Says.calls_no hwr hW
    have HNF : Hid (¬ FolR ps page ts b) := fun ⟨h, q1, q2, q3, q4⟩ => by
      rw [HY.out] at q1; injection q1 with q1; subst q1
      exact hW q2
    clear hwr hW
    go_enter Try.func30, Try.ntmps30
    go_wp2_with (first
      | (refine wpList_load_any rfl 39 (.tmp 13) rfl (a.add (b * 5)) rfl y.o.cells _ hcy Try.underlying39 rfl Pa.size39 ?_)
      | (go_at_call 29; refine hcw.mono ?_; clear hcw; rintro e w2 ⟨he, hb2⟩; obtain rfl := he; have hfin := HNOT.out HNF.out w2 hb2; clear hb2))
    exact hfin
end Go.Proofs.Ytdlllnkcjfpajaa
