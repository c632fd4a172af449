/-
  Proved here: what the document's Redo answers: what the program's does.
-/
import Derived.Test.YtihjapfgllokgabQMc
namespace Go.Proofs.Ytihjapfgllokgab
open Go.ChangeShapes Go.WideShapes Go.ChangeAt Go.RowKit
set_option linter.unusedVariables false
set_option linter.unusedSimpArgs false
set_option maxRecDepth 20000

set_option maxHeartbeats 16000000 in
theorem rredo_add (no : Int) (p : List Int) (e : En) (w : World) (hno : 0 ≤ no ∧ no ≤ 65535) (hp : p.length = 224) (hb : Bytes p) (hf : e.Fits) (hm : mayR e.r = true) (hk6 : ¬ e.r.kind = 6) (hB : (decide (e.r.undo = true) && decide (e.r.no = no)) = true) (hk3 : e.r.kind = 3) :
    Calls Try.prog 20 #[.agg #[.bool true, .int .u16 no], .agg (bs p), .agg e.arr] w fun en w' => en = .returned (.tuple #[.agg (bs (redoR true no p e).1), .int .i64 (redoR true no p e).2]) ∧ Below w.heap.size w w' := by
  obtain ⟨AN, HAN⟩ : ∃ x, Hid (redoR true no p e = x) := ⟨_, rfl⟩
  rw [HAN.out]
  have hz := zero26
  have hz33 := zero37
  have hpb : (bs p).size = 224 := by rw [bs_size, hp]
  have HMY : Hid (∀ w, Calls Try.prog 34 #[.agg e.r.arr] w fun e_1 w' => e_1 = .returned (.bool (rmayB e.r)) ∧ Below w.heap.size w w') := fun w => rmayr_any e.r w hf.r
  rw [rmay_is] at HMY
  have hce : ∀ j v, e.r.cells[j]? = some v → e.arr[1 + j]? = some v := fun j v h => by rw [e.atR j]; unfold R.arr; rw [List.getElem?_toArray]; exact h
  have r0 : Row ((((w.alloc (.cells #[.bool true, .int .u16 no] 24)).alloc (.cells (bs p) 26)).alloc (.cells e.arr 39)).alloc (.cells (bs (zs 224)) 26)) w.heap.size #[.bool true, .int .u16 no] 24 := (((Row.new _ _ _).alloc _).alloc _).alloc _
  have r1 : Row ((((w.alloc (.cells #[.bool true, .int .u16 no] 24)).alloc (.cells (bs p) 26)).alloc (.cells e.arr 39)).alloc (.cells (bs (zs 224)) 26)) (w.heap.size + 1) (bs p) 26 := by have := ((Row.new (w.alloc (.cells #[.bool true, .int .u16 no] 24)) (bs p) 26).alloc (.cells e.arr 39)).alloc (.cells (bs (zs 224)) 26); simpa using this
  have r2 : Row ((((w.alloc (.cells #[.bool true, .int .u16 no] 24)).alloc (.cells (bs p) 26)).alloc (.cells e.arr 39)).alloc (.cells (bs (zs 224)) 26)) (w.heap.size + 2) e.arr 39 := by have := (Row.new ((w.alloc (.cells #[.bool true, .int .u16 no] 24)).alloc (.cells (bs p) 26)) e.arr 39).alloc (.cells (bs (zs 224)) 26); simpa using this
  have r3 : Row ((((w.alloc (.cells #[.bool true, .int .u16 no] 24)).alloc (.cells (bs p) 26)).alloc (.cells e.arr 39)).alloc (.cells (bs (zs 224)) 26)) (w.heap.size + 3) (bs (zs 224)) 26 := by have := Row.new (((w.alloc (.cells #[.bool true, .int .u16 no] 24)).alloc (.cells (bs p) 26)).alloc (.cells e.arr 39)) (bs (zs 224)) 26; simpa using this
  have rb : Below w.heap.size w ((((w.alloc (.cells #[.bool true, .int .u16 no] 24)).alloc (.cells (bs p) 26)).alloc (.cells e.arr 39)).alloc (.cells (bs (zs 224)) 26)) := ((((Below.refl _ _).alloc (Nat.le_refl _) _).alloc (by simp) _).alloc (by simp; omega) _).alloc (by simp; omega) _
  go_enter Try.func20, Try.ntmps20
  go_upto_region 1 with fail
  generalize (((w.alloc (.cells #[.bool true, .int .u16 no] 24)).alloc (.cells (bs p) 26)).alloc (.cells e.arr 39)).alloc (.cells (bs (zs 224)) 26) = w1 at r0 r1 r2 r3 rb ⊢
  have hm2 := mid_row r2 1 e.r.cells hce
  have hg4 : w.heap.size + 3 < w1.heap.size := r3.lt
  have s0 := r0.alloc (.cells R.zero.arr 37)
  have s1 := r1.alloc (.cells R.zero.arr 37)
  have s2 := r2.alloc (.cells R.zero.arr 37)
  have s3 := r3.alloc (.cells R.zero.arr 37)
  have s4 : Row (w1.alloc (.cells R.zero.arr 37)) w1.heap.size R.zero.arr 37 := Row.new _ _ _
  have sb := rb.alloc rb.size (.cells R.zero.arr 37)
  go_upto_region 2 with (first
    | (refine wpList_load_any rfl 37 (.tmp 18) rfl ⟨w.heap.size + 2, 1, none⟩ rfl e.r.cells _ hm2 Try.underlying37 rfl (by rw [size37, R.cells_length _ hf.r.len]) ?_)
    | (refine store_cells rfl 37 (.tmp 8) (.tmp 19) rfl w1.heap.size e.r.arr rfl rfl 37 _ s4 238 size37 (R.arr_size _ (zs_length _)) (R.arr_size _ hf.r.len) (R.arr_one _) ?_))
  have t0 := s0.other (g := w1.heap.size) (by omega) (e.r.arr)
  have t1 := s1.other (g := w1.heap.size) (by omega) (e.r.arr)
  have t2 := s2.other (g := w1.heap.size) (by omega) (e.r.arr)
  have t3 := s3.other (g := w1.heap.size) (by omega) (e.r.arr)
  have t4 := s4.set (e.r.arr)
  have tb := below_setRow sb (show w.heap.size ≤ w1.heap.size by omega) (e.r.arr)
  clear s0 s1 s2 s3 s4 sb
  clear r0 r1 r2 r3 rb
  clear hm2
  generalize (w1.alloc (.cells R.zero.arr 37)).setRow w1.heap.size e.r.arr = W1 at t0 t1 t2 t3 t4 tb ⊢
  generalize w1.heap.size = g4 at t4 hg4 ⊢
  rw [hm] at HMY
  have hk6b : (e.r.kind == 6) = false := by simp [hk6]
  have heq := equal24 e.r.undo true e.r.no no
  have HRR : Hid (AN = if true then redoUR no (if e.r.kind = 1 then e.r.img else p) e else redoD2 no (if e.r.kind = 1 then e.r.img else p) e) := by show _ = _; rw [← HAN.out]; unfold redoR aboutR; rw [hm, hB, decide_eq_true hk6]; rfl
  clear HAN
  rw [hB] at heq
  clear hm hk6 hB
  go_upto_region 4 with (first
    | (refine load_cells rfl 37 (.tmp 8) rfl g4 rfl 37 _ t4 238 Try.underlying37 rfl size37 (R.arr_size _ hf.r.len) ?_)
    | (go_at_call 34; refine (HMY.out _).mono ?_; clear HMY; rintro en w3 ⟨rfl, h3⟩
       have y0 := t0.below h3 t0.lt
       have y1 := t1.below h3 t1.lt
       have y2 := t2.below h3 t2.lt
       have y3 := t3.below h3 t3.lt
       have y4 := t4.below h3 t4.lt
       have yb := tb.trans (h3.mono tb.size)
       have kk := row_at y4 0 _ e.r.at0
       have hmid := R.pidMid y4)
    | (refine load_any_g rfl 24 (.tmp 29) rfl ⟨g4, 1, none⟩ rfl [.bool e.r.undo, .int .u16 e.r.no] _ hmid Try.underlying24 rfl size24 ?_)
    | (refine load_cells_g rfl 24 (.tmp 3) rfl w.heap.size rfl 24 _ y0 2 Try.underlying24 rfl size24 rfl ?_))
  clear t0 t1 t2 t3 t4 tb hmid heq hk6b h3
  have hil := hf.r.len
  have hib := hf.r.img
  have hk : ¬ e.r.kind = 1 := by omega
  have hk1 : (e.r.kind == 1) = false := by simp [hk]
  rw [if_neg hk] at HRR
  clear hk
  go_upto_region 6 with fail
  clear kk
  have v0 := y0
  have v1 := y1
  have v2 := y2
  have v3 := y3
  have v4 := y4
  have vb := yb
  clear y0 y1 y2 y3 y4 yb
  have HR0 : Hid (AN = redoUR no (p) e) := by show _ = _; rw [HRR.out]; rfl
  clear HRR
  have hPl : (p).length = 224 := hp
  have hPb : Bytes (p) := hb
  have hz82 := zero64
  have HGU : Hid _ := fun w => rgetUndo_any no (p) w hno hPl hPb
  obtain ⟨P0, HP0⟩ : ∃ x, Hid (p = x) := ⟨_, rfl⟩
  have hpb1 : (bs (p)).size = 224 := by rw [bs_size, hPl]
  rw [HP0.out] at HGU HR0 hPl hPb hpb1 v1
  obtain ⟨L0, HL0⟩ : ∃ x, Hid ((if isU no P0 then lsnOf P0 else 0) = x) := ⟨_, rfl⟩
  obtain ⟨ok, Hok⟩ : ∃ x, Hid (isU no P0 = x) := ⟨_, rfl⟩
  have k0 := row_at v0 0 _ rfl
  have k1 := row_at v0 1 _ rfl
  go_upto_region 17 with (first
    | (refine load_row rfl 26 (.tmp 4) rfl (w.heap.size + 1) rfl 26 (bs P0) v1 224 5 Try.underlying26 size26 hpb1 ?_)
    | (go_at_call 31; refine (HGU.out _).mono ?_; clear HGU; rintro en w5 ⟨v5, rfl, ho5, h5⟩
       rw [HL0.out, Hok.out]
       obtain ⟨oa, cap, rfl, _⟩ := ho5.open
       generalize hn : (if isU no P0 = true then uOf P0 else []).length = n at ho5 ⊢
       have pa0 := v0.below h5 v0.lt
       have pa1 := v1.below h5 v1.lt
       have pa2 := v2.below h5 v2.lt
       have pa3 := v3.below h5 v3.lt
       have pa4 := v4.below h5 v4.lt
       have pab := vb.trans (h5.mono vb.size)
       have pb0 := pa0.alloc (.cells #[.int .u64 0, .slice none 0 0] 64)
       have pb1 := pa1.alloc (.cells #[.int .u64 0, .slice none 0 0] 64)
       have pb2 := pa2.alloc (.cells #[.int .u64 0, .slice none 0 0] 64)
       have pb3 := pa3.alloc (.cells #[.int .u64 0, .slice none 0 0] 64)
       have pb4 := pa4.alloc (.cells #[.int .u64 0, .slice none 0 0] 64)
       have pb12 : Row (w5.alloc (.cells #[.int .u64 0, .slice none 0 0] 64)) w5.heap.size #[.int .u64 0, .slice none 0 0] 64 := Row.new _ _ _
       have pbb := pab.alloc pab.size (.cells #[.int .u64 0, .slice none 0 0] 64)
       have hg12 : g4 < w5.heap.size := pa4.lt)
    | (refine store_cells rfl 64 (.tmp 12) (.tmp 86) rfl w5.heap.size #[.int .u64 L0, .slice oa n cap] rfl rfl 64 _ pb12 2 size64 rfl rfl (by simp [Value.oneCell']) ?_))
  have pc0 := pb0.other (g := w5.heap.size) (by omega) (#[.int .u64 L0, .slice oa n cap])
  have pc1 := pb1.other (g := w5.heap.size) (by omega) (#[.int .u64 L0, .slice oa n cap])
  have pc2 := pb2.other (g := w5.heap.size) (by omega) (#[.int .u64 L0, .slice oa n cap])
  have pc3 := pb3.other (g := w5.heap.size) (by omega) (#[.int .u64 L0, .slice oa n cap])
  have pc4 := pb4.other (g := w5.heap.size) (by omega) (#[.int .u64 L0, .slice oa n cap])
  have pc12 := pb12.set (#[.int .u64 L0, .slice oa n cap])
  have pcb := below_setRow pbb (show w.heap.size ≤ w5.heap.size by omega) (#[.int .u64 L0, .slice oa n cap])
  have hbW : Below w5.heap.size w5 ((w5.alloc (.cells #[.int .u64 0, .slice none 0 0] 64)).setRow w5.heap.size #[.int .u64 L0, .slice oa n cap]) := below_setRow ((Below.refl _ _).alloc (Nat.le_refl _) _) (Nat.le_refl _) _
  clear k0 k1 hn v0 v1 v2 v3 v4 vb pa0 pa1 pa2 pa3 pa4 pab pb0 pb1 pb2 pb3 pb4 pb12 pbb h5
  generalize (w5.alloc (.cells #[.int .u64 0, .slice none 0 0] 64)).setRow w5.heap.size #[.int .u64 L0, .slice oa n cap] = W5 at pc0 pc1 pc2 pc3 pc4 pc12 pcb hbW ⊢
  obtain ⟨g12, Hg12⟩ : ∃ g, Hid (w5.heap.size = g) := ⟨_, rfl⟩
  rw [Hg12.out] at pc12 hg12 ⊢
  cases ok with
  | false =>
    have HR : Hid (AN = (zs 224, 2)) := by show _ = _; rw [HR0.out]; exact redoUR_none (Or.inl Hok.out)
    clear HR0 ho5
    go_wp2_with (first
      | (refine build_none rfl 26 rfl (bs (zs 224)) built26 ?_)
      | (refine store_row rfl 26 (.tmp 6) (.tmp 90) rfl (w.heap.size + 3) (zs 224) rfl rfl 26 _ pc3 224 size26 (by rw [bs_size, zs_length]) (zs_length _) ?_))
    refine bodyPost_ret (v := .tuple #[.agg (bs (zs 224)), .int .i64 2]) ?_ rfl ⟨by rw [HR.out], below_setRow pcb (by omega) _⟩
    exact ret_cell2 (fn := Try.f20) rfl _ _ (w.heap.size + 3) 26 _ _ (.int .i64 2) rfl rfl (pc3.set _) Try.underlying26 rfl (by rw [size26, bs_size, zs_length])
  | true =>
    rw [Hok.out, if_pos rfl] at ho5
    have hmy : may (uOf P0) = true := isU_may Hok.out
    have hfu : ∀ o ∈ uOf P0, o.Fits := readO_fits _ _ _
    have hoW := ho5.keep hbW
    have kk := row_at pc4 0 _ e.r.at0
    have ks := row_at pc4 231 _ (R.atT e.r hf.r.len 4)
    have hsl := hf.r.slot
    have hsl1 := hsl.1
    have hsl2 := hsl.2
    have hgW : g12 < W5.heap.size := pc12.lt
    have hgg : w5.heap.size ≤ g12 := Nat.le_of_eq Hg12.out
    have HRN : Hid (chgO (uOf P0) e.r = none → AN = (zs 224, 2)) := fun h => by rw [HR0.out]; exact redoUR_none (Or.inr h)
    have HRS : Hid (∀ os1, chgO (uOf P0) e.r = some os1 → AN = (putU no e.lsn os1, 0)) := fun os1 h => by rw [HR0.out]; exact redoUR_some Hok.out h
    have HFS : Hid (∀ os1, chgO (uOf P0) e.r = some os1 → (∀ o ∈ os1, o.Fits)) := fun os1 h => chgO_fits hfu hf.r.old h
    clear HL0 Hok HR0
    have hk3b : (e.r.kind == 3) = true := by simp [hk3]
    have hC3 : chgO (uOf P0) e.r = if fit (uOf P0) e.r.old && may (added (uOf P0) e.r.old) && decide ((spareAt (uOf P0) : Int) = e.r.slot) then some (added (uOf P0) e.r.old) else none := by unfold chgO; rw [if_pos hk3]
    clear hk3
    have hom := R.oldMid pc4 hf.r.len
    by_cases hE : addE (uOf P0) e.r.old = 0
    · by_cases hS : (spareAt (uOf P0) : Int) = e.r.slot
      · have hsb : ((spareAt (uOf P0) : Int) != e.r.slot) = false := by simp [hS]
        have hq : chgO (uOf P0) e.r = some (added (uOf P0) e.r.old) := by rw [hC3, addE_zero hE, decide_eq_true hS]; rfl
        have HR := show Hid _ from HRS.out _ hq
        have hfo := HFS.out _ hq
        have HAD : Hid _ := fun w h => radd_ok L0 (.slice oa n cap) (uOf P0) e.r.old w h hfu hf.r.old hE
        clear hq hC3 HRN HRS HFS hE hS
        obtain ⟨os1, Hos⟩ : ∃ x, Hid (added (uOf P0) e.r.old = x) := ⟨_, rfl⟩
        rw [Hos.out] at HR hfo
        obtain ⟨ls, Hls⟩ : ∃ l, Hid (L0 = l) := ⟨_, rfl⟩
        obtain ⟨y, Hy⟩ : ∃ y, Hid ((spareAt (uOf P0) : Int) = y) := ⟨_, rfl⟩
        rw [Hy.out] at hsb
        go_upto_region 27 with (first
          | (refine load_cells rfl 64 (.tmp 12) rfl g12 rfl 64 _ pc12 2 Try.underlying64 rfl size64 rfl ?_)
          | (refine wpList_load_any rfl 35 (.tmp 100) rfl ⟨g4, 232, none⟩ rfl [.bool e.r.old.live, .int .u16 e.r.old.page, .int .u32 e.r.old.ts, .int .u16 e.r.old.np, .int .u8 e.r.old.ns, .string e.r.old.delta] _ hom Try.underlying35 rfl size35 ?_)
          | (go_at_call 37; refine (HAD.out _ hoW).mono ?_; clear HAD; rintro en w6 ⟨v6, rfl, hv6, h6⟩
             rw [Hos.out] at hv6
             have hv6 : Hid (Own _ _ _ _) := hv6
             obtain ⟨ob, n2, cap2, rfl⟩ : ∃ a n c, v6 = .slice a n c := by obtain ⟨a, c, h⟩ := hv6.out.form; exact ⟨_, _, _, h⟩
             rw [Hls.out, Hy.out]
             have pd0 := pc0.below h6 pc0.lt
             have pd1 := pc1.below h6 pc1.lt
             have pd2 := pc2.below h6 pc2.lt
             have pd3 := pc3.below h6 pc3.lt
             have pd4 := pc4.below h6 pc4.lt
             have pd12 := pc12.below h6 pc12.lt
             have pdb := pcb.trans (h6.mono pcb.size))
          | (refine store_cells rfl 64 (.tmp 12) (.tmp 103) rfl g12 #[.int .u64 ls, .slice ob n2 cap2] rfl rfl 64 _ pd12 2 size64 rfl rfl (by simp [Value.oneCell']) ?_))
        have pe0 := pd0.other (g := g12) (by omega) (#[.int .u64 ls, .slice ob n2 cap2])
        have pe1 := pd1.other (g := g12) (by omega) (#[.int .u64 ls, .slice ob n2 cap2])
        have pe2 := pd2.other (g := g12) (by omega) (#[.int .u64 ls, .slice ob n2 cap2])
        have pe3 := pd3.other (g := g12) (by omega) (#[.int .u64 ls, .slice ob n2 cap2])
        have pe4 := pd4.other (g := g12) (by omega) (#[.int .u64 ls, .slice ob n2 cap2])
        have pe12 := pd12.set (#[.int .u64 ls, .slice ob n2 cap2])
        have peb := below_setRow pdb (show w.heap.size ≤ g12 by omega) (#[.int .u64 ls, .slice ob n2 cap2])
        clear hom pd0 pd1 pd2 pd3 pd4 pd12 pdb
        have ks := row_at pe4 231 _ (R.atT e.r hf.r.len 4)
        have ke := row_at pe2 0 _ e.at0
        have k12 := row_at pe12 0 _ rfl
        have fz := row_frozen pe12 0
        go_upto_region 30 with fail
        have hO9 : Olds ((w6.setRow g12 #[.int .u64 ls, .slice ob n2 cap2]).setCell ⟨g12, 0, none⟩ (.int .u64 e.lsn)) (.slice ob n2 cap2) os1 := ((hv6.out.setRow g12 hgW _).other g12 0 _ hgW).olds
        have z12 : Row ((w6.setRow g12 #[.int .u64 ls, .slice ob n2 cap2]).setCell ⟨g12, 0, none⟩ (.int .u64 e.lsn)) g12 #[.int .u64 e.lsn, .slice ob n2 cap2] 64 := row_set pe12 0 (.int .u64 e.lsn)
        have z0 := row_setCell_other pe0 (g := g12) (by omega) 0 (.int .u64 e.lsn)
        have z3 := row_setCell_other pe3 (g := g12) (by omega) 0 (.int .u64 e.lsn)
        have zb := peb.setCell (p := ⟨g12, 0, none⟩) (by show w.heap.size ≤ g12; omega) (.int .u64 e.lsn)
        clear ke k12 fz pe0 pe1 pe2 pe3 pe4 pe12 peb
        generalize (w6.setRow g12 #[.int .u64 ls, .slice ob n2 cap2]).setCell ⟨g12, 0, none⟩ (.int .u64 e.lsn) = W10 at z0 z3 z12 zb hO9 ⊢
        have HPU : Hid _ := fun w h => rputUndo_any no e.lsn (.slice ob n2 cap2) os1 w h hfo hno hf.lsn
        have hqn : (putU no e.lsn os1).length = 224 := putU_length _ _ _
        generalize putU no e.lsn os1 = q at HPU hqn HR
        generalize may os1 = mb at HPU
        have k1 := row_at z0 1 _ rfl
        have hz26 := zero26
        go_wp2_with (first
          | (refine load_cells rfl 64 (.tmp 12) rfl g12 rfl 64 _ z12 2 Try.underlying64 rfl size64 rfl ?_)
          | (go_at_call 40; refine (HPU.out _ hO9).mono ?_; clear HPU; rintro en w11 ⟨rfl, h11⟩
             have y3 := (z3.below h11 z3.lt).alloc (.cells (bs (zs 224)) 26)
             have y16 : Row (w11.alloc (.cells (bs (zs 224)) 26)) w11.heap.size (bs (zs 224)) 26 := Row.new _ _ _
             have yb0 := zb.trans (h11.mono zb.size)
             have yb := yb0.alloc yb0.size (.cells (bs (zs 224)) 26)
             have hlt : w.heap.size + 3 < w11.heap.size := (z3.below h11 z3.lt).lt
             have hle := yb0.size
             have x3 := y3.other (g := w11.heap.size) (by omega) (bs q)
             have x16 := y16.set (bs q)
             have xb := below_setRow yb (show w.heap.size ≤ w11.heap.size by omega) (bs q))
          | (refine store_row rfl 26 (.tmp 16) (.tmp 146) rfl w11.heap.size q rfl rfl 26 _ y16 224 size26 (by rw [bs_size, zs_length]) hqn ?_)
          | (refine load_row rfl 26 (.tmp 16) rfl w11.heap.size rfl 26 (bs q) x16 224 5 Try.underlying26 size26 (by rw [bs_size, hqn]) ?_)
          | (refine store_row rfl 26 (.tmp 6) (.tmp 148) rfl (w.heap.size + 3) q rfl rfl 26 _ x3 224 size26 (by rw [bs_size, zs_length]) hqn ?_))
        refine bodyPost_ret (v := .tuple #[.agg (bs q), .int .i64 0]) ?_ rfl ⟨by rw [HR.out], below_setRow xb (by omega) _⟩
        exact ret_cell2 (fn := Try.f20) rfl _ _ (w.heap.size + 3) 26 _ _ (.int .i64 0) rfl rfl (x3.set _) Try.underlying26 rfl (by rw [size26, bs_size, hqn])
      · have hsb : ((spareAt (uOf P0) : Int) != e.r.slot) = true := by simp [hS]
        have hq : chgO (uOf P0) e.r = none := by rw [hC3, addE_zero hE, decide_eq_false hS]; rfl
        have HR := show Hid _ from HRN.out hq
        have HAD : Hid _ := fun w h => radd_ok L0 (.slice oa n cap) (uOf P0) e.r.old w h hfu hf.r.old hE
        clear hq hC3 HRN HRS HFS hE hS
        obtain ⟨ls, Hls⟩ : ∃ l, Hid (L0 = l) := ⟨_, rfl⟩
        obtain ⟨y, Hy⟩ : ∃ y, Hid ((spareAt (uOf P0) : Int) = y) := ⟨_, rfl⟩
        rw [Hy.out] at hsb
        go_upto_region 27 with (first
          | (refine load_cells rfl 64 (.tmp 12) rfl g12 rfl 64 _ pc12 2 Try.underlying64 rfl size64 rfl ?_)
          | (refine wpList_load_any rfl 35 (.tmp 100) rfl ⟨g4, 232, none⟩ rfl [.bool e.r.old.live, .int .u16 e.r.old.page, .int .u32 e.r.old.ts, .int .u16 e.r.old.np, .int .u8 e.r.old.ns, .string e.r.old.delta] _ hom Try.underlying35 rfl size35 ?_)
          | (go_at_call 37; refine (HAD.out _ hoW).mono ?_; clear HAD; rintro en w6 ⟨v6, rfl, hv6, h6⟩
             have hv6 : Hid (Own _ _ _ _) := hv6
             obtain ⟨ob, n2, cap2, rfl⟩ : ∃ a n c, v6 = .slice a n c := by obtain ⟨a, c, h⟩ := hv6.out.form; exact ⟨_, _, _, h⟩
             rw [Hls.out, Hy.out]
             have pd0 := pc0.below h6 pc0.lt
             have pd1 := pc1.below h6 pc1.lt
             have pd2 := pc2.below h6 pc2.lt
             have pd3 := pc3.below h6 pc3.lt
             have pd4 := pc4.below h6 pc4.lt
             have pd12 := pc12.below h6 pc12.lt
             have pdb := pcb.trans (h6.mono pcb.size))
          | (refine store_cells rfl 64 (.tmp 12) (.tmp 103) rfl g12 #[.int .u64 ls, .slice ob n2 cap2] rfl rfl 64 _ pd12 2 size64 rfl rfl (by simp [Value.oneCell']) ?_))
        have pe0 := pd0.other (g := g12) (by omega) (#[.int .u64 ls, .slice ob n2 cap2])
        have pe1 := pd1.other (g := g12) (by omega) (#[.int .u64 ls, .slice ob n2 cap2])
        have pe2 := pd2.other (g := g12) (by omega) (#[.int .u64 ls, .slice ob n2 cap2])
        have pe3 := pd3.other (g := g12) (by omega) (#[.int .u64 ls, .slice ob n2 cap2])
        have pe4 := pd4.other (g := g12) (by omega) (#[.int .u64 ls, .slice ob n2 cap2])
        have pe12 := pd12.set (#[.int .u64 ls, .slice ob n2 cap2])
        have peb := below_setRow pdb (show w.heap.size ≤ g12 by omega) (#[.int .u64 ls, .slice ob n2 cap2])
        clear hom pd0 pd1 pd2 pd3 pd4 pd12 pdb
        have ks := row_at pe4 231 _ (R.atT e.r hf.r.len 4)
        go_wp2_with (first
          | (refine build_none rfl 26 rfl (bs (zs 224)) built26 ?_)
          | (refine store_row rfl 26 (.tmp 6) (.tmp 137) rfl (w.heap.size + 3) (zs 224) rfl rfl 26 _ pe3 224 size26 (by rw [bs_size, zs_length]) (zs_length _) ?_))
        refine bodyPost_ret (v := .tuple #[.agg (bs (zs 224)), .int .i64 2]) ?_ rfl ⟨by rw [HR.out], below_setRow peb (by omega) _⟩
        exact ret_cell2 (fn := Try.f20) rfl _ _ (w.heap.size + 3) 26 _ _ (.int .i64 2) rfl rfl (pe3.set _) Try.underlying26 rfl (by rw [size26, bs_size, zs_length])
    · have hEb : (addE (uOf P0) e.r.old != 0) = true := by simp [hE]
      have hq : chgO (uOf P0) e.r = none := by rw [hC3, addE_nil hE]; rfl
      have HR := show Hid _ from HRN.out hq
      have HAD : Hid _ := fun w h => radd_any L0 (.slice oa n cap) (uOf P0) e.r.old w h hfu hf.r.old
      clear hq hC3 HRN HRS HFS hE
      generalize addE (uOf P0) e.r.old = E at hEb HAD
      go_upto_region 27 with (first
        | (refine load_cells rfl 64 (.tmp 12) rfl g12 rfl 64 _ pc12 2 Try.underlying64 rfl size64 rfl ?_)
        | (refine wpList_load_any rfl 35 (.tmp 100) rfl ⟨g4, 232, none⟩ rfl [.bool e.r.old.live, .int .u16 e.r.old.page, .int .u32 e.r.old.ts, .int .u16 e.r.old.np, .int .u8 e.r.old.ns, .string e.r.old.delta] _ hom Try.underlying35 rfl size35 ?_)
        | (go_at_call 37; refine (HAD.out _ hoW).mono ?_; clear HAD; rintro en w6 ⟨ls, ob, n2, cap2, y, rfl, h6⟩
           have pd0 := pc0.below h6 pc0.lt
           have pd1 := pc1.below h6 pc1.lt
           have pd2 := pc2.below h6 pc2.lt
           have pd3 := pc3.below h6 pc3.lt
           have pd4 := pc4.below h6 pc4.lt
           have pd12 := pc12.below h6 pc12.lt
           have pdb := pcb.trans (h6.mono pcb.size))
        | (refine store_cells rfl 64 (.tmp 12) (.tmp 103) rfl g12 #[.int .u64 ls, .slice ob n2 cap2] rfl rfl 64 _ pd12 2 size64 rfl rfl (by simp [Value.oneCell']) ?_))
      have pe0 := pd0.other (g := g12) (by omega) (#[.int .u64 ls, .slice ob n2 cap2])
      have pe1 := pd1.other (g := g12) (by omega) (#[.int .u64 ls, .slice ob n2 cap2])
      have pe2 := pd2.other (g := g12) (by omega) (#[.int .u64 ls, .slice ob n2 cap2])
      have pe3 := pd3.other (g := g12) (by omega) (#[.int .u64 ls, .slice ob n2 cap2])
      have pe4 := pd4.other (g := g12) (by omega) (#[.int .u64 ls, .slice ob n2 cap2])
      have pe12 := pd12.set (#[.int .u64 ls, .slice ob n2 cap2])
      have peb := below_setRow pdb (show w.heap.size ≤ g12 by omega) (#[.int .u64 ls, .slice ob n2 cap2])
      clear hom pd0 pd1 pd2 pd3 pd4 pd12 pdb
      have ks := row_at pe4 231 _ (R.atT e.r hf.r.len 4)
      go_wp2_with (first
        | (refine build_none rfl 26 rfl (bs (zs 224)) built26 ?_)
        | (refine store_row rfl 26 (.tmp 6) (.tmp 137) rfl (w.heap.size + 3) (zs 224) rfl rfl 26 _ pe3 224 size26 (by rw [bs_size, zs_length]) (zs_length _) ?_))
      refine bodyPost_ret (v := .tuple #[.agg (bs (zs 224)), .int .i64 2]) ?_ rfl ⟨by rw [HR.out], below_setRow peb (by omega) _⟩
      exact ret_cell2 (fn := Try.f20) rfl _ _ (w.heap.size + 3) 26 _ _ (.int .i64 2) rfl rfl (pe3.set _) Try.underlying26 rfl (by rw [size26, bs_size, zs_length])
end Go.Proofs.Ytihjapfgllokgab
