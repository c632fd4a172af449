/-
  Proved here: what the document's Redo answers: what the program's does.
-/
import Derived.Test.YtihjapfgllokgabQMc
namespace Go.Proofs.Ytihjapfgllokgab
open Go.ChangeShapes Go.WideShapes Go.ChangeAt Go.RowKit
set_option linter.unusedVariables false
set_option linter.unusedSimpArgs false
set_option maxRecDepth 20000

set_option maxHeartbeats 16000000 in
theorem rredo_data (no : Int) (p : List Int) (e : En) (w : World) (hno : 0 ≤ no ∧ no ≤ 65535) (hp : p.length = 224) (hb : Bytes p) (hf : e.Fits) (hm : mayR e.r = true) (hk6 : ¬ e.r.kind = 6) (hB : (decide (e.r.undo = false) && decide (e.r.no = no)) = true) :
    Calls Try.prog 20 #[.agg #[.bool false, .int .u16 no], .agg (bs p), .agg e.arr] w fun en w' => en = .returned (.tuple #[.agg (bs (redoR false no p e).1), .int .i64 (redoR false no p e).2]) ∧ Below w.heap.size w w' := by
  obtain ⟨AN, HAN⟩ : ∃ x, Hid (redoR false no p e = x) := ⟨_, rfl⟩
  rw [HAN.out]
  have hz := zero26
  have hz33 := zero37
  have hpb : (bs p).size = 224 := by rw [bs_size, hp]
  have HMY : Hid (∀ w, Calls Try.prog 34 #[.agg e.r.arr] w fun e_1 w' => e_1 = .returned (.bool (rmayB e.r)) ∧ Below w.heap.size w w') := fun w => rmayr_any e.r w hf.r
  rw [rmay_is] at HMY
  have hce : ∀ j v, e.r.cells[j]? = some v → e.arr[1 + j]? = some v := fun j v h => by rw [e.atR j]; unfold R.arr; rw [List.getElem?_toArray]; exact h
  have r0 : Row ((((w.alloc (.cells #[.bool false, .int .u16 no] 24)).alloc (.cells (bs p) 26)).alloc (.cells e.arr 39)).alloc (.cells (bs (zs 224)) 26)) w.heap.size #[.bool false, .int .u16 no] 24 := (((Row.new _ _ _).alloc _).alloc _).alloc _
  have r1 : Row ((((w.alloc (.cells #[.bool false, .int .u16 no] 24)).alloc (.cells (bs p) 26)).alloc (.cells e.arr 39)).alloc (.cells (bs (zs 224)) 26)) (w.heap.size + 1) (bs p) 26 := by have := ((Row.new (w.alloc (.cells #[.bool false, .int .u16 no] 24)) (bs p) 26).alloc (.cells e.arr 39)).alloc (.cells (bs (zs 224)) 26); simpa using this
  have r2 : Row ((((w.alloc (.cells #[.bool false, .int .u16 no] 24)).alloc (.cells (bs p) 26)).alloc (.cells e.arr 39)).alloc (.cells (bs (zs 224)) 26)) (w.heap.size + 2) e.arr 39 := by have := (Row.new ((w.alloc (.cells #[.bool false, .int .u16 no] 24)).alloc (.cells (bs p) 26)) e.arr 39).alloc (.cells (bs (zs 224)) 26); simpa using this
  have r3 : Row ((((w.alloc (.cells #[.bool false, .int .u16 no] 24)).alloc (.cells (bs p) 26)).alloc (.cells e.arr 39)).alloc (.cells (bs (zs 224)) 26)) (w.heap.size + 3) (bs (zs 224)) 26 := by have := Row.new (((w.alloc (.cells #[.bool false, .int .u16 no] 24)).alloc (.cells (bs p) 26)).alloc (.cells e.arr 39)) (bs (zs 224)) 26; simpa using this
  have rb : Below w.heap.size w ((((w.alloc (.cells #[.bool false, .int .u16 no] 24)).alloc (.cells (bs p) 26)).alloc (.cells e.arr 39)).alloc (.cells (bs (zs 224)) 26)) := ((((Below.refl _ _).alloc (Nat.le_refl _) _).alloc (by simp) _).alloc (by simp; omega) _).alloc (by simp; omega) _
  go_enter Try.func20, Try.ntmps20
  go_upto_region 1 with fail
  generalize (((w.alloc (.cells #[.bool false, .int .u16 no] 24)).alloc (.cells (bs p) 26)).alloc (.cells e.arr 39)).alloc (.cells (bs (zs 224)) 26) = w1 at r0 r1 r2 r3 rb ⊢
  have hm2 := mid_row r2 1 e.r.cells hce
  have hg4 : w.heap.size + 3 < w1.heap.size := r3.lt
  have s0 := r0.alloc (.cells R.zero.arr 37)
  have s1 := r1.alloc (.cells R.zero.arr 37)
  have s2 := r2.alloc (.cells R.zero.arr 37)
  have s3 := r3.alloc (.cells R.zero.arr 37)
  have s4 : Row (w1.alloc (.cells R.zero.arr 37)) w1.heap.size R.zero.arr 37 := Row.new _ _ _
  have sb := rb.alloc rb.size (.cells R.zero.arr 37)
  go_upto_region 2 with (first
    | (refine wpList_load_any rfl 37 (.tmp 18) rfl ⟨w.heap.size + 2, 1, none⟩ rfl e.r.cells _ hm2 Try.underlying37 rfl (by rw [size37, R.cells_length _ hf.r.len]) ?_)
    | (refine store_cells rfl 37 (.tmp 8) (.tmp 19) rfl w1.heap.size e.r.arr rfl rfl 37 _ s4 238 size37 (R.arr_size _ (zs_length _)) (R.arr_size _ hf.r.len) (R.arr_one _) ?_))
  have t0 := s0.other (g := w1.heap.size) (by omega) (e.r.arr)
  have t1 := s1.other (g := w1.heap.size) (by omega) (e.r.arr)
  have t2 := s2.other (g := w1.heap.size) (by omega) (e.r.arr)
  have t3 := s3.other (g := w1.heap.size) (by omega) (e.r.arr)
  have t4 := s4.set (e.r.arr)
  have tb := below_setRow sb (show w.heap.size ≤ w1.heap.size by omega) (e.r.arr)
  clear s0 s1 s2 s3 s4 sb
  clear r0 r1 r2 r3 rb
  clear hm2
  generalize (w1.alloc (.cells R.zero.arr 37)).setRow w1.heap.size e.r.arr = W1 at t0 t1 t2 t3 t4 tb ⊢
  generalize w1.heap.size = g4 at t4 hg4 ⊢
  rw [hm] at HMY
  have hk6b : (e.r.kind == 6) = false := by simp [hk6]
  have heq := equal24 e.r.undo false e.r.no no
  have HRR : Hid (AN = if false then redoUR no (if e.r.kind = 1 then e.r.img else p) e else redoD2 no (if e.r.kind = 1 then e.r.img else p) e) := by show _ = _; rw [← HAN.out]; unfold redoR aboutR; rw [hm, hB, decide_eq_true hk6]; rfl
  clear HAN
  rw [hB] at heq
  clear hm hk6 hB
  go_upto_region 4 with (first
    | (refine load_cells rfl 37 (.tmp 8) rfl g4 rfl 37 _ t4 238 Try.underlying37 rfl size37 (R.arr_size _ hf.r.len) ?_)
    | (go_at_call 34; refine (HMY.out _).mono ?_; clear HMY; rintro en w3 ⟨rfl, h3⟩
       have y0 := t0.below h3 t0.lt
       have y1 := t1.below h3 t1.lt
       have y2 := t2.below h3 t2.lt
       have y3 := t3.below h3 t3.lt
       have y4 := t4.below h3 t4.lt
       have yb := tb.trans (h3.mono tb.size)
       have kk := row_at y4 0 _ e.r.at0
       have hmid := R.pidMid y4)
    | (refine load_any_g rfl 24 (.tmp 29) rfl ⟨g4, 1, none⟩ rfl [.bool e.r.undo, .int .u16 e.r.no] _ hmid Try.underlying24 rfl size24 ?_)
    | (refine load_cells_g rfl 24 (.tmp 3) rfl w.heap.size rfl 24 _ y0 2 Try.underlying24 rfl size24 rfl ?_))
  clear t0 t1 t2 t3 t4 tb hmid heq hk6b h3
  have hil := hf.r.len
  have hib := hf.r.img
  by_cases hk : e.r.kind = 1
  · have hk1 : (e.r.kind == 1) = true := by simp [hk]
    rw [if_pos hk] at HRR
    have ir := World.rangeAt_of_block y4 3 224
    rw [R.imgCells e.r hf.r.len] at ir
    have HK1 := show Hid _ from hk
    clear hk
    go_upto_region 6 with (first
      | (refine wpList_load_mid rfl 26 (.tmp 38) rfl g4 3 rfl (e.r.img.map (Value.int .u8)) _ ir Try.underlying26 rfl (by rw [size26]; simp [hil]) ?_)
      | (refine store_row rfl 26 (.tmp 4) (.tmp 39) rfl (w.heap.size + 1) e.r.img rfl rfl 26 _ y1 224 size26 hpb hil ?_))
    have v0 := y0.other (g := w.heap.size + 1) (by omega) (bs e.r.img)
    have v2 := y2.other (g := w.heap.size + 1) (by omega) (bs e.r.img)
    have v3 := y3.other (g := w.heap.size + 1) (by omega) (bs e.r.img)
    have v4 := y4.other (g := w.heap.size + 1) (by omega) (bs e.r.img)
    have v1 := y1.set (bs e.r.img)
    have vb := below_setRow yb (show w.heap.size ≤ w.heap.size + 1 by omega) (bs e.r.img)
    clear ir kk y0 y1 y2 y3 y4 yb
    generalize w3.setRow (w.heap.size + 1) (bs e.r.img) = W at v0 v1 v2 v3 v4 vb ⊢
    have HR0 : Hid (AN = redoD2 no e.r.img e) := by show _ = _; rw [HRR.out]; rfl
    clear HRR
    have hPl : (e.r.img).length = 224 := hil
    have hPb : Bytes (e.r.img) := hib
    have hz74 := zero55
    have hz71 := zero52
    have HGD : Hid _ := fun w => rgetData_any no (e.r.img) w hno hPl hPb
    have hd := dOf_ok (e.r.img) hPl hPb
    obtain ⟨P0, HP0⟩ : ∃ x, Hid (e.r.img = x) := ⟨_, rfl⟩
    have hpb1 : (bs (e.r.img)).size = 224 := by rw [bs_size, hPl]
    rw [HP0.out] at HGD HR0 hPl hPb hd hpb1 v1
    obtain ⟨dd, Hdd⟩ : ∃ d, Hid (gotD no P0 = d) := ⟨_, rfl⟩
    obtain ⟨ok, Hok⟩ : ∃ x, Hid (isD no P0 = x) := ⟨_, rfl⟩
    rw [Hdd.out, Hok.out] at HGD
    have hdd : dd.body.length = 64 := by
      rw [← Hdd.out]; unfold gotD; split
      · exact hd.len
      · exact zs_length _
    have k0 := row_at v0 0 _ rfl
    have k1 := row_at v0 1 _ rfl
    go_upto_region 8 with (first
      | (refine load_row rfl 26 (.tmp 4) rfl (w.heap.size + 1) rfl 26 (bs P0) v1 224 5 Try.underlying26 size26 hpb1 ?_)
      | (go_at_call 32; refine (HGD.out _).mono ?_; clear HGD; rintro en w5 ⟨rfl, h5⟩
         have pa0 := v0.below h5 v0.lt
         have pa1 := v1.below h5 v1.lt
         have pa2 := v2.below h5 v2.lt
         have pa3 := v3.below h5 v3.lt
         have pa4 := v4.below h5 v4.lt
         have pab := vb.trans (h5.mono vb.size)
         have pb0 := pa0.alloc (.cells D.zero.arr 55)
         have pb1 := pa1.alloc (.cells D.zero.arr 55)
         have pb2 := pa2.alloc (.cells D.zero.arr 55)
         have pb3 := pa3.alloc (.cells D.zero.arr 55)
         have pb4 := pa4.alloc (.cells D.zero.arr 55)
         have pb9 : Row (w5.alloc (.cells D.zero.arr 55)) w5.heap.size D.zero.arr 55 := Row.new _ _ _
         have pbb := pab.alloc pab.size (.cells D.zero.arr 55)
         have hg9 : g4 < w5.heap.size := pa4.lt)
      | (refine store_cells rfl 55 (.tmp 9) (.tmp 48) rfl w5.heap.size dd.arr rfl rfl 55 _ pb9 68 size55 (D.arr_size _ (zs_length _)) (D.arr_size _ hdd) (D.arr_one _) ?_))
    have pc0 := pb0.other (g := w5.heap.size) (by omega) (dd.arr)
    have pc1 := pb1.other (g := w5.heap.size) (by omega) (dd.arr)
    have pc2 := pb2.other (g := w5.heap.size) (by omega) (dd.arr)
    have pc3 := pb3.other (g := w5.heap.size) (by omega) (dd.arr)
    have pc4 := pb4.other (g := w5.heap.size) (by omega) (dd.arr)
    have pc9 := pb9.set (dd.arr)
    have pcb := below_setRow pbb (show w.heap.size ≤ w5.heap.size by omega) (dd.arr)
    clear k0 k1 v0 v1 v2 v3 v4 vb pa0 pa1 pa2 pa3 pa4 pab pb0 pb1 pb2 pb3 pb4 pb9 pbb h5
    generalize (w5.alloc (.cells D.zero.arr 55)).setRow w5.heap.size dd.arr = W5 at pc0 pc1 pc2 pc3 pc4 pc9 pcb ⊢
    generalize w5.heap.size = g9 at pc9 hg9 ⊢
    have ir := World.rangeAt_of_block pc9 4 64
    rw [D.bodyCells dd hdd] at ir
    have hg11 : g9 < W5.heap.size := pc9.lt
    have pd0 := pc0.alloc (.cells (bs (zs 64)) 52)
    have pd1 := pc1.alloc (.cells (bs (zs 64)) 52)
    have pd2 := pc2.alloc (.cells (bs (zs 64)) 52)
    have pd3 := pc3.alloc (.cells (bs (zs 64)) 52)
    have pd4 := pc4.alloc (.cells (bs (zs 64)) 52)
    have pd9 := pc9.alloc (.cells (bs (zs 64)) 52)
    have pd11 : Row (W5.alloc (.cells (bs (zs 64)) 52)) W5.heap.size (bs (zs 64)) 52 := Row.new _ _ _
    have pdb := pcb.alloc pcb.size (.cells (bs (zs 64)) 52)
    go_upto_region 9 with (first
      | (refine wpList_load_mid rfl 53 (.tmp 50) rfl g9 4 rfl (dd.body.map (Value.int .u8)) _ ir Try.underlying53 rfl (by rw [size53]; simp [hdd]) ?_)
      | (refine store_row rfl 52 (.tmp 11) (.tmp 51) rfl W5.heap.size dd.body rfl rfl 52 _ pd11 64 size52 (by rw [bs_size, zs_length]) hdd ?_))
    have pe0 := pd0.other (g := W5.heap.size) (by omega) (bs dd.body)
    have pe1 := pd1.other (g := W5.heap.size) (by omega) (bs dd.body)
    have pe2 := pd2.other (g := W5.heap.size) (by omega) (bs dd.body)
    have pe3 := pd3.other (g := W5.heap.size) (by omega) (bs dd.body)
    have pe4 := pd4.other (g := W5.heap.size) (by omega) (bs dd.body)
    have pe9 := pd9.other (g := W5.heap.size) (by omega) (bs dd.body)
    have pe11 := pd11.set (bs dd.body)
    have peb := below_setRow pdb (show w.heap.size ≤ W5.heap.size by omega) (bs dd.body)
    clear ir pc0 pc1 pc2 pc3 pc4 pc9 pcb pd0 pd1 pd2 pd3 pd4 pd9 pd11 pdb
    generalize (W5.alloc (.cells (bs (zs 64)) 52)).setRow W5.heap.size (bs dd.body) = W6 at pe0 pe1 pe2 pe3 pe4 pe9 pe11 peb ⊢
    generalize W5.heap.size = g11 at pe11 hg11 ⊢
    cases ok with
    | false =>
      have HR : Hid (AN = (zs 224, 2)) := by show _ = _; rw [HR0.out]; exact redoD2_none (by unfold redoDR; rw [Hok.out]; rfl)
      clear HR0
      go_wp2_with (first
        | (refine build_none rfl 26 rfl (bs (zs 224)) built26 ?_)
        | (refine store_row rfl 26 (.tmp 6) (.tmp 73) rfl (w.heap.size + 3) (zs 224) rfl rfl 26 _ pe3 224 size26 (by rw [bs_size, zs_length]) (zs_length _) ?_))
      refine bodyPost_ret (v := .tuple #[.agg (bs (zs 224)), .int .i64 2]) ?_ rfl ⟨by rw [HR.out], below_setRow peb (by omega) _⟩
      exact ret_cell2 (fn := Try.f20) rfl _ _ (w.heap.size + 3) 26 _ _ (.int .i64 2) rfl rfl (pe3.set _) Try.underlying26 rfl (by rw [size26, bs_size, zs_length])
    | true =>
      have hD : dd = dOf P0 := by rw [← Hdd.out]; unfold gotD; rw [Hok.out]; rfl
      have HRR : Hid (redoDR no P0 e = if e.r.kind = 2 then match pieces e.r.delta with
        | some ps => some (putD no { lsn := e.lsn, ts := e.r.ts, page := e.r.pp, slot := e.r.ps, body := applyAll (dOf P0).body ps })
        | none => none
        else some (putD no { dOf P0 with lsn := e.lsn })) := by show _ = _; unfold redoDR; rw [Hok.out]; rfl
      clear Hdd Hok
      subst hD
      generalize dOf P0 = dd at hd pe0 pe1 pe2 pe3 pe4 pe9 pe11 peb hdd HRR
      have kk := row_at pe4 0 _ e.r.at0
      have hk2 : ¬ e.r.kind = 2 := by rw [HK1.out]; decide
      have hk2b : (e.r.kind == 2) = false := by simp [hk2]
      rw [if_neg hk2] at HRR
      have HDR : Hid (redoDR no P0 e = some (putD no { dd with lsn := e.lsn })) := HRR.out
      have hdn : D.Ok { dd with lsn := e.lsn } := ⟨hf.lsn, hd.ts, hd.page, hd.slot, hd.len, hd.bytes⟩
      clear hk2 HRR
      go_upto_region 12 with fail
      clear kk
      have ke := row_at pe2 0 _ e.at0
      have k9 := row_at pe9 0 _ (D.at0 dd)
      have fz := row_frozen pe9 0
      go_upto_region 15 with fail
      have z9 : Row (W6.setCell ⟨g9, 0, none⟩ (.int .u64 e.lsn)) g9 _ 55 := row_set pe9 0 (.int .u64 e.lsn)
      rw [D.set0] at z9
      have z3 := row_setCell_other pe3 (g := g9) (by omega) 0 (.int .u64 e.lsn)
      have z0 := row_setCell_other pe0 (g := g9) (by omega) 0 (.int .u64 e.lsn)
      have zb := peb.setCell (p := ⟨g9, 0, none⟩) (by show w.heap.size ≤ g9; omega) (.int .u64 e.lsn)
      clear ke k9 fz pe0 pe1 pe2 pe3 pe4 pe9 pe11 peb
      generalize W6.setCell ⟨g9, 0, none⟩ (.int .u64 e.lsn) = W10 at z0 z3 z9 zb ⊢
      have hDl := D.arr_size _ hdn.len
      have HPD : Hid _ := fun w => rputData_any no _ w hno hdn
      have hql := putD_length no _ hdn.len
      generalize hQ : putD no _ = q at HPD hql HDR
      generalize D.arr _ = da at z9 hDl HPD
      have HR : Hid (AN = (q, 0)) := by show _ = _; rw [HR0.out]; exact redoD2_some HDR.out
      clear HR0 HDR hQ hdn
      have k1 := row_at z0 1 _ rfl
      go_wp2_with (first
        | (refine load_cells rfl 55 (.tmp 9) rfl g9 rfl 55 _ z9 68 Try.underlying55 rfl size55 hDl ?_)
        | (go_at_call 36; refine (HPD.out _).mono ?_; clear HPD; rintro en w11 ⟨rfl, h11⟩; have z3 := z3.below h11 z3.lt; have zb := zb.trans (h11.mono zb.size))
        | (refine store_row rfl 26 (.tmp 6) (.tmp 80) rfl (w.heap.size + 3) q rfl rfl 26 _ z3 224 size26 (by rw [bs_size, zs_length]) hql ?_))
      refine bodyPost_ret (v := .tuple #[.agg (bs q), .int .i64 0]) ?_ rfl ⟨by rw [HR.out], below_setRow zb (by omega) _⟩
      exact ret_cell2 (fn := Try.f20) rfl _ _ (w.heap.size + 3) 26 _ _ (.int .i64 0) rfl rfl (z3.set _) Try.underlying26 rfl (by rw [size26, bs_size, hql])
  · have hk1 : (e.r.kind == 1) = false := by simp [hk]
    rw [if_neg hk] at HRR
    clear hk
    go_upto_region 6 with fail
    clear kk
    have v0 := y0
    have v1 := y1
    have v2 := y2
    have v3 := y3
    have v4 := y4
    have vb := yb
    clear y0 y1 y2 y3 y4 yb
    have HR0 : Hid (AN = redoD2 no p e) := by show _ = _; rw [HRR.out]; rfl
    clear HRR
    have hPl : (p).length = 224 := hp
    have hPb : Bytes (p) := hb
    have hz74 := zero55
    have hz71 := zero52
    have HGD : Hid _ := fun w => rgetData_any no (p) w hno hPl hPb
    have hd := dOf_ok (p) hPl hPb
    obtain ⟨P0, HP0⟩ : ∃ x, Hid (p = x) := ⟨_, rfl⟩
    have hpb1 : (bs (p)).size = 224 := by rw [bs_size, hPl]
    rw [HP0.out] at HGD HR0 hPl hPb hd hpb1 v1
    obtain ⟨dd, Hdd⟩ : ∃ d, Hid (gotD no P0 = d) := ⟨_, rfl⟩
    obtain ⟨ok, Hok⟩ : ∃ x, Hid (isD no P0 = x) := ⟨_, rfl⟩
    rw [Hdd.out, Hok.out] at HGD
    have hdd : dd.body.length = 64 := by
      rw [← Hdd.out]; unfold gotD; split
      · exact hd.len
      · exact zs_length _
    have k0 := row_at v0 0 _ rfl
    have k1 := row_at v0 1 _ rfl
    go_upto_region 8 with (first
      | (refine load_row rfl 26 (.tmp 4) rfl (w.heap.size + 1) rfl 26 (bs P0) v1 224 5 Try.underlying26 size26 hpb1 ?_)
      | (go_at_call 32; refine (HGD.out _).mono ?_; clear HGD; rintro en w5 ⟨rfl, h5⟩
         have pa0 := v0.below h5 v0.lt
         have pa1 := v1.below h5 v1.lt
         have pa2 := v2.below h5 v2.lt
         have pa3 := v3.below h5 v3.lt
         have pa4 := v4.below h5 v4.lt
         have pab := vb.trans (h5.mono vb.size)
         have pb0 := pa0.alloc (.cells D.zero.arr 55)
         have pb1 := pa1.alloc (.cells D.zero.arr 55)
         have pb2 := pa2.alloc (.cells D.zero.arr 55)
         have pb3 := pa3.alloc (.cells D.zero.arr 55)
         have pb4 := pa4.alloc (.cells D.zero.arr 55)
         have pb9 : Row (w5.alloc (.cells D.zero.arr 55)) w5.heap.size D.zero.arr 55 := Row.new _ _ _
         have pbb := pab.alloc pab.size (.cells D.zero.arr 55)
         have hg9 : g4 < w5.heap.size := pa4.lt)
      | (refine store_cells rfl 55 (.tmp 9) (.tmp 48) rfl w5.heap.size dd.arr rfl rfl 55 _ pb9 68 size55 (D.arr_size _ (zs_length _)) (D.arr_size _ hdd) (D.arr_one _) ?_))
    have pc0 := pb0.other (g := w5.heap.size) (by omega) (dd.arr)
    have pc1 := pb1.other (g := w5.heap.size) (by omega) (dd.arr)
    have pc2 := pb2.other (g := w5.heap.size) (by omega) (dd.arr)
    have pc3 := pb3.other (g := w5.heap.size) (by omega) (dd.arr)
    have pc4 := pb4.other (g := w5.heap.size) (by omega) (dd.arr)
    have pc9 := pb9.set (dd.arr)
    have pcb := below_setRow pbb (show w.heap.size ≤ w5.heap.size by omega) (dd.arr)
    clear k0 k1 v0 v1 v2 v3 v4 vb pa0 pa1 pa2 pa3 pa4 pab pb0 pb1 pb2 pb3 pb4 pb9 pbb h5
    generalize (w5.alloc (.cells D.zero.arr 55)).setRow w5.heap.size dd.arr = W5 at pc0 pc1 pc2 pc3 pc4 pc9 pcb ⊢
    generalize w5.heap.size = g9 at pc9 hg9 ⊢
    have ir := World.rangeAt_of_block pc9 4 64
    rw [D.bodyCells dd hdd] at ir
    have hg11 : g9 < W5.heap.size := pc9.lt
    have pd0 := pc0.alloc (.cells (bs (zs 64)) 52)
    have pd1 := pc1.alloc (.cells (bs (zs 64)) 52)
    have pd2 := pc2.alloc (.cells (bs (zs 64)) 52)
    have pd3 := pc3.alloc (.cells (bs (zs 64)) 52)
    have pd4 := pc4.alloc (.cells (bs (zs 64)) 52)
    have pd9 := pc9.alloc (.cells (bs (zs 64)) 52)
    have pd11 : Row (W5.alloc (.cells (bs (zs 64)) 52)) W5.heap.size (bs (zs 64)) 52 := Row.new _ _ _
    have pdb := pcb.alloc pcb.size (.cells (bs (zs 64)) 52)
    go_upto_region 9 with (first
      | (refine wpList_load_mid rfl 53 (.tmp 50) rfl g9 4 rfl (dd.body.map (Value.int .u8)) _ ir Try.underlying53 rfl (by rw [size53]; simp [hdd]) ?_)
      | (refine store_row rfl 52 (.tmp 11) (.tmp 51) rfl W5.heap.size dd.body rfl rfl 52 _ pd11 64 size52 (by rw [bs_size, zs_length]) hdd ?_))
    have pe0 := pd0.other (g := W5.heap.size) (by omega) (bs dd.body)
    have pe1 := pd1.other (g := W5.heap.size) (by omega) (bs dd.body)
    have pe2 := pd2.other (g := W5.heap.size) (by omega) (bs dd.body)
    have pe3 := pd3.other (g := W5.heap.size) (by omega) (bs dd.body)
    have pe4 := pd4.other (g := W5.heap.size) (by omega) (bs dd.body)
    have pe9 := pd9.other (g := W5.heap.size) (by omega) (bs dd.body)
    have pe11 := pd11.set (bs dd.body)
    have peb := below_setRow pdb (show w.heap.size ≤ W5.heap.size by omega) (bs dd.body)
    clear ir pc0 pc1 pc2 pc3 pc4 pc9 pcb pd0 pd1 pd2 pd3 pd4 pd9 pd11 pdb
    generalize (W5.alloc (.cells (bs (zs 64)) 52)).setRow W5.heap.size (bs dd.body) = W6 at pe0 pe1 pe2 pe3 pe4 pe9 pe11 peb ⊢
    generalize W5.heap.size = g11 at pe11 hg11 ⊢
    cases ok with
    | false =>
      have HR : Hid (AN = (zs 224, 2)) := by show _ = _; rw [HR0.out]; exact redoD2_none (by unfold redoDR; rw [Hok.out]; rfl)
      clear HR0
      go_wp2_with (first
        | (refine build_none rfl 26 rfl (bs (zs 224)) built26 ?_)
        | (refine store_row rfl 26 (.tmp 6) (.tmp 73) rfl (w.heap.size + 3) (zs 224) rfl rfl 26 _ pe3 224 size26 (by rw [bs_size, zs_length]) (zs_length _) ?_))
      refine bodyPost_ret (v := .tuple #[.agg (bs (zs 224)), .int .i64 2]) ?_ rfl ⟨by rw [HR.out], below_setRow peb (by omega) _⟩
      exact ret_cell2 (fn := Try.f20) rfl _ _ (w.heap.size + 3) 26 _ _ (.int .i64 2) rfl rfl (pe3.set _) Try.underlying26 rfl (by rw [size26, bs_size, zs_length])
    | true =>
      have hD : dd = dOf P0 := by rw [← Hdd.out]; unfold gotD; rw [Hok.out]; rfl
      have HRR : Hid (redoDR no P0 e = if e.r.kind = 2 then match pieces e.r.delta with
        | some ps => some (putD no { lsn := e.lsn, ts := e.r.ts, page := e.r.pp, slot := e.r.ps, body := applyAll (dOf P0).body ps })
        | none => none
        else some (putD no { dOf P0 with lsn := e.lsn })) := by show _ = _; unfold redoDR; rw [Hok.out]; rfl
      clear Hdd Hok
      subst hD
      generalize dOf P0 = dd at hd pe0 pe1 pe2 pe3 pe4 pe9 pe11 peb hdd HRR
      have kk := row_at pe4 0 _ e.r.at0
      by_cases hk2 : e.r.kind = 2
      · have hk2b : (e.r.kind == 2) = true := by simp [hk2]
        rw [if_pos hk2] at HRR
        clear hk2
        have HAP : Hid _ := fun w => rapply_any dd.body hdd e.r.delta hf.r.delta w
        have hfit := pieces_fits e.r.delta
        cases hq : pieces e.r.delta with
        | none =>
          have happ : rapplied dd.body e.r.delta = .tuple #[.agg (bs (zs 64)), .bool false] := by unfold rapplied; rw [hq]
          rw [hq] at HRR
          rw [happ] at HAP
          have HR : Hid (AN = (zs 224, 2)) := by show _ = _; rw [HR0.out]; exact redoD2_none HRR.out
          clear happ hq HRR hfit HR0
          have hBl : (zs 64).length = 64 := zs_length _
          obtain ⟨B, HB⟩ : ∃ Z, Hid (zs 64 = Z) := ⟨_, rfl⟩
          rw [HB.out] at HAP hBl
          have kd := row_at pe4 230 _ (R.atT e.r hf.r.len 3)
          go_upto_region 11 with (first
            | (refine load_row rfl 52 (.tmp 11) rfl g11 rfl 52 (bs dd.body) pe11 64 5 Try.underlying52 size52 (by rw [bs_size, hdd]) ?_)
            | (go_at_call 35; refine (HAP.out _).mono ?_; clear HAP; rintro en w7 ⟨rfl, h7⟩
               have pf0 := pe0.below h7 pe0.lt
               have pf1 := pe1.below h7 pe1.lt
               have pf2 := pe2.below h7 pe2.lt
               have pf3 := pe3.below h7 pe3.lt
               have pf4 := pe4.below h7 pe4.lt
               have pf9 := pe9.below h7 pe9.lt
               have pf11 := pe11.below h7 pe11.lt
               have pfb := peb.trans (h7.mono peb.size))
            | (refine store_row rfl 52 (.tmp 11) (.tmp 63) rfl g11 B rfl rfl 52 _ pf11 64 size52 (by rw [bs_size, hdd]) hBl ?_))
          have pg0 := pf0.other (g := g11) (by omega) (bs B)
          have pg1 := pf1.other (g := g11) (by omega) (bs B)
          have pg2 := pf2.other (g := g11) (by omega) (bs B)
          have pg3 := pf3.other (g := g11) (by omega) (bs B)
          have pg4 := pf4.other (g := g11) (by omega) (bs B)
          have pg9 := pf9.other (g := g11) (by omega) (bs B)
          have pg11 := pf11.set (bs B)
          have pgb := below_setRow pfb (show w.heap.size ≤ g11 by omega) (bs B)
          clear kd kk pe0 pe1 pe2 pe3 pe4 pe9 pe11 peb pf0 pf1 pf2 pf3 pf4 pf9 pf11 pfb h7
          generalize w7.setRow g11 (bs B) = W8 at pg0 pg1 pg2 pg3 pg4 pg9 pg11 pgb ⊢
          have kt := row_at pg4 227 _ (R.atT e.r hf.r.len 0)
          have hpm := R.prevMid pg4 hf.r.len
          have hD9 : (D.arr ⟨0, e.r.ts, e.r.pp, e.r.ps, B⟩).size = 68 := D.arr_size _ hBl
          go_upto_region 12 with (first
            | (refine wpList_load_any rfl 33 (.tmp 67) rfl ⟨g4, 228, none⟩ rfl [.int .u16 e.r.pp, .int .u8 e.r.ps] _ hpm Try.underlying33 rfl size29z ?_)
            | (refine load_row rfl 52 (.tmp 11) rfl g11 rfl 52 (bs B) pg11 64 5 Try.underlying52 size52 (by rw [bs_size, hBl]) ?_)
            | (refine build_parts rfl 55 #[(1, .tmp 66), (2, .tmp 68), (3, .tmp 69)] rfl [(1, .int .u32 e.r.ts), (2, .agg #[.int .u16 e.r.pp, .int .u8 e.r.ps]), (3, .agg (bs B))] rfl _ (built74p e.r.ts e.r.pp e.r.ps B hBl) ?_)
            | (refine store_cells rfl 55 (.tmp 9) (.tmp 70) rfl g9 (D.arr ⟨0, e.r.ts, e.r.pp, e.r.ps, B⟩) rfl rfl 55 _ pg9 68 size55 (D.arr_size _ hdd) hD9 (D.arr_one _) ?_))
          have ph0 := pg0.other (g := g9) (by omega) (D.arr ⟨0, e.r.ts, e.r.pp, e.r.ps, B⟩)
          have ph1 := pg1.other (g := g9) (by omega) (D.arr ⟨0, e.r.ts, e.r.pp, e.r.ps, B⟩)
          have ph2 := pg2.other (g := g9) (by omega) (D.arr ⟨0, e.r.ts, e.r.pp, e.r.ps, B⟩)
          have ph3 := pg3.other (g := g9) (by omega) (D.arr ⟨0, e.r.ts, e.r.pp, e.r.ps, B⟩)
          have ph4 := pg4.other (g := g9) (by omega) (D.arr ⟨0, e.r.ts, e.r.pp, e.r.ps, B⟩)
          have ph11 := pg11.other (g := g9) (by omega) (D.arr ⟨0, e.r.ts, e.r.pp, e.r.ps, B⟩)
          have ph9 := pg9.set (D.arr ⟨0, e.r.ts, e.r.pp, e.r.ps, B⟩)
          have phb := below_setRow pgb (show w.heap.size ≤ g9 by omega) (D.arr ⟨0, e.r.ts, e.r.pp, e.r.ps, B⟩)
          clear kt hpm pg0 pg1 pg2 pg3 pg4 pg9 pg11 pgb
          generalize W8.setRow g9 (D.arr ⟨0, e.r.ts, e.r.pp, e.r.ps, B⟩) = W9 at ph0 ph1 ph2 ph3 ph4 ph9 ph11 phb ⊢
          go_wp2_with (first
            | (refine build_none rfl 26 rfl (bs (zs 224)) built26 ?_)
            | (refine store_row rfl 26 (.tmp 6) (.tmp 73) rfl (w.heap.size + 3) (zs 224) rfl rfl 26 _ ph3 224 size26 (by rw [bs_size, zs_length]) (zs_length _) ?_))
          refine bodyPost_ret (v := .tuple #[.agg (bs (zs 224)), .int .i64 2]) ?_ rfl ⟨by rw [HR.out], below_setRow phb (by omega) _⟩
          exact ret_cell2 (fn := Try.f20) rfl _ _ (w.heap.size + 3) 26 _ _ (.int .i64 2) rfl rfl (ph3.set _) Try.underlying26 rfl (by rw [size26, bs_size, zs_length])
        | some ps =>
          have happ : rapplied dd.body e.r.delta = .tuple #[.agg (bs (applyAll dd.body ps)), .bool true] := by unfold rapplied; rw [hq]
          rw [hq] at HRR
          rw [happ] at HAP
          have hfp := hfit ps hq
          have hBl := applyAll_length dd.body hd.len ps hfp.1
          have hBb := applyAll_bytes dd.body hd.bytes ps hfp.2
          have HDR : Hid (redoDR no P0 e = some (putD no { lsn := e.lsn, ts := e.r.ts, page := e.r.pp, slot := e.r.ps, body := applyAll dd.body ps })) := HRR.out
          clear happ hq HRR hfit hfp
          generalize applyAll dd.body ps = B at hBl hBb HAP HDR
          have hdn : D.Ok { lsn := e.lsn, ts := e.r.ts, page := e.r.pp, slot := e.r.ps, body := B } := ⟨hf.lsn, hf.r.ts, hf.r.pp, hf.r.ps, hBl, hBb⟩
          have kd := row_at pe4 230 _ (R.atT e.r hf.r.len 3)
          go_upto_region 11 with (first
            | (refine load_row rfl 52 (.tmp 11) rfl g11 rfl 52 (bs dd.body) pe11 64 5 Try.underlying52 size52 (by rw [bs_size, hdd]) ?_)
            | (go_at_call 35; refine (HAP.out _).mono ?_; clear HAP; rintro en w7 ⟨rfl, h7⟩
               have pf0 := pe0.below h7 pe0.lt
               have pf1 := pe1.below h7 pe1.lt
               have pf2 := pe2.below h7 pe2.lt
               have pf3 := pe3.below h7 pe3.lt
               have pf4 := pe4.below h7 pe4.lt
               have pf9 := pe9.below h7 pe9.lt
               have pf11 := pe11.below h7 pe11.lt
               have pfb := peb.trans (h7.mono peb.size))
            | (refine store_row rfl 52 (.tmp 11) (.tmp 63) rfl g11 B rfl rfl 52 _ pf11 64 size52 (by rw [bs_size, hdd]) hBl ?_))
          have pg0 := pf0.other (g := g11) (by omega) (bs B)
          have pg1 := pf1.other (g := g11) (by omega) (bs B)
          have pg2 := pf2.other (g := g11) (by omega) (bs B)
          have pg3 := pf3.other (g := g11) (by omega) (bs B)
          have pg4 := pf4.other (g := g11) (by omega) (bs B)
          have pg9 := pf9.other (g := g11) (by omega) (bs B)
          have pg11 := pf11.set (bs B)
          have pgb := below_setRow pfb (show w.heap.size ≤ g11 by omega) (bs B)
          clear kd kk pe0 pe1 pe2 pe3 pe4 pe9 pe11 peb pf0 pf1 pf2 pf3 pf4 pf9 pf11 pfb h7
          generalize w7.setRow g11 (bs B) = W8 at pg0 pg1 pg2 pg3 pg4 pg9 pg11 pgb ⊢
          have kt := row_at pg4 227 _ (R.atT e.r hf.r.len 0)
          have hpm := R.prevMid pg4 hf.r.len
          have hD9 : (D.arr ⟨0, e.r.ts, e.r.pp, e.r.ps, B⟩).size = 68 := D.arr_size _ hBl
          go_upto_region 12 with (first
            | (refine wpList_load_any rfl 33 (.tmp 67) rfl ⟨g4, 228, none⟩ rfl [.int .u16 e.r.pp, .int .u8 e.r.ps] _ hpm Try.underlying33 rfl size29z ?_)
            | (refine load_row rfl 52 (.tmp 11) rfl g11 rfl 52 (bs B) pg11 64 5 Try.underlying52 size52 (by rw [bs_size, hBl]) ?_)
            | (refine build_parts rfl 55 #[(1, .tmp 66), (2, .tmp 68), (3, .tmp 69)] rfl [(1, .int .u32 e.r.ts), (2, .agg #[.int .u16 e.r.pp, .int .u8 e.r.ps]), (3, .agg (bs B))] rfl _ (built74p e.r.ts e.r.pp e.r.ps B hBl) ?_)
            | (refine store_cells rfl 55 (.tmp 9) (.tmp 70) rfl g9 (D.arr ⟨0, e.r.ts, e.r.pp, e.r.ps, B⟩) rfl rfl 55 _ pg9 68 size55 (D.arr_size _ hdd) hD9 (D.arr_one _) ?_))
          have ph0 := pg0.other (g := g9) (by omega) (D.arr ⟨0, e.r.ts, e.r.pp, e.r.ps, B⟩)
          have ph1 := pg1.other (g := g9) (by omega) (D.arr ⟨0, e.r.ts, e.r.pp, e.r.ps, B⟩)
          have ph2 := pg2.other (g := g9) (by omega) (D.arr ⟨0, e.r.ts, e.r.pp, e.r.ps, B⟩)
          have ph3 := pg3.other (g := g9) (by omega) (D.arr ⟨0, e.r.ts, e.r.pp, e.r.ps, B⟩)
          have ph4 := pg4.other (g := g9) (by omega) (D.arr ⟨0, e.r.ts, e.r.pp, e.r.ps, B⟩)
          have ph11 := pg11.other (g := g9) (by omega) (D.arr ⟨0, e.r.ts, e.r.pp, e.r.ps, B⟩)
          have ph9 := pg9.set (D.arr ⟨0, e.r.ts, e.r.pp, e.r.ps, B⟩)
          have phb := below_setRow pgb (show w.heap.size ≤ g9 by omega) (D.arr ⟨0, e.r.ts, e.r.pp, e.r.ps, B⟩)
          clear kt hpm pg0 pg1 pg2 pg3 pg4 pg9 pg11 pgb
          generalize W8.setRow g9 (D.arr ⟨0, e.r.ts, e.r.pp, e.r.ps, B⟩) = W9 at ph0 ph1 ph2 ph3 ph4 ph9 ph11 phb ⊢
          have ke := row_at ph2 0 _ e.at0
          have k9 := row_at ph9 0 _ (D.at0 ⟨0, e.r.ts, e.r.pp, e.r.ps, B⟩)
          have fz := row_frozen ph9 0
          go_upto_region 15 with fail
          have z9 : Row (W9.setCell ⟨g9, 0, none⟩ (.int .u64 e.lsn)) g9 _ 55 := row_set ph9 0 (.int .u64 e.lsn)
          rw [D.set0] at z9
          have z3 := row_setCell_other ph3 (g := g9) (by omega) 0 (.int .u64 e.lsn)
          have z0 := row_setCell_other ph0 (g := g9) (by omega) 0 (.int .u64 e.lsn)
          have zb := phb.setCell (p := ⟨g9, 0, none⟩) (by show w.heap.size ≤ g9; omega) (.int .u64 e.lsn)
          clear ke k9 fz ph0 ph1 ph2 ph3 ph4 ph9 ph11 phb
          generalize W9.setCell ⟨g9, 0, none⟩ (.int .u64 e.lsn) = W10 at z0 z3 z9 zb ⊢
          have hDl := D.arr_size _ hdn.len
          have HPD : Hid _ := fun w => rputData_any no _ w hno hdn
          have hql := putD_length no _ hdn.len
          generalize hQ : putD no _ = q at HPD hql HDR
          generalize D.arr _ = da at z9 hDl HPD
          have HR : Hid (AN = (q, 0)) := by show _ = _; rw [HR0.out]; exact redoD2_some HDR.out
          clear HR0 HDR hQ hdn
          have k1 := row_at z0 1 _ rfl
          go_wp2_with (first
            | (refine load_cells rfl 55 (.tmp 9) rfl g9 rfl 55 _ z9 68 Try.underlying55 rfl size55 hDl ?_)
            | (go_at_call 36; refine (HPD.out _).mono ?_; clear HPD; rintro en w11 ⟨rfl, h11⟩; have z3 := z3.below h11 z3.lt; have zb := zb.trans (h11.mono zb.size))
            | (refine store_row rfl 26 (.tmp 6) (.tmp 80) rfl (w.heap.size + 3) q rfl rfl 26 _ z3 224 size26 (by rw [bs_size, zs_length]) hql ?_))
          refine bodyPost_ret (v := .tuple #[.agg (bs q), .int .i64 0]) ?_ rfl ⟨by rw [HR.out], below_setRow zb (by omega) _⟩
          exact ret_cell2 (fn := Try.f20) rfl _ _ (w.heap.size + 3) 26 _ _ (.int .i64 0) rfl rfl (z3.set _) Try.underlying26 rfl (by rw [size26, bs_size, hql])
      · have hk2b : (e.r.kind == 2) = false := by simp [hk2]
        rw [if_neg hk2] at HRR
        have HDR : Hid (redoDR no P0 e = some (putD no { dd with lsn := e.lsn })) := HRR.out
        have hdn : D.Ok { dd with lsn := e.lsn } := ⟨hf.lsn, hd.ts, hd.page, hd.slot, hd.len, hd.bytes⟩
        clear hk2 HRR
        go_upto_region 12 with fail
        clear kk
        have ke := row_at pe2 0 _ e.at0
        have k9 := row_at pe9 0 _ (D.at0 dd)
        have fz := row_frozen pe9 0
        go_upto_region 15 with fail
        have z9 : Row (W6.setCell ⟨g9, 0, none⟩ (.int .u64 e.lsn)) g9 _ 55 := row_set pe9 0 (.int .u64 e.lsn)
        rw [D.set0] at z9
        have z3 := row_setCell_other pe3 (g := g9) (by omega) 0 (.int .u64 e.lsn)
        have z0 := row_setCell_other pe0 (g := g9) (by omega) 0 (.int .u64 e.lsn)
        have zb := peb.setCell (p := ⟨g9, 0, none⟩) (by show w.heap.size ≤ g9; omega) (.int .u64 e.lsn)
        clear ke k9 fz pe0 pe1 pe2 pe3 pe4 pe9 pe11 peb
        generalize W6.setCell ⟨g9, 0, none⟩ (.int .u64 e.lsn) = W10 at z0 z3 z9 zb ⊢
        have hDl := D.arr_size _ hdn.len
        have HPD : Hid _ := fun w => rputData_any no _ w hno hdn
        have hql := putD_length no _ hdn.len
        generalize hQ : putD no _ = q at HPD hql HDR
        generalize D.arr _ = da at z9 hDl HPD
        have HR : Hid (AN = (q, 0)) := by show _ = _; rw [HR0.out]; exact redoD2_some HDR.out
        clear HR0 HDR hQ hdn
        have k1 := row_at z0 1 _ rfl
        go_wp2_with (first
          | (refine load_cells rfl 55 (.tmp 9) rfl g9 rfl 55 _ z9 68 Try.underlying55 rfl size55 hDl ?_)
          | (go_at_call 36; refine (HPD.out _).mono ?_; clear HPD; rintro en w11 ⟨rfl, h11⟩; have z3 := z3.below h11 z3.lt; have zb := zb.trans (h11.mono zb.size))
          | (refine store_row rfl 26 (.tmp 6) (.tmp 80) rfl (w.heap.size + 3) q rfl rfl 26 _ z3 224 size26 (by rw [bs_size, zs_length]) hql ?_))
        refine bodyPost_ret (v := .tuple #[.agg (bs q), .int .i64 0]) ?_ rfl ⟨by rw [HR.out], below_setRow zb (by omega) _⟩
        exact ret_cell2 (fn := Try.f20) rfl _ _ (w.heap.size + 3) 26 _ _ (.int .i64 0) rfl rfl (z3.set _) Try.underlying26 rfl (by rw [size26, bs_size, hql])
end Go.Proofs.Ytihjapfgllokgab
