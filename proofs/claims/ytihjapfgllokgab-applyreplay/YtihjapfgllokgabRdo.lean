/-
  Proved here: apply.Redo: a page behind a record.
-/
import Derived.Test.YtihjapfgllokgabRdu
import Derived.Test.YtihjapfgllokgabRma
namespace Go.Proofs.Ytihjapfgllokgab
open Go.ChangeShapes Go.WideShapes Go.ChangeAt Go.RowKit
set_option linter.unusedVariables false
set_option linter.unusedSimpArgs false
set_option maxRecDepth 20000

/-- What redoData makes of a page, and its errno. -/
def redoD2 (no : Int) (p : List Int) (e : En) : List Int × Int := match redoDR no p e with
  | some q => (q, 0)
  | none => (zs 224, 2)
theorem redoData2 (no : Int) (p : List Int) (e : En) (w : World) (hno : 0 ≤ no ∧ no ≤ 65535) (hp : p.length = 224) (hb : Bytes p) (hf : e.Fits) :
    Calls Try.prog 25 #[.int .u16 no, .agg (bs p), .agg e.arr] w fun en w' => en = .returned (.tuple #[.agg (bs (redoD2 no p e).1), .int .i64 (redoD2 no p e).2]) ∧ Below w.heap.size w w' := by
  refine (redoData_any no p e w hno hp hb hf).mono fun en w' h => ⟨?_, h.2⟩
  rw [h.1]; unfold redoD2 ansP
  cases redoDR no p e <;> rfl
theorem redoDR_some {no : Int} {p q : List Int} {e : En} (hp : p.length = 224) (hb : Bytes p) (hf : e.Fits) (h : redoDR no p e = some q) : ∃ d : D, d.Ok ∧ d.lsn = e.lsn ∧ q = putD no d := by
  have hd := dOf_ok p hp hb
  unfold redoDR at h
  split at h
  · split at h
    · split at h
      · rename_i ps hq
        cases h
        have hfp := pieces_fits _ ps hq
        exact ⟨_, ⟨hf.lsn, hf.r.ts, hf.r.pp, hf.r.ps, applyAll_length _ hd.len ps hfp.1, applyAll_bytes _ hd.bytes ps hfp.2⟩, rfl, rfl⟩
      · cases h
    · cases h; exact ⟨{ dOf p with lsn := e.lsn }, ⟨hf.lsn, hd.ts, hd.page, hd.slot, hd.len, hd.bytes⟩, rfl, rfl⟩
  · cases h
theorem redoD2_ok (no : Int) (p : List Int) (e : En) (hp : p.length = 224) (hb : Bytes p) (hf : e.Fits) : (redoD2 no p e).1.length = 224 ∧ Bytes (redoD2 no p e).1 := by
  unfold redoD2
  cases h : redoDR no p e with
  | none => exact ⟨zs_length _, zs_bytes _⟩
  | some q =>
    obtain ⟨d, hd, _, rfl⟩ := redoDR_some hp hb hf h
    exact ⟨putD_length _ _ hd.len, putD_bytes _ _ hd.bytes⟩
theorem redoUR_ok (no : Int) (p : List Int) (e : En) : (redoUR no p e).1.length = 224 ∧ Bytes (redoUR no p e).1 := by
  unfold redoUR
  split
  · split
    · exact ⟨putU_length _ _ _, putU_bytes _ _ _⟩
    · exact ⟨zs_length _, zs_bytes _⟩
  · exact ⟨zs_length _, zs_bytes _⟩
theorem En.imgCells (e : En) (h : e.r.img.length = 224) : (e.arr.extract 4 (4 + 224)).toList = e.r.img.map (Value.int .u8) := by
  simp [En.arr, En.cells, R.cells, h]
/-- What Redo makes of a page, and its errno. -/
def redoR (u : Bool) (no : Int) (p : List Int) (e : En) : List Int × Int :=
  if mayR e.r && aboutR u no e.r then
    if u then redoUR no (if e.r.kind = 1 then e.r.img else p) e else redoD2 no (if e.r.kind = 1 then e.r.img else p) e
  else (zs 224, 1)
theorem redoR_ok (u : Bool) (no : Int) (p : List Int) (e : En) (hp : p.length = 224) (hb : Bytes p) (hf : e.Fits) : (redoR u no p e).1.length = 224 ∧ Bytes (redoR u no p e).1 := by
  have h1 : (if e.r.kind = 1 then e.r.img else p).length = 224 ∧ Bytes (if e.r.kind = 1 then e.r.img else p) := by
    split
    · exact ⟨hf.r.len, hf.r.img⟩
    · exact ⟨hp, hb⟩
  unfold redoR
  split
  · split
    · exact redoUR_ok _ _ _
    · exact redoD2_ok _ _ _ h1.1 h1.2 hf
  · exact ⟨zs_length _, zs_bytes _⟩
set_option maxHeartbeats 4000000 in
theorem redo_any (u : Bool) (no : Int) (p : List Int) (e : En) (w : World) (hno : 0 ≤ no ∧ no ≤ 65535) (hp : p.length = 224) (hb : Bytes p) (hf : e.Fits) :
    Calls Try.prog 13 #[.agg #[.bool u, .int .u16 no], .agg (bs p), .agg e.arr] w fun en w' => en = .returned (.tuple #[.agg (bs (redoR u no p e).1), .int .i64 (redoR u no p e).2]) ∧ Below w.heap.size w w' := by
  have hz := zero26
  have hpb : (bs p).size = 224 := by rw [bs_size, hp]
  have HMY : Hid (∀ w, Calls Try.prog 23 #[.agg e.r.cells.toArray] w fun e_1 w' => e_1 = .returned (.bool (mayR e.r)) ∧ Below w.heap.size w w') := fun w => mayr_any e.r w hf.r
  have HAB : Hid (∀ w, Calls Try.prog 16 #[.agg #[.bool u, .int .u16 no], .agg e.r.cells.toArray] w fun e_1 w' => e_1 = .returned (.bool (aboutR u no e.r)) ∧ Below w.heap.size w w') := fun w => about_any u no e.r w hf.r.len
  have hce : ∀ j v, e.r.cells[j]? = some v → e.arr[1 + j]? = some v := fun j v h => by rw [e.atR j]; unfold R.arr; rw [List.getElem?_toArray]; exact h
  have r0 : Row ((((w.alloc (.cells #[.bool u, .int .u16 no] 24)).alloc (.cells (bs p) 26)).alloc (.cells e.arr 39)).alloc (.cells (bs (zs 224)) 26)) w.heap.size #[.bool u, .int .u16 no] 24 := (((Row.new _ _ _).alloc _).alloc _).alloc _
  have r1 : Row ((((w.alloc (.cells #[.bool u, .int .u16 no] 24)).alloc (.cells (bs p) 26)).alloc (.cells e.arr 39)).alloc (.cells (bs (zs 224)) 26)) (w.heap.size + 1) (bs p) 26 := by have := ((Row.new (w.alloc (.cells #[.bool u, .int .u16 no] 24)) (bs p) 26).alloc (.cells e.arr 39)).alloc (.cells (bs (zs 224)) 26); simpa using this
  have r2 : Row ((((w.alloc (.cells #[.bool u, .int .u16 no] 24)).alloc (.cells (bs p) 26)).alloc (.cells e.arr 39)).alloc (.cells (bs (zs 224)) 26)) (w.heap.size + 2) e.arr 39 := by have := (Row.new ((w.alloc (.cells #[.bool u, .int .u16 no] 24)).alloc (.cells (bs p) 26)) e.arr 39).alloc (.cells (bs (zs 224)) 26); simpa using this
  have r3 : Row ((((w.alloc (.cells #[.bool u, .int .u16 no] 24)).alloc (.cells (bs p) 26)).alloc (.cells e.arr 39)).alloc (.cells (bs (zs 224)) 26)) (w.heap.size + 3) (bs (zs 224)) 26 := by have := Row.new (((w.alloc (.cells #[.bool u, .int .u16 no] 24)).alloc (.cells (bs p) 26)).alloc (.cells e.arr 39)) (bs (zs 224)) 26; simpa using this
  have ab : Below w.heap.size w ((((w.alloc (.cells #[.bool u, .int .u16 no] 24)).alloc (.cells (bs p) 26)).alloc (.cells e.arr 39)).alloc (.cells (bs (zs 224)) 26)) := ((((Below.refl _ _).alloc (Nat.le_refl _) _).alloc (by simp) _).alloc (by simp; omega) _).alloc (by simp; omega) _
  go_enter Try.func13, Try.ntmps13
  go_upto_region 1 with fail
  generalize (((w.alloc (.cells #[.bool u, .int .u16 no] 24)).alloc (.cells (bs p) 26)).alloc (.cells e.arr 39)).alloc (.cells (bs (zs 224)) 26) = w1 at r0 r1 r2 r3 ab ⊢
  have hm2 := mid_row r2 1 e.r.cells hce
  cases hm : mayR e.r with
  | false =>
    have HR : Hid (redoR u no p e = (zs 224, 1)) := by show _ = _; unfold redoR; rw [hm]; rfl
    rw [hm] at HMY
    clear hm HAB
    go_upto_region 2 with (first
      | (refine wpList_load_any rfl 37 (.tmp 8) rfl ⟨w.heap.size + 2, 1, none⟩ rfl e.r.cells _ hm2 Try.underlying37 rfl (by rw [size37, R.cells_length _ hf.r.len]) ?_)
      | (go_at_call 23; refine (HMY.out _).mono ?_; clear HMY; rintro en w3 ⟨rfl, h3⟩
         have y0 := r0.below h3 r0.lt
         have y1 := r1.below h3 r1.lt
         have y2 := r2.below h3 r2.lt
         have y3 := r3.below h3 r3.lt
         have yb := ab.trans (h3.mono ab.size)
         have hm3 := mid_row y2 1 e.r.cells hce)
    )
    go_wp2_with (first
      | (refine build_none rfl 26 rfl (bs (zs 224)) built26 ?_)
      | (refine store_row rfl 26 (.tmp 6) (.tmp 19) rfl (w.heap.size + 3) (zs 224) rfl rfl 26 _ y3 224 size26 (by rw [bs_size, zs_length]) (zs_length _) ?_))
    refine bodyPost_ret (v := .tuple #[.agg (bs (zs 224)), .int .i64 1]) ?_ rfl ⟨by rw [HR.out], below_setRow yb (by omega) _⟩
    exact ret_cell2 (fn := Try.f13) rfl _ _ (w.heap.size + 3) 26 _ _ (.int .i64 1) rfl rfl (y3.set _) Try.underlying26 rfl (by rw [size26, bs_size, zs_length])
  | true =>
    cases ha : aboutR u no e.r with
    | false =>
      have HR : Hid (redoR u no p e = (zs 224, 1)) := by show _ = _; unfold redoR; rw [hm, ha]; rfl
      rw [hm] at HMY
      rw [ha] at HAB
      clear hm ha
      go_upto_region 2 with (first
        | (refine wpList_load_any rfl 37 (.tmp 8) rfl ⟨w.heap.size + 2, 1, none⟩ rfl e.r.cells _ hm2 Try.underlying37 rfl (by rw [size37, R.cells_length _ hf.r.len]) ?_)
        | (go_at_call 23; refine (HMY.out _).mono ?_; clear HMY; rintro en w3 ⟨rfl, h3⟩
           have y0 := r0.below h3 r0.lt
           have y1 := r1.below h3 r1.lt
           have y2 := r2.below h3 r2.lt
           have y3 := r3.below h3 r3.lt
           have yb := ab.trans (h3.mono ab.size)
           have hm3 := mid_row y2 1 e.r.cells hce)
        | (refine load_cells_g rfl 24 (.tmp 3) rfl w.heap.size rfl 24 _ y0 2 Try.underlying24 rfl size24 rfl ?_)
        | (refine load_any_g rfl 37 (.tmp 14) rfl ⟨w.heap.size + 2, 1, none⟩ rfl e.r.cells _ hm3 Try.underlying37 rfl (by rw [size37, R.cells_length _ hf.r.len]) ?_)
        | (go_at_call 16; refine (HAB.out _).mono ?_; clear HAB; rintro en w4 ⟨rfl, h4⟩
           have x0 := y0.below h4 y0.lt
           have x1 := y1.below h4 y1.lt
           have x2 := y2.below h4 y2.lt
           have x3 := y3.below h4 y3.lt
           have xb := yb.trans (h4.mono yb.size)))
      go_wp2_with (first
        | (refine build_none rfl 26 rfl (bs (zs 224)) built26 ?_)
        | (refine store_row rfl 26 (.tmp 6) (.tmp 19) rfl (w.heap.size + 3) (zs 224) rfl rfl 26 _ x3 224 size26 (by rw [bs_size, zs_length]) (zs_length _) ?_))
      refine bodyPost_ret (v := .tuple #[.agg (bs (zs 224)), .int .i64 1]) ?_ rfl ⟨by rw [HR.out], below_setRow xb (by omega) _⟩
      exact ret_cell2 (fn := Try.f13) rfl _ _ (w.heap.size + 3) 26 _ _ (.int .i64 1) rfl rfl (x3.set _) Try.underlying26 rfl (by rw [size26, bs_size, zs_length])
    | true =>
      have HRR : Hid (redoR u no p e = if u then redoUR no (if e.r.kind = 1 then e.r.img else p) e else redoD2 no (if e.r.kind = 1 then e.r.img else p) e) := by show _ = _; unfold redoR; rw [hm, ha]; rfl
      rw [hm] at HMY
      rw [ha] at HAB
      clear hm ha
      go_upto_region 3 with (first
        | (refine wpList_load_any rfl 37 (.tmp 8) rfl ⟨w.heap.size + 2, 1, none⟩ rfl e.r.cells _ hm2 Try.underlying37 rfl (by rw [size37, R.cells_length _ hf.r.len]) ?_)
        | (go_at_call 23; refine (HMY.out _).mono ?_; clear HMY; rintro en w3 ⟨rfl, h3⟩
           have y0 := r0.below h3 r0.lt
           have y1 := r1.below h3 r1.lt
           have y2 := r2.below h3 r2.lt
           have y3 := r3.below h3 r3.lt
           have yb := ab.trans (h3.mono ab.size)
           have hm3 := mid_row y2 1 e.r.cells hce)
        | (refine load_cells_g rfl 24 (.tmp 3) rfl w.heap.size rfl 24 _ y0 2 Try.underlying24 rfl size24 rfl ?_)
        | (refine load_any_g rfl 37 (.tmp 14) rfl ⟨w.heap.size + 2, 1, none⟩ rfl e.r.cells _ hm3 Try.underlying37 rfl (by rw [size37, R.cells_length _ hf.r.len]) ?_)
        | (go_at_call 16; refine (HAB.out _).mono ?_; clear HAB; rintro en w4 ⟨rfl, h4⟩
           have x0 := y0.below h4 y0.lt
           have x1 := y1.below h4 y1.lt
           have x2 := y2.below h4 y2.lt
           have x3 := y3.below h4 y3.lt
           have xb := yb.trans (h4.mono yb.size)))
      have kk := row_at x2 1 _ ((e.atR 0).trans e.r.at0)
      clear r0 r1 r2 r3 ab y0 y1 y2 y3 yb hm2 hm3 h3 h4
      by_cases hk : e.r.kind = 1
      · have hk' : (e.r.kind == 1) = true := by simp [hk]
        rw [if_pos hk] at HRR
        clear hk
        have ir := World.rangeAt_of_block x2 4 224
        rw [En.imgCells e hf.r.len] at ir
        have hil := hf.r.len
        have hib := hf.r.img
        go_upto_region 5 with (first
          | (refine wpList_load_mid rfl 26 (.tmp 25) rfl (w.heap.size + 2) 4 rfl (e.r.img.map (Value.int .u8)) _ ir Try.underlying26 rfl (by rw [size26]; simp [hil]) ?_)
          | (refine store_row rfl 26 (.tmp 4) (.tmp 26) rfl (w.heap.size + 1) e.r.img rfl rfl 26 _ x1 224 size26 hpb hil ?_))
        have v0 := x0.other (g := w.heap.size + 1) (by omega) (bs e.r.img)
        have v1 := x1.set (bs e.r.img)
        have v2 := x2.other (g := w.heap.size + 1) (by omega) (bs e.r.img)
        have v3 := x3.other (g := w.heap.size + 1) (by omega) (bs e.r.img)
        have vb := below_setRow xb (show w.heap.size ≤ w.heap.size + 1 by omega) (bs e.r.img)
        clear x0 x1 x2 x3 xb ir kk
        generalize w4.setRow (w.heap.size + 1) (bs e.r.img) = W at v0 v1 v2 v3 vb ⊢
        cases u with
        | true =>
          have HR : Hid (redoR true no p e = redoUR no e.r.img e) := by show _ = _; rw [HRR.out]; rfl
          clear HRR
          have HRE : Hid _ := fun w => redoUndo_any no e.r.img e w hno hil hib hf
          have hql : ((redoUR no e.r.img e).1).length = 224 := (redoUR_ok no e.r.img e).1
          have hpb : (bs e.r.img).size = 224 := by rw [bs_size]; exact hil
          generalize (redoUR no e.r.img e) = qe at HRE HR hql
          obtain ⟨q, E⟩ := qe
          have k0 := row_at v0 0 _ rfl
          have k1 := row_at v0 1 _ rfl
          go_wp2_with (first
            | (refine load_row rfl 26 (.tmp 4) rfl (w.heap.size + 1) rfl 26 (bs e.r.img) v1 224 5 Try.underlying26 size26 hpb ?_)
            | (refine load_cells rfl 39 (.tmp 5) rfl (w.heap.size + 2) rfl 39 _ v2 239 Try.underlying39 rfl size39 (e.arr_size hf.r.len) ?_)
            | (go_at_call 24; refine (HRE.out _).mono ?_; clear HRE; rintro en w10 ⟨rfl, h10⟩; have z3 := v3.below h10 v3.lt; have zb := vb.trans (h10.mono vb.size))
            | (refine store_row rfl 26 (.tmp 6) (.tmp 34) rfl (w.heap.size + 3) q rfl rfl 26 _ z3 224 size26 (by rw [bs_size, zs_length]) hql ?_))
          refine bodyPost_ret (v := .tuple #[.agg (bs q), .int .i64 E]) ?_ rfl ⟨by rw [HR.out], below_setRow zb (by omega) _⟩
          exact ret_cell2 (fn := Try.f13) rfl _ _ (w.heap.size + 3) 26 _ _ (.int .i64 E) rfl rfl (z3.set _) Try.underlying26 rfl (by rw [size26, bs_size]; exact congrArg some hql.symm)
        | false =>
          have HR : Hid (redoR false no p e = redoD2 no e.r.img e) := by show _ = _; rw [HRR.out]; rfl
          clear HRR
          have HRE : Hid _ := fun w => redoData2 no e.r.img e w hno hil hib hf
          have hql : ((redoD2 no e.r.img e).1).length = 224 := (redoD2_ok no e.r.img e hil hib hf).1
          have hpb : (bs e.r.img).size = 224 := by rw [bs_size]; exact hil
          generalize (redoD2 no e.r.img e) = qe at HRE HR hql
          obtain ⟨q, E⟩ := qe
          have k0 := row_at v0 0 _ rfl
          have k1 := row_at v0 1 _ rfl
          go_wp2_with (first
            | (refine load_row rfl 26 (.tmp 4) rfl (w.heap.size + 1) rfl 26 (bs e.r.img) v1 224 5 Try.underlying26 size26 hpb ?_)
            | (refine load_cells rfl 39 (.tmp 5) rfl (w.heap.size + 2) rfl 39 _ v2 239 Try.underlying39 rfl size39 (e.arr_size hf.r.len) ?_)
            | (go_at_call 25; refine (HRE.out _).mono ?_; clear HRE; rintro en w10 ⟨rfl, h10⟩; have z3 := v3.below h10 v3.lt; have zb := vb.trans (h10.mono vb.size))
            | (refine store_row rfl 26 (.tmp 6) (.tmp 41) rfl (w.heap.size + 3) q rfl rfl 26 _ z3 224 size26 (by rw [bs_size, zs_length]) hql ?_))
          refine bodyPost_ret (v := .tuple #[.agg (bs q), .int .i64 E]) ?_ rfl ⟨by rw [HR.out], below_setRow zb (by omega) _⟩
          exact ret_cell2 (fn := Try.f13) rfl _ _ (w.heap.size + 3) 26 _ _ (.int .i64 E) rfl rfl (z3.set _) Try.underlying26 rfl (by rw [size26, bs_size]; exact congrArg some hql.symm)
      · have hk' : (e.r.kind == 1) = false := by simp [hk]
        rw [if_neg hk] at HRR
        clear hk
        go_upto_region 5 with fail
        cases u with
        | true =>
          have HR : Hid (redoR true no p e = redoUR no p e) := by show _ = _; rw [HRR.out]; rfl
          clear HRR
          have HRE : Hid _ := fun w => redoUndo_any no p e w hno hp hb hf
          have hql : ((redoUR no p e).1).length = 224 := (redoUR_ok no p e).1
          have hpb : (bs p).size = 224 := by rw [bs_size]; exact hp
          generalize (redoUR no p e) = qe at HRE HR hql
          obtain ⟨q, E⟩ := qe
          have k0 := row_at x0 0 _ rfl
          have k1 := row_at x0 1 _ rfl
          go_wp2_with (first
            | (refine load_row rfl 26 (.tmp 4) rfl (w.heap.size + 1) rfl 26 (bs p) x1 224 5 Try.underlying26 size26 hpb ?_)
            | (refine load_cells rfl 39 (.tmp 5) rfl (w.heap.size + 2) rfl 39 _ x2 239 Try.underlying39 rfl size39 (e.arr_size hf.r.len) ?_)
            | (go_at_call 24; refine (HRE.out _).mono ?_; clear HRE; rintro en w10 ⟨rfl, h10⟩; have z3 := x3.below h10 x3.lt; have zb := xb.trans (h10.mono xb.size))
            | (refine store_row rfl 26 (.tmp 6) (.tmp 34) rfl (w.heap.size + 3) q rfl rfl 26 _ z3 224 size26 (by rw [bs_size, zs_length]) hql ?_))
          refine bodyPost_ret (v := .tuple #[.agg (bs q), .int .i64 E]) ?_ rfl ⟨by rw [HR.out], below_setRow zb (by omega) _⟩
          exact ret_cell2 (fn := Try.f13) rfl _ _ (w.heap.size + 3) 26 _ _ (.int .i64 E) rfl rfl (z3.set _) Try.underlying26 rfl (by rw [size26, bs_size]; exact congrArg some hql.symm)
        | false =>
          have HR : Hid (redoR false no p e = redoD2 no p e) := by show _ = _; rw [HRR.out]; rfl
          clear HRR
          have HRE : Hid _ := fun w => redoData2 no p e w hno hp hb hf
          have hql : ((redoD2 no p e).1).length = 224 := (redoD2_ok no p e hp hb hf).1
          have hpb : (bs p).size = 224 := by rw [bs_size]; exact hp
          generalize (redoD2 no p e) = qe at HRE HR hql
          obtain ⟨q, E⟩ := qe
          have k0 := row_at x0 0 _ rfl
          have k1 := row_at x0 1 _ rfl
          go_wp2_with (first
            | (refine load_row rfl 26 (.tmp 4) rfl (w.heap.size + 1) rfl 26 (bs p) x1 224 5 Try.underlying26 size26 hpb ?_)
            | (refine load_cells rfl 39 (.tmp 5) rfl (w.heap.size + 2) rfl 39 _ x2 239 Try.underlying39 rfl size39 (e.arr_size hf.r.len) ?_)
            | (go_at_call 25; refine (HRE.out _).mono ?_; clear HRE; rintro en w10 ⟨rfl, h10⟩; have z3 := x3.below h10 x3.lt; have zb := xb.trans (h10.mono xb.size))
            | (refine store_row rfl 26 (.tmp 6) (.tmp 41) rfl (w.heap.size + 3) q rfl rfl 26 _ z3 224 size26 (by rw [bs_size, zs_length]) hql ?_))
          refine bodyPost_ret (v := .tuple #[.agg (bs q), .int .i64 E]) ?_ rfl ⟨by rw [HR.out], below_setRow zb (by omega) _⟩
          exact ret_cell2 (fn := Try.f13) rfl _ _ (w.heap.size + 3) 26 _ _ (.int .i64 E) rfl rfl (z3.set _) Try.underlying26 rfl (by rw [size26, bs_size]; exact congrArg some hql.symm)
end Go.Proofs.Ytihjapfgllokgab
