/-
  Proved here: apply.redoData: a data page behind an entry.
-/
import Derived.Test.YtihjapfgllokgabAbt
import Derived.Test.YtihjapfgllokgabOwn
import Derived.Test.YtihjapfgllokgabDlt
namespace Go.Proofs.Ytihjapfgllokgab
open Go.ChangeShapes Go.WideShapes Go.ChangeAt Go.RowKit
set_option linter.unusedVariables false
set_option linter.unusedSimpArgs false
set_option maxRecDepth 20000

theorem D.set0 (d : D) (l : Int) : d.arr.setIfInBounds 0 (.int .u64 l) = D.arr { d with lsn := l } := by simp [D.arr]
theorem D.set123 (d : D) (t p s : Int) : ((d.arr.setIfInBounds 1 (.int .u32 t)).setIfInBounds 2 (.int .u16 p)).setIfInBounds 3 (.int .u8 s) = D.arr { d with ts := t, page := p, slot := s } := by simp [D.arr]
theorem D.setBody (d : D) (h : d.body.length = 64) (l : List Int) (hl : l.length = 64) : setAll d.arr 4 (l.map (Value.int .u8)) = D.arr { d with body := l } := by
  have := setAll_list (l.map (Value.int .u8)) [.int .u64 d.lsn, .int .u32 d.ts, .int .u16 d.page, .int .u8 d.slot] (d.body.map (Value.int .u8)) [] (by simp [h, hl])
  simpa [D.arr] using this
theorem D.bodyCells (d : D) (h : d.body.length = 64) : (d.arr.extract 4 (4 + 64)).toList = d.body.map (Value.int .u8) := by
  simp [D.arr]
  rw [List.take_of_length_le (by simp [h])]

/-- Pieces that are read out of a text lie within a body, and are bytes. -/
theorem parse_fits : ∀ (f nx : Nat) (l : List Int) (ps : List (Nat × List Int)), Bytes l → parse f nx l = some ps → Fits ps ∧ ∀ q ∈ ps, Bytes q.2
  | 0, _, _, _, _, h => by simp [parse] at h
  | _ + 1, _, [], ps, _, h => by simp [parse] at h; subst h; exact ⟨(fun p hp => nomatch hp), (fun p hp => nomatch hp)⟩
  | _ + 1, _, [_], ps, _, h => by simp [parse] at h
  | f + 1, nx, a :: n :: r, ps, hb, h => by
    have ha := hb a (by simp)
    have hn := hb n (by simp)
    rw [parse_cons2] at h
    split at h
    · cases h
    · rename_i hc
      obtain ⟨qs, hq, rfl⟩ := Option.map_eq_some_iff.1 h
      have ih := parse_fits f _ _ qs (fun y hy => hb y (by simp [List.mem_of_mem_drop hy])) hq
      refine ⟨fun q hqm => ?_, fun q hqm => ?_⟩
      · rcases List.mem_cons.1 hqm with rfl | hqm
        · simp only [List.length_take]; omega
        · exact ih.1 q hqm
      · rcases List.mem_cons.1 hqm with rfl | hqm
        · exact fun y hy => hb y (by simp [List.mem_of_mem_take hy])
        · exact ih.2 q hqm
theorem pieces_fits (s : ByteArray) : ∀ ps, pieces s = some ps → Fits ps ∧ ∀ q ∈ ps, Bytes q.2 := fun ps h => parse_fits _ _ _ ps (nums_bytes s) h
theorem applyAll_bytes (b : List Int) (hb : Bytes b) : ∀ ps : List (Nat × List Int), (∀ q ∈ ps, Bytes q.2) → Bytes (applyAll b ps) := by
  intro ps
  induction ps generalizing b with
  | nil => intro _; exact hb
  | cons q ps ih =>
    intro h
    refine ih (splice b q.1 q.2) (fun y hy => ?_) (fun x hx => h x (by simp [hx]))
    unfold splice at hy
    simp only [List.mem_append] at hy
    rcases hy with hy | hy | hy
    · exact hb y (List.mem_of_mem_take hy)
    · exact h q (by simp) y hy
    · exact hb y (List.mem_of_mem_drop hy)

/-- What redoData makes of a page: none: it can't. -/
def redoDR (no : Int) (p : List Int) (e : En) : Option (List Int) :=
  if isD no p then
    if e.r.kind = 2 then match pieces e.r.delta with
      | some ps => some (putD no { lsn := e.lsn, ts := e.r.ts, page := e.r.pp, slot := e.r.ps, body := applyAll (dOf p).body ps })
      | none => none
    else some (putD no { dOf p with lsn := e.lsn })
  else none
def ansP : Option (List Int) → Value
  | some q => .tuple #[.agg (bs q), .int .i64 0]
  | none => .tuple #[.agg (bs (zs 224)), .int .i64 2]
set_option maxHeartbeats 4000000 in
theorem redoData_any (no : Int) (p : List Int) (e : En) (w : World) (hno : 0 ≤ no ∧ no ≤ 65535) (hp : p.length = 224) (hb : Bytes p) (hf : e.Fits) :
    Calls Try.prog 25 #[.int .u16 no, .agg (bs p), .agg e.arr] w fun en w' => en = .returned (ansP (redoDR no p e)) ∧ Below w.heap.size w w' := by
  have hz := zero26
  have hz5 := zero55
  have hpb : (bs p).size = 224 := by rw [bs_size, hp]
  have hd := dOf_ok p hp hb
  have HGD : Hid _ := fun w => getData_any no p w hno hp hb
  have r0 : Row (((w.alloc (.cells (bs p) 26)).alloc (.cells e.arr 39)).alloc (.cells (bs (zs 224)) 26)) w.heap.size (bs p) 26 := ((Row.new _ _ _).alloc _).alloc _
  have r1 : Row (((w.alloc (.cells (bs p) 26)).alloc (.cells e.arr 39)).alloc (.cells (bs (zs 224)) 26)) (w.heap.size + 1) e.arr 39 := by have := (Row.new (w.alloc (.cells (bs p) 26)) e.arr 39).alloc (.cells (bs (zs 224)) 26); simpa using this
  have r2 : Row (((w.alloc (.cells (bs p) 26)).alloc (.cells e.arr 39)).alloc (.cells (bs (zs 224)) 26)) (w.heap.size + 2) (bs (zs 224)) 26 := by have := Row.new ((w.alloc (.cells (bs p) 26)).alloc (.cells e.arr 39)) (bs (zs 224)) 26; simpa using this
  have ab : Below w.heap.size w (((w.alloc (.cells (bs p) 26)).alloc (.cells e.arr 39)).alloc (.cells (bs (zs 224)) 26)) := (((Below.refl _ _).alloc (Nat.le_refl _) _).alloc (by simp) _).alloc (by simp; omega) _
  obtain ⟨d0, Hd0⟩ : ∃ d, Hid (gotD no p = d) := ⟨_, rfl⟩
  obtain ⟨er, Her⟩ : ∃ x, Hid (errD no p = x) := ⟨_, rfl⟩
  rw [Hd0.out, Her.out] at HGD
  have hd0 : d0.body.length = 64 := by
    rw [← Hd0.out]; unfold gotD; split
    · exact hd.len
    · exact zs_length _
  go_enter Try.func25, Try.ntmps25
  go_upto_region 1 with fail
  generalize ((w.alloc (.cells (bs p) 26)).alloc (.cells e.arr 39)).alloc (.cells (bs (zs 224)) 26) = w1 at r0 r1 r2 ab ⊢
  go_upto_region 2 with (first
    | (refine load_row rfl 26 (.tmp 4) rfl w.heap.size rfl 26 (bs p) r0 224 5 Try.underlying26 size26 hpb ?_)
    | (go_at_call 15; refine (HGD.out _).mono ?_; clear HGD; rintro en w2 ⟨rfl, h2⟩
       have s1 := (r1.below h2 r1.lt).alloc (.cells D.zero.arr 55)
       have s2 := (r2.below h2 r2.lt).alloc (.cells D.zero.arr 55)
       have s3 : Row (w2.alloc (.cells D.zero.arr 55)) w2.heap.size D.zero.arr 55 := Row.new _ _ _
       have sb0 : Below w.heap.size w w2 := ab.trans (h2.mono ab.size)
       have sb : Below w.heap.size w (w2.alloc (.cells D.zero.arr 55)) := sb0.alloc sb0.size _
       have hg3 : w.heap.size + 2 < w2.heap.size := (r2.below h2 r2.lt).lt)
    | (refine store_cells rfl 55 (.tmp 8) (.tmp 14) rfl w2.heap.size d0.arr rfl rfl 55 _ s3 68 size55 (D.arr_size _ (zs_length _)) (D.arr_size _ hd0) (D.arr_one _) ?_))
  have t1 := s1.other (g := w2.heap.size) (by omega) d0.arr
  have t2 := s2.other (g := w2.heap.size) (by omega) d0.arr
  have t3 := s3.set d0.arr
  have tb := below_setRow sb sb0.size d0.arr
  clear r0 r1 r2 ab s1 s2 s3 sb sb0 h2
  generalize (w2.alloc (.cells D.zero.arr 55)).setRow w2.heap.size d0.arr = W at t1 t2 t3 tb ⊢
  generalize w2.heap.size = g3 at t1 t2 t3 tb hg3 ⊢
  cases hi : isD no p with
  | false =>
    have HR : Hid (redoDR no p e = none) := by show _ = _; unfold redoDR; rw [hi]; rfl
    have hE : er = 2 := by rw [← Her.out]; unfold errD; rw [hi]; rfl
    subst hE
    go_wp2_with (first
      | (refine build_none rfl 26 rfl (bs (zs 224)) built26 ?_)
      | (refine store_row rfl 26 (.tmp 6) (.tmp 18) rfl (w.heap.size + 2) (zs 224) rfl rfl 26 _ t2 224 size26 (by rw [bs_size, zs_length]) (zs_length _) ?_))
    refine bodyPost_ret (v := .tuple #[.agg (bs (zs 224)), .int .i64 2]) ?_ rfl ⟨by rw [HR.out]; rfl, below_setRow tb (by omega) _⟩
    exact ret_cell2 (fn := Try.f25) rfl _ _ (w.heap.size + 2) 26 _ _ (.int .i64 2) rfl rfl (t2.set _) Try.underlying26 rfl (by rw [size26, bs_size, zs_length])
  | true =>
    have hE : er = 0 := by rw [← Her.out]; unfold errD; rw [hi]; rfl
    have hD : d0 = dOf p := by rw [← Hd0.out]; unfold gotD; rw [hi]; rfl
    clear Hd0 Her
    subst hE hD
    have HRR : Hid (redoDR no p e = if e.r.kind = 2 then match pieces e.r.delta with
      | some ps => some (putD no { lsn := e.lsn, ts := e.r.ts, page := e.r.pp, slot := e.r.ps, body := applyAll (dOf p).body ps })
      | none => none
      else some (putD no { dOf p with lsn := e.lsn })) := by show _ = _; unfold redoDR; rw [hi]; rfl
    clear hi
    generalize dOf p = d at hd t1 t2 t3 tb hd0 HRR
    have kk := row_at t1 1 _ ((e.atR 0).trans e.r.at0)
    by_cases hk : e.r.kind = 2
    · have hk' : (e.r.kind == 2) = true := by simp [hk]
      rw [if_pos hk] at HRR
      clear hk
      go_upto_region 5 with fail
      clear kk
      have c1 := row_at t1 228 _ ((e.atR 227).trans (R.atT e.r hf.r.len 0))
      have c2 := row_at t1 229 _ ((e.atR 228).trans (R.atT e.r hf.r.len 1))
      have c3 := row_at t1 230 _ ((e.atR 229).trans (R.atT e.r hf.r.len 2))
      have b1 := row_at t3 1 _ d.at1
      have b2 := row_at t3 2 _ d.at2
      have b3 := row_at t3 3 _ d.at3
      have f1 := row_frozen t3 1
      have f2 := row_frozen t3 2
      have f3 := row_frozen t3 3
      go_region
      have u3 : Row (((W.setCell ⟨g3, 1, none⟩ (.int .u32 e.r.ts)).setCell ⟨g3, 2, none⟩ (.int .u16 e.r.pp)).setCell ⟨g3, 3, none⟩ (.int .u8 e.r.ps)).drew g3 _ 55 := row_set (row_set (row_set t3 1 (.int .u32 e.r.ts)) 2 (.int .u16 e.r.pp)) 3 (.int .u8 e.r.ps)
      rw [D.set123] at u3
      have u1 : Row (((W.setCell ⟨g3, 1, none⟩ (.int .u32 e.r.ts)).setCell ⟨g3, 2, none⟩ (.int .u16 e.r.pp)).setCell ⟨g3, 3, none⟩ (.int .u8 e.r.ps)).drew (w.heap.size + 1) e.arr 39 := row_setCell_other (row_setCell_other (row_setCell_other t1 (g := g3) (by omega) 1 _) (g := g3) (by omega) 2 _) (g := g3) (by omega) 3 _
      have u2 : Row (((W.setCell ⟨g3, 1, none⟩ (.int .u32 e.r.ts)).setCell ⟨g3, 2, none⟩ (.int .u16 e.r.pp)).setCell ⟨g3, 3, none⟩ (.int .u8 e.r.ps)).drew (w.heap.size + 2) (bs (zs 224)) 26 := row_setCell_other (row_setCell_other (row_setCell_other t2 (g := g3) (by omega) 1 _) (g := g3) (by omega) 2 _) (g := g3) (by omega) 3 _
      have ub := (((tb.setCell (p := ⟨g3, 1, none⟩) (by show w.heap.size ≤ g3; omega) (.int .u32 e.r.ts)).setCell (p := ⟨g3, 2, none⟩) (by show w.heap.size ≤ g3; omega) (.int .u16 e.r.pp)).setCell (p := ⟨g3, 3, none⟩) (by show w.heap.size ≤ g3; omega) (.int .u8 e.r.ps)).drew
      clear t1 t2 t3 tb c1 c2 c3 b1 b2 b3 f1 f2 f3
      generalize (((W.setCell ⟨g3, 1, none⟩ (.int .u32 e.r.ts)).setCell ⟨g3, 2, none⟩ (.int .u16 e.r.pp)).setCell ⟨g3, 3, none⟩ (.int .u8 e.r.ps)).drew = W5 at u1 u2 u3 ub ⊢
      have HAP : Hid _ := fun w => apply_any d.body hd.len e.r.delta hf.r.delta w
      have hfit := pieces_fits e.r.delta
      cases hq : pieces e.r.delta with
      | none =>
        have happ : applied d.body e.r.delta = .tuple #[.agg (bs (zs 64)), .int .i64 2] := by unfold applied; rw [hq]
        rw [hq] at HRR
        rw [happ] at HAP
        have HR : Hid (redoDR no p e = none) := HRR.out
        clear happ hq HRR hfit
        have hz64 : (zs 64).length = 64 := zs_length _
        obtain ⟨Z, HZ⟩ : ∃ Z, Hid (zs 64 = Z) := ⟨_, rfl⟩
        rw [HZ.out] at HAP hz64
        have ir := World.rangeAt_of_block u3 4 64
        rw [D.bodyCells ({ d with ts := e.r.ts, page := e.r.pp, slot := e.r.ps } : D) hd.len] at ir
        try simp only at ir
        have kd := row_at u1 231 _ ((e.atR 230).trans (R.atT e.r hf.r.len 3))
        go_upto_region 7 with (first
          | (refine wpList_load_mid rfl 53 (.tmp 32) rfl g3 4 rfl (d.body.map (Value.int .u8)) _ ir Try.underlying53 rfl (by rw [size53]; simp [hd.len]) ?_)
          | (go_at_call 44; refine (HAP.out _).mono ?_; clear HAP; rintro en w6 ⟨rfl, h6⟩
             have v1 := u1.below h6 u1.lt
             have v2 := u2.below h6 u2.lt
             have v3 := u3.below h6 u3.lt
             have vb := ub.trans (h6.mono ub.size)
             have it : w6.there g3 4 64 := there_row v3 (D.arr_size ({ d with ts := e.r.ts, page := e.r.pp, slot := e.r.ps } : D) hd.len) (by decide))
          | (refine wpList_store_mid rfl 53 (.tmp 40) (.tmp 38) rfl g3 4 (bs Z) rfl rfl (by simpa [bs_size, hz64] using it) (by rw [size53]; simp [bs_size, hz64]) (bs_one _) ?_))
        have x3 := row_setCells v3 (Z.map (Value.int .u8)) 4
        rw [D.setBody ({ d with ts := e.r.ts, page := e.r.pp, slot := e.r.ps } : D) hd.len _ hz64] at x3
        try simp only at x3
        have x1 := row_setCells_other v1 (g := g3) (by omega) (Z.map (Value.int .u8)) 4
        have x2 := row_setCells_other v2 (g := g3) (by omega) (Z.map (Value.int .u8)) 4
        have xb := below_setCellsR vb (show w.heap.size ≤ g3 by omega) (Z.map (Value.int .u8)) 4
        clear u1 u2 u3 ub v1 v2 v3 vb ir it kd h6
        try simp only [bs, List.toList_toArray]
        generalize w6.setCells g3 4 (Z.map (Value.int .u8)) = W7 at x1 x2 x3 xb ⊢
        go_wp2_with (first
          | (refine build_none rfl 26 rfl (bs (zs 224)) built26 ?_)
          | (refine store_row rfl 26 (.tmp 6) (.tmp 43) rfl (w.heap.size + 2) (zs 224) rfl rfl 26 _ x2 224 size26 (by rw [bs_size, zs_length]) (zs_length _) ?_))
        refine bodyPost_ret (v := .tuple #[.agg (bs (zs 224)), .int .i64 2]) ?_ rfl ⟨by rw [HR.out]; rfl, below_setRow xb (by omega) _⟩
        exact ret_cell2 (fn := Try.f25) rfl _ _ (w.heap.size + 2) 26 _ _ (.int .i64 2) rfl rfl (x2.set _) Try.underlying26 rfl (by rw [size26, bs_size, zs_length])
      | some ps =>
        have happ : applied d.body e.r.delta = .tuple #[.agg (bs (applyAll d.body ps)), .int .i64 0] := by unfold applied; rw [hq]
        rw [hq] at HRR
        rw [happ] at HAP
        have hfp := hfit ps hq
        have hAl := applyAll_length d.body hd.len ps hfp.1
        have hAb := applyAll_bytes d.body hd.bytes ps hfp.2
        have HR : Hid (redoDR no p e = some (putD no { lsn := e.lsn, ts := e.r.ts, page := e.r.pp, slot := e.r.ps, body := applyAll d.body ps })) := HRR.out
        clear happ hq HRR hfit hfp
        generalize applyAll d.body ps = Z at HAP hAl hAb HR
        have ir := World.rangeAt_of_block u3 4 64
        rw [D.bodyCells ({ d with ts := e.r.ts, page := e.r.pp, slot := e.r.ps } : D) hd.len] at ir
        try simp only at ir
        have kd := row_at u1 231 _ ((e.atR 230).trans (R.atT e.r hf.r.len 3))
        go_upto_region 7 with (first
          | (refine wpList_load_mid rfl 53 (.tmp 32) rfl g3 4 rfl (d.body.map (Value.int .u8)) _ ir Try.underlying53 rfl (by rw [size53]; simp [hd.len]) ?_)
          | (go_at_call 44; refine (HAP.out _).mono ?_; clear HAP; rintro en w6 ⟨rfl, h6⟩
             have v1 := u1.below h6 u1.lt
             have v2 := u2.below h6 u2.lt
             have v3 := u3.below h6 u3.lt
             have vb := ub.trans (h6.mono ub.size)
             have it : w6.there g3 4 64 := there_row v3 (D.arr_size ({ d with ts := e.r.ts, page := e.r.pp, slot := e.r.ps } : D) hd.len) (by decide))
          | (refine wpList_store_mid rfl 53 (.tmp 40) (.tmp 38) rfl g3 4 (bs Z) rfl rfl (by simpa [bs_size, hAl] using it) (by rw [size53]; simp [bs_size, hAl]) (bs_one _) ?_))
        have x3 := row_setCells v3 (Z.map (Value.int .u8)) 4
        rw [D.setBody ({ d with ts := e.r.ts, page := e.r.pp, slot := e.r.ps } : D) hd.len _ hAl] at x3
        try simp only at x3
        have x1 := row_setCells_other v1 (g := g3) (by omega) (Z.map (Value.int .u8)) 4
        have x2 := row_setCells_other v2 (g := g3) (by omega) (Z.map (Value.int .u8)) 4
        have xb := below_setCellsR vb (show w.heap.size ≤ g3 by omega) (Z.map (Value.int .u8)) 4
        clear u1 u2 u3 ub v1 v2 v3 vb ir it kd h6
        try simp only [bs, List.toList_toArray]
        generalize w6.setCells g3 4 (Z.map (Value.int .u8)) = W7 at x1 x2 x3 xb ⊢
        go_upto_region 9 with fail
        have okZ : D.Ok ⟨e.lsn, e.r.ts, e.r.pp, e.r.ps, Z⟩ := ⟨hf.lsn, hf.r.ts, hf.r.pp, hf.r.ps, hAl, hAb⟩
        have k0 := row_at x1 0 _ e.at0
        have k3 := row_at x3 0 _ (D.at0 ({ d with ts := e.r.ts, page := e.r.pp, slot := e.r.ps, body := Z }))
        have fz := row_frozen x3 0
        go_upto_region 10 with fail
        have z3 := row_set x3 0 (.int .u64 e.lsn)
        rw [D.set0] at z3
        try simp only at z3
        have z2 := row_setCell_other x2 (g := g3) (by omega) 0 (.int .u64 e.lsn)
        have zb := xb.setCell (p := ⟨g3, 0, none⟩) (by show w.heap.size ≤ g3; omega) (.int .u64 e.lsn)
        clear x1 x2 x3 xb k0 k3 fz
        generalize W7.setCell ⟨g3, 0, none⟩ (.int .u64 e.lsn) = W9 at z2 z3 zb ⊢
        have HPU : Hid _ := fun w => putData_any no ({ { d with ts := e.r.ts, page := e.r.pp, slot := e.r.ps, body := Z } with lsn := e.lsn } : D) w hno okZ
        have hq : (putD no ({ { d with ts := e.r.ts, page := e.r.pp, slot := e.r.ps, body := Z } with lsn := e.lsn } : D)).length = 224 := putD_length _ _ (okZ).len
        try simp only at HPU hq HR
        generalize putD no _ = q at HPU hq HR
        go_wp2_with (first
          | (refine load_cells rfl 55 (.tmp 8) rfl g3 rfl 55 _ z3 68 Try.underlying55 rfl size55 (D.arr_size _ (okZ).len) ?_)
          | (go_at_call 27; refine (HPU.out _).mono ?_; clear HPU; rintro en w10 ⟨rfl, h10⟩; have z2 := z2.below h10 z2.lt; have zb := zb.trans (h10.mono zb.size))
          | (refine store_row rfl 26 (.tmp 6) (.tmp 49) rfl (w.heap.size + 2) q rfl rfl 26 _ z2 224 size26 (by rw [bs_size, zs_length]) hq ?_))
        refine bodyPost_ret (v := .tuple #[.agg (bs q), .int .i64 0]) ?_ rfl ⟨by rw [HR.out]; rfl, below_setRow zb (by omega) _⟩
        exact ret_cell2 (fn := Try.f25) rfl _ _ (w.heap.size + 2) 26 _ _ (.int .i64 0) rfl rfl (z2.set _) Try.underlying26 rfl (by rw [size26, bs_size, hq])
    · have hk' : (e.r.kind == 2) = false := by simp [hk]
      rw [if_neg hk] at HRR
      have HR := HRR
      clear hk HRR
      go_upto_region 9 with fail
      clear kk
      have okD : D.Ok { d with lsn := e.lsn } := ⟨hf.lsn, hd.ts, hd.page, hd.slot, hd.len, hd.bytes⟩
      have k0 := row_at t1 0 _ e.at0
      have k3 := row_at t3 0 _ (D.at0 (d))
      have fz := row_frozen t3 0
      go_upto_region 10 with fail
      have z3 := row_set t3 0 (.int .u64 e.lsn)
      rw [D.set0] at z3
      try simp only at z3
      have z2 := row_setCell_other t2 (g := g3) (by omega) 0 (.int .u64 e.lsn)
      have zb := tb.setCell (p := ⟨g3, 0, none⟩) (by show w.heap.size ≤ g3; omega) (.int .u64 e.lsn)
      clear t1 t2 t3 tb k0 k3 fz
      generalize W.setCell ⟨g3, 0, none⟩ (.int .u64 e.lsn) = W9 at z2 z3 zb ⊢
      have HPU : Hid _ := fun w => putData_any no ({ d with lsn := e.lsn } : D) w hno okD
      have hq : (putD no ({ d with lsn := e.lsn } : D)).length = 224 := putD_length _ _ (okD).len
      try simp only at HPU hq HR
      generalize putD no _ = q at HPU hq HR
      go_wp2_with (first
        | (refine load_cells rfl 55 (.tmp 8) rfl g3 rfl 55 _ z3 68 Try.underlying55 rfl size55 (D.arr_size _ (okD).len) ?_)
        | (go_at_call 27; refine (HPU.out _).mono ?_; clear HPU; rintro en w10 ⟨rfl, h10⟩; have z2 := z2.below h10 z2.lt; have zb := zb.trans (h10.mono zb.size))
        | (refine store_row rfl 26 (.tmp 6) (.tmp 49) rfl (w.heap.size + 2) q rfl rfl 26 _ z2 224 size26 (by rw [bs_size, zs_length]) hq ?_))
      refine bodyPost_ret (v := .tuple #[.agg (bs q), .int .i64 0]) ?_ rfl ⟨by rw [HR.out]; rfl, below_setRow zb (by omega) _⟩
      exact ret_cell2 (fn := Try.f25) rfl _ _ (w.heap.size + 2) 26 _ _ (.int .i64 0) rfl rfl (z2.set _) Try.underlying26 rfl (by rw [size26, bs_size, hq])
end Go.Proofs.Ytihjapfgllokgab
