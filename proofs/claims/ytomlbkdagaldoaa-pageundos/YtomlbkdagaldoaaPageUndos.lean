/-
  Proved here: any undo page is the document's payload, or may not be; any payload is told as that undo page's, or as none, just as the document says; so are May and Size (PageUndos), for all numbers, undo pages and payloads.
-/
import Derived.Test.YtomlbkdagaldoaaKind
namespace Go.Proofs.Ytomlbkdagaldoaa.pageUndos
open Go.ChangeShapes Go.WideShapes Go.ChangeAt Go.RowKit
open Go.Deep
set_option linter.unusedVariables false
set_option linter.unusedSimpArgs false

theorem own : ownKnob Try.prog.godebug = none := by kernel_rfl

theorem got_same (no : Int) (p : List Int) (w : World) (hno : 0 ≤ no ∧ no ≤ 65535) (hp : p.length = 224) (hb : Bytes p) :
    ∃ (L : Int) (ls : List O), ls.length ≤ 255 ∧ (∀ w, Calls Try.prog 19 #[.int .u16 no, .agg (bs p)] w fun e w' => ∃ oa cap, e = .returned (.tuple #[.agg #[.int .u64 L, .slice oa ls.length cap], .int .i64 (if isU no p then 0 else 2)]) ∧ Olds w' (.slice oa ls.length cap) ls ∧ Below w.heap.size w w') ∧
      ∀ w, Calls Try.prog 20 #[.int .u16 no, .agg (bs p)] w fun e w' => ∃ oa cap, e = .returned (.tuple #[.agg #[.int .u64 L, .slice oa ls.length cap], .bool (isU no p)]) ∧ Olds w' (.slice oa ls.length cap) ls ∧ Below w.heap.size w w' := by
  refine ⟨if isU no p then lsnOf p else 0, if isU no p then uOf p else [], ?_, fun w => (getUndo_any no p w hno hp hb).mono fun e w' h => ?_, fun w => (rgetUndo_any no p w hno hp hb).mono fun e w' h => ?_⟩
  · split
    · unfold uOf; rw [readO_length]
      have := getN_fits (strOfNums p) 15 1
      unfold cntU; omega
    · simp
  · obtain ⟨v', h1, h2, h3⟩ := h
    obtain ⟨oa, cap, e, _⟩ := h2.open
    exact ⟨oa, cap, by rw [← e]; exact h1, by rw [← e]; exact h2, h3⟩
  · obtain ⟨v', h1, h2, h3⟩ := h
    obtain ⟨oa, cap, e, _⟩ := h2.open
    exact ⟨oa, cap, by rw [← e]; exact h1, by rw [← e]; exact h2, h3⟩
set_option maxRecDepth 20000 in
set_option maxHeartbeats 8000000 in
theorem walk (w : World) (no : Int) (lsn : Int) (c : Value) (os : List O) (p : List Int) (hno : (Lit.int .u16 no).wf = true) (hu : Und w lsn c os) (hdl : ∀ o ∈ os, o.delta.size ≤ 140737488355328) (hp : p.length = 224) (hb : Bytes p) :
    Calls Try.prog 4 #[.int .u16 no, .agg #[.int .u64 lsn, c], .agg (bs p)] w fun e w' => e = .returned (.bool true) ∧ Below w.heap.size w w' := by
  have hno := bounds_u16 hno
  have hz2 := zero32
  have hz3 := zero44
  have HAW : Hid _ := fun w => awake_any w
  obtain ⟨ho, hf, hlsn, hn⟩ := hu
  have HKP : Hid _ := fun (w' : World) (hb : Below w.heap.size w w') => kept_big lsn c os w' (ho.keep hb) hn
  have HPU : Hid _ := fun v w (h : Olds w v os) => putUndo_any no lsn v os w h hf hno hlsn
  have HRP : Hid _ := fun (w' : World) (hb : Below w.heap.size w w') => rputUndo_any no lsn c os w' (ho.keep hb) hf hno hlsn
  have HMY : Hid _ := fun v w (h : Olds w v os) => may_any lsn v os w h
  have HSZ : Hid _ := fun v w (h : Olds w v os) (hn : os.length ≤ 1000) => size_any lsn v os w h hn hdl
  have HRS : Hid _ := fun (w' : World) (hb : Below w.heap.size w w') (hn : os.length ≤ 1000) => rsize_any lsn c os w' (ho.keep hb) hf hn hdl
  obtain ⟨L, ls, hls, hg1, hg2⟩ := got_same no p w hno hp hb
  have HG1 : Hid _ := hg1
  have HG2 : Hid _ := hg2
  have HSM : Hid _ := fun v v2 w h h2 => same_any L v v2 ls w h h2 (by omega)
  have hul := putU_length no lsn os
  have heq := equal32 (putU no lsn os) (putU no lsn os) hul hul
  simp only [decide_true] at heq
  have HE : Hid (errU os = if may os then 0 else 1) := rfl
  have HE2 : Hid ((if isU no p then (0 : Int) else 2) = if isU no p then (0 : Int) else 2) := rfl
  generalize putU no lsn os = U at HPU HRP hul heq
  generalize errU os = E at HPU HE
  generalize may os = M at HRP HMY HE
  generalize hqq : (if isU no p then (0 : Int) else 2) = E2 at HG1
  have HE3 : Hid _ := hqq
  generalize isU no p = I at HG2 HE3
  generalize psize os = Z at HSZ HRS
  generalize ls.length = m at HG1 HG2
  obtain ⟨oa, cap, rfl, _⟩ := ho.open
  obtain ⟨n, HN⟩ : ∃ n, Hid (os.length = n) := ⟨_, rfl⟩
  rw [HN.out] at HKP HRP HSZ HRS ⊢
  have hUb : (bs U).size = 224 := by rw [bs_size, hul]
  have hpb : (bs p).size = 224 := by rw [bs_size, hp]
  clear ho hn hp hb hg1 hg2 hqq hdl HE2 hls hf
  have r0 : Row ((w.alloc (.cells #[.int .u64 lsn, .slice oa n cap] 44)).alloc (.cells (bs p) 32)) w.heap.size #[.int .u64 lsn, .slice oa n cap] 44 := (Row.new _ _ _).alloc _
  have r1 : Row ((w.alloc (.cells #[.int .u64 lsn, .slice oa n cap] 44)).alloc (.cells (bs p) 32)) (w.heap.size + 1) (bs p) 32 := by have := Row.new (w.alloc (.cells #[.int .u64 lsn, .slice oa n cap] 44)) (bs p) 32; simpa using this
  have ab : Below w.heap.size w ((w.alloc (.cells #[.int .u64 lsn, .slice oa n cap] 44)).alloc (.cells (bs p) 32)) := ((Below.refl _ _).alloc (Nat.le_refl _) _).alloc (by simp) _
  go_enter Try.func4, Try.ntmps4
  go_upto_region 1 with fail
  generalize (w.alloc (.cells #[.int .u64 lsn, .slice oa n cap] 44)).alloc (.cells (bs p) 32) = w1 at r0 r1 ab ⊢
  have c1 := row_at r0 1 _ rfl
  by_cases hn1 : n ≤ 1000
  · have hn2 : ¬ (n : Int) > 1000 := by omega
    have HRS : Hid _ := fun w' hb => HRS.out w' hb hn1
    have HSZ : Hid _ := fun v w h => HSZ.out v w h hn1
    clear hul
    have hul : U.length = 224 := by rw [← bs_size]; exact hUb
    have HUL : Hid _ := hul
    clear hul
    go_upto_region 4 with (first
      | (refine load_cells rfl 44 (.tmp 4) rfl w.heap.size rfl 44 #[.int .u64 lsn, .slice oa n cap] r0 2 Try.underlying44 rfl size44 rfl ?_)
      | (go_at_call 17; refine (HKP.out _ ab).mono ?_; rintro e w5 ⟨v5, rfl, o5, h5⟩
         obtain ⟨oa5, cap5, rfl⟩ := o5.form
         have HPU5 : Hid _ := HPU.out _ _ o5.olds
         clear HPU)
      | (go_at_call 16; refine Calls.mono HPU5.out ?_; clear HPU5; rintro e w6 ⟨rfl, h6⟩
         have q7 : Row (w6.alloc (.cells (bs (zs 224)) 32)) w6.heap.size (bs (zs 224)) 32 := Row.new _ _ _)
      | (refine store_row rfl 32 (.tmp 7) (.tmp 25) rfl w6.heap.size U rfl rfl 32 _ q7 224 size32 (by rw [bs_size, zs_length]) HUL.out ?_))
    have r0 := (r0.below h5 r0.lt).below h6 (r0.below h5 r0.lt).lt
    have r1 := (r1.below h5 r1.lt).below h6 (r1.below h5 r1.lt).lt
    have ab := ab.trans (h5.mono ab.size)
    have ab := ab.trans (h6.mono ab.size)
    have l6 := r1.lt
    have r0 := (r0.alloc (.cells (bs (zs 224)) 32)).other (g := w6.heap.size) (by omega) (bs U)
    have r1 := (r1.alloc (.cells (bs (zs 224)) 32)).other (g := w6.heap.size) (by omega) (bs U)
    have q7 := q7.set (bs U)
    have ab := below_setRow (ab.alloc ab.size (.cells (bs (zs 224)) 32)) ab.size (bs U)
    clear h5 h6 o5 c1
    generalize (w6.alloc (.cells (bs (zs 224)) 32)).setRow w6.heap.size (bs U) = w7 at r0 r1 q7 ab ⊢
    generalize w6.heap.size = g7 at q7 l6 ⊢
    go_upto_region 5 with (first
      | (refine load_cells rfl 44 (.tmp 4) rfl w.heap.size rfl 44 #[.int .u64 lsn, .slice oa n cap] r0 2 Try.underlying44 rfl size44 rfl ?_)
      | (go_at_call 18; refine (HRP.out _ ab).mono ?_; clear HRP; rintro e w8 ⟨rfl, h8⟩
         have q9 : Row (w8.alloc (.cells (bs (zs 224)) 32)) w8.heap.size (bs (zs 224)) 32 := Row.new _ _ _)
      | (refine store_row rfl 32 (.tmp 9) (.tmp 31) rfl w8.heap.size U rfl rfl 32 _ q9 224 size32 (by rw [bs_size, zs_length]) HUL.out ?_))
    have r0 := r0.below h8 r0.lt
    have r1 := r1.below h8 r1.lt
    have q7 := q7.below h8 q7.lt
    have ab := ab.trans (h8.mono ab.size)
    have l8 := q7.lt
    have r0 := (r0.alloc (.cells (bs (zs 224)) 32)).other (g := w8.heap.size) (by omega) (bs U)
    have r1 := (r1.alloc (.cells (bs (zs 224)) 32)).other (g := w8.heap.size) (by omega) (bs U)
    have q7 := (q7.alloc (.cells (bs (zs 224)) 32)).other (g := w8.heap.size) (by omega) (bs U)
    have q9 := q9.set (bs U)
    have ab := below_setRow (ab.alloc ab.size (.cells (bs (zs 224)) 32)) ab.size (bs U)
    clear h8
    generalize (w8.alloc (.cells (bs (zs 224)) 32)).setRow w8.heap.size (bs U) = w9 at r0 r1 q7 q9 ab ⊢
    generalize w8.heap.size = g9 at q9 l8 ⊢
    go_upto_region 6 with (first
      | (refine load_row rfl 32 (.tmp 5) rfl (w.heap.size + 1) rfl 32 (bs p) r1 224 5 Try.underlying32 size32 hpb ?_)
      | (go_at_call 19; refine (HG1.out _).mono ?_; clear HG1; rintro e w10 ⟨oa1, cap1, rfl, o1, h10⟩
         have qb : Row (w10.alloc (.cells #[.int .u64 0, .slice none 0 0] 44)) w10.heap.size #[.int .u64 0, .slice none 0 0] 44 := Row.new _ _ _)
      | (refine store_cells rfl 44 (.tmp 11) (.tmp 37) rfl w10.heap.size #[.int .u64 L, .slice oa1 m cap1] rfl rfl 44 _ qb 2 size44 rfl rfl (by simp [Value.oneCell']) ?_))
    have r0 := r0.below h10 r0.lt
    have r1 := r1.below h10 r1.lt
    have q7 := q7.below h10 q7.lt
    have q9 := q9.below h10 q9.lt
    have ab := ab.trans (h10.mono ab.size)
    have l10 := q9.lt
    have ob : Below w10.heap.size w10 ((w10.alloc (.cells #[.int .u64 0, .slice none 0 0] 44)).setRow w10.heap.size #[.int .u64 L, .slice oa1 m cap1]) := below_setRow ((Below.refl _ _).alloc (Nat.le_refl _) _) (Nat.le_refl _) _
    have r0 := (r0.alloc (.cells #[.int .u64 0, .slice none 0 0] 44)).other (g := w10.heap.size) (by omega) #[.int .u64 L, .slice oa1 m cap1]
    have r1 := (r1.alloc (.cells #[.int .u64 0, .slice none 0 0] 44)).other (g := w10.heap.size) (by omega) #[.int .u64 L, .slice oa1 m cap1]
    have q7 := (q7.alloc (.cells #[.int .u64 0, .slice none 0 0] 44)).other (g := w10.heap.size) (by omega) #[.int .u64 L, .slice oa1 m cap1]
    have q9 := (q9.alloc (.cells #[.int .u64 0, .slice none 0 0] 44)).other (g := w10.heap.size) (by omega) #[.int .u64 L, .slice oa1 m cap1]
    have qb := qb.set #[.int .u64 L, .slice oa1 m cap1]
    have o1 := o1.keep ob
    have ab := ab.trans (ob.mono ab.size)
    clear h10 ob
    generalize (w10.alloc (.cells #[.int .u64 0, .slice none 0 0] 44)).setRow w10.heap.size #[.int .u64 L, .slice oa1 m cap1] = w11 at r0 r1 q7 q9 qb o1 ab ⊢
    generalize w10.heap.size = gb at qb l10 ⊢
    go_upto_region 7 with (first
      | (refine load_row rfl 32 (.tmp 5) rfl (w.heap.size + 1) rfl 32 (bs p) r1 224 5 Try.underlying32 size32 hpb ?_)
      | (go_at_call 20; refine (HG2.out _).mono ?_; clear HG2; rintro e w12 ⟨oa2, cap2, rfl, o2, h12⟩
         have qd : Row (w12.alloc (.cells #[.int .u64 0, .slice none 0 0] 44)) w12.heap.size #[.int .u64 0, .slice none 0 0] 44 := Row.new _ _ _)
      | (refine store_cells rfl 44 (.tmp 13) (.tmp 43) rfl w12.heap.size #[.int .u64 L, .slice oa2 m cap2] rfl rfl 44 _ qd 2 size44 rfl rfl (by simp [Value.oneCell']) ?_))
    have r0 := r0.below h12 r0.lt
    have q7 := q7.below h12 q7.lt
    have q9 := q9.below h12 q9.lt
    have qb := qb.below h12 qb.lt
    have o1 := o1.keep h12
    have ab := ab.trans (h12.mono ab.size)
    have l12 := qb.lt
    have ob : Below w12.heap.size w12 ((w12.alloc (.cells #[.int .u64 0, .slice none 0 0] 44)).setRow w12.heap.size #[.int .u64 L, .slice oa2 m cap2]) := below_setRow ((Below.refl _ _).alloc (Nat.le_refl _) _) (Nat.le_refl _) _
    have r0 := (r0.alloc (.cells #[.int .u64 0, .slice none 0 0] 44)).other (g := w12.heap.size) (by omega) #[.int .u64 L, .slice oa2 m cap2]
    have q7 := (q7.alloc (.cells #[.int .u64 0, .slice none 0 0] 44)).other (g := w12.heap.size) (by omega) #[.int .u64 L, .slice oa2 m cap2]
    have q9 := (q9.alloc (.cells #[.int .u64 0, .slice none 0 0] 44)).other (g := w12.heap.size) (by omega) #[.int .u64 L, .slice oa2 m cap2]
    have qb := (qb.alloc (.cells #[.int .u64 0, .slice none 0 0] 44)).other (g := w12.heap.size) (by omega) #[.int .u64 L, .slice oa2 m cap2]
    have qd := qd.set #[.int .u64 L, .slice oa2 m cap2]
    have o1 := o1.keep ob
    have o2 := o2.keep ob
    have ab := ab.trans (ob.mono ab.size)
    clear h12 ob r1
    generalize (w12.alloc (.cells #[.int .u64 0, .slice none 0 0] 44)).setRow w12.heap.size #[.int .u64 L, .slice oa2 m cap2] = wk at r0 q7 q9 qb qd o1 o2 ab ⊢
    generalize w12.heap.size = gd at qd l12 ⊢
    go_cut [76] from 15 to 95 (fun c wx => c = .bool false ∧ Row wx gb #[.int .u64 L, .slice oa1 m cap1] 44 ∧ Row wx gd #[.int .u64 L, .slice oa2 m cap2] 44 ∧ Below wk.heap.size wk wx)
    case first =>
      clear HSM HAW HE3 o1 o2 hpb
      cases M
      · obtain rfl : E = 1 := HE.out
        refine wp_region_held_drew (S := fun w' => Row w' w.heap.size #[.int .u64 lsn, .slice oa n cap] 44 ∧ Row w' g7 (bs U) 32 ∧ Row w' g9 (bs U) 32 ∧ Row w' gb #[.int .u64 L, .slice oa1 m cap1] 44 ∧ Row w' gd #[.int .u64 L, .slice oa2 m cap2] 44 ∧ Below wk.heap.size wk w') (by kernel_rfl) ⟨r0, q7, q9, qb, qd, (Below.refl wk.heap.size wk).drew⟩ fun hS => ?_
        refine wpAnyH_take (i := 0) (v := .agg (bs U)) rfl (by kernel_rfl) (by kernel_rfl) (by kernel_rfl) (fun _ _ _ h => h) (yields_row (by rfl) 32 (.tmp 7) rfl g7 rfl 32 (bs U) (fun w h => h.2.1) 224 5 Try.underlying32 size32 hUb) hS ?_
        try simp only [Act.put, List.getElem_toArray, List.getElem_cons_zero, List.getElem_cons_succ, List.setIfInBounds_toArray, List.set_cons_zero, List.set_cons_succ]
        refine wpAnyH_take (i := 1) (v := .agg (bs U)) rfl (by kernel_rfl) (by kernel_rfl) (by kernel_rfl) (fun _ _ _ h => h) (yields_row (by rfl) 32 (.tmp 9) rfl g9 rfl 32 (bs U) (fun w h => h.2.2.1) 224 5 Try.underlying32 size32 hUb) hS ?_
        try simp only [Act.put, List.getElem_toArray, List.getElem_cons_zero, List.getElem_cons_succ, List.setIfInBounds_toArray, List.set_cons_zero, List.set_cons_succ]
        refine wpAnyH_take (i := 2) (v := .bool false) rfl (by kernel_rfl) (by kernel_rfl) (by kernel_rfl) (fun _ _ _ h => h) (yields_neq (by rfl) 32 32 (.tmp 45) (.tmp 46) rfl (bs U) (bs U) rfl rfl Try.eqGuardType32 true heq) hS ?_
        try simp only [Act.put, List.getElem_toArray, List.getElem_cons_zero, List.getElem_cons_succ, List.setIfInBounds_toArray, List.set_cons_zero, List.set_cons_succ]
        refine wpAnyH_take (i := 3) (v := .bool false) rfl (by kernel_rfl) (by kernel_rfl) (by kernel_rfl) (fun _ _ _ h => h) (Or.inl ⟨by rfl, fun w _ => by go_simp⟩) hS ?_
        try simp only [Act.put, List.getElem_toArray, List.getElem_cons_zero, List.getElem_cons_succ, List.setIfInBounds_toArray, List.set_cons_zero, List.set_cons_succ]
        refine wpAnyH_take (i := 4) (v := .int .i64 1) rfl (by kernel_rfl) (by kernel_rfl) (by kernel_rfl) (fun _ _ _ h => h) (Or.inl ⟨by rfl, fun w _ => by go_simp⟩) hS ?_
        try simp only [Act.put, List.getElem_toArray, List.getElem_cons_zero, List.getElem_cons_succ, List.setIfInBounds_toArray, List.set_cons_zero, List.set_cons_succ]
        refine wpAnyH_take (i := 5) (v := .bool false) rfl (by kernel_rfl) (by kernel_rfl) (by kernel_rfl) (fun _ _ _ h => h) (Or.inl ⟨by rfl, fun w _ => by go_simp⟩) hS ?_
        try simp only [Act.put, List.getElem_toArray, List.getElem_cons_zero, List.getElem_cons_succ, List.setIfInBounds_toArray, List.set_cons_zero, List.set_cons_succ]
        refine wpAnyH_take (i := 6) (v := .bool false) rfl (by kernel_rfl) (by kernel_rfl) (by kernel_rfl) (fun _ _ _ h => h) (Or.inl ⟨by rfl, fun w _ => by go_simp⟩) hS ?_
        try simp only [Act.put, List.getElem_toArray, List.getElem_cons_zero, List.getElem_cons_succ, List.setIfInBounds_toArray, List.set_cons_zero, List.set_cons_succ]
        refine wpAnyH_take (i := 7) (v := .bool false) rfl (by kernel_rfl) (by kernel_rfl) (by kernel_rfl) (fun _ _ _ h => h) (Or.inl ⟨by rfl, fun w _ => by go_simp⟩) hS ?_
        try simp only [Act.put, List.getElem_toArray, List.getElem_cons_zero, List.getElem_cons_succ, List.setIfInBounds_toArray, List.set_cons_zero, List.set_cons_succ]
        refine wpAnyH_take (i := 8) (v := .bool false) rfl (by kernel_rfl) (by kernel_rfl) (by kernel_rfl) (fun _ _ _ h => h) (Or.inl ⟨by rfl, fun w _ => by go_simp⟩) hS ?_
        try simp only [Act.put, List.getElem_toArray, List.getElem_cons_zero, List.getElem_cons_succ, List.setIfInBounds_toArray, List.set_cons_zero, List.set_cons_succ]
        refine wpAnyH_take (i := 9) (v := .bool false) rfl (by kernel_rfl) (by kernel_rfl) (by kernel_rfl) (fun _ _ _ h => h) (Or.inl ⟨by rfl, fun w _ => by go_simp⟩) hS ?_
        try simp only [Act.put, List.getElem_toArray, List.getElem_cons_zero, List.getElem_cons_succ, List.setIfInBounds_toArray, List.set_cons_zero, List.set_cons_succ]
        refine wpAnyH_take (i := 10) (v := .bool false) rfl (by kernel_rfl) (by kernel_rfl) (by kernel_rfl) (fun _ _ _ h => h) (Or.inl ⟨by rfl, fun w _ => by go_simp⟩) hS ?_
        try simp only [Act.put, List.getElem_toArray, List.getElem_cons_zero, List.getElem_cons_succ, List.setIfInBounds_toArray, List.set_cons_zero, List.set_cons_succ]
        refine wpAnyH_take (i := 11) (v := .bool true) rfl (by kernel_rfl) (by kernel_rfl) (by kernel_rfl) (fun _ _ _ h => h) (Or.inl ⟨by rfl, fun w _ => by go_simp⟩) hS ?_
        try simp only [Act.put, List.getElem_toArray, List.getElem_cons_zero, List.getElem_cons_succ, List.setIfInBounds_toArray, List.set_cons_zero, List.set_cons_succ]
        refine wpAnyH_take (i := 12) (v := .bool true) rfl (by kernel_rfl) (by kernel_rfl) (by kernel_rfl) (fun _ _ _ h => h) (Or.inl ⟨by rfl, fun w _ => by go_simp⟩) hS ?_
        try simp only [Act.put, List.getElem_toArray, List.getElem_cons_zero, List.getElem_cons_succ, List.setIfInBounds_toArray, List.set_cons_zero, List.set_cons_succ]
        refine wpAnyH_take (i := 13) (v := .int .i64 1) rfl (by kernel_rfl) (by kernel_rfl) (by kernel_rfl) (fun _ _ _ h => h) (Or.inl ⟨by rfl, fun w _ => by go_simp⟩) hS ?_
        try simp only [Act.put, List.getElem_toArray, List.getElem_cons_zero, List.getElem_cons_succ, List.setIfInBounds_toArray, List.set_cons_zero, List.set_cons_succ]
        refine wpAnyH_take (i := 14) (v := .bool false) rfl (by kernel_rfl) (by kernel_rfl) (by kernel_rfl) (fun _ _ _ h => h) (Or.inl ⟨by rfl, fun w _ => by go_simp⟩) hS ?_
        try simp only [Act.put, List.getElem_toArray, List.getElem_cons_zero, List.getElem_cons_succ, List.setIfInBounds_toArray, List.set_cons_zero, List.set_cons_succ]
        refine wpAnyH_take (i := 15) (v := .bool false) rfl (by kernel_rfl) (by kernel_rfl) (by kernel_rfl) (fun _ _ _ h => h) (Or.inl ⟨by rfl, fun w _ => by go_simp⟩) hS ?_
        try simp only [Act.put, List.getElem_toArray, List.getElem_cons_zero, List.getElem_cons_succ, List.setIfInBounds_toArray, List.set_cons_zero, List.set_cons_succ]
        refine wpAnyH_take (i := 16) (v := .bool false) rfl (by kernel_rfl) (by kernel_rfl) (by kernel_rfl) (fun _ _ _ h => h) (Or.inl ⟨by rfl, fun w _ => by go_simp⟩) hS ?_
        try simp only [Act.put, List.getElem_toArray, List.getElem_cons_zero, List.getElem_cons_succ, List.setIfInBounds_toArray, List.set_cons_zero, List.set_cons_succ]
        refine wpAnyH_take (i := 17) (v := .bool false) rfl (by kernel_rfl) (by kernel_rfl) (by kernel_rfl) (fun _ _ _ h => h) (Or.inl ⟨by rfl, fun w _ => by go_simp⟩) hS ?_
        try simp only [Act.put, List.getElem_toArray, List.getElem_cons_zero, List.getElem_cons_succ, List.setIfInBounds_toArray, List.set_cons_zero, List.set_cons_succ]
        refine wpAnyH_take (i := 18) (v := .agg #[.int .u64 lsn, .slice oa n cap]) rfl (by kernel_rfl) (by kernel_rfl) (by kernel_rfl) (fun _ _ _ h => h) (yields_cells (by rfl) 44 (.tmp 4) rfl w.heap.size rfl 44 #[.int .u64 lsn, .slice oa n cap] (fun w h => h.1) 2 Try.underlying44 rfl size44 rfl) hS ?_
        try simp only [Act.put, List.getElem_toArray, List.getElem_cons_zero, List.getElem_cons_succ, List.setIfInBounds_toArray, List.set_cons_zero, List.set_cons_succ]
        refine wpAnyH_take (i := 21) (v := .bool false) rfl (by kernel_rfl) (by kernel_rfl) (by kernel_rfl) (fun _ _ _ h => h) (Or.inl ⟨by rfl, fun w _ => by go_simp⟩) hS ?_
        try simp only [Act.put, List.getElem_toArray, List.getElem_cons_zero, List.getElem_cons_succ, List.setIfInBounds_toArray, List.set_cons_zero, List.set_cons_succ]
        refine wpAnyH_ready (rs := [19]) (by kernel_rfl) (by simp) ?_
        refine AllReadyH.cons rfl (fun K hK => ?_) AllReadyH.nil
        go_simp
        go_at_call 17
        refine Calls.mono (HKP.out _ (ab.trans (hS.2.2.2.2.2.mono ab.size))) ?_
        rintro e wc ⟨vK, rfl, oK, hcb⟩
        obtain ⟨oaK, capK, rfl⟩ := oK.form
        have HK : Hid _ := HMY.out _ _ oK.olds
        refine hK.out _ _ (⟨hS.1.below hcb hS.1.lt, hS.2.1.below hcb hS.2.1.lt, hS.2.2.1.below hcb hS.2.2.1.lt, hS.2.2.2.1.below hcb hS.2.2.2.1.lt, hS.2.2.2.2.1.below hcb hS.2.2.2.2.1.lt, hS.2.2.2.2.2.trans (hcb.mono hS.2.2.2.2.2.size)⟩) fun hS => ?_
        try simp only [Act.put, List.getElem_toArray, List.getElem_cons_zero, List.getElem_cons_succ, List.setIfInBounds_toArray, List.set_cons_zero, List.set_cons_succ]
        clear hcb
        refine wpAnyH_ready (rs := [20]) (by kernel_rfl) (by simp) ?_
        refine AllReadyH.cons rfl (fun K hK => ?_) AllReadyH.nil
        go_simp
        go_at_call 21
        refine Calls.mono (HK.out) ?_
        rintro e w2_20 ⟨rfl, hcb⟩
        refine hK.out _ _ (⟨hS.1.below hcb hS.1.lt, hS.2.1.below hcb hS.2.1.lt, hS.2.2.1.below hcb hS.2.2.1.lt, hS.2.2.2.1.below hcb hS.2.2.2.1.lt, hS.2.2.2.2.1.below hcb hS.2.2.2.2.1.lt, hS.2.2.2.2.2.trans (hcb.mono hS.2.2.2.2.2.size)⟩) fun hS => ?_
        try simp only [Act.put, List.getElem_toArray, List.getElem_cons_zero, List.getElem_cons_succ, List.setIfInBounds_toArray, List.set_cons_zero, List.set_cons_succ]
        clear hcb
        refine wpAnyH_take (i := 22) (v := .bool false) rfl (by kernel_rfl) (by kernel_rfl) (by kernel_rfl) (fun _ _ _ h => h) (Or.inl ⟨by rfl, fun w _ => by go_simp⟩) hS ?_
        try simp only [Act.put, List.getElem_toArray, List.getElem_cons_zero, List.getElem_cons_succ, List.setIfInBounds_toArray, List.set_cons_zero, List.set_cons_succ]
        refine wpAnyH_take (i := 23) (v := .bool false) rfl (by kernel_rfl) (by kernel_rfl) (by kernel_rfl) (fun _ _ _ h => h) (Or.inl ⟨by rfl, fun w _ => by go_simp⟩) hS ?_
        try simp only [Act.put, List.getElem_toArray, List.getElem_cons_zero, List.getElem_cons_succ, List.setIfInBounds_toArray, List.set_cons_zero, List.set_cons_succ]
        refine wpAnyH_take (i := 24) (v := .bool false) rfl (by kernel_rfl) (by kernel_rfl) (by kernel_rfl) (fun _ _ _ h => h) (Or.inl ⟨by rfl, fun w _ => by go_simp⟩) hS ?_
        try simp only [Act.put, List.getElem_toArray, List.getElem_cons_zero, List.getElem_cons_succ, List.setIfInBounds_toArray, List.set_cons_zero, List.set_cons_succ]
        refine wpAnyH_take (i := 25) (v := .agg #[.int .u64 lsn, .slice oa n cap]) rfl (by kernel_rfl) (by kernel_rfl) (by kernel_rfl) (fun _ _ _ h => h) (yields_cells (by rfl) 44 (.tmp 4) rfl w.heap.size rfl 44 #[.int .u64 lsn, .slice oa n cap] (fun w h => h.1) 2 Try.underlying44 rfl size44 rfl) hS ?_
        try simp only [Act.put, List.getElem_toArray, List.getElem_cons_zero, List.getElem_cons_succ, List.setIfInBounds_toArray, List.set_cons_zero, List.set_cons_succ]
        refine wpAnyH_take (i := 28) (v := .agg #[.int .u64 lsn, .slice oa n cap]) rfl (by kernel_rfl) (by kernel_rfl) (by kernel_rfl) (fun _ _ _ h => h) (yields_cells (by rfl) 44 (.tmp 4) rfl w.heap.size rfl 44 #[.int .u64 lsn, .slice oa n cap] (fun w h => h.1) 2 Try.underlying44 rfl size44 rfl) hS ?_
        try simp only [Act.put, List.getElem_toArray, List.getElem_cons_zero, List.getElem_cons_succ, List.setIfInBounds_toArray, List.set_cons_zero, List.set_cons_succ]
        refine wpAnyH_ready (rs := [26]) (by kernel_rfl) (by simp) ?_
        refine AllReadyH.cons rfl (fun K hK => ?_) AllReadyH.nil
        go_simp
        go_at_call 17
        refine Calls.mono (HKP.out _ (ab.trans (hS.2.2.2.2.2.mono ab.size))) ?_
        rintro e wc ⟨vJ, rfl, oJ, hcb⟩
        obtain ⟨oaJ, capJ, rfl⟩ := oJ.form
        have HJ : Hid _ := HSZ.out _ _ oJ.olds
        refine hK.out _ _ (⟨hS.1.below hcb hS.1.lt, hS.2.1.below hcb hS.2.1.lt, hS.2.2.1.below hcb hS.2.2.1.lt, hS.2.2.2.1.below hcb hS.2.2.2.1.lt, hS.2.2.2.2.1.below hcb hS.2.2.2.2.1.lt, hS.2.2.2.2.2.trans (hcb.mono hS.2.2.2.2.2.size)⟩) fun hS => ?_
        try simp only [Act.put, List.getElem_toArray, List.getElem_cons_zero, List.getElem_cons_succ, List.setIfInBounds_toArray, List.set_cons_zero, List.set_cons_succ]
        clear hcb
        refine wpAnyH_ready (rs := [27]) (by kernel_rfl) (by simp) ?_
        refine AllReadyH.cons rfl (fun K hK => ?_) AllReadyH.nil
        go_simp
        go_at_call 22
        refine Calls.mono (HJ.out) ?_
        rintro e w4_27 ⟨rfl, hcb⟩
        refine hK.out _ _ (⟨hS.1.below hcb hS.1.lt, hS.2.1.below hcb hS.2.1.lt, hS.2.2.1.below hcb hS.2.2.1.lt, hS.2.2.2.1.below hcb hS.2.2.2.1.lt, hS.2.2.2.2.1.below hcb hS.2.2.2.2.1.lt, hS.2.2.2.2.2.trans (hcb.mono hS.2.2.2.2.2.size)⟩) fun hS => ?_
        try simp only [Act.put, List.getElem_toArray, List.getElem_cons_zero, List.getElem_cons_succ, List.setIfInBounds_toArray, List.set_cons_zero, List.set_cons_succ]
        clear hcb
        refine wpAnyH_ready (rs := [29]) (by kernel_rfl) (by simp) ?_
        refine AllReadyH.cons rfl (fun K hK => ?_) AllReadyH.nil
        go_simp
        go_at_call 23
        refine Calls.mono (HRS.out _ (ab.trans (hS.2.2.2.2.2.mono ab.size))) ?_
        rintro e w5_29 ⟨rfl, hcb⟩
        refine hK.out _ _ (⟨hS.1.below hcb hS.1.lt, hS.2.1.below hcb hS.2.1.lt, hS.2.2.1.below hcb hS.2.2.1.lt, hS.2.2.2.1.below hcb hS.2.2.2.1.lt, hS.2.2.2.2.1.below hcb hS.2.2.2.2.1.lt, hS.2.2.2.2.2.trans (hcb.mono hS.2.2.2.2.2.size)⟩) fun hS => ?_
        try simp only [Act.put, List.getElem_toArray, List.getElem_cons_zero, List.getElem_cons_succ, List.setIfInBounds_toArray, List.set_cons_zero, List.set_cons_succ]
        clear hcb
        refine wpAnyH_take (i := 30) (v := .bool false) rfl (by kernel_rfl) (by kernel_rfl) (by kernel_rfl) (fun _ _ _ h => h) (Or.inl ⟨by rfl, fun w _ => by go_simp⟩) hS ?_
        try simp only [Act.put, List.getElem_toArray, List.getElem_cons_zero, List.getElem_cons_succ, List.setIfInBounds_toArray, List.set_cons_zero, List.set_cons_succ]
        refine wpAnyH_take (i := 31) (v := .bool false) rfl (by kernel_rfl) (by kernel_rfl) (by kernel_rfl) (fun _ _ _ h => h) (Or.inl ⟨by rfl, fun w _ => by go_simp⟩) hS ?_
        try simp only [Act.put, List.getElem_toArray, List.getElem_cons_zero, List.getElem_cons_succ, List.setIfInBounds_toArray, List.set_cons_zero, List.set_cons_succ]
        refine wpAnyH_done (by kernel_rfl) ?_ _
        go_wp2
        go_meet
        exact ⟨rfl, hS.2.2.2.1, hS.2.2.2.2.1, hS.2.2.2.2.2⟩
      · obtain rfl : E = 0 := HE.out
        refine wp_region_held_drew (S := fun w' => Row w' w.heap.size #[.int .u64 lsn, .slice oa n cap] 44 ∧ Row w' g7 (bs U) 32 ∧ Row w' g9 (bs U) 32 ∧ Row w' gb #[.int .u64 L, .slice oa1 m cap1] 44 ∧ Row w' gd #[.int .u64 L, .slice oa2 m cap2] 44 ∧ Below wk.heap.size wk w') (by kernel_rfl) ⟨r0, q7, q9, qb, qd, (Below.refl wk.heap.size wk).drew⟩ fun hS => ?_
        refine wpAnyH_take (i := 0) (v := .agg (bs U)) rfl (by kernel_rfl) (by kernel_rfl) (by kernel_rfl) (fun _ _ _ h => h) (yields_row (by rfl) 32 (.tmp 7) rfl g7 rfl 32 (bs U) (fun w h => h.2.1) 224 5 Try.underlying32 size32 hUb) hS ?_
        try simp only [Act.put, List.getElem_toArray, List.getElem_cons_zero, List.getElem_cons_succ, List.setIfInBounds_toArray, List.set_cons_zero, List.set_cons_succ]
        refine wpAnyH_take (i := 1) (v := .agg (bs U)) rfl (by kernel_rfl) (by kernel_rfl) (by kernel_rfl) (fun _ _ _ h => h) (yields_row (by rfl) 32 (.tmp 9) rfl g9 rfl 32 (bs U) (fun w h => h.2.2.1) 224 5 Try.underlying32 size32 hUb) hS ?_
        try simp only [Act.put, List.getElem_toArray, List.getElem_cons_zero, List.getElem_cons_succ, List.setIfInBounds_toArray, List.set_cons_zero, List.set_cons_succ]
        refine wpAnyH_take (i := 2) (v := .bool false) rfl (by kernel_rfl) (by kernel_rfl) (by kernel_rfl) (fun _ _ _ h => h) (yields_neq (by rfl) 32 32 (.tmp 45) (.tmp 46) rfl (bs U) (bs U) rfl rfl Try.eqGuardType32 true heq) hS ?_
        try simp only [Act.put, List.getElem_toArray, List.getElem_cons_zero, List.getElem_cons_succ, List.setIfInBounds_toArray, List.set_cons_zero, List.set_cons_succ]
        refine wpAnyH_take (i := 3) (v := .bool false) rfl (by kernel_rfl) (by kernel_rfl) (by kernel_rfl) (fun _ _ _ h => h) (Or.inl ⟨by rfl, fun w _ => by go_simp⟩) hS ?_
        try simp only [Act.put, List.getElem_toArray, List.getElem_cons_zero, List.getElem_cons_succ, List.setIfInBounds_toArray, List.set_cons_zero, List.set_cons_succ]
        refine wpAnyH_take (i := 4) (v := .int .i64 0) rfl (by kernel_rfl) (by kernel_rfl) (by kernel_rfl) (fun _ _ _ h => h) (Or.inl ⟨by rfl, fun w _ => by go_simp⟩) hS ?_
        try simp only [Act.put, List.getElem_toArray, List.getElem_cons_zero, List.getElem_cons_succ, List.setIfInBounds_toArray, List.set_cons_zero, List.set_cons_succ]
        refine wpAnyH_take (i := 5) (v := .bool true) rfl (by kernel_rfl) (by kernel_rfl) (by kernel_rfl) (fun _ _ _ h => h) (Or.inl ⟨by rfl, fun w _ => by go_simp⟩) hS ?_
        try simp only [Act.put, List.getElem_toArray, List.getElem_cons_zero, List.getElem_cons_succ, List.setIfInBounds_toArray, List.set_cons_zero, List.set_cons_succ]
        refine wpAnyH_take (i := 6) (v := .bool true) rfl (by kernel_rfl) (by kernel_rfl) (by kernel_rfl) (fun _ _ _ h => h) (Or.inl ⟨by rfl, fun w _ => by go_simp⟩) hS ?_
        try simp only [Act.put, List.getElem_toArray, List.getElem_cons_zero, List.getElem_cons_succ, List.setIfInBounds_toArray, List.set_cons_zero, List.set_cons_succ]
        refine wpAnyH_take (i := 7) (v := .bool false) rfl (by kernel_rfl) (by kernel_rfl) (by kernel_rfl) (fun _ _ _ h => h) (Or.inl ⟨by rfl, fun w _ => by go_simp⟩) hS ?_
        try simp only [Act.put, List.getElem_toArray, List.getElem_cons_zero, List.getElem_cons_succ, List.setIfInBounds_toArray, List.set_cons_zero, List.set_cons_succ]
        refine wpAnyH_take (i := 8) (v := .bool false) rfl (by kernel_rfl) (by kernel_rfl) (by kernel_rfl) (fun _ _ _ h => h) (Or.inl ⟨by rfl, fun w _ => by go_simp⟩) hS ?_
        try simp only [Act.put, List.getElem_toArray, List.getElem_cons_zero, List.getElem_cons_succ, List.setIfInBounds_toArray, List.set_cons_zero, List.set_cons_succ]
        refine wpAnyH_take (i := 9) (v := .bool false) rfl (by kernel_rfl) (by kernel_rfl) (by kernel_rfl) (fun _ _ _ h => h) (Or.inl ⟨by rfl, fun w _ => by go_simp⟩) hS ?_
        try simp only [Act.put, List.getElem_toArray, List.getElem_cons_zero, List.getElem_cons_succ, List.setIfInBounds_toArray, List.set_cons_zero, List.set_cons_succ]
        refine wpAnyH_take (i := 10) (v := .bool true) rfl (by kernel_rfl) (by kernel_rfl) (by kernel_rfl) (fun _ _ _ h => h) (Or.inl ⟨by rfl, fun w _ => by go_simp⟩) hS ?_
        try simp only [Act.put, List.getElem_toArray, List.getElem_cons_zero, List.getElem_cons_succ, List.setIfInBounds_toArray, List.set_cons_zero, List.set_cons_succ]
        refine wpAnyH_take (i := 11) (v := .bool false) rfl (by kernel_rfl) (by kernel_rfl) (by kernel_rfl) (fun _ _ _ h => h) (Or.inl ⟨by rfl, fun w _ => by go_simp⟩) hS ?_
        try simp only [Act.put, List.getElem_toArray, List.getElem_cons_zero, List.getElem_cons_succ, List.setIfInBounds_toArray, List.set_cons_zero, List.set_cons_succ]
        refine wpAnyH_take (i := 12) (v := .bool false) rfl (by kernel_rfl) (by kernel_rfl) (by kernel_rfl) (fun _ _ _ h => h) (Or.inl ⟨by rfl, fun w _ => by go_simp⟩) hS ?_
        try simp only [Act.put, List.getElem_toArray, List.getElem_cons_zero, List.getElem_cons_succ, List.setIfInBounds_toArray, List.set_cons_zero, List.set_cons_succ]
        refine wpAnyH_take (i := 13) (v := undef) rfl (by kernel_rfl) (by kernel_rfl) (by kernel_rfl) (fun _ _ _ h => h) (Or.inr ⟨by rfl, rfl⟩) hS ?_
        try simp only [Act.put, List.getElem_toArray, List.getElem_cons_zero, List.getElem_cons_succ, List.setIfInBounds_toArray, List.set_cons_zero, List.set_cons_succ]
        refine wpAnyH_take (i := 14) (v := undef) rfl (by kernel_rfl) (by kernel_rfl) (by kernel_rfl) (fun _ _ _ h => h) (Or.inr ⟨by rfl, rfl⟩) hS ?_
        try simp only [Act.put, List.getElem_toArray, List.getElem_cons_zero, List.getElem_cons_succ, List.setIfInBounds_toArray, List.set_cons_zero, List.set_cons_succ]
        refine wpAnyH_take (i := 15) (v := .bool false) rfl (by kernel_rfl) (by kernel_rfl) (by kernel_rfl) (fun _ _ _ h => h) (Or.inl ⟨by rfl, fun w _ => by go_simp⟩) hS ?_
        try simp only [Act.put, List.getElem_toArray, List.getElem_cons_zero, List.getElem_cons_succ, List.setIfInBounds_toArray, List.set_cons_zero, List.set_cons_succ]
        refine wpAnyH_take (i := 16) (v := .bool false) rfl (by kernel_rfl) (by kernel_rfl) (by kernel_rfl) (fun _ _ _ h => h) (Or.inl ⟨by rfl, fun w _ => by go_simp⟩) hS ?_
        try simp only [Act.put, List.getElem_toArray, List.getElem_cons_zero, List.getElem_cons_succ, List.setIfInBounds_toArray, List.set_cons_zero, List.set_cons_succ]
        refine wpAnyH_take (i := 17) (v := .bool false) rfl (by kernel_rfl) (by kernel_rfl) (by kernel_rfl) (fun _ _ _ h => h) (Or.inl ⟨by rfl, fun w _ => by go_simp⟩) hS ?_
        try simp only [Act.put, List.getElem_toArray, List.getElem_cons_zero, List.getElem_cons_succ, List.setIfInBounds_toArray, List.set_cons_zero, List.set_cons_succ]
        refine wpAnyH_take (i := 18) (v := .agg #[.int .u64 lsn, .slice oa n cap]) rfl (by kernel_rfl) (by kernel_rfl) (by kernel_rfl) (fun _ _ _ h => h) (yields_cells (by rfl) 44 (.tmp 4) rfl w.heap.size rfl 44 #[.int .u64 lsn, .slice oa n cap] (fun w h => h.1) 2 Try.underlying44 rfl size44 rfl) hS ?_
        try simp only [Act.put, List.getElem_toArray, List.getElem_cons_zero, List.getElem_cons_succ, List.setIfInBounds_toArray, List.set_cons_zero, List.set_cons_succ]
        refine wpAnyH_take (i := 21) (v := .bool true) rfl (by kernel_rfl) (by kernel_rfl) (by kernel_rfl) (fun _ _ _ h => h) (Or.inl ⟨by rfl, fun w _ => by go_simp⟩) hS ?_
        try simp only [Act.put, List.getElem_toArray, List.getElem_cons_zero, List.getElem_cons_succ, List.setIfInBounds_toArray, List.set_cons_zero, List.set_cons_succ]
        refine wpAnyH_ready (rs := [19]) (by kernel_rfl) (by simp) ?_
        refine AllReadyH.cons rfl (fun K hK => ?_) AllReadyH.nil
        go_simp
        go_at_call 17
        refine Calls.mono (HKP.out _ (ab.trans (hS.2.2.2.2.2.mono ab.size))) ?_
        rintro e wc ⟨vK, rfl, oK, hcb⟩
        obtain ⟨oaK, capK, rfl⟩ := oK.form
        have HK : Hid _ := HMY.out _ _ oK.olds
        refine hK.out _ _ (⟨hS.1.below hcb hS.1.lt, hS.2.1.below hcb hS.2.1.lt, hS.2.2.1.below hcb hS.2.2.1.lt, hS.2.2.2.1.below hcb hS.2.2.2.1.lt, hS.2.2.2.2.1.below hcb hS.2.2.2.2.1.lt, hS.2.2.2.2.2.trans (hcb.mono hS.2.2.2.2.2.size)⟩) fun hS => ?_
        try simp only [Act.put, List.getElem_toArray, List.getElem_cons_zero, List.getElem_cons_succ, List.setIfInBounds_toArray, List.set_cons_zero, List.set_cons_succ]
        clear hcb
        refine wpAnyH_ready (rs := [20]) (by kernel_rfl) (by simp) ?_
        refine AllReadyH.cons rfl (fun K hK => ?_) AllReadyH.nil
        go_simp
        go_at_call 21
        refine Calls.mono (HK.out) ?_
        rintro e w2_20 ⟨rfl, hcb⟩
        refine hK.out _ _ (⟨hS.1.below hcb hS.1.lt, hS.2.1.below hcb hS.2.1.lt, hS.2.2.1.below hcb hS.2.2.1.lt, hS.2.2.2.1.below hcb hS.2.2.2.1.lt, hS.2.2.2.2.1.below hcb hS.2.2.2.2.1.lt, hS.2.2.2.2.2.trans (hcb.mono hS.2.2.2.2.2.size)⟩) fun hS => ?_
        try simp only [Act.put, List.getElem_toArray, List.getElem_cons_zero, List.getElem_cons_succ, List.setIfInBounds_toArray, List.set_cons_zero, List.set_cons_succ]
        clear hcb
        refine wpAnyH_take (i := 22) (v := .bool false) rfl (by kernel_rfl) (by kernel_rfl) (by kernel_rfl) (fun _ _ _ h => h) (Or.inl ⟨by rfl, fun w _ => by go_simp⟩) hS ?_
        try simp only [Act.put, List.getElem_toArray, List.getElem_cons_zero, List.getElem_cons_succ, List.setIfInBounds_toArray, List.set_cons_zero, List.set_cons_succ]
        refine wpAnyH_take (i := 23) (v := .bool false) rfl (by kernel_rfl) (by kernel_rfl) (by kernel_rfl) (fun _ _ _ h => h) (Or.inl ⟨by rfl, fun w _ => by go_simp⟩) hS ?_
        try simp only [Act.put, List.getElem_toArray, List.getElem_cons_zero, List.getElem_cons_succ, List.setIfInBounds_toArray, List.set_cons_zero, List.set_cons_succ]
        refine wpAnyH_take (i := 24) (v := .bool false) rfl (by kernel_rfl) (by kernel_rfl) (by kernel_rfl) (fun _ _ _ h => h) (Or.inl ⟨by rfl, fun w _ => by go_simp⟩) hS ?_
        try simp only [Act.put, List.getElem_toArray, List.getElem_cons_zero, List.getElem_cons_succ, List.setIfInBounds_toArray, List.set_cons_zero, List.set_cons_succ]
        refine wpAnyH_take (i := 25) (v := .agg #[.int .u64 lsn, .slice oa n cap]) rfl (by kernel_rfl) (by kernel_rfl) (by kernel_rfl) (fun _ _ _ h => h) (yields_cells (by rfl) 44 (.tmp 4) rfl w.heap.size rfl 44 #[.int .u64 lsn, .slice oa n cap] (fun w h => h.1) 2 Try.underlying44 rfl size44 rfl) hS ?_
        try simp only [Act.put, List.getElem_toArray, List.getElem_cons_zero, List.getElem_cons_succ, List.setIfInBounds_toArray, List.set_cons_zero, List.set_cons_succ]
        refine wpAnyH_take (i := 28) (v := .agg #[.int .u64 lsn, .slice oa n cap]) rfl (by kernel_rfl) (by kernel_rfl) (by kernel_rfl) (fun _ _ _ h => h) (yields_cells (by rfl) 44 (.tmp 4) rfl w.heap.size rfl 44 #[.int .u64 lsn, .slice oa n cap] (fun w h => h.1) 2 Try.underlying44 rfl size44 rfl) hS ?_
        try simp only [Act.put, List.getElem_toArray, List.getElem_cons_zero, List.getElem_cons_succ, List.setIfInBounds_toArray, List.set_cons_zero, List.set_cons_succ]
        refine wpAnyH_ready (rs := [26]) (by kernel_rfl) (by simp) ?_
        refine AllReadyH.cons rfl (fun K hK => ?_) AllReadyH.nil
        go_simp
        go_at_call 17
        refine Calls.mono (HKP.out _ (ab.trans (hS.2.2.2.2.2.mono ab.size))) ?_
        rintro e wc ⟨vJ, rfl, oJ, hcb⟩
        obtain ⟨oaJ, capJ, rfl⟩ := oJ.form
        have HJ : Hid _ := HSZ.out _ _ oJ.olds
        refine hK.out _ _ (⟨hS.1.below hcb hS.1.lt, hS.2.1.below hcb hS.2.1.lt, hS.2.2.1.below hcb hS.2.2.1.lt, hS.2.2.2.1.below hcb hS.2.2.2.1.lt, hS.2.2.2.2.1.below hcb hS.2.2.2.2.1.lt, hS.2.2.2.2.2.trans (hcb.mono hS.2.2.2.2.2.size)⟩) fun hS => ?_
        try simp only [Act.put, List.getElem_toArray, List.getElem_cons_zero, List.getElem_cons_succ, List.setIfInBounds_toArray, List.set_cons_zero, List.set_cons_succ]
        clear hcb
        refine wpAnyH_ready (rs := [27]) (by kernel_rfl) (by simp) ?_
        refine AllReadyH.cons rfl (fun K hK => ?_) AllReadyH.nil
        go_simp
        go_at_call 22
        refine Calls.mono (HJ.out) ?_
        rintro e w4_27 ⟨rfl, hcb⟩
        refine hK.out _ _ (⟨hS.1.below hcb hS.1.lt, hS.2.1.below hcb hS.2.1.lt, hS.2.2.1.below hcb hS.2.2.1.lt, hS.2.2.2.1.below hcb hS.2.2.2.1.lt, hS.2.2.2.2.1.below hcb hS.2.2.2.2.1.lt, hS.2.2.2.2.2.trans (hcb.mono hS.2.2.2.2.2.size)⟩) fun hS => ?_
        try simp only [Act.put, List.getElem_toArray, List.getElem_cons_zero, List.getElem_cons_succ, List.setIfInBounds_toArray, List.set_cons_zero, List.set_cons_succ]
        clear hcb
        refine wpAnyH_ready (rs := [29]) (by kernel_rfl) (by simp) ?_
        refine AllReadyH.cons rfl (fun K hK => ?_) AllReadyH.nil
        go_simp
        go_at_call 23
        refine Calls.mono (HRS.out _ (ab.trans (hS.2.2.2.2.2.mono ab.size))) ?_
        rintro e w5_29 ⟨rfl, hcb⟩
        refine hK.out _ _ (⟨hS.1.below hcb hS.1.lt, hS.2.1.below hcb hS.2.1.lt, hS.2.2.1.below hcb hS.2.2.1.lt, hS.2.2.2.1.below hcb hS.2.2.2.1.lt, hS.2.2.2.2.1.below hcb hS.2.2.2.2.1.lt, hS.2.2.2.2.2.trans (hcb.mono hS.2.2.2.2.2.size)⟩) fun hS => ?_
        try simp only [Act.put, List.getElem_toArray, List.getElem_cons_zero, List.getElem_cons_succ, List.setIfInBounds_toArray, List.set_cons_zero, List.set_cons_succ]
        clear hcb
        refine wpAnyH_take (i := 30) (v := .bool false) rfl (by kernel_rfl) (by kernel_rfl) (by kernel_rfl) (fun _ _ _ h => h) (Or.inl ⟨by rfl, fun w _ => by go_simp⟩) hS ?_
        try simp only [Act.put, List.getElem_toArray, List.getElem_cons_zero, List.getElem_cons_succ, List.setIfInBounds_toArray, List.set_cons_zero, List.set_cons_succ]
        refine wpAnyH_take (i := 31) (v := .bool false) rfl (by kernel_rfl) (by kernel_rfl) (by kernel_rfl) (fun _ _ _ h => h) (Or.inl ⟨by rfl, fun w _ => by go_simp⟩) hS ?_
        try simp only [Act.put, List.getElem_toArray, List.getElem_cons_zero, List.getElem_cons_succ, List.setIfInBounds_toArray, List.set_cons_zero, List.set_cons_succ]
        refine wpAnyH_done (by kernel_rfl) ?_ _
        go_wp2
        go_meet
        exact ⟨rfl, hS.2.2.2.1, hS.2.2.2.2.1, hS.2.2.2.2.2⟩
    case rest =>
      obtain ⟨rfl, qb, qd, hB⟩ := hcut
      have o1 := o1.keep hB
      have o2 := o2.keep hB
      have ab := ab.trans (hB.mono ab.size)
      have HS9 : Hid _ := HSM.out _ _ _ o1 o2
      clear o1 o2 hB HSM HKP HRS HSZ HMY heq r0 q7 q9
      cases I
      · obtain rfl : 2 = E2 := HE3.out
        go_wp2_with (first
          | (refine load_cells rfl 44 (.tmp 11) rfl gb rfl 44 #[.int .u64 L, .slice oa1 m cap1] qb 2 Try.underlying44 rfl size44 rfl ?_)
          | (refine load_cells rfl 44 (.tmp 13) rfl gd rfl 44 #[.int .u64 L, .slice oa2 m cap2] qd 2 Try.underlying44 rfl size44 rfl ?_)
          | (go_at_call 24; refine Calls.mono HS9.out ?_; clear HS9; rintro e w15 ⟨rfl, h15⟩)
          | (go_at_call 15; refine (HAW.out _).mono ?_; clear HAW; rintro e w16 ⟨rfl, h16⟩))
        have ab := ab.trans (h15.mono ab.size)
        go_ret
        exact ⟨rfl, ab.trans (h16.mono ab.size)⟩
      · obtain rfl : 0 = E2 := HE3.out
        go_wp2_with (first
          | (refine load_cells rfl 44 (.tmp 11) rfl gb rfl 44 #[.int .u64 L, .slice oa1 m cap1] qb 2 Try.underlying44 rfl size44 rfl ?_)
          | (refine load_cells rfl 44 (.tmp 13) rfl gd rfl 44 #[.int .u64 L, .slice oa2 m cap2] qd 2 Try.underlying44 rfl size44 rfl ?_)
          | (go_at_call 24; refine Calls.mono HS9.out ?_; clear HS9; rintro e w15 ⟨rfl, h15⟩)
          | (go_at_call 15; refine (HAW.out _).mono ?_; clear HAW; rintro e w16 ⟨rfl, h16⟩))
        have ab := ab.trans (h15.mono ab.size)
        go_ret
        exact ⟨rfl, ab.trans (h16.mono ab.size)⟩
  · have hn2 : (n : Int) > 1000 := by omega
    go_wp2_with (go_at_call 15; refine (HAW.out _).mono ?_; clear HAW; rintro e w2 ⟨rfl, h2⟩)
    go_ret
    exact ⟨rfl, ab.trans (h2.mono ab.size)⟩

set_option maxRecDepth 100000 in
theorem lifted (os : Os) (started : os.Started) (H : Type) (enc : TypeId × Value → H) :
    ReturnsInHanded {} Try.checked os 4 .any (Rows.pageUndosSpec.pre6 enc Try.prog Try.f4 Rows.pageUndosRow.domain false) (Rows.pageUndosSpec.post enc Try.prog Try.f4 false true false false) := by
  refine returnsInHanded_of_change_sized (C := Try.checked) own started (by kernel_rfl) Try.func4
    (ChangeSpec.witness6 (enc := enc) (C := Try.checked) false ⟨#[], #[.int .u16 0, .agg #[.int .u64 0, .slice none 0 0], .agg (bs (zs 224))], []⟩ 8 (by kernel_rfl) (by kernel_rfl) (by kernel_rfl) (by kernel_rfl)) ?_
  intro W base args ds gs before hval0 hW hcnd hsz0 _
  have hval : ∀ (j : Nat) t v, Try.f4.params[j]? = some t → args[j]? = some v → Value.okWide Try.prog W .any base t v := hval0
  have hW' := hW
  obtain ⟨p, q, hA0, hV, rfl, hfz, hnd⟩ := hW
  have hA : DataW.TrodAll enc Try.prog W 0 (fun _ => true) true Try.f4.params.toList args.toList ds p := hA0
  have hsz : (DataW.weightsEach Try.prog (Try.f4.params.toList ++ []) (ds ++ gs)).all (· ≤ reachBytes) = true := hsz0
  rw [Try.params4] at hA hval hsz
  obtain ⟨v0, vs0, d0, ds0, p0, q0, hargs, rfl, rfl, h0, r0⟩ := trodAll_cons hA
  obtain ⟨v1, vs1, d1, ds1, p1, q1, rfl, rfl, rfl, h1, r1⟩ := trodAll_cons r0
  obtain ⟨v2, vs2, d2, ds2, p2, q2, rfl, rfl, rfl, h2, r2⟩ := trodAll_cons r1
  obtain ⟨rfl, rfl, rfl⟩ := trodAll_nil r2
  obtain rfl : args = #[v0, v1, v2] := by cases args; simp_all
  obtain ⟨rfl, rfl⟩ := trodVars_none hV
  simp only [List.append_nil] at hsz
  have hlt : ∀ x ∈ (p0 ++ (p1 ++ (p2 ++ []))), x.block < W.heap.size := fun x hx => hW'.lt x (by simpa using hx)
  have hw0 : (d0.weights Try.prog 22).all (· ≤ reachBytes) = true := List.all_eq_true.2 fun m hm => List.all_eq_true.1 hsz m (by simp [DataW.weightsEach, hm])
  have hw1 : (d1.weights Try.prog 44).all (· ≤ reachBytes) = true := List.all_eq_true.2 fun m hm => List.all_eq_true.1 hsz m (by simp [DataW.weightsEach, hm])
  have hw2 : (d2.weights Try.prog 32).all (· ≤ reachBytes) = true := List.all_eq_true.2 fun m hm => List.all_eq_true.1 hsz m (by simp [DataW.weightsEach, hm])
  have k0 := h0
  have k1 := h1
  have k2 := h2
  obtain ⟨a0, rfl, rfl, rfl, w0⟩ := open_int Try.underlying22 (hval 0 22 v0 rfl rfl) h0
  obtain ⟨a1, c1, l1, rfl, w1⟩ := open_undod (hval 1 44 v1 rfl rfl) h1 hw1
  obtain ⟨a2, rfl, l2, w2⟩ := open_payv (hval 2 32 v2 rfl rfl) h2
  clear hA0 hval0
  simp only [List.append_nil] at hW'
  refine (walk W a0 a1 c1 l1 a2 w0 w1.1 w1.2 l2 w2).mono fun e W' ⟨he, hg⟩ => ?_
  subst he
  exact ⟨_, rfl, ⟨_, _, _, [], ([] ++ (p1 ++ (p2 ++ []))), [], hW', (trodAll_cons_mk (shut_bool Try.underlying4 _) trodAll_mk0), (trodAll_cons_mk (Below.trod laidOut (by kernel_rfl) (of_decide_eq_true (by kernel_rfl)) k0 hg (fun x hx => (nomatch hx))) (trodAll_cons_mk (Below.trod laidOut (by kernel_rfl) (of_decide_eq_true (by kernel_rfl)) k1 hg (fun x hx => hlt x (by simp [hx]))) (trodAll_cons_mk (Below.trod laidOut (by kernel_rfl) (of_decide_eq_true (by kernel_rfl)) k2 hg (fun x hx => hlt x (by simp [hx]))) trodAll_mk0))), rfl,
    hg.frame _, fun h => by cases h⟩⟩

theorem over : Rows.pageUndosRow.holds Try.pinned (OpenSpec.ofChange Rows.pageUndosSpec) :=
  OpenClaim.holds_of_wide 4 Try.f4 rfl rfl rfl rfl rfl rfl rfl ⟨rfl, rfl, rfl, rfl, rfl⟩ rfl rfl rfl rfl rfl (by kernel_rfl) Try.func4 (by kernel_rfl)
    (of_decide_eq_true (by kernel_rfl)) (by unfold Func.isWrapper; first | (rw [if_pos (by decide +kernel)]; kernel_rfl) | (rw [if_neg (by decide +kernel)]; exact ⟨rfl, rfl⟩))
    (fun os started H enc _ => lifted os started H enc)

/-- The statement. -/
theorem proved : Rows.PageUndosSaid :=
  over
#print axioms proved
end Go.Proofs.Ytomlbkdagaldoaa.pageUndos
