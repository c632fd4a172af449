/-
  Proved here: what the document's Redo answers: what the program's does.
-/
import Derived.Test.YtihjapfgllokgabQMc
namespace Go.Proofs.Ytihjapfgllokgab
open Go.ChangeShapes Go.WideShapes Go.ChangeAt Go.RowKit
set_option linter.unusedVariables false
set_option linter.unusedSimpArgs false
set_option maxRecDepth 20000

set_option maxHeartbeats 16000000 in
theorem rredo_bad (u : Bool) (no : Int) (p : List Int) (e : En) (w : World) (hno : 0 ≤ no ∧ no ≤ 65535) (hp : p.length = 224) (hb : Bytes p) (hf : e.Fits) (hbad : (mayR e.r && aboutR u no e.r) = false) :
    Calls Try.prog 20 #[.agg #[.bool u, .int .u16 no], .agg (bs p), .agg e.arr] w fun en w' => en = .returned (.tuple #[.agg (bs (redoR u no p e).1), .int .i64 (redoR u no p e).2]) ∧ Below w.heap.size w w' := by
  obtain ⟨AN, HAN⟩ : ∃ x, Hid (redoR u no p e = x) := ⟨_, rfl⟩
  rw [HAN.out]
  have hz := zero26
  have hz33 := zero37
  have hpb : (bs p).size = 224 := by rw [bs_size, hp]
  have HMY : Hid (∀ w, Calls Try.prog 34 #[.agg e.r.arr] w fun e_1 w' => e_1 = .returned (.bool (rmayB e.r)) ∧ Below w.heap.size w w') := fun w => rmayr_any e.r w hf.r
  rw [rmay_is] at HMY
  have hce : ∀ j v, e.r.cells[j]? = some v → e.arr[1 + j]? = some v := fun j v h => by rw [e.atR j]; unfold R.arr; rw [List.getElem?_toArray]; exact h
  have r0 : Row ((((w.alloc (.cells #[.bool u, .int .u16 no] 24)).alloc (.cells (bs p) 26)).alloc (.cells e.arr 39)).alloc (.cells (bs (zs 224)) 26)) w.heap.size #[.bool u, .int .u16 no] 24 := (((Row.new _ _ _).alloc _).alloc _).alloc _
  have r1 : Row ((((w.alloc (.cells #[.bool u, .int .u16 no] 24)).alloc (.cells (bs p) 26)).alloc (.cells e.arr 39)).alloc (.cells (bs (zs 224)) 26)) (w.heap.size + 1) (bs p) 26 := by have := ((Row.new (w.alloc (.cells #[.bool u, .int .u16 no] 24)) (bs p) 26).alloc (.cells e.arr 39)).alloc (.cells (bs (zs 224)) 26); simpa using this
  have r2 : Row ((((w.alloc (.cells #[.bool u, .int .u16 no] 24)).alloc (.cells (bs p) 26)).alloc (.cells e.arr 39)).alloc (.cells (bs (zs 224)) 26)) (w.heap.size + 2) e.arr 39 := by have := (Row.new ((w.alloc (.cells #[.bool u, .int .u16 no] 24)).alloc (.cells (bs p) 26)) e.arr 39).alloc (.cells (bs (zs 224)) 26); simpa using this
  have r3 : Row ((((w.alloc (.cells #[.bool u, .int .u16 no] 24)).alloc (.cells (bs p) 26)).alloc (.cells e.arr 39)).alloc (.cells (bs (zs 224)) 26)) (w.heap.size + 3) (bs (zs 224)) 26 := by have := Row.new (((w.alloc (.cells #[.bool u, .int .u16 no] 24)).alloc (.cells (bs p) 26)).alloc (.cells e.arr 39)) (bs (zs 224)) 26; simpa using this
  have rb : Below w.heap.size w ((((w.alloc (.cells #[.bool u, .int .u16 no] 24)).alloc (.cells (bs p) 26)).alloc (.cells e.arr 39)).alloc (.cells (bs (zs 224)) 26)) := ((((Below.refl _ _).alloc (Nat.le_refl _) _).alloc (by simp) _).alloc (by simp; omega) _).alloc (by simp; omega) _
  go_enter Try.func20, Try.ntmps20
  go_upto_region 1 with fail
  generalize (((w.alloc (.cells #[.bool u, .int .u16 no] 24)).alloc (.cells (bs p) 26)).alloc (.cells e.arr 39)).alloc (.cells (bs (zs 224)) 26) = w1 at r0 r1 r2 r3 rb ⊢
  have hm2 := mid_row r2 1 e.r.cells hce
  have hg4 : w.heap.size + 3 < w1.heap.size := r3.lt
  have s0 := r0.alloc (.cells R.zero.arr 37)
  have s1 := r1.alloc (.cells R.zero.arr 37)
  have s2 := r2.alloc (.cells R.zero.arr 37)
  have s3 := r3.alloc (.cells R.zero.arr 37)
  have s4 : Row (w1.alloc (.cells R.zero.arr 37)) w1.heap.size R.zero.arr 37 := Row.new _ _ _
  have sb := rb.alloc rb.size (.cells R.zero.arr 37)
  go_upto_region 2 with (first
    | (refine wpList_load_any rfl 37 (.tmp 18) rfl ⟨w.heap.size + 2, 1, none⟩ rfl e.r.cells _ hm2 Try.underlying37 rfl (by rw [size37, R.cells_length _ hf.r.len]) ?_)
    | (refine store_cells rfl 37 (.tmp 8) (.tmp 19) rfl w1.heap.size e.r.arr rfl rfl 37 _ s4 238 size37 (R.arr_size _ (zs_length _)) (R.arr_size _ hf.r.len) (R.arr_one _) ?_))
  have t0 := s0.other (g := w1.heap.size) (by omega) (e.r.arr)
  have t1 := s1.other (g := w1.heap.size) (by omega) (e.r.arr)
  have t2 := s2.other (g := w1.heap.size) (by omega) (e.r.arr)
  have t3 := s3.other (g := w1.heap.size) (by omega) (e.r.arr)
  have t4 := s4.set (e.r.arr)
  have tb := below_setRow sb (show w.heap.size ≤ w1.heap.size by omega) (e.r.arr)
  clear s0 s1 s2 s3 s4 sb
  clear r0 r1 r2 r3 rb
  clear hm2
  generalize (w1.alloc (.cells R.zero.arr 37)).setRow w1.heap.size e.r.arr = W1 at t0 t1 t2 t3 t4 tb ⊢
  generalize w1.heap.size = g4 at t4 hg4 ⊢
  cases hm : mayR e.r with
  | false =>
    have HR : Hid (AN = (zs 224, 1)) := HAN.out.symm.trans (redoR_not (by rw [hm]; rfl))
    rw [hm] at HMY
    clear hm
    go_upto_region 3 with (first
      | (refine load_cells rfl 37 (.tmp 8) rfl g4 rfl 37 _ t4 238 Try.underlying37 rfl size37 (R.arr_size _ hf.r.len) ?_)
      | (go_at_call 34; refine (HMY.out _).mono ?_; clear HMY; rintro en w3 ⟨rfl, h3⟩
         have y0 := t0.below h3 t0.lt
         have y1 := t1.below h3 t1.lt
         have y2 := t2.below h3 t2.lt
         have y3 := t3.below h3 t3.lt
         have y4 := t4.below h3 t4.lt
         have yb := tb.trans (h3.mono tb.size)))
    go_wp2_with (first
      | (refine build_none rfl 26 rfl (bs (zs 224)) built26 ?_)
      | (refine store_row rfl 26 (.tmp 6) (.tmp 34) rfl (w.heap.size + 3) (zs 224) rfl rfl 26 _ y3 224 size26 (by rw [bs_size, zs_length]) (zs_length _) ?_))
    refine bodyPost_ret (v := .tuple #[.agg (bs (zs 224)), .int .i64 1]) ?_ rfl ⟨by rw [HR.out], below_setRow yb (by omega) _⟩
    exact ret_cell2 (fn := Try.f20) rfl _ _ (w.heap.size + 3) 26 _ _ (.int .i64 1) rfl rfl (y3.set _) Try.underlying26 rfl (by rw [size26, bs_size, zs_length])
  | true =>
    rw [hm] at HMY
    by_cases hk6 : e.r.kind = 6
    · have hk6b : (e.r.kind == 6) = true := by simp [hk6]
      have HR : Hid (AN = (zs 224, 1)) := HAN.out.symm.trans (redoR_not hbad)
      clear hm hk6
      go_upto_region 3 with (first
        | (refine load_cells rfl 37 (.tmp 8) rfl g4 rfl 37 _ t4 238 Try.underlying37 rfl size37 (R.arr_size _ hf.r.len) ?_)
        | (go_at_call 34; refine (HMY.out _).mono ?_; clear HMY; rintro en w3 ⟨rfl, h3⟩
           have y0 := t0.below h3 t0.lt
           have y1 := t1.below h3 t1.lt
           have y2 := t2.below h3 t2.lt
           have y3 := t3.below h3 t3.lt
           have y4 := t4.below h3 t4.lt
           have yb := tb.trans (h3.mono tb.size)
           have kk := row_at y4 0 _ e.r.at0
           have hmid := R.pidMid y4)
        | (refine load_any_g rfl 24 (.tmp 29) rfl ⟨g4, 1, none⟩ rfl [.bool e.r.undo, .int .u16 e.r.no] _ hmid Try.underlying24 rfl size24 ?_)
        | (refine load_cells_g rfl 24 (.tmp 3) rfl w.heap.size rfl 24 _ y0 2 Try.underlying24 rfl size24 rfl ?_))
      go_wp2_with (first
        | (refine build_none rfl 26 rfl (bs (zs 224)) built26 ?_)
        | (refine store_row rfl 26 (.tmp 6) (.tmp 34) rfl (w.heap.size + 3) (zs 224) rfl rfl 26 _ y3 224 size26 (by rw [bs_size, zs_length]) (zs_length _) ?_))
      refine bodyPost_ret (v := .tuple #[.agg (bs (zs 224)), .int .i64 1]) ?_ rfl ⟨by rw [HR.out], below_setRow yb (by omega) _⟩
      exact ret_cell2 (fn := Try.f20) rfl _ _ (w.heap.size + 3) 26 _ _ (.int .i64 1) rfl rfl (y3.set _) Try.underlying26 rfl (by rw [size26, bs_size, zs_length])
    · have hk6b : (e.r.kind == 6) = false := by simp [hk6]
      have heq := equal24 e.r.undo u e.r.no no
      have hB : (decide (e.r.undo = u) && decide (e.r.no = no)) = false := by
        unfold aboutR at hbad; rw [hm, decide_eq_true hk6] at hbad; exact hbad
      have HR : Hid (AN = (zs 224, 1)) := HAN.out.symm.trans (redoR_not hbad)
      rw [hB] at heq
      clear hm hk6 hB
      go_upto_region 3 with (first
        | (refine load_cells rfl 37 (.tmp 8) rfl g4 rfl 37 _ t4 238 Try.underlying37 rfl size37 (R.arr_size _ hf.r.len) ?_)
        | (go_at_call 34; refine (HMY.out _).mono ?_; clear HMY; rintro en w3 ⟨rfl, h3⟩
           have y0 := t0.below h3 t0.lt
           have y1 := t1.below h3 t1.lt
           have y2 := t2.below h3 t2.lt
           have y3 := t3.below h3 t3.lt
           have y4 := t4.below h3 t4.lt
           have yb := tb.trans (h3.mono tb.size)
           have kk := row_at y4 0 _ e.r.at0
           have hmid := R.pidMid y4)
        | (refine load_any_g rfl 24 (.tmp 29) rfl ⟨g4, 1, none⟩ rfl [.bool e.r.undo, .int .u16 e.r.no] _ hmid Try.underlying24 rfl size24 ?_)
        | (refine load_cells_g rfl 24 (.tmp 3) rfl w.heap.size rfl 24 _ y0 2 Try.underlying24 rfl size24 rfl ?_))
      go_wp2_with (first
        | (refine build_none rfl 26 rfl (bs (zs 224)) built26 ?_)
        | (refine store_row rfl 26 (.tmp 6) (.tmp 34) rfl (w.heap.size + 3) (zs 224) rfl rfl 26 _ y3 224 size26 (by rw [bs_size, zs_length]) (zs_length _) ?_))
      refine bodyPost_ret (v := .tuple #[.agg (bs (zs 224)), .int .i64 1]) ?_ rfl ⟨by rw [HR.out], below_setRow yb (by omega) _⟩
      exact ret_cell2 (fn := Try.f20) rfl _ _ (w.heap.size + 3) 26 _ _ (.int .i64 1) rfl rfl (y3.set _) Try.underlying26 rfl (by rw [size26, bs_size, zs_length])
end Go.Proofs.Ytihjapfgllokgab
