/-
  Proved here: apply.Replay: a page behind a log.
-/
import Derived.Test.YtihjapfgllokgabRdo
namespace Go.Proofs.Ytihjapfgllokgab
open Go.ChangeShapes Go.WideShapes Go.ChangeAt Go.RowKit
set_option linter.unusedVariables false
set_option linter.unusedSimpArgs false
set_option maxRecDepth 20000

/-- A slice that holds a log. -/
def Log (w : World) (v : Value) (es : List En) : Prop :=
  (v = .slice none 0 0 ∧ es = []) ∨ ∃ a cap, v = .slice (some a) es.length cap ∧ ∀ i e, es[i]? = some e → ∀ j x, e.cells[j]? = some x → w.cell? ((a.add (i * 239)).add j) = some x
theorem Log.keep {w w' : World} {v : Value} {es : List En} (h : Log w v es) (hb : Below w.heap.size w w') : Log w' v es := by
  rcases h with h | ⟨a, cap, rfl, h⟩
  · exact Or.inl h
  · exact Or.inr ⟨a, cap, rfl, fun i e he j x hj => cell_keep (h i e he j x hj) hb⟩
theorem Log.hold {w : World} {v : Value} {es : List En} (h : Log w v es) : ∃ oa cap, v = .slice oa es.length cap ∧ ∀ k, k < es.length → ∃ a e, oa = some a ∧ es[k]? = some e ∧ ∀ j x, e.cells[j]? = some x → w.cell? ((a.add (k * 239)).add j) = some x := by
  rcases h with ⟨rfl, rfl⟩ | ⟨a, cap, rfl, h⟩
  · exact ⟨none, 0, rfl, fun k hk => absurd hk (by simp)⟩
  · exact ⟨some a, cap, rfl, fun k hk => ⟨a, es[k], rfl, List.getElem?_eq_getElem hk, h k _ (List.getElem?_eq_getElem hk)⟩⟩

/-- A page, and whether it is right, behind an entry. -/
def stepR (u : Bool) (no : Int) (s : List Int × Bool) (e : En) : List Int × Bool :=
  if aboutR u no e.r && dueR s.1 s.2 e then if (redoR u no s.1 e).2 = 0 then ((redoR u no s.1 e).1, true) else s else s
def replayS (u : Bool) (no : Int) (p : List Int) (es : List En) : List Int × Bool := es.foldl (stepR u no) (p, isP u no p)
def replayR (u : Bool) (no : Int) (p : List Int) (es : List En) : List Int := (replayS u no p es).1
theorem stepR_ok {u : Bool} {no : Int} {s : List Int × Bool} {e : En} (hf : e.Fits) (h : s.1.length = 224 ∧ Bytes s.1) : (stepR u no s e).1.length = 224 ∧ Bytes (stepR u no s e).1 := by
  unfold stepR
  split
  · split
    · exact redoR_ok u no s.1 e h.1 h.2 hf
    · exact h
  · exact h
theorem fold_ok {u : Bool} {no : Int} : ∀ (es : List En) (s : List Int × Bool), (∀ e ∈ es, e.Fits) → s.1.length = 224 ∧ Bytes s.1 → (es.foldl (stepR u no) s).1.length = 224 ∧ Bytes (es.foldl (stepR u no) s).1
  | [], _, _, h => h
  | e :: es, s, hf, h => fold_ok es (stepR u no s e) (fun x hx => hf x (by simp [hx])) (stepR_ok (hf e (by simp)) h)
theorem replayR_ok (u : Bool) (no : Int) (p : List Int) (es : List En) (hf : ∀ e ∈ es, e.Fits) (hp : p.length = 224) (hb : Bytes p) : (replayR u no p es).length = 224 ∧ Bytes (replayR u no p es) := fold_ok es _ hf ⟨hp, hb⟩
theorem replayS_step (u : Bool) (no : Int) (p : List Int) (es : List En) (k : Nat) (e : En) (he : es[k]? = some e) : replayS u no p (es.take (k + 1)) = stepR u no (replayS u no p (es.take k)) e := by
  unfold replayS
  rw [List.take_add_one, he]
  simp
set_option maxHeartbeats 8000000 in
theorem replay_any (u : Bool) (no : Int) (p : List Int) (v : Value) (es : List En) (w : World) (hno : 0 ≤ no ∧ no ≤ 65535) (hp : p.length = 224) (hb : Bytes p) (hl : Log w v es) (hf : ∀ e ∈ es, e.Fits) (hn : es.length ≤ 1000000000) :
    Calls Try.prog 8 #[.agg #[.bool u, .int .u16 no], .agg (bs p), v] w fun en w' => en = .returned (.agg (bs (replayR u no p es))) ∧ Below w.heap.size w w' := by
  have hz := zero26
  have hze := zero39
  have hpb : (bs p).size = 224 := by rw [bs_size, hp]
  have HRI : Hid _ := fun w => right_any u no p w hno hp hb
  obtain ⟨oa, cap, rfl, hcs⟩ := hl.hold
  have HCS : Hid _ := hcs
  clear hcs hl
  obtain ⟨n, HN⟩ : ∃ n, Hid (es.length = n) := ⟨_, rfl⟩
  rw [HN.out] at HCS hn ⊢
  have r0 : Row (((w.alloc (.cells #[.bool u, .int .u16 no] 24)).alloc (.cells (bs p) 26)).alloc (.cells (bs (zs 224)) 26)) w.heap.size #[.bool u, .int .u16 no] 24 := ((Row.new _ _ _).alloc _).alloc _
  have r1 : Row (((w.alloc (.cells #[.bool u, .int .u16 no] 24)).alloc (.cells (bs p) 26)).alloc (.cells (bs (zs 224)) 26)) (w.heap.size + 1) (bs p) 26 := by have := (Row.new (w.alloc (.cells #[.bool u, .int .u16 no] 24)) (bs p) 26).alloc (.cells (bs (zs 224)) 26); simpa using this
  have r2 : Row (((w.alloc (.cells #[.bool u, .int .u16 no] 24)).alloc (.cells (bs p) 26)).alloc (.cells (bs (zs 224)) 26)) (w.heap.size + 2) (bs (zs 224)) 26 := by have := Row.new ((w.alloc (.cells #[.bool u, .int .u16 no] 24)).alloc (.cells (bs p) 26)) (bs (zs 224)) 26; simpa using this
  have ab : Below w.heap.size w (((w.alloc (.cells #[.bool u, .int .u16 no] 24)).alloc (.cells (bs p) 26)).alloc (.cells (bs (zs 224)) 26)) := (((Below.refl _ _).alloc (Nat.le_refl _) _).alloc (by simp) _).alloc (by simp; omega) _
  go_enter Try.func8, Try.ntmps8
  go_upto_region 1 with fail
  generalize ((w.alloc (.cells #[.bool u, .int .u16 no] 24)).alloc (.cells (bs p) 26)).alloc (.cells (bs (zs 224)) 26) = w1 at r0 r1 r2 ab ⊢
  have HS0 : Hid (replayS u no p (es.take 0) = (p, isP u no p)) := by show _ = _; simp [replayS]
  go_upto_region 2 with (first
    | (refine load_cells rfl 24 (.tmp 3) rfl w.heap.size rfl 24 _ r0 2 Try.underlying24 rfl size24 rfl ?_)
    | (refine load_row rfl 26 (.tmp 4) rfl (w.heap.size + 1) rfl 26 (bs p) r1 224 5 Try.underlying26 size26 hpb ?_)
    | (go_at_call 11; refine (HRI.out _).mono ?_; clear HRI; rintro en w2 ⟨rfl, h2⟩))
  have b0 := r0.below h2 r0.lt
  have b1 := r1.below h2 r1.lt
  have b2 := r2.below h2 r2.lt
  have bb : Below w.heap.size w w2 := ab.trans (h2.mono ab.size)
  clear r0 r1 r2 ab h2
  generalize isP u no p = ri at HS0 ⊢
  go_wp2
  go_loopw [7, 17] (fun rt i wr => ∃ (k : Nat) (P : List Int) (s : Bool), k ≤ n ∧ i = .int .i64 k ∧ rt = .bool s ∧ replayS u no p (es.take k) = (P, s) ∧ Row wr w.heap.size #[.bool u, .int .u16 no] 24 ∧ Row wr (w.heap.size + 1) (bs P) 26 ∧ Row wr (w.heap.size + 2) (bs (zs 224)) 26 ∧ Below w.heap.size w wr) (fun _ i _ => n - (intOf i).toNat)
  case atStart => exact ⟨0, p, ri, by omega, rfl, rfl, HS0.out, b0, b1, b2, bb⟩
  case round =>
    clear b0 b1 b2 bb HS0
    obtain ⟨k, P, s, hk, rfl, rfl, hS, b0, b1, b2, bb⟩ := hrel
    have hPok := fold_ok (u := u) (no := no) (es.take k) (p, isP u no p) (fun e he => hf e (List.mem_of_mem_take he)) ⟨hp, hb⟩
    rw [show (es.take k).foldl (stepR u no) (p, isP u no p) = (P, s) from hS] at hPok
    have hPl : P.length = 224 := hPok.1
    have hPB : Bytes P := hPok.2
    have hPb : (bs P).size = 224 := by rw [bs_size, hPl]
    clear hPok
    by_cases hkn : k < n
    · obtain ⟨a, e, rfl, he, hcell⟩ := HCS.out k hkn
      have hcw : ∀ j x, e.cells[j]? = some x → wr.cell? ((a.add (k * 239)).add j) = some x := fun j x hj => cell_keep (hcell j x hj) bb
      have hfe := hf e (List.mem_of_getElem? he)
      have HSS := show Hid _ from replayS_step u no p es k e he
      rw [hS] at HSS
      clear he hcell hS
      have hkn' : (k : Int) < (n : Int) := by omega
      have HAB : Hid (∀ w, Calls Try.prog 16 #[.agg #[.bool u, .int .u16 no], .agg e.r.cells.toArray] w fun e_1 w' => e_1 = .returned (.bool (aboutR u no e.r)) ∧ Below w.heap.size w w') := fun w => about_any u no e.r w hfe.r.len
      have hce : ∀ j v, e.r.cells[j]? = some v → e.arr[1 + j]? = some v := fun j v h => by rw [e.atR j]; unfold R.arr; rw [List.getElem?_toArray]; exact h
      have tl : Hid (1 = 1) := rfl
      have q1 : Row (wr.alloc (.cells En.zero.arr 39)) wr.heap.size En.zero.arr 39 := Row.new _ _ _
      go_upto_region 5 with (first
        | (have hh := tl; clear hh tl; refine wpList_load_any rfl 39 (.tmp 19) rfl (a.add (k * 239)) rfl e.cells _ hcw Try.underlying39 rfl (by rw [size39, En.cells_length _ hfe.r.len]) ?_)
        | (refine store_cells rfl 39 (.tmp 9) (.tmp 20) rfl wr.heap.size e.arr rfl rfl 39 _ q1 239 size39 (En.arr_size _ (zs_length _)) (e.arr_size hfe.r.len) e.arr_one ?_))
      have de := q1.set e.arr
      have hlt := b0.lt
      have hlt1 := b1.lt
      have hlt2 := b2.lt
      have d0 := (b0.alloc (.cells En.zero.arr 39)).other (g := wr.heap.size) (by omega) e.arr
      have d1 := (b1.alloc (.cells En.zero.arr 39)).other (g := wr.heap.size) (by omega) e.arr
      have d2 := (b2.alloc (.cells En.zero.arr 39)).other (g := wr.heap.size) (by omega) e.arr
      have db := below_setRow (bb.alloc bb.size (.cells En.zero.arr 39)) bb.size e.arr
      clear b0 b1 b2 bb q1 hcw
      generalize (wr.alloc (.cells En.zero.arr 39)).setRow wr.heap.size e.arr = w5 at de d0 d1 d2 db ⊢
      have hm := mid_row de 1 e.r.cells hce
      cases ha : aboutR u no e.r with
      | false =>
        have HN1 : Hid (replayS u no p (es.take (k + 1)) = (P, s)) := by show _ = _; rw [HSS.out]; unfold stepR; rw [ha]; rfl
        rw [ha] at HAB
        clear ha HSS
        go_wp2_with (first
          | (refine load_cells rfl 24 (.tmp 3) rfl w.heap.size rfl 24 _ d0 2 Try.underlying24 rfl size24 rfl ?_)
          | (refine wpList_load_any rfl 37 (.tmp 22) rfl ⟨wr.heap.size, 1, none⟩ rfl e.r.cells _ hm Try.underlying37 rfl (by rw [size37, R.cells_length _ hfe.r.len]) ?_)
          | (go_at_call 16; refine (HAB.out _).mono ?_; clear HAB; rintro en w6 ⟨rfl, h6⟩
             have f0 := d0.below h6 d0.lt
             have f1 := d1.below h6 d1.lt
             have f2 := d2.below h6 d2.lt
             have fe := de.below h6 de.lt
             have fb := db.trans (h6.mono db.size)))
        go_roundw
        case rel => exact ⟨k + 1, P, s, by omega, by go_num, rfl, HN1.out, f0, f1, f2, fb⟩
        case measure => simp [intOf]; omega
      | true =>
        have HDU : Hid (∀ w, Calls Try.prog 17 #[.agg (bs P), .bool s, .agg e.arr] w fun en w' => en = .returned (.bool (dueR P s e)) ∧ Below w.heap.size w w') := fun w => due_any P s e w hPl hfe.r.len
        rw [ha] at HAB
        cases hd : dueR P s e with
        | false =>
          have HN1 : Hid (replayS u no p (es.take (k + 1)) = (P, s)) := by show _ = _; rw [HSS.out]; unfold stepR; rw [ha, hd]; rfl
          rw [hd] at HDU
          clear ha hd HSS
          go_wp2_with (first
            | (refine load_cells rfl 24 (.tmp 3) rfl w.heap.size rfl 24 _ d0 2 Try.underlying24 rfl size24 rfl ?_)
            | (refine wpList_load_any rfl 37 (.tmp 22) rfl ⟨wr.heap.size, 1, none⟩ rfl e.r.cells _ hm Try.underlying37 rfl (by rw [size37, R.cells_length _ hfe.r.len]) ?_)
            | (go_at_call 16; refine (HAB.out _).mono ?_; clear HAB; rintro en w6 ⟨rfl, h6⟩
               have f0 := d0.below h6 d0.lt
               have f1 := d1.below h6 d1.lt
               have f2 := d2.below h6 d2.lt
               have fe := de.below h6 de.lt
               have fb := db.trans (h6.mono db.size))
            | (refine load_row_g rfl 26 (.tmp 4) rfl (w.heap.size + 1) rfl 26 (bs P) f1 224 5 Try.underlying26 size26 hPb ?_)
            | (refine load_cells_g rfl 39 (.tmp 9) rfl wr.heap.size rfl 39 _ fe 239 Try.underlying39 rfl size39 (e.arr_size hfe.r.len) ?_)
            | (go_at_call 17; refine (HDU.out _).mono ?_; clear HDU; rintro en w7 ⟨rfl, h7⟩
               have g0 := f0.below h7 f0.lt
               have g1 := f1.below h7 f1.lt
               have g2 := f2.below h7 f2.lt
               have ge := fe.below h7 fe.lt
               have gb := fb.trans (h7.mono fb.size)))
          go_roundw
          case rel => exact ⟨k + 1, P, s, by omega, by go_num, rfl, HN1.out, g0, g1, g2, gb⟩
          case measure => simp [intOf]; omega
        | true =>
          have HN0 : Hid (replayS u no p (es.take (k + 1)) = if (redoR u no P e).2 = 0 then ((redoR u no P e).1, true) else (P, s)) := by show _ = _; rw [HSS.out]; unfold stepR; rw [ha, hd]; rfl
          have HRE : Hid _ := fun w => redo_any u no P e w hno hPl hPB hfe
          have hql := (redoR_ok u no P e hPl hPB hfe).1
          rw [hd] at HDU
          clear ha hd HSS
          generalize redoR u no P e = qe at HN0 HRE hql
          obtain ⟨q, E⟩ := qe
          go_upto_region 6 with (first
            | (refine load_cells rfl 24 (.tmp 3) rfl w.heap.size rfl 24 _ d0 2 Try.underlying24 rfl size24 rfl ?_)
            | (refine wpList_load_any rfl 37 (.tmp 22) rfl ⟨wr.heap.size, 1, none⟩ rfl e.r.cells _ hm Try.underlying37 rfl (by rw [size37, R.cells_length _ hfe.r.len]) ?_)
            | (go_at_call 16; refine (HAB.out _).mono ?_; clear HAB; rintro en w6 ⟨rfl, h6⟩
               have f0 := d0.below h6 d0.lt
               have f1 := d1.below h6 d1.lt
               have f2 := d2.below h6 d2.lt
               have fe := de.below h6 de.lt
               have fb := db.trans (h6.mono db.size))
            | (refine load_row_g rfl 26 (.tmp 4) rfl (w.heap.size + 1) rfl 26 (bs P) f1 224 5 Try.underlying26 size26 hPb ?_)
            | (refine load_cells_g rfl 39 (.tmp 9) rfl wr.heap.size rfl 39 _ fe 239 Try.underlying39 rfl size39 (e.arr_size hfe.r.len) ?_)
            | (go_at_call 17; refine (HDU.out _).mono ?_; clear HDU; rintro en w7 ⟨rfl, h7⟩
               have g0 := f0.below h7 f0.lt
               have g1 := f1.below h7 f1.lt
               have g2 := f2.below h7 f2.lt
               have ge := fe.below h7 fe.lt
               have gb := fb.trans (h7.mono fb.size)))
          clear d0 d1 d2 de db f0 f1 f2 fe fb hm h6 h7
          go_upto_region 7 with (first
            | (refine load_cells rfl 24 (.tmp 3) rfl w.heap.size rfl 24 _ g0 2 Try.underlying24 rfl size24 rfl ?_)
            | (refine load_row rfl 26 (.tmp 4) rfl (w.heap.size + 1) rfl 26 (bs P) g1 224 5 Try.underlying26 size26 hPb ?_)
            | (refine load_cells rfl 39 (.tmp 9) rfl wr.heap.size rfl 39 _ ge 239 Try.underlying39 rfl size39 (e.arr_size hfe.r.len) ?_)
            | (go_at_call 13; refine (HRE.out _).mono ?_; clear HRE; rintro en w8 ⟨rfl, h8⟩
               have i0 := (g0.below h8 g0.lt).alloc (.cells (bs (zs 224)) 26)
               have i1 := (g1.below h8 g1.lt).alloc (.cells (bs (zs 224)) 26)
               have i2 := (g2.below h8 g2.lt).alloc (.cells (bs (zs 224)) 26)
               have i3 : Row (w8.alloc (.cells (bs (zs 224)) 26)) w8.heap.size (bs (zs 224)) 26 := Row.new _ _ _
               have ib0 : Below w.heap.size w w8 := gb.trans (h8.mono gb.size)
               have ib := ib0.alloc ib0.size (.cells (bs (zs 224)) 26)
               have hl8 : w.heap.size + 2 < w8.heap.size := (g2.below h8 g2.lt).lt)
            | (refine store_row rfl 26 (.tmp 10) (.tmp 38) rfl w8.heap.size q rfl rfl 26 _ i3 224 size26 (by rw [bs_size, zs_length]) hql ?_))
          have j0 := i0.other (g := w8.heap.size) (by omega) (bs q)
          have j1 := i1.other (g := w8.heap.size) (by omega) (bs q)
          have j2 := i2.other (g := w8.heap.size) (by omega) (bs q)
          have j3 := i3.set (bs q)
          have jb := below_setRow ib ib0.size (bs q)
          clear g0 g1 g2 ge gb i0 i1 i2 i3 ib ib0 h8
          generalize (w8.alloc (.cells (bs (zs 224)) 26)).setRow w8.heap.size (bs q) = w9 at j0 j1 j2 j3 jb ⊢
          generalize w8.heap.size = g8 at j3 hl8 ⊢
          by_cases hE : E = 0
          · have hE' : (E == 0) = true := by simp [hE]
            have HN1 : Hid (replayS u no p (es.take (k + 1)) = (q, true)) := by show _ = _; rw [HN0.out, if_pos hE]
            have hqb : (bs q).size = 224 := by rw [bs_size]; exact hql
            clear hE HN0
            go_upto_region 9 with (first
              | (refine load_row rfl 26 (.tmp 10) rfl g8 rfl 26 (bs q) j3 224 5 Try.underlying26 size26 hqb ?_)
              | (refine store_row rfl 26 (.tmp 4) (.tmp 42) rfl (w.heap.size + 1) q rfl rfl 26 _ j1 224 size26 hPb hql ?_))
            have m0 := j0.other (g := w.heap.size + 1) (by omega) (bs q)
            have m1 := j1.set (bs q)
            have m2 := j2.other (g := w.heap.size + 1) (by omega) (bs q)
            have mb := below_setRow jb (show w.heap.size ≤ w.heap.size + 1 by omega) (bs q)
            go_wp2
            go_roundw
            case rel => exact ⟨k + 1, q, true, by omega, by go_num, rfl, HN1.out, m0, m1, m2, mb⟩
            case measure => simp [intOf]; omega
          · have hE' : (E == 0) = false := by simp [hE]
            have HN1 : Hid (replayS u no p (es.take (k + 1)) = (P, s)) := by show _ = _; rw [HN0.out, if_neg hE]
            clear hE HN0
            go_wp2
            go_roundw
            case rel => exact ⟨k + 1, P, s, by omega, by go_num, rfl, HN1.out, j0, j1, j2, jb⟩
            case measure => simp [intOf]; omega
    · obtain rfl : k = n := by omega
      have HT : Hid (replayR u no p es = P) := by show _ = _; unfold replayR; rw [← HN.out, List.take_length] at hS; rw [hS]
      clear hS
      have hkn' : ¬ (k : Int) < (k : Int) := by omega
      go_wp2_with (first
        | (refine load_row rfl 26 (.tmp 4) rfl (w.heap.size + 1) rfl 26 (bs P) b1 224 5 Try.underlying26 size26 hPb ?_)
        | (refine store_row rfl 26 (.tmp 6) (.tmp 44) rfl (w.heap.size + 2) P rfl rfl 26 _ b2 224 size26 (by rw [bs_size, zs_length]) hPl ?_))
      refine bodyPost_ret (v := .agg (bs P)) ?_ rfl ⟨by rw [HT.out], below_setRow bb (by omega) _⟩
      exact ret_cell (fn := Try.f8) rfl _ _ (w.heap.size + 2) 26 (bs P) _ rfl (b2.set _) Try.underlying26 rfl (by rw [hPb]; exact size26)
end Go.Proofs.Ytihjapfgllokgab
