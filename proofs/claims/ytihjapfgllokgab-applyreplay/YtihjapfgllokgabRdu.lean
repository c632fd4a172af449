/-
  Proved here: apply.redoUndo: an undo page behind an entry.
-/
import Derived.Test.YtihjapfgllokgabChg
import Derived.Test.YtihjapfgllokgabRdd
namespace Go.Proofs.Ytihjapfgllokgab
open Go.ChangeShapes Go.WideShapes Go.ChangeAt Go.RowKit
set_option linter.unusedVariables false
set_option linter.unusedSimpArgs false
set_option maxRecDepth 20000

theorem set_fits {os : List O} (h : ∀ o ∈ os, o.Fits) (s : Nat) {x : O} (hx : x.Fits) : ∀ o ∈ os.set s x, o.Fits := fun o ho => by
  rcases List.mem_or_eq_of_mem_set ho with h' | h'
  · exact h o h'
  · rw [h']; exact hx
theorem chgO_fits {os os1 : List O} {r : R} (h : ∀ o ∈ os, o.Fits) (hr : r.old.Fits) (hc : chgO os r = some os1) : ∀ o ∈ os1, o.Fits := by
  unfold chgO at hc
  split at hc
  · split at hc
    · cases hc
      unfold added
      split
      · intro o ho
        rcases List.mem_append.1 ho with ho | ho
        · exact h o ho
        · simp at ho; rw [ho]; exact hr
      · exact set_fits h _ hr
    · cases hc
  · split at hc
    · split at hc
      · cases hc
        intro o ho
        exact set_fits h _ O.zero_fits o (List.mem_of_mem_take ho)
      · cases hc
    · split at hc
      · split at hc
        · rename_i hg
          cases hc
          refine set_fits h _ ?_
          rcases got_cases os r.slot.toNat with h' | ⟨o, h1, _, _, h'⟩
          · rw [h'] at hg; cases hg
          · rw [h']
            have := h o (List.mem_of_getElem? h1)
            exact ⟨this.page, this.ts, by simp, by simp⟩
        · cases hc
      · cases hc; exact h
/-- What redoUndo makes of a page, and its errno. -/
def redoUR (no : Int) (p : List Int) (e : En) : List Int × Int :=
  if isU no p then match chgO (uOf p) e.r with
    | some os => (putU no e.lsn os, errU os)
    | none => (zs 224, 2)
  else (zs 224, 2)
set_option maxHeartbeats 4000000 in
theorem redoUndo_any (no : Int) (p : List Int) (e : En) (w : World) (hno : 0 ≤ no ∧ no ≤ 65535) (hp : p.length = 224) (hb : Bytes p) (hf : e.Fits) :
    Calls Try.prog 24 #[.int .u16 no, .agg (bs p), .agg e.arr] w fun en w' => en = .returned (.tuple #[.agg (bs (redoUR no p e).1), .int .i64 (redoUR no p e).2]) ∧ Below w.heap.size w w' := by
  have hz := zero26
  have hz5 := zero64
  have hpb : (bs p).size = 224 := by rw [bs_size, hp]
  have HGU : Hid _ := fun w => getUndo_any no p w hno hp hb
  have r0 : Row (((w.alloc (.cells (bs p) 26)).alloc (.cells e.arr 39)).alloc (.cells (bs (zs 224)) 26)) w.heap.size (bs p) 26 := ((Row.new _ _ _).alloc _).alloc _
  have r1 : Row (((w.alloc (.cells (bs p) 26)).alloc (.cells e.arr 39)).alloc (.cells (bs (zs 224)) 26)) (w.heap.size + 1) e.arr 39 := by have := (Row.new (w.alloc (.cells (bs p) 26)) e.arr 39).alloc (.cells (bs (zs 224)) 26); simpa using this
  have r2 : Row (((w.alloc (.cells (bs p) 26)).alloc (.cells e.arr 39)).alloc (.cells (bs (zs 224)) 26)) (w.heap.size + 2) (bs (zs 224)) 26 := by have := Row.new ((w.alloc (.cells (bs p) 26)).alloc (.cells e.arr 39)) (bs (zs 224)) 26; simpa using this
  have ab : Below w.heap.size w (((w.alloc (.cells (bs p) 26)).alloc (.cells e.arr 39)).alloc (.cells (bs (zs 224)) 26)) := (((Below.refl _ _).alloc (Nat.le_refl _) _).alloc (by simp) _).alloc (by simp; omega) _
  obtain ⟨L0, HL0⟩ : ∃ x, Hid ((if isU no p then lsnOf p else 0) = x) := ⟨_, rfl⟩
  obtain ⟨er, Her⟩ : ∃ x, Hid ((if isU no p then (0 : Int) else 2) = x) := ⟨_, rfl⟩
  go_enter Try.func24, Try.ntmps24
  go_upto_region 1 with fail
  generalize ((w.alloc (.cells (bs p) 26)).alloc (.cells e.arr 39)).alloc (.cells (bs (zs 224)) 26) = w1 at r0 r1 r2 ab ⊢
  go_upto_region 2 with (first
    | (refine load_row rfl 26 (.tmp 4) rfl w.heap.size rfl 26 (bs p) r0 224 5 Try.underlying26 size26 hpb ?_)
    | (go_at_call 21; refine (HGU.out _).mono ?_; clear HGU; rintro en w2 ⟨v2, rfl, ho2, h2⟩
       rw [HL0.out, Her.out]
       obtain ⟨oa, cap, rfl, _⟩ := ho2.open
       generalize hn : (if isU no p = true then uOf p else []).length = n at ho2 ⊢
       have s1 := (r1.below h2 r1.lt).alloc (.cells #[.int .u64 0, .slice none 0 0] 64)
       have s2 := (r2.below h2 r2.lt).alloc (.cells #[.int .u64 0, .slice none 0 0] 64)
       have s3 : Row (w2.alloc (.cells #[.int .u64 0, .slice none 0 0] 64)) w2.heap.size #[.int .u64 0, .slice none 0 0] 64 := Row.new _ _ _
       have sb0 : Below w.heap.size w w2 := ab.trans (h2.mono ab.size)
       have sb : Below w.heap.size w (w2.alloc (.cells #[.int .u64 0, .slice none 0 0] 64)) := sb0.alloc sb0.size _
       have hg3 : w.heap.size + 2 < w2.heap.size := (r2.below h2 r2.lt).lt)
    | (refine store_cells rfl 64 (.tmp 8) (.tmp 15) rfl w2.heap.size #[.int .u64 L0, .slice oa n cap] rfl rfl 64 _ s3 2 size64 rfl rfl (by simp [Value.oneCell']) ?_))
  have t1 := s1.other (g := w2.heap.size) (by omega) #[.int .u64 L0, .slice oa n cap]
  have t2 := s2.other (g := w2.heap.size) (by omega) #[.int .u64 L0, .slice oa n cap]
  have t3 := s3.set #[.int .u64 L0, .slice oa n cap]
  have tb := below_setRow sb sb0.size #[.int .u64 L0, .slice oa n cap]
  have hbW : Below w2.heap.size w2 ((w2.alloc (.cells #[.int .u64 0, .slice none 0 0] 64)).setRow w2.heap.size #[.int .u64 L0, .slice oa n cap]) := below_setRow ((Below.refl _ _).alloc (Nat.le_refl _) _) (Nat.le_refl _) _
  clear r0 r1 r2 ab s1 s2 s3 sb sb0 h2 hn
  generalize (w2.alloc (.cells #[.int .u64 0, .slice none 0 0] 64)).setRow w2.heap.size #[.int .u64 L0, .slice oa n cap] = W at t1 t2 t3 tb hbW ⊢
  obtain ⟨g3, Hg3⟩ : ∃ g, Hid (w2.heap.size = g) := ⟨_, rfl⟩
  rw [Hg3.out] at t3 hg3 ⊢
  cases hi : isU no p with
  | false =>
    have HR : Hid (redoUR no p e = (zs 224, 2)) := by show _ = _; unfold redoUR; rw [hi]; rfl
    have hE : er = 2 := by rw [← Her.out, hi]; rfl
    clear HL0 Her hi ho2
    subst hE
    go_wp2_with (first
      | (refine build_none rfl 26 rfl (bs (zs 224)) built26 ?_)
      | (refine store_row rfl 26 (.tmp 6) (.tmp 19) rfl (w.heap.size + 2) (zs 224) rfl rfl 26 _ t2 224 size26 (by rw [bs_size, zs_length]) (zs_length _) ?_))
    refine bodyPost_ret (v := .tuple #[.agg (bs (zs 224)), .int .i64 2]) ?_ rfl ⟨by rw [HR.out], below_setRow tb (by omega) _⟩
    exact ret_cell2 (fn := Try.f24) rfl _ _ (w.heap.size + 2) 26 _ _ (.int .i64 2) rfl rfl (t2.set _) Try.underlying26 rfl (by rw [size26, bs_size, zs_length])
  | true =>
    have hE : er = 0 := by rw [← Her.out, hi]; rfl
    rw [hi, if_pos rfl] at ho2
    have HRR : Hid (redoUR no p e = match chgO (uOf p) e.r with
      | some os => (putU no e.lsn os, errU os)
      | none => (zs 224, 2)) := by show _ = _; unfold redoUR; rw [hi]; rfl
    clear HL0 Her hi
    subst hE
    have hfu : ∀ o ∈ uOf p, o.Fits := readO_fits _ _ _
    have hoW := ho2.keep hbW
    have HC : Hid _ := fun w h => changed_any L0 (.slice oa n cap) (uOf p) e.r w hf.r.len hf.r.slot h
    have hm := mid_row t1 1 e.r.cells (fun j v h => by rw [e.atR j]; unfold R.arr; rw [List.getElem?_toArray]; exact h)
    cases hq : chgO (uOf p) e.r with
    | none =>
      have hsome : Hid ((chgO (uOf p) e.r).isSome = false) := by show _ = _; rw [hq]; rfl
      have HR : Hid (redoUR no p e = (zs 224, 2)) := by show _ = _; rw [HRR.out, hq]
      clear HRR hq
      go_upto_region 5 with (first
        | (refine load_cells rfl 64 (.tmp 8) rfl g3 rfl 64 _ t3 2 Try.underlying64 rfl size64 rfl ?_)
        | (refine wpList_load_any rfl 37 (.tmp 22) rfl ⟨w.heap.size + 1, 1, none⟩ rfl e.r.cells _ hm Try.underlying37 rfl (by rw [size37, R.cells_length _ hf.r.len]) ?_)
        | (go_at_call 43; refine (HC.out _ hoW).mono ?_; clear HC; rintro en w4 ⟨ls, v4, os4, rfl, hos, hv4, h4⟩
           rw [hsome.out]
           obtain ⟨oa4, n4, cap4, rfl⟩ : ∃ a n c, v4 = .slice a n c := by
             rcases hv4 with ⟨rfl, _⟩ | h
             · exact ⟨_, _, _, rfl⟩
             · obtain ⟨a, c, rfl⟩ := h.form; exact ⟨_, _, _, rfl⟩
           have q1 := t1.below h4 t1.lt
           have q2 := t2.below h4 t2.lt
           have q3 := t3.below h4 t3.lt
           have qb := tb.trans (h4.mono tb.size)
           have hv5 := show Hid _ from hv4
           have hos5 := show Hid _ from hos
           clear hv4 hos
           have hk2 : Below w2.heap.size w2 w4 := hbW.trans (h4.mono hbW.size))
        | (refine store_cells rfl 64 (.tmp 8) (.tmp 25) rfl g3 #[.int .u64 ls, .slice oa4 n4 cap4] rfl rfl 64 _ q3 2 size64 rfl rfl (by simp [Value.oneCell']) ?_))
      have hgW : g3 < W.heap.size := t3.lt
      have hgg : w2.heap.size ≤ g3 := Nat.le_of_eq Hg3.out
      have x1 := q1.other (g := g3) (by omega) #[.int .u64 ls, .slice oa4 n4 cap4]
      have x2 := q2.other (g := g3) (by omega) #[.int .u64 ls, .slice oa4 n4 cap4]
      have x3 := q3.set #[.int .u64 ls, .slice oa4 n4 cap4]
      have xb := below_setRow qb (show w.heap.size ≤ g3 by omega) #[.int .u64 ls, .slice oa4 n4 cap4]
      clear t1 t2 t3 tb q1 q2 q3 qb hm
      go_wp2_with (first
        | (refine build_none rfl 26 rfl (bs (zs 224)) built26 ?_)
        | (refine store_row rfl 26 (.tmp 6) (.tmp 29) rfl (w.heap.size + 2) (zs 224) rfl rfl 26 _ x2 224 size26 (by rw [bs_size, zs_length]) (zs_length _) ?_))
      refine bodyPost_ret (v := .tuple #[.agg (bs (zs 224)), .int .i64 2]) ?_ rfl ⟨by rw [HR.out], below_setRow xb (by omega) _⟩
      exact ret_cell2 (fn := Try.f24) rfl _ _ (w.heap.size + 2) 26 _ _ (.int .i64 2) rfl rfl (x2.set _) Try.underlying26 rfl (by rw [size26, bs_size, zs_length])
    | some os1 =>
      have hsome : Hid ((chgO (uOf p) e.r).isSome = true) := by show _ = _; rw [hq]; rfl
      have HR : Hid (redoUR no p e = (putU no e.lsn os1, errU os1)) := by show _ = _; rw [HRR.out, hq]
      clear HRR
      go_upto_region 5 with (first
        | (refine load_cells rfl 64 (.tmp 8) rfl g3 rfl 64 _ t3 2 Try.underlying64 rfl size64 rfl ?_)
        | (refine wpList_load_any rfl 37 (.tmp 22) rfl ⟨w.heap.size + 1, 1, none⟩ rfl e.r.cells _ hm Try.underlying37 rfl (by rw [size37, R.cells_length _ hf.r.len]) ?_)
        | (go_at_call 43; refine (HC.out _ hoW).mono ?_; clear HC; rintro en w4 ⟨ls, v4, os4, rfl, hos, hv4, h4⟩
           rw [hsome.out]
           obtain ⟨oa4, n4, cap4, rfl⟩ : ∃ a n c, v4 = .slice a n c := by
             rcases hv4 with ⟨rfl, _⟩ | h
             · exact ⟨_, _, _, rfl⟩
             · obtain ⟨a, c, rfl⟩ := h.form; exact ⟨_, _, _, rfl⟩
           have q1 := t1.below h4 t1.lt
           have q2 := t2.below h4 t2.lt
           have q3 := t3.below h4 t3.lt
           have qb := tb.trans (h4.mono tb.size)
           have hv5 := show Hid _ from hv4
           have hos5 := show Hid _ from hos
           clear hv4 hos
           have hk2 : Below w2.heap.size w2 w4 := hbW.trans (h4.mono hbW.size))
        | (refine store_cells rfl 64 (.tmp 8) (.tmp 25) rfl g3 #[.int .u64 ls, .slice oa4 n4 cap4] rfl rfl 64 _ q3 2 size64 rfl rfl (by simp [Value.oneCell']) ?_))
      have hgW : g3 < W.heap.size := t3.lt
      have hgg : w2.heap.size ≤ g3 := Nat.le_of_eq Hg3.out
      have x1 := q1.other (g := g3) (by omega) #[.int .u64 ls, .slice oa4 n4 cap4]
      have x2 := q2.other (g := g3) (by omega) #[.int .u64 ls, .slice oa4 n4 cap4]
      have x3 := q3.set #[.int .u64 ls, .slice oa4 n4 cap4]
      have xb := below_setRow qb (show w.heap.size ≤ g3 by omega) #[.int .u64 ls, .slice oa4 n4 cap4]
      clear t1 t2 t3 tb q1 q2 q3 qb hm
      have hO9 : Olds ((w4.setRow g3 #[.int .u64 ls, .slice oa4 n4 cap4]).setCell ⟨g3, 0, none⟩ (.int .u64 e.lsn)) (.slice oa4 n4 cap4) os4 := by
        rcases hv5.out with ⟨h1, h2⟩ | h
        · rw [h1, h2]; exact ho2.keep ((below_setRow hk2 hgg _).setCell (p := ⟨g3, 0, none⟩) (by show w2.heap.size ≤ g3; exact hgg) _)
        · exact ((h.setRow g3 hgW _).other g3 0 _ hgW).olds
      have k0 := row_at x1 0 _ e.at0
      have k3 := row_at x3 0 _ rfl
      have fz := row_frozen x3 0
      go_upto_region 8 with fail
      have z3 : Row ((w4.setRow g3 #[.int .u64 ls, .slice oa4 n4 cap4]).setCell ⟨g3, 0, none⟩ (.int .u64 e.lsn)) g3 #[.int .u64 e.lsn, .slice oa4 n4 cap4] 64 := row_set x3 0 (.int .u64 e.lsn)
      have z2 := row_setCell_other x2 (g := g3) (by omega) 0 (.int .u64 e.lsn)
      have zb := xb.setCell (p := ⟨g3, 0, none⟩) (by show w.heap.size ≤ g3; omega) (.int .u64 e.lsn)
      clear x1 x2 x3 xb k0 k3 fz hbW hoW
      generalize (w4.setRow g3 #[.int .u64 ls, .slice oa4 n4 cap4]).setCell ⟨g3, 0, none⟩ (.int .u64 e.lsn) = W9 at z2 z3 zb hO9 ⊢
      have hq1 := hos5.out os1 hq
      subst hq1
      have HPU : Hid _ := fun w h => putUndo_any no e.lsn (.slice oa4 n4 cap4) os4 w h (chgO_fits hfu hf.r.old hq) hno hf.lsn
      have hqn : (putU no e.lsn os4).length = 224 := putU_length _ _ _
      clear hq hos5 hv5
      generalize putU no e.lsn os4 = q at HPU hqn HR
      generalize errU os4 = E at HPU HR
      go_wp2_with (first
        | (refine load_cells rfl 64 (.tmp 8) rfl g3 rfl 64 _ z3 2 Try.underlying64 rfl size64 rfl ?_)
        | (go_at_call 26; refine (HPU.out _ hO9).mono ?_; clear HPU; rintro en w10 ⟨rfl, h10⟩; have z2 := z2.below h10 z2.lt; have zb := zb.trans (h10.mono zb.size))
        | (refine store_row rfl 26 (.tmp 6) (.tmp 36) rfl (w.heap.size + 2) q rfl rfl 26 _ z2 224 size26 (by rw [bs_size, zs_length]) hqn ?_))
      refine bodyPost_ret (v := .tuple #[.agg (bs q), .int .i64 E]) ?_ rfl ⟨by rw [HR.out], below_setRow zb (by omega) _⟩
      exact ret_cell2 (fn := Try.f24) rfl _ _ (w.heap.size + 2) 26 _ _ (.int .i64 E) rfl rfl (z2.set _) Try.underlying26 rfl (by rw [size26, bs_size, hqn])
end Go.Proofs.Ytihjapfgllokgab
