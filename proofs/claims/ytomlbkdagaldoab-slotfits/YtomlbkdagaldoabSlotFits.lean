/-
  Proved: for every undo page, every record and every number the Go function varvelaw07.SlotFits returns true and leaves its arguments as they were; no condition.
-/
import Derived.Test.YtomlbkdagaldoabFits
namespace Go.Proofs.Ytomlbkdagaldoab.slotFits
open Go.ChangeShapes Go.WideShapes Go.ChangeAt Go.RowKit
open Go.Deep
set_option linter.unusedVariables false
set_option linter.unusedSimpArgs false

theorem own : ownKnob Try.prog.godebug = none := by kernel_rfl

theorem load_mid_g {P : Program} {ops : Array Oper} {rest : List Oper} {op : Oper} {a : Act} {w : World} {Q : Exit → Act → World → Prop} (hgd : Region.wanted op (yielded ops a.tmps) = true) (ty : TypeId) (x : Operand) (ho : op.op = .load ty x)
    (b o : Nat) (hx : a.eval x = .pointer (some ⟨b, o, none⟩)) (cs : List Value) (d : TypeDesc) (hc : w.rangeAt b o cs)
    (hu : P.underlying ty = some d) (hd : d.isRow = true) (hi : (P.info? ty).map (·.size) = some cs.length)
    (h : wpList P ops Q rest (a.put op.dst (.agg cs.toArray)) w) : wpList P ops Q (op :: rest) a w :=
  BigFrame.wpList_want hgd fun _ hK => wp_load_mid ty x ho b o hx cs d hc hu hd hi (hK _ _ h)
theorem added_map {α : Type} (g : O → α) (os : List O) (o p : O) (h : g o = g p) : (added os o).map g = (added os p).map g := by
  unfold added
  by_cases q : spareAt os = os.length
  · rw [if_pos q, if_pos q]; simp [h]
  · rw [if_neg q, if_neg q, List.map_set, List.map_set, h]
theorem psize_map (os : List O) : psize os = (os.map fun o => if o.live then 11 + (o.delta.size : Int) else 1).foldl (· + ·) 16 := by
  unfold psize; rw [List.foldl_map]
theorem all_map (os : List O) : os.all okO = (os.map okO).all id := by simp
theorem last_map (os : List O) : lastLive os = ((os.map (·.live)).getLast?.getD true) := by
  unfold lastLive; rw [List.getLast?_map]; cases os.getLast? <;> rfl
theorem may_added {os : List O} {o p : O} (h1 : o.live = true) (h2 : p.live = true) (hs : o.delta.size = p.delta.size) : may (added os o) = may (added os p) := by
  have e1 : (added os o).length = (added os p).length := by
    have := congrArg List.length (added_map (fun _ => ()) os o p rfl)
    simpa using this
  have e2 : lastLive (added os o) = lastLive (added os p) := by rw [last_map, last_map, added_map (·.live) os o p (by simp only [h1, h2])]
  have e3 : (added os o).all okO = (added os p).all okO := by rw [all_map, all_map, added_map okO os o p (by unfold okO; rw [h1, h2, hs]; simp)]
  have e4 : psize (added os o) = psize (added os p) := by rw [psize_map, psize_map, added_map _ os o p (by simp only [h1, h2, hs])]
  unfold may; rw [e1, e2, e3, e4]
theorem addE_size {os : List O} {o p : O} (h1 : o.live = true) (h2 : p.live = true) (hs : o.delta.size = p.delta.size) : addE os o = addE os p := by
  unfold addE fit; rw [h1, h2, hs, may_added h1 h2 hs]
theorem fits_addE {os : List O} {o : O} (h1 : o.live = true) (hs : o.delta.size ≤ 66) : fits os o.delta.size = decide (addE os o = 0) := by
  unfold fits
  rw [decide_eq_true (by omega : (0 : Int) ≤ (o.delta.size : Int)), decide_eq_true (by omega : (o.delta.size : Int) ≤ 66), Int.toNat_natCast, addE_size (o := zo o.delta.size) (p := o) rfl h1 (zeros_size _)]
  simp
theorem fits_may {os : List O} {n : Int} (h : fits os n = true) : may os = true ∧ 0 ≤ n ∧ n ≤ 66 := by
  unfold fits at h
  simp only [Bool.and_eq_true, decide_eq_true_eq] at h
  have := (addE_ok h.2).1
  unfold fit at this
  simp only [Bool.and_eq_true] at this
  exact ⟨this.1.1, h.1.1, h.1.2⟩
theorem addE_arg {os : List O} {o : O} (h : addE os o = 1) : o.live = true → fits os o.delta.size = false := by
  intro hl
  rw [Bool.eq_false_iff]
  intro hf
  have h66 := (fits_may hf).2.2
  rw [fits_addE hl (by omega), decide_eq_true_eq] at hf
  omega
theorem addE_not {os : List O} {o : O} (h : addE os o ≠ 1) : o.live = true ∧ o.delta.size ≤ 66 := by
  have hf : fit os o = true := by
    cases q : fit os o
    · exact absurd (by unfold addE; rw [q]; rfl) h
    · rfl
  unfold fit at hf
  simp only [Bool.and_eq_true, decide_eq_true_eq] at hf
  exact ⟨hf.1.2, hf.2⟩

set_option maxHeartbeats 4000000 in
theorem walk (w : World) (lsn : Int) (v : Value) (os : List O) (o : O) (k : Int) (ho : Olds w v os) (wk : (Lit.int .i64 k).wf = true) :
    Calls Try.prog 3 #[.agg #[.int .u64 lsn, v], .agg o.arr, .int .i64 k] w fun e w' => e = .returned (.bool true) ∧ Below w.heap.size w w' := by
  obtain ⟨oa, cap, rfl, _⟩ := ho.open
  obtain ⟨n, HN⟩ : ∃ n, Hid (os.length = n) := ⟨_, rfl⟩
  rw [HN.out] at ho ⊢
  have hz := zero25
  have x0 : Bx w ((w.alloc (.cells #[.int .u64 lsn, .slice oa n cap] 25)).alloc (.cells o.arr 31)) lsn (.slice oa n cap) o := ⟨(Row.new _ _ _).alloc _, by have := Row.new (w.alloc (.cells #[.int .u64 lsn, .slice oa n cap] 25)) o.arr 31; simpa using this, ((Below.refl _ _).alloc (Nat.le_refl _) _).alloc (by simp) _⟩
  go_enter Try.func3, Try.ntmps3
  go_upto_region 1 with fail
  generalize (w.alloc (.cells #[.int .u64 lsn, .slice oa n cap] 25)).alloc (.cells o.arr 31) = w1 at x0 ⊢
  have c1 := row_at x0.u 1 _ rfl
  by_cases hn : n > 100
  · have hn' : (n : Int) > 100 := by omega
    go_wp2_with (go_at_call 7; refine (awake_any _).mono ?_; rintro e w2 ⟨rfl, b2⟩)
    go_ret
    exact ⟨rfl, (x0.down b2).b⟩
  have hn' : ¬ (n : Int) > 100 := by omega
  have hn1 : os.length ≤ 1000000000 := by rw [HN.out]; omega
  go_upto_region 3 with fail
  clear c1
  go_cut [9] from 16 to 23 (fun c wx => c = .int .i64 (addE os o) ∧ Bx w wx lsn (.slice oa n cap) o)
  case first =>
    refine wp_region_held_drew (S := fun w' => Bx w w' lsn (.slice oa n cap) o) (by kernel_rfl) (x0.down (Below.refl _ _).drew) fun hS => ?_
    refine wpAnyH_take (i := 0) (v := .agg #[.int .u64 lsn, .slice oa n cap]) rfl (by kernel_rfl) (by kernel_rfl) (by kernel_rfl) (fun _ _ _ h => h) (yields_st (by rfl) 25 (.tmp 3) rfl (w.heap.size) rfl 25 #[.int .u64 lsn, .slice oa n cap] (fun w h => h.u) Try.underlying25 rfl size25) hS ?_
    try simp only [Act.put, List.getElem_toArray, List.getElem_cons_zero, List.getElem_cons_succ, List.setIfInBounds_toArray, List.set_cons_zero, List.set_cons_succ]
    refine wpAnyH_take (i := 2) (v := .agg o.arr) rfl (by kernel_rfl) (by kernel_rfl) (by kernel_rfl) (fun _ _ _ h => h) (yields_st (by rfl) 31 (.tmp 4) rfl (w.heap.size + 1) rfl 31 o.arr (fun w h => h.o) Try.underlying31 rfl size31) hS ?_
    try simp only [Act.put, List.getElem_toArray, List.getElem_cons_zero, List.getElem_cons_succ, List.setIfInBounds_toArray, List.set_cons_zero, List.set_cons_succ]
    refine wpAnyH_ready (rs := [1, 8]) (by kernel_rfl) (by simp) ?_
    refine AllReadyH.cons rfl (fun K hK => ?_) (AllReadyH.cons rfl (fun K hK => ?_) AllReadyH.nil)
    · go_simp
      go_at_call 9
      refine (kept_any lsn _ os _ (ho.keep hS.b) (by omega)).mono ?_
      rintro e wc ⟨v1, rfl, hO1, b1⟩
      refine hK.out _ _ (hS.down b1) fun hS => ?_
      try simp only [Act.put, List.getElem_toArray, List.getElem_cons_zero, List.getElem_cons_succ, List.setIfInBounds_toArray, List.set_cons_zero, List.set_cons_succ]
      have hwc : Hid (w.heap.size + 2 ≤ wc.heap.size) := hS.o.lt
      refine wpAnyH_ready (rs := [3, 8]) (by kernel_rfl) (by simp) ?_
      refine AllReadyH.cons rfl (fun K hK => ?_) (AllReadyH.cons rfl (fun K hK => ?_) AllReadyH.nil)
      · go_simp
        go_at_call 8
        refine (add_any lsn _ os o _ (hO1.olds)).mono ?_
        rintro e wd ⟨v2, rfl, hO2, b2⟩
        refine hK.out _ _ (hS.down b2) fun hS => ?_
        try simp only [Act.put, List.getElem_toArray, List.getElem_cons_zero, List.getElem_cons_succ, List.setIfInBounds_toArray, List.set_cons_zero, List.set_cons_succ]
        refine wpAnyH_take (i := 4) (v := .tuple #[.agg #[.int .u64 (addL lsn os o), v2], .int .u8 (addS os o), .int .i64 (addE os o)]) rfl (by kernel_rfl) (by kernel_rfl) (by kernel_rfl) (fun _ _ _ h => h) (Or.inl ⟨by rfl, fun w _ => by go_simp⟩) hS ?_
        try simp only [Act.put, List.getElem_toArray, List.getElem_cons_zero, List.getElem_cons_succ, List.setIfInBounds_toArray, List.set_cons_zero, List.set_cons_succ]
        refine wpAnyH_take (i := 5) (v := .agg #[.int .u64 (addL lsn os o), v2]) rfl (by kernel_rfl) (by kernel_rfl) (by kernel_rfl) (fun _ _ _ h => h) (Or.inl ⟨by rfl, fun w _ => by go_simp⟩) hS ?_
        try simp only [Act.put, List.getElem_toArray, List.getElem_cons_zero, List.getElem_cons_succ, List.setIfInBounds_toArray, List.set_cons_zero, List.set_cons_succ]
        refine wpAnyH_take (i := 6) (v := .int .u8 (addS os o)) rfl (by kernel_rfl) (by kernel_rfl) (by kernel_rfl) (fun _ _ _ h => h) (Or.inl ⟨by rfl, fun w _ => by go_simp⟩) hS ?_
        try simp only [Act.put, List.getElem_toArray, List.getElem_cons_zero, List.getElem_cons_succ, List.setIfInBounds_toArray, List.set_cons_zero, List.set_cons_succ]
        refine wpAnyH_take (i := 7) (v := .int .i64 (addE os o)) rfl (by kernel_rfl) (by kernel_rfl) (by kernel_rfl) (fun _ _ _ h => h) (Or.inl ⟨by rfl, fun w _ => by go_simp⟩) hS ?_
        try simp only [Act.put, List.getElem_toArray, List.getElem_cons_zero, List.getElem_cons_succ, List.setIfInBounds_toArray, List.set_cons_zero, List.set_cons_succ]
        refine wpAnyH_ready (rs := [8]) (by kernel_rfl) (by simp) ?_
        refine AllReadyH.cons rfl (fun K hK => ?_) AllReadyH.nil
        · go_simp
          refine hK.out _ _ (hS.down ((Below.refl _ _).alloc (Nat.le_refl _) _)) fun hS => ?_
          try simp only [Act.put, List.getElem_toArray, List.getElem_cons_zero, List.getElem_cons_succ, List.setIfInBounds_toArray, List.set_cons_zero, List.set_cons_succ]
          have yP := Row.new wd #[.int .u64 0, .slice none 0 0] 25
          have zO := hO2.alloc (.cells #[.int .u64 0, .slice none 0 0] 25)
          have hP : w.heap.size + 2 ≤ wd.heap.size := Nat.le_trans hwc.out b2.size
          obtain ⟨oa2, cap2, rfl⟩ := zO.form
          refine wpAnyH_ready (rs := [9]) (by kernel_rfl) (by simp) ?_
          refine AllReadyH.cons rfl (fun K hK => ?_) AllReadyH.nil
          refine step_cells rfl 25 (.tmp 7) (.tmp 21) rfl (wd.heap.size) #[.int .u64 (addL lsn os o), .slice oa2 (addR os o).length cap2] rfl rfl 25 _ yP 2 size25 rfl rfl (by simp [Value.oneCell']) (hK.out _ _ (hS.setRow _ hP _) fun hS => ?_)
          try simp only [Act.put, List.getElem_toArray, List.getElem_cons_zero, List.getElem_cons_succ, List.setIfInBounds_toArray, List.set_cons_zero, List.set_cons_succ]
          refine wpAnyH_take (i := 10) (v := .int .u8 (addS os o)) rfl (by kernel_rfl) (by kernel_rfl) (by kernel_rfl) (fun _ _ _ h => h) (Or.inl ⟨by rfl, fun w _ => by go_simp⟩) hS ?_
          try simp only [Act.put, List.getElem_toArray, List.getElem_cons_zero, List.getElem_cons_succ, List.setIfInBounds_toArray, List.set_cons_zero, List.set_cons_succ]
          refine wpAnyH_take (i := 11) (v := .int .i64 (addE os o)) rfl (by kernel_rfl) (by kernel_rfl) (by kernel_rfl) (fun _ _ _ h => h) (Or.inl ⟨by rfl, fun w _ => by go_simp⟩) hS ?_
          try simp only [Act.put, List.getElem_toArray, List.getElem_cons_zero, List.getElem_cons_succ, List.setIfInBounds_toArray, List.set_cons_zero, List.set_cons_succ]
          refine wpAnyH_done (by kernel_rfl) ?_ _
          go_wp2
          go_meet
          exact ⟨rfl, hS⟩
      · go_simp
        refine hK.out _ _ (hS.down ((Below.refl _ _).alloc (Nat.le_refl _) _)) fun hS => ?_
        try simp only [Act.put, List.getElem_toArray, List.getElem_cons_zero, List.getElem_cons_succ, List.setIfInBounds_toArray, List.set_cons_zero, List.set_cons_succ]
        refine wpAnyH_ready (rs := [3]) (by kernel_rfl) (by simp) ?_
        refine AllReadyH.cons rfl (fun K hK => ?_) AllReadyH.nil
        · go_simp
          go_at_call 8
          refine (add_any lsn _ os o _ ((hO1.alloc _).olds)).mono ?_
          rintro e wd ⟨v2, rfl, hO2, b2⟩
          refine hK.out _ _ (hS.down b2) fun hS => ?_
          try simp only [Act.put, List.getElem_toArray, List.getElem_cons_zero, List.getElem_cons_succ, List.setIfInBounds_toArray, List.set_cons_zero, List.set_cons_succ]
          refine wpAnyH_take (i := 4) (v := .tuple #[.agg #[.int .u64 (addL lsn os o), v2], .int .u8 (addS os o), .int .i64 (addE os o)]) rfl (by kernel_rfl) (by kernel_rfl) (by kernel_rfl) (fun _ _ _ h => h) (Or.inl ⟨by rfl, fun w _ => by go_simp⟩) hS ?_
          try simp only [Act.put, List.getElem_toArray, List.getElem_cons_zero, List.getElem_cons_succ, List.setIfInBounds_toArray, List.set_cons_zero, List.set_cons_succ]
          refine wpAnyH_take (i := 5) (v := .agg #[.int .u64 (addL lsn os o), v2]) rfl (by kernel_rfl) (by kernel_rfl) (by kernel_rfl) (fun _ _ _ h => h) (Or.inl ⟨by rfl, fun w _ => by go_simp⟩) hS ?_
          try simp only [Act.put, List.getElem_toArray, List.getElem_cons_zero, List.getElem_cons_succ, List.setIfInBounds_toArray, List.set_cons_zero, List.set_cons_succ]
          refine wpAnyH_take (i := 6) (v := .int .u8 (addS os o)) rfl (by kernel_rfl) (by kernel_rfl) (by kernel_rfl) (fun _ _ _ h => h) (Or.inl ⟨by rfl, fun w _ => by go_simp⟩) hS ?_
          try simp only [Act.put, List.getElem_toArray, List.getElem_cons_zero, List.getElem_cons_succ, List.setIfInBounds_toArray, List.set_cons_zero, List.set_cons_succ]
          refine wpAnyH_take (i := 7) (v := .int .i64 (addE os o)) rfl (by kernel_rfl) (by kernel_rfl) (by kernel_rfl) (fun _ _ _ h => h) (Or.inl ⟨by rfl, fun w _ => by go_simp⟩) hS ?_
          try simp only [Act.put, List.getElem_toArray, List.getElem_cons_zero, List.getElem_cons_succ, List.setIfInBounds_toArray, List.set_cons_zero, List.set_cons_succ]
          have yP := (Row.new wc #[.int .u64 0, .slice none 0 0] 25).below b2 (Row.new wc #[.int .u64 0, .slice none 0 0] 25).lt
          have zO := hO2
          have hP : w.heap.size + 2 ≤ wc.heap.size := hwc.out
          obtain ⟨oa2, cap2, rfl⟩ := zO.form
          refine wpAnyH_ready (rs := [9]) (by kernel_rfl) (by simp) ?_
          refine AllReadyH.cons rfl (fun K hK => ?_) AllReadyH.nil
          refine step_cells rfl 25 (.tmp 7) (.tmp 21) rfl (wc.heap.size) #[.int .u64 (addL lsn os o), .slice oa2 (addR os o).length cap2] rfl rfl 25 _ yP 2 size25 rfl rfl (by simp [Value.oneCell']) (hK.out _ _ (hS.setRow _ hP _) fun hS => ?_)
          try simp only [Act.put, List.getElem_toArray, List.getElem_cons_zero, List.getElem_cons_succ, List.setIfInBounds_toArray, List.set_cons_zero, List.set_cons_succ]
          refine wpAnyH_take (i := 10) (v := .int .u8 (addS os o)) rfl (by kernel_rfl) (by kernel_rfl) (by kernel_rfl) (fun _ _ _ h => h) (Or.inl ⟨by rfl, fun w _ => by go_simp⟩) hS ?_
          try simp only [Act.put, List.getElem_toArray, List.getElem_cons_zero, List.getElem_cons_succ, List.setIfInBounds_toArray, List.set_cons_zero, List.set_cons_succ]
          refine wpAnyH_take (i := 11) (v := .int .i64 (addE os o)) rfl (by kernel_rfl) (by kernel_rfl) (by kernel_rfl) (fun _ _ _ h => h) (Or.inl ⟨by rfl, fun w _ => by go_simp⟩) hS ?_
          try simp only [Act.put, List.getElem_toArray, List.getElem_cons_zero, List.getElem_cons_succ, List.setIfInBounds_toArray, List.set_cons_zero, List.set_cons_succ]
          refine wpAnyH_done (by kernel_rfl) ?_ _
          go_wp2
          go_meet
          exact ⟨rfl, hS⟩
    · go_simp
      refine hK.out _ _ (hS.down ((Below.refl _ _).alloc (Nat.le_refl _) _)) fun hS => ?_
      try simp only [Act.put, List.getElem_toArray, List.getElem_cons_zero, List.getElem_cons_succ, List.setIfInBounds_toArray, List.set_cons_zero, List.set_cons_succ]
      refine wpAnyH_ready (rs := [1]) (by kernel_rfl) (by simp) ?_
      refine AllReadyH.cons rfl (fun K hK => ?_) AllReadyH.nil
      · go_simp
        go_at_call 9
        refine (kept_any lsn _ os _ (ho.keep hS.b) (by omega)).mono ?_
        rintro e wc ⟨v1, rfl, hO1, b1⟩
        refine hK.out _ _ (hS.down b1) fun hS => ?_
        try simp only [Act.put, List.getElem_toArray, List.getElem_cons_zero, List.getElem_cons_succ, List.setIfInBounds_toArray, List.set_cons_zero, List.set_cons_succ]
        have hwc : Hid (w.heap.size + 2 ≤ wc.heap.size) := hS.o.lt
        refine wpAnyH_ready (rs := [3]) (by kernel_rfl) (by simp) ?_
        refine AllReadyH.cons rfl (fun K hK => ?_) AllReadyH.nil
        · go_simp
          go_at_call 8
          refine (add_any lsn _ os o _ (hO1.olds)).mono ?_
          rintro e wd ⟨v2, rfl, hO2, b2⟩
          refine hK.out _ _ (hS.down b2) fun hS => ?_
          try simp only [Act.put, List.getElem_toArray, List.getElem_cons_zero, List.getElem_cons_succ, List.setIfInBounds_toArray, List.set_cons_zero, List.set_cons_succ]
          refine wpAnyH_take (i := 4) (v := .tuple #[.agg #[.int .u64 (addL lsn os o), v2], .int .u8 (addS os o), .int .i64 (addE os o)]) rfl (by kernel_rfl) (by kernel_rfl) (by kernel_rfl) (fun _ _ _ h => h) (Or.inl ⟨by rfl, fun w _ => by go_simp⟩) hS ?_
          try simp only [Act.put, List.getElem_toArray, List.getElem_cons_zero, List.getElem_cons_succ, List.setIfInBounds_toArray, List.set_cons_zero, List.set_cons_succ]
          refine wpAnyH_take (i := 5) (v := .agg #[.int .u64 (addL lsn os o), v2]) rfl (by kernel_rfl) (by kernel_rfl) (by kernel_rfl) (fun _ _ _ h => h) (Or.inl ⟨by rfl, fun w _ => by go_simp⟩) hS ?_
          try simp only [Act.put, List.getElem_toArray, List.getElem_cons_zero, List.getElem_cons_succ, List.setIfInBounds_toArray, List.set_cons_zero, List.set_cons_succ]
          refine wpAnyH_take (i := 6) (v := .int .u8 (addS os o)) rfl (by kernel_rfl) (by kernel_rfl) (by kernel_rfl) (fun _ _ _ h => h) (Or.inl ⟨by rfl, fun w _ => by go_simp⟩) hS ?_
          try simp only [Act.put, List.getElem_toArray, List.getElem_cons_zero, List.getElem_cons_succ, List.setIfInBounds_toArray, List.set_cons_zero, List.set_cons_succ]
          refine wpAnyH_take (i := 7) (v := .int .i64 (addE os o)) rfl (by kernel_rfl) (by kernel_rfl) (by kernel_rfl) (fun _ _ _ h => h) (Or.inl ⟨by rfl, fun w _ => by go_simp⟩) hS ?_
          try simp only [Act.put, List.getElem_toArray, List.getElem_cons_zero, List.getElem_cons_succ, List.setIfInBounds_toArray, List.set_cons_zero, List.set_cons_succ]
          have yP := (((show Row (w1.alloc (.cells #[.int .u64 0, .slice none 0 0] 25)).drew w1.heap.size #[.int .u64 0, .slice none 0 0] 25 from Row.new w1 #[.int .u64 0, .slice none 0 0] 25)).below b1 (Row.new w1 #[.int .u64 0, .slice none 0 0] 25).lt).below b2 (((show Row (w1.alloc (.cells #[.int .u64 0, .slice none 0 0] 25)).drew w1.heap.size #[.int .u64 0, .slice none 0 0] 25 from Row.new w1 #[.int .u64 0, .slice none 0 0] 25)).below b1 (Row.new w1 #[.int .u64 0, .slice none 0 0] 25).lt).lt
          have zO := hO2
          have hP : w.heap.size + 2 ≤ w1.heap.size := x0.o.lt
          obtain ⟨oa2, cap2, rfl⟩ := zO.form
          refine wpAnyH_ready (rs := [9]) (by kernel_rfl) (by simp) ?_
          refine AllReadyH.cons rfl (fun K hK => ?_) AllReadyH.nil
          refine step_cells rfl 25 (.tmp 7) (.tmp 21) rfl (w1.heap.size) #[.int .u64 (addL lsn os o), .slice oa2 (addR os o).length cap2] rfl rfl 25 _ yP 2 size25 rfl rfl (by simp [Value.oneCell']) (hK.out _ _ (hS.setRow _ hP _) fun hS => ?_)
          try simp only [Act.put, List.getElem_toArray, List.getElem_cons_zero, List.getElem_cons_succ, List.setIfInBounds_toArray, List.set_cons_zero, List.set_cons_succ]
          refine wpAnyH_take (i := 10) (v := .int .u8 (addS os o)) rfl (by kernel_rfl) (by kernel_rfl) (by kernel_rfl) (fun _ _ _ h => h) (Or.inl ⟨by rfl, fun w _ => by go_simp⟩) hS ?_
          try simp only [Act.put, List.getElem_toArray, List.getElem_cons_zero, List.getElem_cons_succ, List.setIfInBounds_toArray, List.set_cons_zero, List.set_cons_succ]
          refine wpAnyH_take (i := 11) (v := .int .i64 (addE os o)) rfl (by kernel_rfl) (by kernel_rfl) (by kernel_rfl) (fun _ _ _ h => h) (Or.inl ⟨by rfl, fun w _ => by go_simp⟩) hS ?_
          try simp only [Act.put, List.getElem_toArray, List.getElem_cons_zero, List.getElem_cons_succ, List.setIfInBounds_toArray, List.set_cons_zero, List.set_cons_succ]
          refine wpAnyH_done (by kernel_rfl) ?_ _
          go_wp2
          go_meet
          exact ⟨rfl, hS⟩
  case rest =>
    obtain ⟨rfl, X1⟩ := hcut
    clear x0
    go_upto_region 4 with fail
    go_cut [10] from 24 to 29 (fun c wx => c = .bool (fits os o.delta.size) ∧ Bx w wx lsn (.slice oa n cap) o)
    case first =>
      refine wp_region_held_drew (S := fun w' => Bx w w' lsn (.slice oa n cap) o) (by kernel_rfl) (X1.down (Below.refl _ _).drew) fun hS => ?_
      refine wpAnyH_take (i := 0) (v := .agg #[.int .u64 lsn, .slice oa n cap]) rfl (by kernel_rfl) (by kernel_rfl) (by kernel_rfl) (fun _ _ _ h => h) (yields_st (by rfl) 25 (.tmp 3) rfl (w.heap.size) rfl 25 #[.int .u64 lsn, .slice oa n cap] (fun w h => h.u) Try.underlying25 rfl size25) hS ?_
      try simp only [Act.put, List.getElem_toArray, List.getElem_cons_zero, List.getElem_cons_succ, List.setIfInBounds_toArray, List.set_cons_zero, List.set_cons_succ]
      refine wpAnyH_take (i := 2) (v := .pointer (some ⟨w.heap.size + 1, 5, none⟩)) rfl (by kernel_rfl) (by kernel_rfl) (by kernel_rfl) (fun _ _ _ h => h) (Or.inl ⟨by rfl, fun w _ => by go_simp⟩) hS ?_
      try simp only [Act.put, List.getElem_toArray, List.getElem_cons_zero, List.getElem_cons_succ, List.setIfInBounds_toArray, List.set_cons_zero, List.set_cons_succ]
      refine wpAnyH_take (i := 3) (v := .string o.delta) rfl (by kernel_rfl) (by kernel_rfl) (by kernel_rfl) (fun _ _ _ h => h) (Or.inl ⟨by rfl, fun w h => by have c := row_at h.o 5 (.string o.delta) rfl; go_simp⟩) hS ?_
      try simp only [Act.put, List.getElem_toArray, List.getElem_cons_zero, List.getElem_cons_succ, List.setIfInBounds_toArray, List.set_cons_zero, List.set_cons_succ]
      refine wpAnyH_take (i := 4) (v := .int .i64 o.delta.size) rfl (by kernel_rfl) (by kernel_rfl) (by kernel_rfl) (fun _ _ _ h => h) (Or.inl ⟨by rfl, fun w _ => by go_simp⟩) hS ?_
      try simp only [Act.put, List.getElem_toArray, List.getElem_cons_zero, List.getElem_cons_succ, List.setIfInBounds_toArray, List.set_cons_zero, List.set_cons_succ]
      refine wpAnyH_ready (rs := [1]) (by kernel_rfl) (by simp) ?_
      refine AllReadyH.cons rfl (fun K hK => ?_) AllReadyH.nil
      go_simp
      go_at_call 9
      refine (kept_any lsn _ os _ (ho.keep hS.b) hn1).mono ?_
      rintro e wc ⟨v1, rfl, hO1, b1⟩
      refine hK.out _ _ (hS.down b1) fun hS => ?_
      try simp only [Act.put, List.getElem_toArray, List.getElem_cons_zero, List.getElem_cons_succ, List.setIfInBounds_toArray, List.set_cons_zero, List.set_cons_succ]
      refine wpAnyH_ready (rs := [5]) (by kernel_rfl) (by simp) ?_
      refine AllReadyH.cons rfl (fun K hK => ?_) AllReadyH.nil
      go_simp
      go_at_call 10
      refine (fits_any lsn _ os _ _ hO1.olds).mono ?_
      rintro e wd ⟨rfl, b2⟩
      refine hK.out _ _ (hS.down b2) fun hS => ?_
      try simp only [Act.put, List.getElem_toArray, List.getElem_cons_zero, List.getElem_cons_succ, List.setIfInBounds_toArray, List.set_cons_zero, List.set_cons_succ]
      refine wpAnyH_take (i := 6) (v := .bool (fits os o.delta.size)) rfl (by kernel_rfl) (by kernel_rfl) (by kernel_rfl) (fun _ _ _ h => h) (Or.inl ⟨by rfl, fun w _ => by rfl⟩) hS ?_
      try simp only [Act.put, List.getElem_toArray, List.getElem_cons_zero, List.getElem_cons_succ, List.setIfInBounds_toArray, List.set_cons_zero, List.set_cons_succ]
      refine wpAnyH_done (by kernel_rfl) ?_ _
      go_wp2
      go_meet
      exact ⟨rfl, hS⟩
    case rest =>
      obtain ⟨rfl, X2⟩ := hcut
      clear X1
      by_cases hE : addE os o = 1
      · have hfl := addE_arg hE
        rw [hE]
        have c0 := row_at X2.o 0 (.bool o.live) rfl
        have rg := range_two X2.u
        obtain ⟨b1, HB1⟩ : ∃ b, Hid (fits os o.delta.size = b) := ⟨_, rfl⟩
        obtain ⟨b2, HB2⟩ : ∃ b, Hid (fits os k = b) := ⟨_, rfl⟩
        rw [HB1.out] at hfl ⊢
        have hl : (!b1 || !o.live) = true := by
          cases h : o.live
          · simp
          · rw [hfl h]; rfl
        have hf2 : b2 = true → may os = true ∧ 0 ≤ k ∧ k ≤ 66 := fun h => fits_may (by rw [HB2.out]; exact h)
        have hkp := fun (w' : World) (hb : Below w.heap.size w w') => kept_any lsn (.slice oa n cap) os w' (ho.keep hb) hn1
        have hft := fun (v : Value) (w' : World) (h : Olds w' v os) => fits_any lsn v os k w' h
        rw [HB2.out] at hft
        have hmy := fun (v : Value) (w' : World) (h : Olds w' v os) => may_any lsn v os w' h
        have HKP := show Hid _ from hkp
        have HFT := show Hid _ from hft
        have HMY := show Hid _ from hmy
        have HF2 := show Hid _ from hf2
        clear hkp hft hmy hf2 hfl
        cases b2
        · cases b1
          · have t1 : Hid (1 = 1) := rfl
            go_wp2_with (first
              | (have hh := t1; clear hh t1; refine load_mid_g rfl 25 (.tmp 3) rfl w.heap.size 0 rfl [.int .u64 lsn, .slice oa n cap] _ rg Try.underlying25 rfl size25 ?_)
              | (go_at_call 9; refine (HKP.out _ X2.b).mono ?_; rintro e w2 ⟨v1, rfl, hO1, b1⟩)
              | (go_at_call 10; refine (HFT.out _ _ hO1.olds).mono ?_; rintro e w3 ⟨rfl, b3⟩)
              | (go_at_call 7; refine (awake_any _).mono ?_; rintro e w4 ⟨rfl, b4⟩))
            go_ret
            exact ⟨rfl, (((X2.down b1).down b3).down b4).b⟩
          · have hlf : o.live = false := by cases h : o.live; · rfl
                                            · rw [h] at hl; cases hl
            rw [hlf] at c0
            have t1 : Hid (1 = 1) := rfl
            go_wp2_with (first
              | (have hh := t1; clear hh t1; refine load_mid_g rfl 25 (.tmp 3) rfl w.heap.size 0 rfl [.int .u64 lsn, .slice oa n cap] _ rg Try.underlying25 rfl size25 ?_)
              | (go_at_call 9; refine (HKP.out _ X2.b).mono ?_; rintro e w2 ⟨v1, rfl, hO1, b1⟩)
              | (go_at_call 10; refine (HFT.out _ _ hO1.olds).mono ?_; rintro e w3 ⟨rfl, b3⟩)
              | (go_at_call 7; refine (awake_any _).mono ?_; rintro e w4 ⟨rfl, b4⟩))
            go_ret
            exact ⟨rfl, (((X2.down b1).down b3).down b4).b⟩
        · obtain ⟨hmo, hk0, hk6⟩ := HF2.out rfl
          have HMO := show Hid _ from hmo
          clear hmo
          cases b1
          · have t1 : Hid (1 = 1) := rfl
            have t2 : Hid (1 = 1) := rfl
            go_wp2_with (first
              | (have hh := t1; clear hh t1; refine load_mid_g rfl 25 (.tmp 3) rfl w.heap.size 0 rfl [.int .u64 lsn, .slice oa n cap] _ rg Try.underlying25 rfl size25 ?_)
              | (have hh := t3; clear hh t3; refine load_mid_g rfl 25 (.tmp 3) rfl w.heap.size 0 rfl [.int .u64 lsn, .slice oa n cap] _ rg3 Try.underlying25 rfl size25 ?_)
              | (go_at_call 9; have hh := t2; clear hh t2; refine (HKP.out _ X2.b).mono ?_; rintro e w2 ⟨v1, rfl, hO1, b1⟩)
              | (go_at_call 10; refine (HFT.out _ _ hO1.olds).mono ?_; rintro e w3 ⟨rfl, b3⟩
                 have X3 := (X2.down b1).down b3
                 have rg3 := range_two X3.u
                 have t3 : Hid (1 = 1) := rfl)
              | (go_at_call 9; refine (HKP.out _ X3.b).mono ?_; rintro e w5 ⟨v5, rfl, hO5, b5⟩)
              | (go_at_call 11; refine (HMY.out _ _ hO5.olds).mono ?_; rw [HMO.out]; rintro e w6 ⟨rfl, b6⟩)
              | (go_at_call 7; refine (awake_any _).mono ?_; rintro e w4 ⟨rfl, b4⟩))
            go_ret
            exact ⟨rfl, (((X3.down b5).down b6).down b4).b⟩
          · have hlf : o.live = false := by cases h : o.live; · rfl
                                            · rw [h] at hl; cases hl
            rw [hlf] at c0
            have t1 : Hid (1 = 1) := rfl
            have t2 : Hid (1 = 1) := rfl
            go_wp2_with (first
              | (have hh := t1; clear hh t1; refine load_mid_g rfl 25 (.tmp 3) rfl w.heap.size 0 rfl [.int .u64 lsn, .slice oa n cap] _ rg Try.underlying25 rfl size25 ?_)
              | (have hh := t3; clear hh t3; refine load_mid_g rfl 25 (.tmp 3) rfl w.heap.size 0 rfl [.int .u64 lsn, .slice oa n cap] _ rg3 Try.underlying25 rfl size25 ?_)
              | (go_at_call 9; have hh := t2; clear hh t2; refine (HKP.out _ X2.b).mono ?_; rintro e w2 ⟨v1, rfl, hO1, b1⟩)
              | (go_at_call 10; refine (HFT.out _ _ hO1.olds).mono ?_; rintro e w3 ⟨rfl, b3⟩
                 have X3 := (X2.down b1).down b3
                 have rg3 := range_two X3.u
                 have t3 : Hid (1 = 1) := rfl)
              | (go_at_call 9; refine (HKP.out _ X3.b).mono ?_; rintro e w5 ⟨v5, rfl, hO5, b5⟩)
              | (go_at_call 11; refine (HMY.out _ _ hO5.olds).mono ?_; rw [HMO.out]; rintro e w6 ⟨rfl, b6⟩)
              | (go_at_call 7; refine (awake_any _).mono ?_; rintro e w4 ⟨rfl, b4⟩))
            go_ret
            exact ⟨rfl, (((X3.down b5).down b6).down b4).b⟩
      · obtain ⟨hlv, h66⟩ := addE_not hE
        have hfe := fits_addE (os := os) hlv h66
        rw [hfe]
        have hEb : (addE os o == 1) = false := by simpa using hE
        by_cases h0 : addE os o = 0
        · rw [h0, decide_eq_true (rfl : (0 : Int) = 0)]
          go_wp2_with (go_at_call 7; refine (awake_any _).mono ?_; rintro e w2 ⟨rfl, b2⟩)
          go_ret
          exact ⟨rfl, (X2.down b2).b⟩
        · have h0b : (addE os o == 0) = false := by simpa using h0
          rw [decide_eq_false h0]
          go_wp2_with (go_at_call 7; refine (awake_any _).mono ?_; rintro e w2 ⟨rfl, b2⟩)
          go_ret
          exact ⟨rfl, (X2.down b2).b⟩

set_option maxRecDepth 100000 in
theorem lifted (os : Os) (started : os.Started) (H : Type) (enc : TypeId × Value → H) :
    ReturnsInHanded {} Try.checked os 3 .any (Rows.slotFitsSpec.pre6 enc Try.prog Try.f3 Rows.slotFitsRow.domain false) (Rows.slotFitsSpec.post enc Try.prog Try.f3 false true false false) := by
  refine returnsInHanded_of_change_sized (C := Try.checked) own started (by kernel_rfl) Try.func3
    (ChangeSpec.witness6 (enc := enc) (C := Try.checked) false ⟨#[], #[.agg #[.int .u64 0, .slice none 0 0], .agg #[.bool false, .int .u16 0, .int .u32 0, .int .u16 0, .int .u8 0, .string ByteArray.empty], .int .i64 0], []⟩ 8 (by kernel_rfl) (by kernel_rfl) (by kernel_rfl) (by kernel_rfl)) ?_
  intro W base args ds gs before hval0 hW hcnd hsz0 _
  have hval : ∀ (j : Nat) t v, Try.f3.params[j]? = some t → args[j]? = some v → Value.okWide Try.prog W .any base t v := hval0
  have hW' := hW
  obtain ⟨p, q, hA0, hV, rfl, hfz, hnd⟩ := hW
  have hA : DataW.TrodAll enc Try.prog W 0 (fun _ => true) true Try.f3.params.toList args.toList ds p := hA0
  have hsz : (DataW.weightsEach Try.prog (Try.f3.params.toList ++ []) (ds ++ gs)).all (· ≤ reachBytes) = true := hsz0
  rw [Try.params3] at hA hval hsz
  obtain ⟨v0, vs0, d0, ds0, p0, q0, hargs, rfl, rfl, h0, r0⟩ := trodAll_cons hA
  obtain ⟨v1, vs1, d1, ds1, p1, q1, rfl, rfl, rfl, h1, r1⟩ := trodAll_cons r0
  obtain ⟨v2, vs2, d2, ds2, p2, q2, rfl, rfl, rfl, h2, r2⟩ := trodAll_cons r1
  obtain ⟨rfl, rfl, rfl⟩ := trodAll_nil r2
  obtain rfl : args = #[v0, v1, v2] := by cases args; simp_all
  obtain ⟨rfl, rfl⟩ := trodVars_none hV
  simp only [List.append_nil] at hsz
  have hlt : ∀ x ∈ (p0 ++ (p1 ++ (p2 ++ []))), x.block < W.heap.size := fun x hx => hW'.lt x (by simpa using hx)
  have hw0 : (d0.weights Try.prog 25).all (· ≤ reachBytes) = true := List.all_eq_true.2 fun m hm => List.all_eq_true.1 hsz m (by simp [DataW.weightsEach, hm])
  have hw1 : (d1.weights Try.prog 31).all (· ≤ reachBytes) = true := List.all_eq_true.2 fun m hm => List.all_eq_true.1 hsz m (by simp [DataW.weightsEach, hm])
  have hw2 : (d2.weights Try.prog 3).all (· ≤ reachBytes) = true := List.all_eq_true.2 fun m hm => List.all_eq_true.1 hsz m (by simp [DataW.weightsEach, hm])
  have k0 := h0
  have k1 := h1
  have k2 := h2
  obtain ⟨a0, c0, l0, rfl, w0⟩ := open_undov (hval 0 25 v0 rfl rfl) h0 hw0
  obtain ⟨a1, rfl⟩ := open_oldv (hval 1 31 v1 rfl rfl) h1 hw1
  obtain ⟨a2, rfl, rfl, rfl, w2⟩ := open_int Try.underlying3 (hval 2 3 v2 rfl rfl) h2
  clear hA0 hval0
  simp only [List.append_nil] at hW'
  refine (walk W a0 c0 l0 a1 a2 w0 w2).mono fun e W' ⟨he, hg⟩ => ?_
  subst he
  exact ⟨_, rfl, ⟨_, _, _, [], (p0 ++ (p1 ++ ([] ++ []))), [], hW', (trodAll_cons_mk (shut_bool Try.underlying4 _) trodAll_mk0), (trodAll_cons_mk (Below.trod laid (by kernel_rfl) (of_decide_eq_true (by kernel_rfl)) k0 hg (fun x hx => hlt x (by simp [hx]))) (trodAll_cons_mk (Below.trod laid (by kernel_rfl) (of_decide_eq_true (by kernel_rfl)) k1 hg (fun x hx => hlt x (by simp [hx]))) (trodAll_cons_mk (Below.trod laid (by kernel_rfl) (of_decide_eq_true (by kernel_rfl)) k2 hg (fun x hx => (nomatch hx))) trodAll_mk0))), rfl,
    hg.frame _, fun h => by cases h⟩⟩

theorem over : Rows.slotFitsRow.holds Try.pinned (OpenSpec.ofChange Rows.slotFitsSpec) :=
  OpenClaim.holds_of_wide 3 Try.f3 rfl rfl rfl rfl rfl rfl rfl ⟨rfl, rfl, rfl, rfl, rfl⟩ rfl rfl rfl rfl rfl (by kernel_rfl) Try.func3 (by kernel_rfl)
    (of_decide_eq_true (by kernel_rfl)) (by unfold Func.isWrapper; first | (rw [if_pos (by decide +kernel)]; kernel_rfl) | (rw [if_neg (by decide +kernel)]; exact ⟨rfl, rfl⟩))
    (fun os started H enc _ => lifted os started H enc)

/-- The statement. -/
theorem proved : Rows.SlotFitsSaid :=
  over
#print axioms proved
end Go.Proofs.Ytomlbkdagaldoab.slotFits
