/-
  Proved here: the trial of a room that is filled till there is none, walked.
-/
import Derived.Test.YtddhjkgefninbabRog
import Derived.Laws.IdiomStrings
import Derived.Deep.OwnRows
namespace Go.Proofs.Ytddhjkgefninbab
open Go.ChangeShapes Go.WideShapes Go.ChangeAt Go.RowKit
set_option linter.unusedVariables false
set_option linter.unusedSimpArgs false

theorem zero38 (w : World) : (zeroValue 38).run Try.prog w = .ok (.agg #[.int .u16 0, .int .u8 0]) w := (zero_of_info (P := Try.prog) (t := 38) (v := .agg #[.int .u16 0, .int .u8 0]) (n := 2) (by kernel_rfl)).1 w
def zs8 (m : Nat) : ByteArray := ⟨(List.replicate m (0 : UInt8)).toArray⟩
theorem zs8_size (m : Nat) : (zs8 m).size = m := by show (List.replicate m (0 : UInt8)).toArray.size = m; simp
theorem wp_conv {o : Oper} {a : Act} {w : World} {K : Act → World → Prop} {Q : Exit → Act → World → Prop} (x : Operand) (ho : o.op = .convert 22 9 x) (M m : Nat) (hx : a.eval x = .slice (some ⟨M, 0, none⟩) m m) (hr : Row w M (madeCells #[.int .u8 0] m) 5)
    (h : K (a.put o.dst (.string (zs8 m))) w) : Oper.wp Try.prog o a w K Q := by
  have hc := run_convert_bytes_back (P := Try.prog) w 22 9 5 ⟨M, 0, none⟩ m (List.replicate m (0 : UInt8)) Try.underlying22 Try.underlying5 Try.underlying9 (fun j hj => by
    have hj' : j < m := by simpa using hj
    rw [Addr.add_mid, Nat.zero_add, cell_of_row w M j _ _ _ hr]
    simp [madeCells, hj', Nat.mod_one])
  rw [List.length_replicate] at hc
  unfold Oper.wp execOp
  simp only [ho, hx, Sem.run_bind, hc, Result.andThen_ok, Sem.run_pure]
  exact h
theorem info5 : (Try.prog.info? 5).map (fun i => (i.zero, i.size, i.bytes)) = some (some (.int .u8 0), 1, 1) := by kernel_rfl
/-- The room, and all else as it was. -/
structure Rm (w wf wr : World) (g a : Nat) (ps : List Pge) (l : Nat) : Prop where
  r : RAt wr g a ps l
  b : Below w.heap.size w wr
  sz : wf.heap.size ≤ wr.heap.size
theorem Rm.down {w wf wr wr' : World} {g a : Nat} {ps : List Pge} {l : Nat} (h : Rm w wf wr g a ps l) (hb : Below wr.heap.size wr wr') : Rm w wf wr' g a ps l := ⟨h.r.below hb, h.b.trans (hb.mono h.b.size), Nat.le_trans h.sz hb.size⟩
theorem Rm.set {w wf wr : World} {g a : Nat} {ps : List Pge} {l : Nat} (h : Rm w wf wr g a ps l) {P : Nat} (hP : wf.heap.size ≤ P) (cs' : Array Value) {cs : Array Value} (hg : g < wf.heap.size ∧ a < wf.heap.size ∧ w.heap.size ≤ wf.heap.size ∧ (Row wr P cs 33)) : Rm w wf (wr.setRow P cs') g a ps l :=
  ⟨h.r.off (Off.of_setRow (F := (· = P)) wr P cs' rfl) (by rintro k (rfl | rfl) e <;> omega) (by rintro k ds hk rfl; exact hk.ne hg.2.2.2 (by decide) rfl), below_setRow h.b (by omega) _, by simpa [World.setRow] using h.sz⟩

set_option maxHeartbeats 8000000 in
set_option maxRecDepth 20000 in
theorem fillWalk (w : World) (q : Nat) (hq : q < 256) (oa : Option Addr) (n cap : Nat) (out : Nat) (hout : out < 65536) (hlen : n ≤ 140737488355328) (hcs : ∀ i, i < n → ∃ (a : Addr) (y : Nat), oa = some a ∧ y < 256 ∧ w.cell? (a.add i) = some (.int .u8 (y : Int))) :
    Calls Try.prog 3 #[.int .u8 q, .slice oa n cap, .int .u16 out] w fun e w' => e = .returned (.bool true) ∧ Below w.heap.size w w' := by
  have HCS : Hid _ := hcs
  clear hcs
  obtain ⟨k, HK⟩ : ∃ k : Nat, Hid (1 + q % 4 = k) := ⟨_, rfl⟩
  have hk1 : 1 ≤ k := by rw [← HK.out]; omega
  have hk4 : k ≤ 4 := by rw [← HK.out]; omega
  have u1 : (q : Int).tmod 4 = (k : Int) - 1 := by rw [Int.tmod_eq_emod_of_nonneg (by omega), ← HK.out]; omega
  have u2 : (q : Int) % 4 = (k : Int) - 1 := by rw [← HK.out]; omega
  have u3 : IntKind.u8.wrap ((k : Int) - 1) = (k : Int) - 1 := by rw [IntKind.wrap_u8]; omega
  have u4 : IntKind.i64.wrap ((k : Int) - 1) = (k : Int) - 1 := by rw [IntKind.wrap_i64]; omega
  have u5 : IntKind.i64.wrap (1 + ((k : Int) - 1)) = (k : Int) := by rw [IntKind.wrap_i64]; omega
  have HA : Hid (∀ w, Calls Try.prog 6 #[] w fun e w' => e = .returned (.bool true) ∧ Below w.heap.size w w') := awake_any
  have hnew := new_some k hk1 (by omega) w
  by_cases hn0 : n = 0
  · subst hn0
    go_enter Try.func3, Try.ntmps3
    go_wp2_with (first
      | (go_at_call 5; refine hnew.mono ?_; clear hnew; rintro e w1 ⟨g, a, rfl, hg, ha, c1, b1⟩)
      | (go_at_call 6; refine (HA.out _).mono ?_; rintro e w7 ⟨rfl, hb7⟩; have b7 := b1.trans (hb7.mono b1.size)))
    go_ret
    exact ⟨rfl, b7⟩
  · have hn0' : ¬ (n : Int) = 0 := by omega
    have hn0b : ((n : Int) == 0) = false := by simp; omega
    go_enter Try.func3, Try.ntmps3
    go_wp2_with (first
      | (go_at_call 5; refine hnew.mono ?_; clear hnew; rintro e w1 ⟨g, a, rfl, hg, ha, c1, b1⟩))
    clear u1 u2 u3 u4 u5
    have HGW : Hid (w.heap.size ≤ g ∧ w.heap.size ≤ a) := ⟨hg, ha⟩
    clear hg ha
    go_loopw [9] (fun d wr => ∃ (i : Nat) (ps : List Pge) (l : Nat), d = .int .i64 i ∧ Hid (Good ps ∧ ps.length = k ∧ liveP ps = (i : Int)) ∧ RAt wr g a ps l ∧ Below w.heap.size w wr) (fun d _ => 100 - (intOf d).toNat)
    case atStart => exact ⟨0, _, 0, rfl, ⟨good_zero k, List.length_replicate, live_zero k⟩, c1, b1⟩
    case round =>
      clear c1 b1
      obtain ⟨i, ps, l, rfl, HG, c1, b1⟩ := hrel
      have hi60 : i ≤ 60 := by have := good_live HG.out.1; have h2 := HG.out.2; rw [h2.1, h2.2] at this; omega
      have hi100 : (i : Int) < 100 := by omega
      have x1 : (i : Int).tmod (n : Int) = ((i % n : Nat) : Int) := by rw [Int.tmod_eq_emod_of_nonneg (by omega)]; exact (Int.natCast_emod i n).symm
      have x2 : (i : Int) % (n : Int) = ((i % n : Nat) : Int) := (Int.natCast_emod i n).symm
      have hjn : i % n < n := Nat.mod_lt _ (by omega)
      have hj60 : i % n ≤ 60 := Nat.le_trans (Nat.mod_le _ _) hi60
      obtain ⟨jx, HJ⟩ : ∃ jx : Nat, Hid (i % n = jx) := ⟨_, rfl⟩
      rw [HJ.out] at x1 x2 hjn hj60
      have hjn' : (jx : Int) < (n : Int) := by omega
      have hwj : IntKind.i64.wrap (jx : Int) = jx := by rw [IntKind.wrap_i64]; omega
      obtain ⟨A, y, rfl, hy, hcell⟩ := HCS.out jx hjn
      have hcw := cell_keep hcell b1
      obtain ⟨m, HM⟩ : ∃ m : Nat, Hid (y % 67 = m) := ⟨_, rfl⟩
      have hm66 : m ≤ 66 := by rw [← HM.out]; omega
      have e1 : (y : Int).tmod 67 = m := by rw [Int.tmod_eq_emod_of_nonneg (by omega), ← HM.out]; omega
      have e2 : (y : Int) % 67 = m := by rw [← HM.out]; omega
      have v1 : IntKind.u8.wrap (m : Int) = m := by rw [IntKind.wrap_u8]; omega
      have v2 : IntKind.i64.wrap (m : Int) = m := by rw [IntKind.wrap_i64]; omega
      have v3 : IntKind.u32.wrap (i : Int) = i := by rw [IntKind.wrap_u32]; omega
      have hf := find_any c1 (m : Int)
      unfold Found at hf
      cases hfp : findP ps l (m : Int) with
      | some c =>
        rw [hfp] at hf
        simp only [Option.getD_some, Option.isSome_some] at hf
        obtain ⟨⟨lsn, vp, os⟩, hpc, hft⟩ := find_is hfp
        simp only at hft
        have hcl := (List.getElem?_eq_some_iff.1 hpc).1
        have HAL : Hid (AL os ∧ may os = true) := HG.out.1 _ (List.mem_of_getElem? hpc)
        have hE0 : Hid (addE os ⟨true, 0, i, 0, 0, zs8 m⟩ = 0) := fits_add HAL.out.1 HAL.out.2 hft rfl (zs8_size m)
        clear hfp hft
        have hmk := run_make_row' (P := Try.prog) 22 5 (.int .u8 0) 1 Try.underlying22 info5 rfl .i64 .i64 m (by omega) (by omega)
        go_upto_region 24 with (go_at_call 7; refine hf.mono ?_; clear hf; rintro e wf ⟨rfl, c2, o2⟩; have b2 : Below w.heap.size w wf := b1.trans (o2.below b1.size (by rintro q (rfl | rfl) <;> have := HGW.out <;> omega)))
        clear e1 e2 v1 v2 hcw hcell x1 x2 hwj o2
        have HGA0 : Hid (g < wf.heap.size ∧ a < wf.heap.size ∧ w.heap.size ≤ wf.heap.size) := ⟨c2.room.lt, c2.arr.lt, b2.size⟩
        have F1 : Rm w wf wf g a ps c := ⟨c2, b2, Nat.le_refl _⟩
        clear c1 b1 c2 b2
        go_cut [23, 25] from 141 to 154 (fun p e wx => ∃ (P : Nat) (v2 : Value), p = .pointer (some ⟨P, 0, none⟩) ∧ e = .int .i64 (addE os ⟨true, 0, i, 0, 0, zs8 m⟩) ∧ Rm w wf wx g a ps c ∧ Row wx P #[.int .u64 (addL lsn os ⟨true, 0, i, 0, 0, zs8 m⟩), v2] 33 ∧ Own wx 0 v2 (addR os ⟨true, 0, i, 0, 0, zs8 m⟩))
        case first =>
            have HGA : Hid (g < wf.heap.size ∧ a < wf.heap.size ∧ w.heap.size ≤ wf.heap.size) := HGA0
            have hWwf : Hid (wf.heap.size ≤ wf.heap.size) := Nat.le_refl _
            refine wp_region_held_drew (S := fun w' => Rm w wf w' g a ps c) (by kernel_rfl) (F1.down (Below.refl _ _).drew) fun hS => ?_
            refine wpAnyH_take (i := 0) (v := .pointer (some ⟨g, 0, none⟩)) rfl (by kernel_rfl) (by kernel_rfl) (by kernel_rfl) (fun _ _ _ h => h) (Or.inl ⟨by rfl, fun w _ => by rfl⟩) hS ?_
            try simp only [Act.put, List.getElem_toArray, List.getElem_cons_zero, List.getElem_cons_succ, List.setIfInBounds_toArray, List.set_cons_zero, List.set_cons_succ]
            refine wpAnyH_take (i := 1) (v := .int .i64 c) rfl (by kernel_rfl) (by kernel_rfl) (by kernel_rfl) (fun _ _ _ h => h) (Or.inl ⟨by rfl, fun w _ => by rfl⟩) hS ?_
            try simp only [Act.put, List.getElem_toArray, List.getElem_cons_zero, List.getElem_cons_succ, List.setIfInBounds_toArray, List.set_cons_zero, List.set_cons_succ]
            refine wpAnyH_take (i := 3) (v := .int .i64 i) rfl (by kernel_rfl) (by kernel_rfl) (by kernel_rfl) (fun _ _ _ h => h) (Or.inl ⟨by rfl, fun w _ => by rfl⟩) hS ?_
            try simp only [Act.put, List.getElem_toArray, List.getElem_cons_zero, List.getElem_cons_succ, List.setIfInBounds_toArray, List.set_cons_zero, List.set_cons_succ]
            refine wpAnyH_take (i := 4) (v := .int .u32 i) rfl (by kernel_rfl) (by kernel_rfl) (by kernel_rfl) (fun _ _ _ h => h) (Or.inl ⟨by rfl, fun w _ => by go_simp⟩) hS ?_
            try simp only [Act.put, List.getElem_toArray, List.getElem_cons_zero, List.getElem_cons_succ, List.setIfInBounds_toArray, List.set_cons_zero, List.set_cons_succ]
            refine wpAnyH_take (i := 5) (v := .int .i64 m) rfl (by kernel_rfl) (by kernel_rfl) (by kernel_rfl) (fun _ _ _ h => h) (Or.inl ⟨by rfl, fun w _ => by rfl⟩) hS ?_
            try simp only [Act.put, List.getElem_toArray, List.getElem_cons_zero, List.getElem_cons_succ, List.setIfInBounds_toArray, List.set_cons_zero, List.set_cons_succ]
            refine wpAnyH_ready (rs := [2, 6, 14]) (by kernel_rfl) (by simp) ?_
            refine AllReadyH.cons rfl (fun K hK => ?_) (AllReadyH.cons rfl (fun K hK => ?_) (AllReadyH.cons rfl (fun K hK => ?_) AllReadyH.nil))
            · go_simp
              go_at_call 9
              refine (page_in hS.r c ⟨lsn, vp, os⟩ hpc).mono ?_
              rintro e wk ⟨v1, rfl, hO1, b1⟩
              refine hK.out _ _ (hS.down b1) fun hS => ?_
              try simp only [Act.put, List.getElem_toArray, List.getElem_cons_zero, List.getElem_cons_succ, List.setIfInBounds_toArray, List.set_cons_zero, List.set_cons_succ]
              have hWwk : Hid (wf.heap.size ≤ wk.heap.size) := hS.sz
              refine wpAnyH_ready (rs := [6, 14]) (by kernel_rfl) (by simp) ?_
              refine AllReadyH.cons rfl (fun K hK => ?_) (AllReadyH.cons rfl (fun K hK => ?_) AllReadyH.nil)
              · go_simp
                refine hK.out _ _ (hS.down ((Below.refl _ _).alloc (Nat.le_refl _) _)) fun hS => ?_
                try simp only [Act.put, List.getElem_toArray, List.getElem_cons_zero, List.getElem_cons_succ, List.setIfInBounds_toArray, List.set_cons_zero, List.set_cons_succ]
                have rM : Row ((wk).alloc (.cells (madeCells #[.int .u8 0] m) 5)) (wk.heap.size) (madeCells #[.int .u8 0] m) 5 := (show Row ((wk).alloc (.cells (madeCells #[.int .u8 0] m) 5)) (wk.heap.size) (madeCells #[.int .u8 0] m) 5 from by have := Row.new (wk) (madeCells #[.int .u8 0] m) 5; simpa using this)
                have hO1 := hO1.alloc (.cells (madeCells #[.int .u8 0] m) 5)
                refine wpAnyH_ready (rs := [7, 14]) (by kernel_rfl) (by simp) ?_
                refine AllReadyH.cons rfl (fun K hK => ?_) (AllReadyH.cons rfl (fun K hK => ?_) AllReadyH.nil)
                · refine step_of rfl (wp_conv (.tmp 148) rfl (wk.heap.size) m rfl rM (hK.out _ _ hS fun hS => ?_))
                  try simp only [Act.put, List.getElem_toArray, List.getElem_cons_zero, List.getElem_cons_succ, List.setIfInBounds_toArray, List.set_cons_zero, List.set_cons_succ]
                  refine wpAnyH_take (i := 8) (v := .agg #[.bool true, .int .u16 0, .int .u32 i, .int .u16 0, .int .u8 0, .string (zs8 m)]) rfl (by kernel_rfl) (by kernel_rfl) (by kernel_rfl) (fun _ _ _ h => h) (Or.inl ⟨by rfl, fun w _ => by go_simp⟩) hS ?_
                  try simp only [Act.put, List.getElem_toArray, List.getElem_cons_zero, List.getElem_cons_succ, List.setIfInBounds_toArray, List.set_cons_zero, List.set_cons_succ]
                  refine wpAnyH_ready (rs := [9, 14]) (by kernel_rfl) (by simp) ?_
                  refine AllReadyH.cons rfl (fun K hK => ?_) (AllReadyH.cons rfl (fun K hK => ?_) AllReadyH.nil)
                  · go_simp
                    go_at_call 15
                    refine (add_any lsn _ os ⟨true, 0, i, 0, 0, zs8 m⟩ _ hO1.olds).mono ?_
                    rintro e wd ⟨v2, rfl, hO2, b2⟩
                    refine hK.out _ _ (hS.down b2) fun hS => ?_
                    try simp only [Act.put, List.getElem_toArray, List.getElem_cons_zero, List.getElem_cons_succ, List.setIfInBounds_toArray, List.set_cons_zero, List.set_cons_succ]
                    have hWwd : Hid (wf.heap.size ≤ wd.heap.size) := hS.sz
                    have hO2 := hO2.base (Nat.zero_le _)
                    refine wpAnyH_take (i := 10) (v := .tuple #[.agg #[.int .u64 (addL lsn os ⟨true, 0, i, 0, 0, zs8 m⟩), v2], .int .u8 (addS os ⟨true, 0, i, 0, 0, zs8 m⟩), .int .i64 (addE os ⟨true, 0, i, 0, 0, zs8 m⟩)]) rfl (by kernel_rfl) (by kernel_rfl) (by kernel_rfl) (fun _ _ _ h => h) (Or.inl ⟨by rfl, fun w _ => by go_simp⟩) hS ?_
                    try simp only [Act.put, List.getElem_toArray, List.getElem_cons_zero, List.getElem_cons_succ, List.setIfInBounds_toArray, List.set_cons_zero, List.set_cons_succ]
                    refine wpAnyH_take (i := 11) (v := .agg #[.int .u64 (addL lsn os ⟨true, 0, i, 0, 0, zs8 m⟩), v2]) rfl (by kernel_rfl) (by kernel_rfl) (by kernel_rfl) (fun _ _ _ h => h) (Or.inl ⟨by rfl, fun w _ => by go_simp⟩) hS ?_
                    try simp only [Act.put, List.getElem_toArray, List.getElem_cons_zero, List.getElem_cons_succ, List.setIfInBounds_toArray, List.set_cons_zero, List.set_cons_succ]
                    refine wpAnyH_take (i := 12) (v := .int .u8 (addS os ⟨true, 0, i, 0, 0, zs8 m⟩)) rfl (by kernel_rfl) (by kernel_rfl) (by kernel_rfl) (fun _ _ _ h => h) (Or.inl ⟨by rfl, fun w _ => by go_simp⟩) hS ?_
                    try simp only [Act.put, List.getElem_toArray, List.getElem_cons_zero, List.getElem_cons_succ, List.setIfInBounds_toArray, List.set_cons_zero, List.set_cons_succ]
                    refine wpAnyH_take (i := 13) (v := .int .i64 (addE os ⟨true, 0, i, 0, 0, zs8 m⟩)) rfl (by kernel_rfl) (by kernel_rfl) (by kernel_rfl) (fun _ _ _ h => h) (Or.inl ⟨by rfl, fun w _ => by go_simp⟩) hS ?_
                    try simp only [Act.put, List.getElem_toArray, List.getElem_cons_zero, List.getElem_cons_succ, List.setIfInBounds_toArray, List.set_cons_zero, List.set_cons_succ]
                    refine wpAnyH_ready (rs := [14]) (by kernel_rfl) (by simp) ?_
                    refine AllReadyH.cons rfl (fun K hK => ?_) AllReadyH.nil
                    · go_simp
                      refine hK.out _ _ (hS.down ((Below.refl _ _).alloc (Nat.le_refl _) _)) fun hS => ?_
                      try simp only [Act.put, List.getElem_toArray, List.getElem_cons_zero, List.getElem_cons_succ, List.setIfInBounds_toArray, List.set_cons_zero, List.set_cons_succ]
                      have rP : Row ((wd).alloc (.cells #[.int .u64 0, .slice none 0 0] 33)) (wd.heap.size) #[.int .u64 0, .slice none 0 0] 33 := (show Row ((wd).alloc (.cells #[.int .u64 0, .slice none 0 0] 33)) (wd.heap.size) #[.int .u64 0, .slice none 0 0] 33 from by have := Row.new (wd) #[.int .u64 0, .slice none 0 0] 33; simpa using this)
                      have hP : Hid (wf.heap.size ≤ wd.heap.size) := (by have := hWwd.out; show _ ≤ _; omega)
                      have hO2 := hO2.alloc (.cells #[.int .u64 0, .slice none 0 0] 33)
                      obtain ⟨oa2, cap2, rfl⟩ := hO2.form
                      refine wpAnyH_ready (rs := [15]) (by kernel_rfl) (by simp) ?_
                      refine AllReadyH.cons rfl (fun K hK => ?_) AllReadyH.nil
                      refine step_cells rfl 33 (.tmp 23) (.tmp 152) rfl (wd.heap.size) #[.int .u64 (addL lsn os ⟨true, 0, i, 0, 0, zs8 m⟩), .slice oa2 (addR os ⟨true, 0, i, 0, 0, zs8 m⟩).length cap2] rfl rfl 33 _ rP 2 size33 rfl rfl (by simp [Value.oneCell']) (hK.out _ _ (hS.set hP.out _ ⟨HGA.out.1, HGA.out.2.1, HGA.out.2.2, rP⟩) fun hS => ?_)
                      try simp only [Act.put, List.getElem_toArray, List.getElem_cons_zero, List.getElem_cons_succ, List.setIfInBounds_toArray, List.set_cons_zero, List.set_cons_succ]
                      refine wpAnyH_take (i := 16) (v := .int .u8 (addS os ⟨true, 0, i, 0, 0, zs8 m⟩)) rfl (by kernel_rfl) (by kernel_rfl) (by kernel_rfl) (fun _ _ _ h => h) (Or.inl ⟨by rfl, fun w _ => by go_simp⟩) hS ?_
                      try simp only [Act.put, List.getElem_toArray, List.getElem_cons_zero, List.getElem_cons_succ, List.setIfInBounds_toArray, List.set_cons_zero, List.set_cons_succ]
                      refine wpAnyH_take (i := 17) (v := .int .i64 (addE os ⟨true, 0, i, 0, 0, zs8 m⟩)) rfl (by kernel_rfl) (by kernel_rfl) (by kernel_rfl) (fun _ _ _ h => h) (Or.inl ⟨by rfl, fun w _ => by go_simp⟩) hS ?_
                      try simp only [Act.put, List.getElem_toArray, List.getElem_cons_zero, List.getElem_cons_succ, List.setIfInBounds_toArray, List.set_cons_zero, List.set_cons_succ]
                      refine wpAnyH_done (by kernel_rfl) ?_ _
                      go_wp2
                      go_meet
                      exact ⟨_, _, rfl, rfl, hS, rP.set _, hO2.rowOther rP _⟩
                  · go_simp
                    refine hK.out _ _ (hS.down ((Below.refl _ _).alloc (Nat.le_refl _) _)) fun hS => ?_
                    try simp only [Act.put, List.getElem_toArray, List.getElem_cons_zero, List.getElem_cons_succ, List.setIfInBounds_toArray, List.set_cons_zero, List.set_cons_succ]
                    have rP : Row (((wk).alloc (.cells (madeCells #[.int .u8 0] m) 5)).alloc (.cells #[.int .u64 0, .slice none 0 0] 33)) (wk.heap.size + 1) #[.int .u64 0, .slice none 0 0] 33 := (show Row (((wk).alloc (.cells (madeCells #[.int .u8 0] m) 5)).alloc (.cells #[.int .u64 0, .slice none 0 0] 33)) (wk.heap.size + 1) #[.int .u64 0, .slice none 0 0] 33 from by have := Row.new ((wk).alloc (.cells (madeCells #[.int .u8 0] m) 5)) #[.int .u64 0, .slice none 0 0] 33; simpa using this)
                    have hP : Hid (wf.heap.size ≤ wk.heap.size + 1) := (by have := hWwk.out; show _ ≤ _; omega)
                    have hO1 := hO1.alloc (.cells #[.int .u64 0, .slice none 0 0] 33)
                    have rM := rM.alloc (.cells #[.int .u64 0, .slice none 0 0] 33)
                    refine wpAnyH_ready (rs := [9]) (by kernel_rfl) (by simp) ?_
                    refine AllReadyH.cons rfl (fun K hK => ?_) AllReadyH.nil
                    · go_simp
                      go_at_call 15
                      refine (add_any lsn _ os ⟨true, 0, i, 0, 0, zs8 m⟩ _ hO1.olds).mono ?_
                      rintro e wd ⟨v2, rfl, hO2, b2⟩
                      refine hK.out _ _ (hS.down b2) fun hS => ?_
                      try simp only [Act.put, List.getElem_toArray, List.getElem_cons_zero, List.getElem_cons_succ, List.setIfInBounds_toArray, List.set_cons_zero, List.set_cons_succ]
                      have hWwd : Hid (wf.heap.size ≤ wd.heap.size) := hS.sz
                      have hO2 := hO2.base (Nat.zero_le _)
                      have rP := rP.below b2 rP.lt
                      refine wpAnyH_take (i := 10) (v := .tuple #[.agg #[.int .u64 (addL lsn os ⟨true, 0, i, 0, 0, zs8 m⟩), v2], .int .u8 (addS os ⟨true, 0, i, 0, 0, zs8 m⟩), .int .i64 (addE os ⟨true, 0, i, 0, 0, zs8 m⟩)]) rfl (by kernel_rfl) (by kernel_rfl) (by kernel_rfl) (fun _ _ _ h => h) (Or.inl ⟨by rfl, fun w _ => by go_simp⟩) hS ?_
                      try simp only [Act.put, List.getElem_toArray, List.getElem_cons_zero, List.getElem_cons_succ, List.setIfInBounds_toArray, List.set_cons_zero, List.set_cons_succ]
                      refine wpAnyH_take (i := 11) (v := .agg #[.int .u64 (addL lsn os ⟨true, 0, i, 0, 0, zs8 m⟩), v2]) rfl (by kernel_rfl) (by kernel_rfl) (by kernel_rfl) (fun _ _ _ h => h) (Or.inl ⟨by rfl, fun w _ => by go_simp⟩) hS ?_
                      try simp only [Act.put, List.getElem_toArray, List.getElem_cons_zero, List.getElem_cons_succ, List.setIfInBounds_toArray, List.set_cons_zero, List.set_cons_succ]
                      refine wpAnyH_take (i := 12) (v := .int .u8 (addS os ⟨true, 0, i, 0, 0, zs8 m⟩)) rfl (by kernel_rfl) (by kernel_rfl) (by kernel_rfl) (fun _ _ _ h => h) (Or.inl ⟨by rfl, fun w _ => by go_simp⟩) hS ?_
                      try simp only [Act.put, List.getElem_toArray, List.getElem_cons_zero, List.getElem_cons_succ, List.setIfInBounds_toArray, List.set_cons_zero, List.set_cons_succ]
                      refine wpAnyH_take (i := 13) (v := .int .i64 (addE os ⟨true, 0, i, 0, 0, zs8 m⟩)) rfl (by kernel_rfl) (by kernel_rfl) (by kernel_rfl) (fun _ _ _ h => h) (Or.inl ⟨by rfl, fun w _ => by go_simp⟩) hS ?_
                      try simp only [Act.put, List.getElem_toArray, List.getElem_cons_zero, List.getElem_cons_succ, List.setIfInBounds_toArray, List.set_cons_zero, List.set_cons_succ]
                      obtain ⟨oa2, cap2, rfl⟩ := hO2.form
                      refine wpAnyH_ready (rs := [15]) (by kernel_rfl) (by simp) ?_
                      refine AllReadyH.cons rfl (fun K hK => ?_) AllReadyH.nil
                      refine step_cells rfl 33 (.tmp 23) (.tmp 152) rfl (wk.heap.size + 1) #[.int .u64 (addL lsn os ⟨true, 0, i, 0, 0, zs8 m⟩), .slice oa2 (addR os ⟨true, 0, i, 0, 0, zs8 m⟩).length cap2] rfl rfl 33 _ rP 2 size33 rfl rfl (by simp [Value.oneCell']) (hK.out _ _ (hS.set hP.out _ ⟨HGA.out.1, HGA.out.2.1, HGA.out.2.2, rP⟩) fun hS => ?_)
                      try simp only [Act.put, List.getElem_toArray, List.getElem_cons_zero, List.getElem_cons_succ, List.setIfInBounds_toArray, List.set_cons_zero, List.set_cons_succ]
                      refine wpAnyH_take (i := 16) (v := .int .u8 (addS os ⟨true, 0, i, 0, 0, zs8 m⟩)) rfl (by kernel_rfl) (by kernel_rfl) (by kernel_rfl) (fun _ _ _ h => h) (Or.inl ⟨by rfl, fun w _ => by go_simp⟩) hS ?_
                      try simp only [Act.put, List.getElem_toArray, List.getElem_cons_zero, List.getElem_cons_succ, List.setIfInBounds_toArray, List.set_cons_zero, List.set_cons_succ]
                      refine wpAnyH_take (i := 17) (v := .int .i64 (addE os ⟨true, 0, i, 0, 0, zs8 m⟩)) rfl (by kernel_rfl) (by kernel_rfl) (by kernel_rfl) (fun _ _ _ h => h) (Or.inl ⟨by rfl, fun w _ => by go_simp⟩) hS ?_
                      try simp only [Act.put, List.getElem_toArray, List.getElem_cons_zero, List.getElem_cons_succ, List.setIfInBounds_toArray, List.set_cons_zero, List.set_cons_succ]
                      refine wpAnyH_done (by kernel_rfl) ?_ _
                      go_wp2
                      go_meet
                      exact ⟨_, _, rfl, rfl, hS, rP.set _, hO2.rowOther rP _⟩
                · go_simp
                  refine hK.out _ _ (hS.down ((Below.refl _ _).alloc (Nat.le_refl _) _)) fun hS => ?_
                  try simp only [Act.put, List.getElem_toArray, List.getElem_cons_zero, List.getElem_cons_succ, List.setIfInBounds_toArray, List.set_cons_zero, List.set_cons_succ]
                  have rP : Row (((wk).alloc (.cells (madeCells #[.int .u8 0] m) 5)).alloc (.cells #[.int .u64 0, .slice none 0 0] 33)) (wk.heap.size + 1) #[.int .u64 0, .slice none 0 0] 33 := (show Row (((wk).alloc (.cells (madeCells #[.int .u8 0] m) 5)).alloc (.cells #[.int .u64 0, .slice none 0 0] 33)) (wk.heap.size + 1) #[.int .u64 0, .slice none 0 0] 33 from by have := Row.new ((wk).alloc (.cells (madeCells #[.int .u8 0] m) 5)) #[.int .u64 0, .slice none 0 0] 33; simpa using this)
                  have hP : Hid (wf.heap.size ≤ wk.heap.size + 1) := (by have := hWwk.out; show _ ≤ _; omega)
                  have hO1 := hO1.alloc (.cells #[.int .u64 0, .slice none 0 0] 33)
                  have rM := rM.alloc (.cells #[.int .u64 0, .slice none 0 0] 33)
                  refine wpAnyH_ready (rs := [7]) (by kernel_rfl) (by simp) ?_
                  refine AllReadyH.cons rfl (fun K hK => ?_) AllReadyH.nil
                  · refine step_of rfl (wp_conv (.tmp 148) rfl (wk.heap.size) m rfl rM (hK.out _ _ hS fun hS => ?_))
                    try simp only [Act.put, List.getElem_toArray, List.getElem_cons_zero, List.getElem_cons_succ, List.setIfInBounds_toArray, List.set_cons_zero, List.set_cons_succ]
                    refine wpAnyH_take (i := 8) (v := .agg #[.bool true, .int .u16 0, .int .u32 i, .int .u16 0, .int .u8 0, .string (zs8 m)]) rfl (by kernel_rfl) (by kernel_rfl) (by kernel_rfl) (fun _ _ _ h => h) (Or.inl ⟨by rfl, fun w _ => by go_simp⟩) hS ?_
                    try simp only [Act.put, List.getElem_toArray, List.getElem_cons_zero, List.getElem_cons_succ, List.setIfInBounds_toArray, List.set_cons_zero, List.set_cons_succ]
                    refine wpAnyH_ready (rs := [9]) (by kernel_rfl) (by simp) ?_
                    refine AllReadyH.cons rfl (fun K hK => ?_) AllReadyH.nil
                    · go_simp
                      go_at_call 15
                      refine (add_any lsn _ os ⟨true, 0, i, 0, 0, zs8 m⟩ _ hO1.olds).mono ?_
                      rintro e wd ⟨v2, rfl, hO2, b2⟩
                      refine hK.out _ _ (hS.down b2) fun hS => ?_
                      try simp only [Act.put, List.getElem_toArray, List.getElem_cons_zero, List.getElem_cons_succ, List.setIfInBounds_toArray, List.set_cons_zero, List.set_cons_succ]
                      have hWwd : Hid (wf.heap.size ≤ wd.heap.size) := hS.sz
                      have hO2 := hO2.base (Nat.zero_le _)
                      have rP := rP.below b2 rP.lt
                      refine wpAnyH_take (i := 10) (v := .tuple #[.agg #[.int .u64 (addL lsn os ⟨true, 0, i, 0, 0, zs8 m⟩), v2], .int .u8 (addS os ⟨true, 0, i, 0, 0, zs8 m⟩), .int .i64 (addE os ⟨true, 0, i, 0, 0, zs8 m⟩)]) rfl (by kernel_rfl) (by kernel_rfl) (by kernel_rfl) (fun _ _ _ h => h) (Or.inl ⟨by rfl, fun w _ => by go_simp⟩) hS ?_
                      try simp only [Act.put, List.getElem_toArray, List.getElem_cons_zero, List.getElem_cons_succ, List.setIfInBounds_toArray, List.set_cons_zero, List.set_cons_succ]
                      refine wpAnyH_take (i := 11) (v := .agg #[.int .u64 (addL lsn os ⟨true, 0, i, 0, 0, zs8 m⟩), v2]) rfl (by kernel_rfl) (by kernel_rfl) (by kernel_rfl) (fun _ _ _ h => h) (Or.inl ⟨by rfl, fun w _ => by go_simp⟩) hS ?_
                      try simp only [Act.put, List.getElem_toArray, List.getElem_cons_zero, List.getElem_cons_succ, List.setIfInBounds_toArray, List.set_cons_zero, List.set_cons_succ]
                      refine wpAnyH_take (i := 12) (v := .int .u8 (addS os ⟨true, 0, i, 0, 0, zs8 m⟩)) rfl (by kernel_rfl) (by kernel_rfl) (by kernel_rfl) (fun _ _ _ h => h) (Or.inl ⟨by rfl, fun w _ => by go_simp⟩) hS ?_
                      try simp only [Act.put, List.getElem_toArray, List.getElem_cons_zero, List.getElem_cons_succ, List.setIfInBounds_toArray, List.set_cons_zero, List.set_cons_succ]
                      refine wpAnyH_take (i := 13) (v := .int .i64 (addE os ⟨true, 0, i, 0, 0, zs8 m⟩)) rfl (by kernel_rfl) (by kernel_rfl) (by kernel_rfl) (fun _ _ _ h => h) (Or.inl ⟨by rfl, fun w _ => by go_simp⟩) hS ?_
                      try simp only [Act.put, List.getElem_toArray, List.getElem_cons_zero, List.getElem_cons_succ, List.setIfInBounds_toArray, List.set_cons_zero, List.set_cons_succ]
                      obtain ⟨oa2, cap2, rfl⟩ := hO2.form
                      refine wpAnyH_ready (rs := [15]) (by kernel_rfl) (by simp) ?_
                      refine AllReadyH.cons rfl (fun K hK => ?_) AllReadyH.nil
                      refine step_cells rfl 33 (.tmp 23) (.tmp 152) rfl (wk.heap.size + 1) #[.int .u64 (addL lsn os ⟨true, 0, i, 0, 0, zs8 m⟩), .slice oa2 (addR os ⟨true, 0, i, 0, 0, zs8 m⟩).length cap2] rfl rfl 33 _ rP 2 size33 rfl rfl (by simp [Value.oneCell']) (hK.out _ _ (hS.set hP.out _ ⟨HGA.out.1, HGA.out.2.1, HGA.out.2.2, rP⟩) fun hS => ?_)
                      try simp only [Act.put, List.getElem_toArray, List.getElem_cons_zero, List.getElem_cons_succ, List.setIfInBounds_toArray, List.set_cons_zero, List.set_cons_succ]
                      refine wpAnyH_take (i := 16) (v := .int .u8 (addS os ⟨true, 0, i, 0, 0, zs8 m⟩)) rfl (by kernel_rfl) (by kernel_rfl) (by kernel_rfl) (fun _ _ _ h => h) (Or.inl ⟨by rfl, fun w _ => by go_simp⟩) hS ?_
                      try simp only [Act.put, List.getElem_toArray, List.getElem_cons_zero, List.getElem_cons_succ, List.setIfInBounds_toArray, List.set_cons_zero, List.set_cons_succ]
                      refine wpAnyH_take (i := 17) (v := .int .i64 (addE os ⟨true, 0, i, 0, 0, zs8 m⟩)) rfl (by kernel_rfl) (by kernel_rfl) (by kernel_rfl) (fun _ _ _ h => h) (Or.inl ⟨by rfl, fun w _ => by go_simp⟩) hS ?_
                      try simp only [Act.put, List.getElem_toArray, List.getElem_cons_zero, List.getElem_cons_succ, List.setIfInBounds_toArray, List.set_cons_zero, List.set_cons_succ]
                      refine wpAnyH_done (by kernel_rfl) ?_ _
                      go_wp2
                      go_meet
                      exact ⟨_, _, rfl, rfl, hS, rP.set _, hO2.rowOther rP _⟩
              · go_simp
                refine hK.out _ _ (hS.down ((Below.refl _ _).alloc (Nat.le_refl _) _)) fun hS => ?_
                try simp only [Act.put, List.getElem_toArray, List.getElem_cons_zero, List.getElem_cons_succ, List.setIfInBounds_toArray, List.set_cons_zero, List.set_cons_succ]
                have rP : Row ((wk).alloc (.cells #[.int .u64 0, .slice none 0 0] 33)) (wk.heap.size) #[.int .u64 0, .slice none 0 0] 33 := (show Row ((wk).alloc (.cells #[.int .u64 0, .slice none 0 0] 33)) (wk.heap.size) #[.int .u64 0, .slice none 0 0] 33 from by have := Row.new (wk) #[.int .u64 0, .slice none 0 0] 33; simpa using this)
                have hP : Hid (wf.heap.size ≤ wk.heap.size) := (by have := hWwk.out; show _ ≤ _; omega)
                have hO1 := hO1.alloc (.cells #[.int .u64 0, .slice none 0 0] 33)
                refine wpAnyH_ready (rs := [6]) (by kernel_rfl) (by simp) ?_
                refine AllReadyH.cons rfl (fun K hK => ?_) AllReadyH.nil
                · go_simp
                  refine hK.out _ _ (hS.down ((Below.refl _ _).alloc (Nat.le_refl _) _)) fun hS => ?_
                  try simp only [Act.put, List.getElem_toArray, List.getElem_cons_zero, List.getElem_cons_succ, List.setIfInBounds_toArray, List.set_cons_zero, List.set_cons_succ]
                  have rM : Row (((wk).alloc (.cells #[.int .u64 0, .slice none 0 0] 33)).alloc (.cells (madeCells #[.int .u8 0] m) 5)) (wk.heap.size + 1) (madeCells #[.int .u8 0] m) 5 := (show Row (((wk).alloc (.cells #[.int .u64 0, .slice none 0 0] 33)).alloc (.cells (madeCells #[.int .u8 0] m) 5)) (wk.heap.size + 1) (madeCells #[.int .u8 0] m) 5 from by have := Row.new ((wk).alloc (.cells #[.int .u64 0, .slice none 0 0] 33)) (madeCells #[.int .u8 0] m) 5; simpa using this)
                  have hO1 := hO1.alloc (.cells (madeCells #[.int .u8 0] m) 5)
                  have rP := rP.alloc (.cells (madeCells #[.int .u8 0] m) 5)
                  refine wpAnyH_ready (rs := [7]) (by kernel_rfl) (by simp) ?_
                  refine AllReadyH.cons rfl (fun K hK => ?_) AllReadyH.nil
                  · refine step_of rfl (wp_conv (.tmp 148) rfl (wk.heap.size + 1) m rfl rM (hK.out _ _ hS fun hS => ?_))
                    try simp only [Act.put, List.getElem_toArray, List.getElem_cons_zero, List.getElem_cons_succ, List.setIfInBounds_toArray, List.set_cons_zero, List.set_cons_succ]
                    refine wpAnyH_take (i := 8) (v := .agg #[.bool true, .int .u16 0, .int .u32 i, .int .u16 0, .int .u8 0, .string (zs8 m)]) rfl (by kernel_rfl) (by kernel_rfl) (by kernel_rfl) (fun _ _ _ h => h) (Or.inl ⟨by rfl, fun w _ => by go_simp⟩) hS ?_
                    try simp only [Act.put, List.getElem_toArray, List.getElem_cons_zero, List.getElem_cons_succ, List.setIfInBounds_toArray, List.set_cons_zero, List.set_cons_succ]
                    refine wpAnyH_ready (rs := [9]) (by kernel_rfl) (by simp) ?_
                    refine AllReadyH.cons rfl (fun K hK => ?_) AllReadyH.nil
                    · go_simp
                      go_at_call 15
                      refine (add_any lsn _ os ⟨true, 0, i, 0, 0, zs8 m⟩ _ hO1.olds).mono ?_
                      rintro e wd ⟨v2, rfl, hO2, b2⟩
                      refine hK.out _ _ (hS.down b2) fun hS => ?_
                      try simp only [Act.put, List.getElem_toArray, List.getElem_cons_zero, List.getElem_cons_succ, List.setIfInBounds_toArray, List.set_cons_zero, List.set_cons_succ]
                      have hWwd : Hid (wf.heap.size ≤ wd.heap.size) := hS.sz
                      have hO2 := hO2.base (Nat.zero_le _)
                      have rP := rP.below b2 rP.lt
                      refine wpAnyH_take (i := 10) (v := .tuple #[.agg #[.int .u64 (addL lsn os ⟨true, 0, i, 0, 0, zs8 m⟩), v2], .int .u8 (addS os ⟨true, 0, i, 0, 0, zs8 m⟩), .int .i64 (addE os ⟨true, 0, i, 0, 0, zs8 m⟩)]) rfl (by kernel_rfl) (by kernel_rfl) (by kernel_rfl) (fun _ _ _ h => h) (Or.inl ⟨by rfl, fun w _ => by go_simp⟩) hS ?_
                      try simp only [Act.put, List.getElem_toArray, List.getElem_cons_zero, List.getElem_cons_succ, List.setIfInBounds_toArray, List.set_cons_zero, List.set_cons_succ]
                      refine wpAnyH_take (i := 11) (v := .agg #[.int .u64 (addL lsn os ⟨true, 0, i, 0, 0, zs8 m⟩), v2]) rfl (by kernel_rfl) (by kernel_rfl) (by kernel_rfl) (fun _ _ _ h => h) (Or.inl ⟨by rfl, fun w _ => by go_simp⟩) hS ?_
                      try simp only [Act.put, List.getElem_toArray, List.getElem_cons_zero, List.getElem_cons_succ, List.setIfInBounds_toArray, List.set_cons_zero, List.set_cons_succ]
                      refine wpAnyH_take (i := 12) (v := .int .u8 (addS os ⟨true, 0, i, 0, 0, zs8 m⟩)) rfl (by kernel_rfl) (by kernel_rfl) (by kernel_rfl) (fun _ _ _ h => h) (Or.inl ⟨by rfl, fun w _ => by go_simp⟩) hS ?_
                      try simp only [Act.put, List.getElem_toArray, List.getElem_cons_zero, List.getElem_cons_succ, List.setIfInBounds_toArray, List.set_cons_zero, List.set_cons_succ]
                      refine wpAnyH_take (i := 13) (v := .int .i64 (addE os ⟨true, 0, i, 0, 0, zs8 m⟩)) rfl (by kernel_rfl) (by kernel_rfl) (by kernel_rfl) (fun _ _ _ h => h) (Or.inl ⟨by rfl, fun w _ => by go_simp⟩) hS ?_
                      try simp only [Act.put, List.getElem_toArray, List.getElem_cons_zero, List.getElem_cons_succ, List.setIfInBounds_toArray, List.set_cons_zero, List.set_cons_succ]
                      obtain ⟨oa2, cap2, rfl⟩ := hO2.form
                      refine wpAnyH_ready (rs := [15]) (by kernel_rfl) (by simp) ?_
                      refine AllReadyH.cons rfl (fun K hK => ?_) AllReadyH.nil
                      refine step_cells rfl 33 (.tmp 23) (.tmp 152) rfl (wk.heap.size) #[.int .u64 (addL lsn os ⟨true, 0, i, 0, 0, zs8 m⟩), .slice oa2 (addR os ⟨true, 0, i, 0, 0, zs8 m⟩).length cap2] rfl rfl 33 _ rP 2 size33 rfl rfl (by simp [Value.oneCell']) (hK.out _ _ (hS.set hP.out _ ⟨HGA.out.1, HGA.out.2.1, HGA.out.2.2, rP⟩) fun hS => ?_)
                      try simp only [Act.put, List.getElem_toArray, List.getElem_cons_zero, List.getElem_cons_succ, List.setIfInBounds_toArray, List.set_cons_zero, List.set_cons_succ]
                      refine wpAnyH_take (i := 16) (v := .int .u8 (addS os ⟨true, 0, i, 0, 0, zs8 m⟩)) rfl (by kernel_rfl) (by kernel_rfl) (by kernel_rfl) (fun _ _ _ h => h) (Or.inl ⟨by rfl, fun w _ => by go_simp⟩) hS ?_
                      try simp only [Act.put, List.getElem_toArray, List.getElem_cons_zero, List.getElem_cons_succ, List.setIfInBounds_toArray, List.set_cons_zero, List.set_cons_succ]
                      refine wpAnyH_take (i := 17) (v := .int .i64 (addE os ⟨true, 0, i, 0, 0, zs8 m⟩)) rfl (by kernel_rfl) (by kernel_rfl) (by kernel_rfl) (fun _ _ _ h => h) (Or.inl ⟨by rfl, fun w _ => by go_simp⟩) hS ?_
                      try simp only [Act.put, List.getElem_toArray, List.getElem_cons_zero, List.getElem_cons_succ, List.setIfInBounds_toArray, List.set_cons_zero, List.set_cons_succ]
                      refine wpAnyH_done (by kernel_rfl) ?_ _
                      go_wp2
                      go_meet
                      exact ⟨_, _, rfl, rfl, hS, rP.set _, hO2.rowOther rP _⟩
            · go_simp
              refine hK.out _ _ (hS.down ((Below.refl _ _).alloc (Nat.le_refl _) _)) fun hS => ?_
              try simp only [Act.put, List.getElem_toArray, List.getElem_cons_zero, List.getElem_cons_succ, List.setIfInBounds_toArray, List.set_cons_zero, List.set_cons_succ]
              have rM : Row (((wf).alloc (.cells (madeCells #[.int .u8 0] m) 5)).drew) (wf.heap.size) (madeCells #[.int .u8 0] m) 5 := (show Row ((wf).alloc (.cells (madeCells #[.int .u8 0] m) 5)) (wf.heap.size) (madeCells #[.int .u8 0] m) 5 from by have := Row.new (wf) (madeCells #[.int .u8 0] m) 5; simpa using this)
              refine wpAnyH_ready (rs := [2, 7, 14]) (by kernel_rfl) (by simp) ?_
              refine AllReadyH.cons rfl (fun K hK => ?_) (AllReadyH.cons rfl (fun K hK => ?_) (AllReadyH.cons rfl (fun K hK => ?_) AllReadyH.nil))
              · go_simp
                go_at_call 9
                refine (page_in hS.r c ⟨lsn, vp, os⟩ hpc).mono ?_
                rintro e wk ⟨v1, rfl, hO1, b1⟩
                refine hK.out _ _ (hS.down b1) fun hS => ?_
                try simp only [Act.put, List.getElem_toArray, List.getElem_cons_zero, List.getElem_cons_succ, List.setIfInBounds_toArray, List.set_cons_zero, List.set_cons_succ]
                have hWwk : Hid (wf.heap.size ≤ wk.heap.size) := hS.sz
                have rM := rM.below b1 rM.lt
                refine wpAnyH_ready (rs := [7, 14]) (by kernel_rfl) (by simp) ?_
                refine AllReadyH.cons rfl (fun K hK => ?_) (AllReadyH.cons rfl (fun K hK => ?_) AllReadyH.nil)
                · refine step_of rfl (wp_conv (.tmp 148) rfl (wf.heap.size) m rfl rM (hK.out _ _ hS fun hS => ?_))
                  try simp only [Act.put, List.getElem_toArray, List.getElem_cons_zero, List.getElem_cons_succ, List.setIfInBounds_toArray, List.set_cons_zero, List.set_cons_succ]
                  refine wpAnyH_take (i := 8) (v := .agg #[.bool true, .int .u16 0, .int .u32 i, .int .u16 0, .int .u8 0, .string (zs8 m)]) rfl (by kernel_rfl) (by kernel_rfl) (by kernel_rfl) (fun _ _ _ h => h) (Or.inl ⟨by rfl, fun w _ => by go_simp⟩) hS ?_
                  try simp only [Act.put, List.getElem_toArray, List.getElem_cons_zero, List.getElem_cons_succ, List.setIfInBounds_toArray, List.set_cons_zero, List.set_cons_succ]
                  refine wpAnyH_ready (rs := [9, 14]) (by kernel_rfl) (by simp) ?_
                  refine AllReadyH.cons rfl (fun K hK => ?_) (AllReadyH.cons rfl (fun K hK => ?_) AllReadyH.nil)
                  · go_simp
                    go_at_call 15
                    refine (add_any lsn _ os ⟨true, 0, i, 0, 0, zs8 m⟩ _ hO1.olds).mono ?_
                    rintro e wd ⟨v2, rfl, hO2, b2⟩
                    refine hK.out _ _ (hS.down b2) fun hS => ?_
                    try simp only [Act.put, List.getElem_toArray, List.getElem_cons_zero, List.getElem_cons_succ, List.setIfInBounds_toArray, List.set_cons_zero, List.set_cons_succ]
                    have hWwd : Hid (wf.heap.size ≤ wd.heap.size) := hS.sz
                    have hO2 := hO2.base (Nat.zero_le _)
                    refine wpAnyH_take (i := 10) (v := .tuple #[.agg #[.int .u64 (addL lsn os ⟨true, 0, i, 0, 0, zs8 m⟩), v2], .int .u8 (addS os ⟨true, 0, i, 0, 0, zs8 m⟩), .int .i64 (addE os ⟨true, 0, i, 0, 0, zs8 m⟩)]) rfl (by kernel_rfl) (by kernel_rfl) (by kernel_rfl) (fun _ _ _ h => h) (Or.inl ⟨by rfl, fun w _ => by go_simp⟩) hS ?_
                    try simp only [Act.put, List.getElem_toArray, List.getElem_cons_zero, List.getElem_cons_succ, List.setIfInBounds_toArray, List.set_cons_zero, List.set_cons_succ]
                    refine wpAnyH_take (i := 11) (v := .agg #[.int .u64 (addL lsn os ⟨true, 0, i, 0, 0, zs8 m⟩), v2]) rfl (by kernel_rfl) (by kernel_rfl) (by kernel_rfl) (fun _ _ _ h => h) (Or.inl ⟨by rfl, fun w _ => by go_simp⟩) hS ?_
                    try simp only [Act.put, List.getElem_toArray, List.getElem_cons_zero, List.getElem_cons_succ, List.setIfInBounds_toArray, List.set_cons_zero, List.set_cons_succ]
                    refine wpAnyH_take (i := 12) (v := .int .u8 (addS os ⟨true, 0, i, 0, 0, zs8 m⟩)) rfl (by kernel_rfl) (by kernel_rfl) (by kernel_rfl) (fun _ _ _ h => h) (Or.inl ⟨by rfl, fun w _ => by go_simp⟩) hS ?_
                    try simp only [Act.put, List.getElem_toArray, List.getElem_cons_zero, List.getElem_cons_succ, List.setIfInBounds_toArray, List.set_cons_zero, List.set_cons_succ]
                    refine wpAnyH_take (i := 13) (v := .int .i64 (addE os ⟨true, 0, i, 0, 0, zs8 m⟩)) rfl (by kernel_rfl) (by kernel_rfl) (by kernel_rfl) (fun _ _ _ h => h) (Or.inl ⟨by rfl, fun w _ => by go_simp⟩) hS ?_
                    try simp only [Act.put, List.getElem_toArray, List.getElem_cons_zero, List.getElem_cons_succ, List.setIfInBounds_toArray, List.set_cons_zero, List.set_cons_succ]
                    refine wpAnyH_ready (rs := [14]) (by kernel_rfl) (by simp) ?_
                    refine AllReadyH.cons rfl (fun K hK => ?_) AllReadyH.nil
                    · go_simp
                      refine hK.out _ _ (hS.down ((Below.refl _ _).alloc (Nat.le_refl _) _)) fun hS => ?_
                      try simp only [Act.put, List.getElem_toArray, List.getElem_cons_zero, List.getElem_cons_succ, List.setIfInBounds_toArray, List.set_cons_zero, List.set_cons_succ]
                      have rP : Row ((wd).alloc (.cells #[.int .u64 0, .slice none 0 0] 33)) (wd.heap.size) #[.int .u64 0, .slice none 0 0] 33 := (show Row ((wd).alloc (.cells #[.int .u64 0, .slice none 0 0] 33)) (wd.heap.size) #[.int .u64 0, .slice none 0 0] 33 from by have := Row.new (wd) #[.int .u64 0, .slice none 0 0] 33; simpa using this)
                      have hP : Hid (wf.heap.size ≤ wd.heap.size) := (by have := hWwd.out; show _ ≤ _; omega)
                      have hO2 := hO2.alloc (.cells #[.int .u64 0, .slice none 0 0] 33)
                      obtain ⟨oa2, cap2, rfl⟩ := hO2.form
                      refine wpAnyH_ready (rs := [15]) (by kernel_rfl) (by simp) ?_
                      refine AllReadyH.cons rfl (fun K hK => ?_) AllReadyH.nil
                      refine step_cells rfl 33 (.tmp 23) (.tmp 152) rfl (wd.heap.size) #[.int .u64 (addL lsn os ⟨true, 0, i, 0, 0, zs8 m⟩), .slice oa2 (addR os ⟨true, 0, i, 0, 0, zs8 m⟩).length cap2] rfl rfl 33 _ rP 2 size33 rfl rfl (by simp [Value.oneCell']) (hK.out _ _ (hS.set hP.out _ ⟨HGA.out.1, HGA.out.2.1, HGA.out.2.2, rP⟩) fun hS => ?_)
                      try simp only [Act.put, List.getElem_toArray, List.getElem_cons_zero, List.getElem_cons_succ, List.setIfInBounds_toArray, List.set_cons_zero, List.set_cons_succ]
                      refine wpAnyH_take (i := 16) (v := .int .u8 (addS os ⟨true, 0, i, 0, 0, zs8 m⟩)) rfl (by kernel_rfl) (by kernel_rfl) (by kernel_rfl) (fun _ _ _ h => h) (Or.inl ⟨by rfl, fun w _ => by go_simp⟩) hS ?_
                      try simp only [Act.put, List.getElem_toArray, List.getElem_cons_zero, List.getElem_cons_succ, List.setIfInBounds_toArray, List.set_cons_zero, List.set_cons_succ]
                      refine wpAnyH_take (i := 17) (v := .int .i64 (addE os ⟨true, 0, i, 0, 0, zs8 m⟩)) rfl (by kernel_rfl) (by kernel_rfl) (by kernel_rfl) (fun _ _ _ h => h) (Or.inl ⟨by rfl, fun w _ => by go_simp⟩) hS ?_
                      try simp only [Act.put, List.getElem_toArray, List.getElem_cons_zero, List.getElem_cons_succ, List.setIfInBounds_toArray, List.set_cons_zero, List.set_cons_succ]
                      refine wpAnyH_done (by kernel_rfl) ?_ _
                      go_wp2
                      go_meet
                      exact ⟨_, _, rfl, rfl, hS, rP.set _, hO2.rowOther rP _⟩
                  · go_simp
                    refine hK.out _ _ (hS.down ((Below.refl _ _).alloc (Nat.le_refl _) _)) fun hS => ?_
                    try simp only [Act.put, List.getElem_toArray, List.getElem_cons_zero, List.getElem_cons_succ, List.setIfInBounds_toArray, List.set_cons_zero, List.set_cons_succ]
                    have rP : Row ((wk).alloc (.cells #[.int .u64 0, .slice none 0 0] 33)) (wk.heap.size) #[.int .u64 0, .slice none 0 0] 33 := (show Row ((wk).alloc (.cells #[.int .u64 0, .slice none 0 0] 33)) (wk.heap.size) #[.int .u64 0, .slice none 0 0] 33 from by have := Row.new (wk) #[.int .u64 0, .slice none 0 0] 33; simpa using this)
                    have hP : Hid (wf.heap.size ≤ wk.heap.size) := (by have := hWwk.out; show _ ≤ _; omega)
                    have hO1 := hO1.alloc (.cells #[.int .u64 0, .slice none 0 0] 33)
                    have rM := rM.alloc (.cells #[.int .u64 0, .slice none 0 0] 33)
                    refine wpAnyH_ready (rs := [9]) (by kernel_rfl) (by simp) ?_
                    refine AllReadyH.cons rfl (fun K hK => ?_) AllReadyH.nil
                    · go_simp
                      go_at_call 15
                      refine (add_any lsn _ os ⟨true, 0, i, 0, 0, zs8 m⟩ _ hO1.olds).mono ?_
                      rintro e wd ⟨v2, rfl, hO2, b2⟩
                      refine hK.out _ _ (hS.down b2) fun hS => ?_
                      try simp only [Act.put, List.getElem_toArray, List.getElem_cons_zero, List.getElem_cons_succ, List.setIfInBounds_toArray, List.set_cons_zero, List.set_cons_succ]
                      have hWwd : Hid (wf.heap.size ≤ wd.heap.size) := hS.sz
                      have hO2 := hO2.base (Nat.zero_le _)
                      have rP := rP.below b2 rP.lt
                      refine wpAnyH_take (i := 10) (v := .tuple #[.agg #[.int .u64 (addL lsn os ⟨true, 0, i, 0, 0, zs8 m⟩), v2], .int .u8 (addS os ⟨true, 0, i, 0, 0, zs8 m⟩), .int .i64 (addE os ⟨true, 0, i, 0, 0, zs8 m⟩)]) rfl (by kernel_rfl) (by kernel_rfl) (by kernel_rfl) (fun _ _ _ h => h) (Or.inl ⟨by rfl, fun w _ => by go_simp⟩) hS ?_
                      try simp only [Act.put, List.getElem_toArray, List.getElem_cons_zero, List.getElem_cons_succ, List.setIfInBounds_toArray, List.set_cons_zero, List.set_cons_succ]
                      refine wpAnyH_take (i := 11) (v := .agg #[.int .u64 (addL lsn os ⟨true, 0, i, 0, 0, zs8 m⟩), v2]) rfl (by kernel_rfl) (by kernel_rfl) (by kernel_rfl) (fun _ _ _ h => h) (Or.inl ⟨by rfl, fun w _ => by go_simp⟩) hS ?_
                      try simp only [Act.put, List.getElem_toArray, List.getElem_cons_zero, List.getElem_cons_succ, List.setIfInBounds_toArray, List.set_cons_zero, List.set_cons_succ]
                      refine wpAnyH_take (i := 12) (v := .int .u8 (addS os ⟨true, 0, i, 0, 0, zs8 m⟩)) rfl (by kernel_rfl) (by kernel_rfl) (by kernel_rfl) (fun _ _ _ h => h) (Or.inl ⟨by rfl, fun w _ => by go_simp⟩) hS ?_
                      try simp only [Act.put, List.getElem_toArray, List.getElem_cons_zero, List.getElem_cons_succ, List.setIfInBounds_toArray, List.set_cons_zero, List.set_cons_succ]
                      refine wpAnyH_take (i := 13) (v := .int .i64 (addE os ⟨true, 0, i, 0, 0, zs8 m⟩)) rfl (by kernel_rfl) (by kernel_rfl) (by kernel_rfl) (fun _ _ _ h => h) (Or.inl ⟨by rfl, fun w _ => by go_simp⟩) hS ?_
                      try simp only [Act.put, List.getElem_toArray, List.getElem_cons_zero, List.getElem_cons_succ, List.setIfInBounds_toArray, List.set_cons_zero, List.set_cons_succ]
                      obtain ⟨oa2, cap2, rfl⟩ := hO2.form
                      refine wpAnyH_ready (rs := [15]) (by kernel_rfl) (by simp) ?_
                      refine AllReadyH.cons rfl (fun K hK => ?_) AllReadyH.nil
                      refine step_cells rfl 33 (.tmp 23) (.tmp 152) rfl (wk.heap.size) #[.int .u64 (addL lsn os ⟨true, 0, i, 0, 0, zs8 m⟩), .slice oa2 (addR os ⟨true, 0, i, 0, 0, zs8 m⟩).length cap2] rfl rfl 33 _ rP 2 size33 rfl rfl (by simp [Value.oneCell']) (hK.out _ _ (hS.set hP.out _ ⟨HGA.out.1, HGA.out.2.1, HGA.out.2.2, rP⟩) fun hS => ?_)
                      try simp only [Act.put, List.getElem_toArray, List.getElem_cons_zero, List.getElem_cons_succ, List.setIfInBounds_toArray, List.set_cons_zero, List.set_cons_succ]
                      refine wpAnyH_take (i := 16) (v := .int .u8 (addS os ⟨true, 0, i, 0, 0, zs8 m⟩)) rfl (by kernel_rfl) (by kernel_rfl) (by kernel_rfl) (fun _ _ _ h => h) (Or.inl ⟨by rfl, fun w _ => by go_simp⟩) hS ?_
                      try simp only [Act.put, List.getElem_toArray, List.getElem_cons_zero, List.getElem_cons_succ, List.setIfInBounds_toArray, List.set_cons_zero, List.set_cons_succ]
                      refine wpAnyH_take (i := 17) (v := .int .i64 (addE os ⟨true, 0, i, 0, 0, zs8 m⟩)) rfl (by kernel_rfl) (by kernel_rfl) (by kernel_rfl) (fun _ _ _ h => h) (Or.inl ⟨by rfl, fun w _ => by go_simp⟩) hS ?_
                      try simp only [Act.put, List.getElem_toArray, List.getElem_cons_zero, List.getElem_cons_succ, List.setIfInBounds_toArray, List.set_cons_zero, List.set_cons_succ]
                      refine wpAnyH_done (by kernel_rfl) ?_ _
                      go_wp2
                      go_meet
                      exact ⟨_, _, rfl, rfl, hS, rP.set _, hO2.rowOther rP _⟩
                · go_simp
                  refine hK.out _ _ (hS.down ((Below.refl _ _).alloc (Nat.le_refl _) _)) fun hS => ?_
                  try simp only [Act.put, List.getElem_toArray, List.getElem_cons_zero, List.getElem_cons_succ, List.setIfInBounds_toArray, List.set_cons_zero, List.set_cons_succ]
                  have rP : Row ((wk).alloc (.cells #[.int .u64 0, .slice none 0 0] 33)) (wk.heap.size) #[.int .u64 0, .slice none 0 0] 33 := (show Row ((wk).alloc (.cells #[.int .u64 0, .slice none 0 0] 33)) (wk.heap.size) #[.int .u64 0, .slice none 0 0] 33 from by have := Row.new (wk) #[.int .u64 0, .slice none 0 0] 33; simpa using this)
                  have hP : Hid (wf.heap.size ≤ wk.heap.size) := (by have := hWwk.out; show _ ≤ _; omega)
                  have hO1 := hO1.alloc (.cells #[.int .u64 0, .slice none 0 0] 33)
                  have rM := rM.alloc (.cells #[.int .u64 0, .slice none 0 0] 33)
                  refine wpAnyH_ready (rs := [7]) (by kernel_rfl) (by simp) ?_
                  refine AllReadyH.cons rfl (fun K hK => ?_) AllReadyH.nil
                  · refine step_of rfl (wp_conv (.tmp 148) rfl (wf.heap.size) m rfl rM (hK.out _ _ hS fun hS => ?_))
                    try simp only [Act.put, List.getElem_toArray, List.getElem_cons_zero, List.getElem_cons_succ, List.setIfInBounds_toArray, List.set_cons_zero, List.set_cons_succ]
                    refine wpAnyH_take (i := 8) (v := .agg #[.bool true, .int .u16 0, .int .u32 i, .int .u16 0, .int .u8 0, .string (zs8 m)]) rfl (by kernel_rfl) (by kernel_rfl) (by kernel_rfl) (fun _ _ _ h => h) (Or.inl ⟨by rfl, fun w _ => by go_simp⟩) hS ?_
                    try simp only [Act.put, List.getElem_toArray, List.getElem_cons_zero, List.getElem_cons_succ, List.setIfInBounds_toArray, List.set_cons_zero, List.set_cons_succ]
                    refine wpAnyH_ready (rs := [9]) (by kernel_rfl) (by simp) ?_
                    refine AllReadyH.cons rfl (fun K hK => ?_) AllReadyH.nil
                    · go_simp
                      go_at_call 15
                      refine (add_any lsn _ os ⟨true, 0, i, 0, 0, zs8 m⟩ _ hO1.olds).mono ?_
                      rintro e wd ⟨v2, rfl, hO2, b2⟩
                      refine hK.out _ _ (hS.down b2) fun hS => ?_
                      try simp only [Act.put, List.getElem_toArray, List.getElem_cons_zero, List.getElem_cons_succ, List.setIfInBounds_toArray, List.set_cons_zero, List.set_cons_succ]
                      have hWwd : Hid (wf.heap.size ≤ wd.heap.size) := hS.sz
                      have hO2 := hO2.base (Nat.zero_le _)
                      have rP := rP.below b2 rP.lt
                      refine wpAnyH_take (i := 10) (v := .tuple #[.agg #[.int .u64 (addL lsn os ⟨true, 0, i, 0, 0, zs8 m⟩), v2], .int .u8 (addS os ⟨true, 0, i, 0, 0, zs8 m⟩), .int .i64 (addE os ⟨true, 0, i, 0, 0, zs8 m⟩)]) rfl (by kernel_rfl) (by kernel_rfl) (by kernel_rfl) (fun _ _ _ h => h) (Or.inl ⟨by rfl, fun w _ => by go_simp⟩) hS ?_
                      try simp only [Act.put, List.getElem_toArray, List.getElem_cons_zero, List.getElem_cons_succ, List.setIfInBounds_toArray, List.set_cons_zero, List.set_cons_succ]
                      refine wpAnyH_take (i := 11) (v := .agg #[.int .u64 (addL lsn os ⟨true, 0, i, 0, 0, zs8 m⟩), v2]) rfl (by kernel_rfl) (by kernel_rfl) (by kernel_rfl) (fun _ _ _ h => h) (Or.inl ⟨by rfl, fun w _ => by go_simp⟩) hS ?_
                      try simp only [Act.put, List.getElem_toArray, List.getElem_cons_zero, List.getElem_cons_succ, List.setIfInBounds_toArray, List.set_cons_zero, List.set_cons_succ]
                      refine wpAnyH_take (i := 12) (v := .int .u8 (addS os ⟨true, 0, i, 0, 0, zs8 m⟩)) rfl (by kernel_rfl) (by kernel_rfl) (by kernel_rfl) (fun _ _ _ h => h) (Or.inl ⟨by rfl, fun w _ => by go_simp⟩) hS ?_
                      try simp only [Act.put, List.getElem_toArray, List.getElem_cons_zero, List.getElem_cons_succ, List.setIfInBounds_toArray, List.set_cons_zero, List.set_cons_succ]
                      refine wpAnyH_take (i := 13) (v := .int .i64 (addE os ⟨true, 0, i, 0, 0, zs8 m⟩)) rfl (by kernel_rfl) (by kernel_rfl) (by kernel_rfl) (fun _ _ _ h => h) (Or.inl ⟨by rfl, fun w _ => by go_simp⟩) hS ?_
                      try simp only [Act.put, List.getElem_toArray, List.getElem_cons_zero, List.getElem_cons_succ, List.setIfInBounds_toArray, List.set_cons_zero, List.set_cons_succ]
                      obtain ⟨oa2, cap2, rfl⟩ := hO2.form
                      refine wpAnyH_ready (rs := [15]) (by kernel_rfl) (by simp) ?_
                      refine AllReadyH.cons rfl (fun K hK => ?_) AllReadyH.nil
                      refine step_cells rfl 33 (.tmp 23) (.tmp 152) rfl (wk.heap.size) #[.int .u64 (addL lsn os ⟨true, 0, i, 0, 0, zs8 m⟩), .slice oa2 (addR os ⟨true, 0, i, 0, 0, zs8 m⟩).length cap2] rfl rfl 33 _ rP 2 size33 rfl rfl (by simp [Value.oneCell']) (hK.out _ _ (hS.set hP.out _ ⟨HGA.out.1, HGA.out.2.1, HGA.out.2.2, rP⟩) fun hS => ?_)
                      try simp only [Act.put, List.getElem_toArray, List.getElem_cons_zero, List.getElem_cons_succ, List.setIfInBounds_toArray, List.set_cons_zero, List.set_cons_succ]
                      refine wpAnyH_take (i := 16) (v := .int .u8 (addS os ⟨true, 0, i, 0, 0, zs8 m⟩)) rfl (by kernel_rfl) (by kernel_rfl) (by kernel_rfl) (fun _ _ _ h => h) (Or.inl ⟨by rfl, fun w _ => by go_simp⟩) hS ?_
                      try simp only [Act.put, List.getElem_toArray, List.getElem_cons_zero, List.getElem_cons_succ, List.setIfInBounds_toArray, List.set_cons_zero, List.set_cons_succ]
                      refine wpAnyH_take (i := 17) (v := .int .i64 (addE os ⟨true, 0, i, 0, 0, zs8 m⟩)) rfl (by kernel_rfl) (by kernel_rfl) (by kernel_rfl) (fun _ _ _ h => h) (Or.inl ⟨by rfl, fun w _ => by go_simp⟩) hS ?_
                      try simp only [Act.put, List.getElem_toArray, List.getElem_cons_zero, List.getElem_cons_succ, List.setIfInBounds_toArray, List.set_cons_zero, List.set_cons_succ]
                      refine wpAnyH_done (by kernel_rfl) ?_ _
                      go_wp2
                      go_meet
                      exact ⟨_, _, rfl, rfl, hS, rP.set _, hO2.rowOther rP _⟩
              · refine step_of rfl (wp_conv (.tmp 148) rfl (wf.heap.size) m rfl rM (hK.out _ _ hS fun hS => ?_))
                try simp only [Act.put, List.getElem_toArray, List.getElem_cons_zero, List.getElem_cons_succ, List.setIfInBounds_toArray, List.set_cons_zero, List.set_cons_succ]
                refine wpAnyH_take (i := 8) (v := .agg #[.bool true, .int .u16 0, .int .u32 i, .int .u16 0, .int .u8 0, .string (zs8 m)]) rfl (by kernel_rfl) (by kernel_rfl) (by kernel_rfl) (fun _ _ _ h => h) (Or.inl ⟨by rfl, fun w _ => by go_simp⟩) hS ?_
                try simp only [Act.put, List.getElem_toArray, List.getElem_cons_zero, List.getElem_cons_succ, List.setIfInBounds_toArray, List.set_cons_zero, List.set_cons_succ]
                refine wpAnyH_ready (rs := [2, 14]) (by kernel_rfl) (by simp) ?_
                refine AllReadyH.cons rfl (fun K hK => ?_) (AllReadyH.cons rfl (fun K hK => ?_) AllReadyH.nil)
                · go_simp
                  go_at_call 9
                  refine (page_in hS.r c ⟨lsn, vp, os⟩ hpc).mono ?_
                  rintro e wk ⟨v1, rfl, hO1, b1⟩
                  refine hK.out _ _ (hS.down b1) fun hS => ?_
                  try simp only [Act.put, List.getElem_toArray, List.getElem_cons_zero, List.getElem_cons_succ, List.setIfInBounds_toArray, List.set_cons_zero, List.set_cons_succ]
                  have hWwk : Hid (wf.heap.size ≤ wk.heap.size) := hS.sz
                  have rM := rM.below b1 rM.lt
                  refine wpAnyH_ready (rs := [9, 14]) (by kernel_rfl) (by simp) ?_
                  refine AllReadyH.cons rfl (fun K hK => ?_) (AllReadyH.cons rfl (fun K hK => ?_) AllReadyH.nil)
                  · go_simp
                    go_at_call 15
                    refine (add_any lsn _ os ⟨true, 0, i, 0, 0, zs8 m⟩ _ hO1.olds).mono ?_
                    rintro e wd ⟨v2, rfl, hO2, b2⟩
                    refine hK.out _ _ (hS.down b2) fun hS => ?_
                    try simp only [Act.put, List.getElem_toArray, List.getElem_cons_zero, List.getElem_cons_succ, List.setIfInBounds_toArray, List.set_cons_zero, List.set_cons_succ]
                    have hWwd : Hid (wf.heap.size ≤ wd.heap.size) := hS.sz
                    have hO2 := hO2.base (Nat.zero_le _)
                    refine wpAnyH_take (i := 10) (v := .tuple #[.agg #[.int .u64 (addL lsn os ⟨true, 0, i, 0, 0, zs8 m⟩), v2], .int .u8 (addS os ⟨true, 0, i, 0, 0, zs8 m⟩), .int .i64 (addE os ⟨true, 0, i, 0, 0, zs8 m⟩)]) rfl (by kernel_rfl) (by kernel_rfl) (by kernel_rfl) (fun _ _ _ h => h) (Or.inl ⟨by rfl, fun w _ => by go_simp⟩) hS ?_
                    try simp only [Act.put, List.getElem_toArray, List.getElem_cons_zero, List.getElem_cons_succ, List.setIfInBounds_toArray, List.set_cons_zero, List.set_cons_succ]
                    refine wpAnyH_take (i := 11) (v := .agg #[.int .u64 (addL lsn os ⟨true, 0, i, 0, 0, zs8 m⟩), v2]) rfl (by kernel_rfl) (by kernel_rfl) (by kernel_rfl) (fun _ _ _ h => h) (Or.inl ⟨by rfl, fun w _ => by go_simp⟩) hS ?_
                    try simp only [Act.put, List.getElem_toArray, List.getElem_cons_zero, List.getElem_cons_succ, List.setIfInBounds_toArray, List.set_cons_zero, List.set_cons_succ]
                    refine wpAnyH_take (i := 12) (v := .int .u8 (addS os ⟨true, 0, i, 0, 0, zs8 m⟩)) rfl (by kernel_rfl) (by kernel_rfl) (by kernel_rfl) (fun _ _ _ h => h) (Or.inl ⟨by rfl, fun w _ => by go_simp⟩) hS ?_
                    try simp only [Act.put, List.getElem_toArray, List.getElem_cons_zero, List.getElem_cons_succ, List.setIfInBounds_toArray, List.set_cons_zero, List.set_cons_succ]
                    refine wpAnyH_take (i := 13) (v := .int .i64 (addE os ⟨true, 0, i, 0, 0, zs8 m⟩)) rfl (by kernel_rfl) (by kernel_rfl) (by kernel_rfl) (fun _ _ _ h => h) (Or.inl ⟨by rfl, fun w _ => by go_simp⟩) hS ?_
                    try simp only [Act.put, List.getElem_toArray, List.getElem_cons_zero, List.getElem_cons_succ, List.setIfInBounds_toArray, List.set_cons_zero, List.set_cons_succ]
                    refine wpAnyH_ready (rs := [14]) (by kernel_rfl) (by simp) ?_
                    refine AllReadyH.cons rfl (fun K hK => ?_) AllReadyH.nil
                    · go_simp
                      refine hK.out _ _ (hS.down ((Below.refl _ _).alloc (Nat.le_refl _) _)) fun hS => ?_
                      try simp only [Act.put, List.getElem_toArray, List.getElem_cons_zero, List.getElem_cons_succ, List.setIfInBounds_toArray, List.set_cons_zero, List.set_cons_succ]
                      have rP : Row ((wd).alloc (.cells #[.int .u64 0, .slice none 0 0] 33)) (wd.heap.size) #[.int .u64 0, .slice none 0 0] 33 := (show Row ((wd).alloc (.cells #[.int .u64 0, .slice none 0 0] 33)) (wd.heap.size) #[.int .u64 0, .slice none 0 0] 33 from by have := Row.new (wd) #[.int .u64 0, .slice none 0 0] 33; simpa using this)
                      have hP : Hid (wf.heap.size ≤ wd.heap.size) := (by have := hWwd.out; show _ ≤ _; omega)
                      have hO2 := hO2.alloc (.cells #[.int .u64 0, .slice none 0 0] 33)
                      obtain ⟨oa2, cap2, rfl⟩ := hO2.form
                      refine wpAnyH_ready (rs := [15]) (by kernel_rfl) (by simp) ?_
                      refine AllReadyH.cons rfl (fun K hK => ?_) AllReadyH.nil
                      refine step_cells rfl 33 (.tmp 23) (.tmp 152) rfl (wd.heap.size) #[.int .u64 (addL lsn os ⟨true, 0, i, 0, 0, zs8 m⟩), .slice oa2 (addR os ⟨true, 0, i, 0, 0, zs8 m⟩).length cap2] rfl rfl 33 _ rP 2 size33 rfl rfl (by simp [Value.oneCell']) (hK.out _ _ (hS.set hP.out _ ⟨HGA.out.1, HGA.out.2.1, HGA.out.2.2, rP⟩) fun hS => ?_)
                      try simp only [Act.put, List.getElem_toArray, List.getElem_cons_zero, List.getElem_cons_succ, List.setIfInBounds_toArray, List.set_cons_zero, List.set_cons_succ]
                      refine wpAnyH_take (i := 16) (v := .int .u8 (addS os ⟨true, 0, i, 0, 0, zs8 m⟩)) rfl (by kernel_rfl) (by kernel_rfl) (by kernel_rfl) (fun _ _ _ h => h) (Or.inl ⟨by rfl, fun w _ => by go_simp⟩) hS ?_
                      try simp only [Act.put, List.getElem_toArray, List.getElem_cons_zero, List.getElem_cons_succ, List.setIfInBounds_toArray, List.set_cons_zero, List.set_cons_succ]
                      refine wpAnyH_take (i := 17) (v := .int .i64 (addE os ⟨true, 0, i, 0, 0, zs8 m⟩)) rfl (by kernel_rfl) (by kernel_rfl) (by kernel_rfl) (fun _ _ _ h => h) (Or.inl ⟨by rfl, fun w _ => by go_simp⟩) hS ?_
                      try simp only [Act.put, List.getElem_toArray, List.getElem_cons_zero, List.getElem_cons_succ, List.setIfInBounds_toArray, List.set_cons_zero, List.set_cons_succ]
                      refine wpAnyH_done (by kernel_rfl) ?_ _
                      go_wp2
                      go_meet
                      exact ⟨_, _, rfl, rfl, hS, rP.set _, hO2.rowOther rP _⟩
                  · go_simp
                    refine hK.out _ _ (hS.down ((Below.refl _ _).alloc (Nat.le_refl _) _)) fun hS => ?_
                    try simp only [Act.put, List.getElem_toArray, List.getElem_cons_zero, List.getElem_cons_succ, List.setIfInBounds_toArray, List.set_cons_zero, List.set_cons_succ]
                    have rP : Row ((wk).alloc (.cells #[.int .u64 0, .slice none 0 0] 33)) (wk.heap.size) #[.int .u64 0, .slice none 0 0] 33 := (show Row ((wk).alloc (.cells #[.int .u64 0, .slice none 0 0] 33)) (wk.heap.size) #[.int .u64 0, .slice none 0 0] 33 from by have := Row.new (wk) #[.int .u64 0, .slice none 0 0] 33; simpa using this)
                    have hP : Hid (wf.heap.size ≤ wk.heap.size) := (by have := hWwk.out; show _ ≤ _; omega)
                    have hO1 := hO1.alloc (.cells #[.int .u64 0, .slice none 0 0] 33)
                    have rM := rM.alloc (.cells #[.int .u64 0, .slice none 0 0] 33)
                    refine wpAnyH_ready (rs := [9]) (by kernel_rfl) (by simp) ?_
                    refine AllReadyH.cons rfl (fun K hK => ?_) AllReadyH.nil
                    · go_simp
                      go_at_call 15
                      refine (add_any lsn _ os ⟨true, 0, i, 0, 0, zs8 m⟩ _ hO1.olds).mono ?_
                      rintro e wd ⟨v2, rfl, hO2, b2⟩
                      refine hK.out _ _ (hS.down b2) fun hS => ?_
                      try simp only [Act.put, List.getElem_toArray, List.getElem_cons_zero, List.getElem_cons_succ, List.setIfInBounds_toArray, List.set_cons_zero, List.set_cons_succ]
                      have hWwd : Hid (wf.heap.size ≤ wd.heap.size) := hS.sz
                      have hO2 := hO2.base (Nat.zero_le _)
                      have rP := rP.below b2 rP.lt
                      refine wpAnyH_take (i := 10) (v := .tuple #[.agg #[.int .u64 (addL lsn os ⟨true, 0, i, 0, 0, zs8 m⟩), v2], .int .u8 (addS os ⟨true, 0, i, 0, 0, zs8 m⟩), .int .i64 (addE os ⟨true, 0, i, 0, 0, zs8 m⟩)]) rfl (by kernel_rfl) (by kernel_rfl) (by kernel_rfl) (fun _ _ _ h => h) (Or.inl ⟨by rfl, fun w _ => by go_simp⟩) hS ?_
                      try simp only [Act.put, List.getElem_toArray, List.getElem_cons_zero, List.getElem_cons_succ, List.setIfInBounds_toArray, List.set_cons_zero, List.set_cons_succ]
                      refine wpAnyH_take (i := 11) (v := .agg #[.int .u64 (addL lsn os ⟨true, 0, i, 0, 0, zs8 m⟩), v2]) rfl (by kernel_rfl) (by kernel_rfl) (by kernel_rfl) (fun _ _ _ h => h) (Or.inl ⟨by rfl, fun w _ => by go_simp⟩) hS ?_
                      try simp only [Act.put, List.getElem_toArray, List.getElem_cons_zero, List.getElem_cons_succ, List.setIfInBounds_toArray, List.set_cons_zero, List.set_cons_succ]
                      refine wpAnyH_take (i := 12) (v := .int .u8 (addS os ⟨true, 0, i, 0, 0, zs8 m⟩)) rfl (by kernel_rfl) (by kernel_rfl) (by kernel_rfl) (fun _ _ _ h => h) (Or.inl ⟨by rfl, fun w _ => by go_simp⟩) hS ?_
                      try simp only [Act.put, List.getElem_toArray, List.getElem_cons_zero, List.getElem_cons_succ, List.setIfInBounds_toArray, List.set_cons_zero, List.set_cons_succ]
                      refine wpAnyH_take (i := 13) (v := .int .i64 (addE os ⟨true, 0, i, 0, 0, zs8 m⟩)) rfl (by kernel_rfl) (by kernel_rfl) (by kernel_rfl) (fun _ _ _ h => h) (Or.inl ⟨by rfl, fun w _ => by go_simp⟩) hS ?_
                      try simp only [Act.put, List.getElem_toArray, List.getElem_cons_zero, List.getElem_cons_succ, List.setIfInBounds_toArray, List.set_cons_zero, List.set_cons_succ]
                      obtain ⟨oa2, cap2, rfl⟩ := hO2.form
                      refine wpAnyH_ready (rs := [15]) (by kernel_rfl) (by simp) ?_
                      refine AllReadyH.cons rfl (fun K hK => ?_) AllReadyH.nil
                      refine step_cells rfl 33 (.tmp 23) (.tmp 152) rfl (wk.heap.size) #[.int .u64 (addL lsn os ⟨true, 0, i, 0, 0, zs8 m⟩), .slice oa2 (addR os ⟨true, 0, i, 0, 0, zs8 m⟩).length cap2] rfl rfl 33 _ rP 2 size33 rfl rfl (by simp [Value.oneCell']) (hK.out _ _ (hS.set hP.out _ ⟨HGA.out.1, HGA.out.2.1, HGA.out.2.2, rP⟩) fun hS => ?_)
                      try simp only [Act.put, List.getElem_toArray, List.getElem_cons_zero, List.getElem_cons_succ, List.setIfInBounds_toArray, List.set_cons_zero, List.set_cons_succ]
                      refine wpAnyH_take (i := 16) (v := .int .u8 (addS os ⟨true, 0, i, 0, 0, zs8 m⟩)) rfl (by kernel_rfl) (by kernel_rfl) (by kernel_rfl) (fun _ _ _ h => h) (Or.inl ⟨by rfl, fun w _ => by go_simp⟩) hS ?_
                      try simp only [Act.put, List.getElem_toArray, List.getElem_cons_zero, List.getElem_cons_succ, List.setIfInBounds_toArray, List.set_cons_zero, List.set_cons_succ]
                      refine wpAnyH_take (i := 17) (v := .int .i64 (addE os ⟨true, 0, i, 0, 0, zs8 m⟩)) rfl (by kernel_rfl) (by kernel_rfl) (by kernel_rfl) (fun _ _ _ h => h) (Or.inl ⟨by rfl, fun w _ => by go_simp⟩) hS ?_
                      try simp only [Act.put, List.getElem_toArray, List.getElem_cons_zero, List.getElem_cons_succ, List.setIfInBounds_toArray, List.set_cons_zero, List.set_cons_succ]
                      refine wpAnyH_done (by kernel_rfl) ?_ _
                      go_wp2
                      go_meet
                      exact ⟨_, _, rfl, rfl, hS, rP.set _, hO2.rowOther rP _⟩
                · go_simp
                  refine hK.out _ _ (hS.down ((Below.refl _ _).alloc (Nat.le_refl _) _)) fun hS => ?_
                  try simp only [Act.put, List.getElem_toArray, List.getElem_cons_zero, List.getElem_cons_succ, List.setIfInBounds_toArray, List.set_cons_zero, List.set_cons_succ]
                  have rP : Row ((((wf).alloc (.cells (madeCells #[.int .u8 0] m) 5)).alloc (.cells #[.int .u64 0, .slice none 0 0] 33)).drew) (wf.heap.size + 1) #[.int .u64 0, .slice none 0 0] 33 := (show Row (((wf).alloc (.cells (madeCells #[.int .u8 0] m) 5)).alloc (.cells #[.int .u64 0, .slice none 0 0] 33)) (wf.heap.size + 1) #[.int .u64 0, .slice none 0 0] 33 from by have := Row.new ((wf).alloc (.cells (madeCells #[.int .u8 0] m) 5)) #[.int .u64 0, .slice none 0 0] 33; simpa using this)
                  have hP : Hid (wf.heap.size ≤ wf.heap.size + 1) := (by have := hWwf.out; show _ ≤ _; omega)
                  have rM := rM.alloc (.cells #[.int .u64 0, .slice none 0 0] 33)
                  refine wpAnyH_ready (rs := [2]) (by kernel_rfl) (by simp) ?_
                  refine AllReadyH.cons rfl (fun K hK => ?_) AllReadyH.nil
                  · go_simp
                    go_at_call 9
                    refine (page_in hS.r c ⟨lsn, vp, os⟩ hpc).mono ?_
                    rintro e wk ⟨v1, rfl, hO1, b1⟩
                    refine hK.out _ _ (hS.down b1) fun hS => ?_
                    try simp only [Act.put, List.getElem_toArray, List.getElem_cons_zero, List.getElem_cons_succ, List.setIfInBounds_toArray, List.set_cons_zero, List.set_cons_succ]
                    have hWwk : Hid (wf.heap.size ≤ wk.heap.size) := hS.sz
                    have rM := rM.below b1 rM.lt
                    have rP := rP.below b1 rP.lt
                    refine wpAnyH_ready (rs := [9]) (by kernel_rfl) (by simp) ?_
                    refine AllReadyH.cons rfl (fun K hK => ?_) AllReadyH.nil
                    · go_simp
                      go_at_call 15
                      refine (add_any lsn _ os ⟨true, 0, i, 0, 0, zs8 m⟩ _ hO1.olds).mono ?_
                      rintro e wd ⟨v2, rfl, hO2, b2⟩
                      refine hK.out _ _ (hS.down b2) fun hS => ?_
                      try simp only [Act.put, List.getElem_toArray, List.getElem_cons_zero, List.getElem_cons_succ, List.setIfInBounds_toArray, List.set_cons_zero, List.set_cons_succ]
                      have hWwd : Hid (wf.heap.size ≤ wd.heap.size) := hS.sz
                      have hO2 := hO2.base (Nat.zero_le _)
                      have rP := rP.below b2 rP.lt
                      refine wpAnyH_take (i := 10) (v := .tuple #[.agg #[.int .u64 (addL lsn os ⟨true, 0, i, 0, 0, zs8 m⟩), v2], .int .u8 (addS os ⟨true, 0, i, 0, 0, zs8 m⟩), .int .i64 (addE os ⟨true, 0, i, 0, 0, zs8 m⟩)]) rfl (by kernel_rfl) (by kernel_rfl) (by kernel_rfl) (fun _ _ _ h => h) (Or.inl ⟨by rfl, fun w _ => by go_simp⟩) hS ?_
                      try simp only [Act.put, List.getElem_toArray, List.getElem_cons_zero, List.getElem_cons_succ, List.setIfInBounds_toArray, List.set_cons_zero, List.set_cons_succ]
                      refine wpAnyH_take (i := 11) (v := .agg #[.int .u64 (addL lsn os ⟨true, 0, i, 0, 0, zs8 m⟩), v2]) rfl (by kernel_rfl) (by kernel_rfl) (by kernel_rfl) (fun _ _ _ h => h) (Or.inl ⟨by rfl, fun w _ => by go_simp⟩) hS ?_
                      try simp only [Act.put, List.getElem_toArray, List.getElem_cons_zero, List.getElem_cons_succ, List.setIfInBounds_toArray, List.set_cons_zero, List.set_cons_succ]
                      refine wpAnyH_take (i := 12) (v := .int .u8 (addS os ⟨true, 0, i, 0, 0, zs8 m⟩)) rfl (by kernel_rfl) (by kernel_rfl) (by kernel_rfl) (fun _ _ _ h => h) (Or.inl ⟨by rfl, fun w _ => by go_simp⟩) hS ?_
                      try simp only [Act.put, List.getElem_toArray, List.getElem_cons_zero, List.getElem_cons_succ, List.setIfInBounds_toArray, List.set_cons_zero, List.set_cons_succ]
                      refine wpAnyH_take (i := 13) (v := .int .i64 (addE os ⟨true, 0, i, 0, 0, zs8 m⟩)) rfl (by kernel_rfl) (by kernel_rfl) (by kernel_rfl) (fun _ _ _ h => h) (Or.inl ⟨by rfl, fun w _ => by go_simp⟩) hS ?_
                      try simp only [Act.put, List.getElem_toArray, List.getElem_cons_zero, List.getElem_cons_succ, List.setIfInBounds_toArray, List.set_cons_zero, List.set_cons_succ]
                      obtain ⟨oa2, cap2, rfl⟩ := hO2.form
                      refine wpAnyH_ready (rs := [15]) (by kernel_rfl) (by simp) ?_
                      refine AllReadyH.cons rfl (fun K hK => ?_) AllReadyH.nil
                      refine step_cells rfl 33 (.tmp 23) (.tmp 152) rfl (wf.heap.size + 1) #[.int .u64 (addL lsn os ⟨true, 0, i, 0, 0, zs8 m⟩), .slice oa2 (addR os ⟨true, 0, i, 0, 0, zs8 m⟩).length cap2] rfl rfl 33 _ rP 2 size33 rfl rfl (by simp [Value.oneCell']) (hK.out _ _ (hS.set hP.out _ ⟨HGA.out.1, HGA.out.2.1, HGA.out.2.2, rP⟩) fun hS => ?_)
                      try simp only [Act.put, List.getElem_toArray, List.getElem_cons_zero, List.getElem_cons_succ, List.setIfInBounds_toArray, List.set_cons_zero, List.set_cons_succ]
                      refine wpAnyH_take (i := 16) (v := .int .u8 (addS os ⟨true, 0, i, 0, 0, zs8 m⟩)) rfl (by kernel_rfl) (by kernel_rfl) (by kernel_rfl) (fun _ _ _ h => h) (Or.inl ⟨by rfl, fun w _ => by go_simp⟩) hS ?_
                      try simp only [Act.put, List.getElem_toArray, List.getElem_cons_zero, List.getElem_cons_succ, List.setIfInBounds_toArray, List.set_cons_zero, List.set_cons_succ]
                      refine wpAnyH_take (i := 17) (v := .int .i64 (addE os ⟨true, 0, i, 0, 0, zs8 m⟩)) rfl (by kernel_rfl) (by kernel_rfl) (by kernel_rfl) (fun _ _ _ h => h) (Or.inl ⟨by rfl, fun w _ => by go_simp⟩) hS ?_
                      try simp only [Act.put, List.getElem_toArray, List.getElem_cons_zero, List.getElem_cons_succ, List.setIfInBounds_toArray, List.set_cons_zero, List.set_cons_succ]
                      refine wpAnyH_done (by kernel_rfl) ?_ _
                      go_wp2
                      go_meet
                      exact ⟨_, _, rfl, rfl, hS, rP.set _, hO2.rowOther rP _⟩
              · go_simp
                refine hK.out _ _ (hS.down ((Below.refl _ _).alloc (Nat.le_refl _) _)) fun hS => ?_
                try simp only [Act.put, List.getElem_toArray, List.getElem_cons_zero, List.getElem_cons_succ, List.setIfInBounds_toArray, List.set_cons_zero, List.set_cons_succ]
                have rP : Row ((((wf).alloc (.cells (madeCells #[.int .u8 0] m) 5)).alloc (.cells #[.int .u64 0, .slice none 0 0] 33)).drew) (wf.heap.size + 1) #[.int .u64 0, .slice none 0 0] 33 := (show Row (((wf).alloc (.cells (madeCells #[.int .u8 0] m) 5)).alloc (.cells #[.int .u64 0, .slice none 0 0] 33)) (wf.heap.size + 1) #[.int .u64 0, .slice none 0 0] 33 from by have := Row.new ((wf).alloc (.cells (madeCells #[.int .u8 0] m) 5)) #[.int .u64 0, .slice none 0 0] 33; simpa using this)
                have hP : Hid (wf.heap.size ≤ wf.heap.size + 1) := (by have := hWwf.out; show _ ≤ _; omega)
                have rM := rM.alloc (.cells #[.int .u64 0, .slice none 0 0] 33)
                refine wpAnyH_ready (rs := [2, 7]) (by kernel_rfl) (by simp) ?_
                refine AllReadyH.cons rfl (fun K hK => ?_) (AllReadyH.cons rfl (fun K hK => ?_) AllReadyH.nil)
                · go_simp
                  go_at_call 9
                  refine (page_in hS.r c ⟨lsn, vp, os⟩ hpc).mono ?_
                  rintro e wk ⟨v1, rfl, hO1, b1⟩
                  refine hK.out _ _ (hS.down b1) fun hS => ?_
                  try simp only [Act.put, List.getElem_toArray, List.getElem_cons_zero, List.getElem_cons_succ, List.setIfInBounds_toArray, List.set_cons_zero, List.set_cons_succ]
                  have hWwk : Hid (wf.heap.size ≤ wk.heap.size) := hS.sz
                  have rM := rM.below b1 rM.lt
                  have rP := rP.below b1 rP.lt
                  refine wpAnyH_ready (rs := [7]) (by kernel_rfl) (by simp) ?_
                  refine AllReadyH.cons rfl (fun K hK => ?_) AllReadyH.nil
                  · refine step_of rfl (wp_conv (.tmp 148) rfl (wf.heap.size) m rfl rM (hK.out _ _ hS fun hS => ?_))
                    try simp only [Act.put, List.getElem_toArray, List.getElem_cons_zero, List.getElem_cons_succ, List.setIfInBounds_toArray, List.set_cons_zero, List.set_cons_succ]
                    refine wpAnyH_take (i := 8) (v := .agg #[.bool true, .int .u16 0, .int .u32 i, .int .u16 0, .int .u8 0, .string (zs8 m)]) rfl (by kernel_rfl) (by kernel_rfl) (by kernel_rfl) (fun _ _ _ h => h) (Or.inl ⟨by rfl, fun w _ => by go_simp⟩) hS ?_
                    try simp only [Act.put, List.getElem_toArray, List.getElem_cons_zero, List.getElem_cons_succ, List.setIfInBounds_toArray, List.set_cons_zero, List.set_cons_succ]
                    refine wpAnyH_ready (rs := [9]) (by kernel_rfl) (by simp) ?_
                    refine AllReadyH.cons rfl (fun K hK => ?_) AllReadyH.nil
                    · go_simp
                      go_at_call 15
                      refine (add_any lsn _ os ⟨true, 0, i, 0, 0, zs8 m⟩ _ hO1.olds).mono ?_
                      rintro e wd ⟨v2, rfl, hO2, b2⟩
                      refine hK.out _ _ (hS.down b2) fun hS => ?_
                      try simp only [Act.put, List.getElem_toArray, List.getElem_cons_zero, List.getElem_cons_succ, List.setIfInBounds_toArray, List.set_cons_zero, List.set_cons_succ]
                      have hWwd : Hid (wf.heap.size ≤ wd.heap.size) := hS.sz
                      have hO2 := hO2.base (Nat.zero_le _)
                      have rP := rP.below b2 rP.lt
                      refine wpAnyH_take (i := 10) (v := .tuple #[.agg #[.int .u64 (addL lsn os ⟨true, 0, i, 0, 0, zs8 m⟩), v2], .int .u8 (addS os ⟨true, 0, i, 0, 0, zs8 m⟩), .int .i64 (addE os ⟨true, 0, i, 0, 0, zs8 m⟩)]) rfl (by kernel_rfl) (by kernel_rfl) (by kernel_rfl) (fun _ _ _ h => h) (Or.inl ⟨by rfl, fun w _ => by go_simp⟩) hS ?_
                      try simp only [Act.put, List.getElem_toArray, List.getElem_cons_zero, List.getElem_cons_succ, List.setIfInBounds_toArray, List.set_cons_zero, List.set_cons_succ]
                      refine wpAnyH_take (i := 11) (v := .agg #[.int .u64 (addL lsn os ⟨true, 0, i, 0, 0, zs8 m⟩), v2]) rfl (by kernel_rfl) (by kernel_rfl) (by kernel_rfl) (fun _ _ _ h => h) (Or.inl ⟨by rfl, fun w _ => by go_simp⟩) hS ?_
                      try simp only [Act.put, List.getElem_toArray, List.getElem_cons_zero, List.getElem_cons_succ, List.setIfInBounds_toArray, List.set_cons_zero, List.set_cons_succ]
                      refine wpAnyH_take (i := 12) (v := .int .u8 (addS os ⟨true, 0, i, 0, 0, zs8 m⟩)) rfl (by kernel_rfl) (by kernel_rfl) (by kernel_rfl) (fun _ _ _ h => h) (Or.inl ⟨by rfl, fun w _ => by go_simp⟩) hS ?_
                      try simp only [Act.put, List.getElem_toArray, List.getElem_cons_zero, List.getElem_cons_succ, List.setIfInBounds_toArray, List.set_cons_zero, List.set_cons_succ]
                      refine wpAnyH_take (i := 13) (v := .int .i64 (addE os ⟨true, 0, i, 0, 0, zs8 m⟩)) rfl (by kernel_rfl) (by kernel_rfl) (by kernel_rfl) (fun _ _ _ h => h) (Or.inl ⟨by rfl, fun w _ => by go_simp⟩) hS ?_
                      try simp only [Act.put, List.getElem_toArray, List.getElem_cons_zero, List.getElem_cons_succ, List.setIfInBounds_toArray, List.set_cons_zero, List.set_cons_succ]
                      obtain ⟨oa2, cap2, rfl⟩ := hO2.form
                      refine wpAnyH_ready (rs := [15]) (by kernel_rfl) (by simp) ?_
                      refine AllReadyH.cons rfl (fun K hK => ?_) AllReadyH.nil
                      refine step_cells rfl 33 (.tmp 23) (.tmp 152) rfl (wf.heap.size + 1) #[.int .u64 (addL lsn os ⟨true, 0, i, 0, 0, zs8 m⟩), .slice oa2 (addR os ⟨true, 0, i, 0, 0, zs8 m⟩).length cap2] rfl rfl 33 _ rP 2 size33 rfl rfl (by simp [Value.oneCell']) (hK.out _ _ (hS.set hP.out _ ⟨HGA.out.1, HGA.out.2.1, HGA.out.2.2, rP⟩) fun hS => ?_)
                      try simp only [Act.put, List.getElem_toArray, List.getElem_cons_zero, List.getElem_cons_succ, List.setIfInBounds_toArray, List.set_cons_zero, List.set_cons_succ]
                      refine wpAnyH_take (i := 16) (v := .int .u8 (addS os ⟨true, 0, i, 0, 0, zs8 m⟩)) rfl (by kernel_rfl) (by kernel_rfl) (by kernel_rfl) (fun _ _ _ h => h) (Or.inl ⟨by rfl, fun w _ => by go_simp⟩) hS ?_
                      try simp only [Act.put, List.getElem_toArray, List.getElem_cons_zero, List.getElem_cons_succ, List.setIfInBounds_toArray, List.set_cons_zero, List.set_cons_succ]
                      refine wpAnyH_take (i := 17) (v := .int .i64 (addE os ⟨true, 0, i, 0, 0, zs8 m⟩)) rfl (by kernel_rfl) (by kernel_rfl) (by kernel_rfl) (fun _ _ _ h => h) (Or.inl ⟨by rfl, fun w _ => by go_simp⟩) hS ?_
                      try simp only [Act.put, List.getElem_toArray, List.getElem_cons_zero, List.getElem_cons_succ, List.setIfInBounds_toArray, List.set_cons_zero, List.set_cons_succ]
                      refine wpAnyH_done (by kernel_rfl) ?_ _
                      go_wp2
                      go_meet
                      exact ⟨_, _, rfl, rfl, hS, rP.set _, hO2.rowOther rP _⟩
                · refine step_of rfl (wp_conv (.tmp 148) rfl (wf.heap.size) m rfl rM (hK.out _ _ hS fun hS => ?_))
                  try simp only [Act.put, List.getElem_toArray, List.getElem_cons_zero, List.getElem_cons_succ, List.setIfInBounds_toArray, List.set_cons_zero, List.set_cons_succ]
                  refine wpAnyH_take (i := 8) (v := .agg #[.bool true, .int .u16 0, .int .u32 i, .int .u16 0, .int .u8 0, .string (zs8 m)]) rfl (by kernel_rfl) (by kernel_rfl) (by kernel_rfl) (fun _ _ _ h => h) (Or.inl ⟨by rfl, fun w _ => by go_simp⟩) hS ?_
                  try simp only [Act.put, List.getElem_toArray, List.getElem_cons_zero, List.getElem_cons_succ, List.setIfInBounds_toArray, List.set_cons_zero, List.set_cons_succ]
                  refine wpAnyH_ready (rs := [2]) (by kernel_rfl) (by simp) ?_
                  refine AllReadyH.cons rfl (fun K hK => ?_) AllReadyH.nil
                  · go_simp
                    go_at_call 9
                    refine (page_in hS.r c ⟨lsn, vp, os⟩ hpc).mono ?_
                    rintro e wk ⟨v1, rfl, hO1, b1⟩
                    refine hK.out _ _ (hS.down b1) fun hS => ?_
                    try simp only [Act.put, List.getElem_toArray, List.getElem_cons_zero, List.getElem_cons_succ, List.setIfInBounds_toArray, List.set_cons_zero, List.set_cons_succ]
                    have hWwk : Hid (wf.heap.size ≤ wk.heap.size) := hS.sz
                    have rM := rM.below b1 rM.lt
                    have rP := rP.below b1 rP.lt
                    refine wpAnyH_ready (rs := [9]) (by kernel_rfl) (by simp) ?_
                    refine AllReadyH.cons rfl (fun K hK => ?_) AllReadyH.nil
                    · go_simp
                      go_at_call 15
                      refine (add_any lsn _ os ⟨true, 0, i, 0, 0, zs8 m⟩ _ hO1.olds).mono ?_
                      rintro e wd ⟨v2, rfl, hO2, b2⟩
                      refine hK.out _ _ (hS.down b2) fun hS => ?_
                      try simp only [Act.put, List.getElem_toArray, List.getElem_cons_zero, List.getElem_cons_succ, List.setIfInBounds_toArray, List.set_cons_zero, List.set_cons_succ]
                      have hWwd : Hid (wf.heap.size ≤ wd.heap.size) := hS.sz
                      have hO2 := hO2.base (Nat.zero_le _)
                      have rP := rP.below b2 rP.lt
                      refine wpAnyH_take (i := 10) (v := .tuple #[.agg #[.int .u64 (addL lsn os ⟨true, 0, i, 0, 0, zs8 m⟩), v2], .int .u8 (addS os ⟨true, 0, i, 0, 0, zs8 m⟩), .int .i64 (addE os ⟨true, 0, i, 0, 0, zs8 m⟩)]) rfl (by kernel_rfl) (by kernel_rfl) (by kernel_rfl) (fun _ _ _ h => h) (Or.inl ⟨by rfl, fun w _ => by go_simp⟩) hS ?_
                      try simp only [Act.put, List.getElem_toArray, List.getElem_cons_zero, List.getElem_cons_succ, List.setIfInBounds_toArray, List.set_cons_zero, List.set_cons_succ]
                      refine wpAnyH_take (i := 11) (v := .agg #[.int .u64 (addL lsn os ⟨true, 0, i, 0, 0, zs8 m⟩), v2]) rfl (by kernel_rfl) (by kernel_rfl) (by kernel_rfl) (fun _ _ _ h => h) (Or.inl ⟨by rfl, fun w _ => by go_simp⟩) hS ?_
                      try simp only [Act.put, List.getElem_toArray, List.getElem_cons_zero, List.getElem_cons_succ, List.setIfInBounds_toArray, List.set_cons_zero, List.set_cons_succ]
                      refine wpAnyH_take (i := 12) (v := .int .u8 (addS os ⟨true, 0, i, 0, 0, zs8 m⟩)) rfl (by kernel_rfl) (by kernel_rfl) (by kernel_rfl) (fun _ _ _ h => h) (Or.inl ⟨by rfl, fun w _ => by go_simp⟩) hS ?_
                      try simp only [Act.put, List.getElem_toArray, List.getElem_cons_zero, List.getElem_cons_succ, List.setIfInBounds_toArray, List.set_cons_zero, List.set_cons_succ]
                      refine wpAnyH_take (i := 13) (v := .int .i64 (addE os ⟨true, 0, i, 0, 0, zs8 m⟩)) rfl (by kernel_rfl) (by kernel_rfl) (by kernel_rfl) (fun _ _ _ h => h) (Or.inl ⟨by rfl, fun w _ => by go_simp⟩) hS ?_
                      try simp only [Act.put, List.getElem_toArray, List.getElem_cons_zero, List.getElem_cons_succ, List.setIfInBounds_toArray, List.set_cons_zero, List.set_cons_succ]
                      obtain ⟨oa2, cap2, rfl⟩ := hO2.form
                      refine wpAnyH_ready (rs := [15]) (by kernel_rfl) (by simp) ?_
                      refine AllReadyH.cons rfl (fun K hK => ?_) AllReadyH.nil
                      refine step_cells rfl 33 (.tmp 23) (.tmp 152) rfl (wf.heap.size + 1) #[.int .u64 (addL lsn os ⟨true, 0, i, 0, 0, zs8 m⟩), .slice oa2 (addR os ⟨true, 0, i, 0, 0, zs8 m⟩).length cap2] rfl rfl 33 _ rP 2 size33 rfl rfl (by simp [Value.oneCell']) (hK.out _ _ (hS.set hP.out _ ⟨HGA.out.1, HGA.out.2.1, HGA.out.2.2, rP⟩) fun hS => ?_)
                      try simp only [Act.put, List.getElem_toArray, List.getElem_cons_zero, List.getElem_cons_succ, List.setIfInBounds_toArray, List.set_cons_zero, List.set_cons_succ]
                      refine wpAnyH_take (i := 16) (v := .int .u8 (addS os ⟨true, 0, i, 0, 0, zs8 m⟩)) rfl (by kernel_rfl) (by kernel_rfl) (by kernel_rfl) (fun _ _ _ h => h) (Or.inl ⟨by rfl, fun w _ => by go_simp⟩) hS ?_
                      try simp only [Act.put, List.getElem_toArray, List.getElem_cons_zero, List.getElem_cons_succ, List.setIfInBounds_toArray, List.set_cons_zero, List.set_cons_succ]
                      refine wpAnyH_take (i := 17) (v := .int .i64 (addE os ⟨true, 0, i, 0, 0, zs8 m⟩)) rfl (by kernel_rfl) (by kernel_rfl) (by kernel_rfl) (fun _ _ _ h => h) (Or.inl ⟨by rfl, fun w _ => by go_simp⟩) hS ?_
                      try simp only [Act.put, List.getElem_toArray, List.getElem_cons_zero, List.getElem_cons_succ, List.setIfInBounds_toArray, List.set_cons_zero, List.set_cons_succ]
                      refine wpAnyH_done (by kernel_rfl) ?_ _
                      go_wp2
                      go_meet
                      exact ⟨_, _, rfl, rfl, hS, rP.set _, hO2.rowOther rP _⟩
            · go_simp
              refine hK.out _ _ (hS.down ((Below.refl _ _).alloc (Nat.le_refl _) _)) fun hS => ?_
              try simp only [Act.put, List.getElem_toArray, List.getElem_cons_zero, List.getElem_cons_succ, List.setIfInBounds_toArray, List.set_cons_zero, List.set_cons_succ]
              have rP : Row (((wf).alloc (.cells #[.int .u64 0, .slice none 0 0] 33)).drew) (wf.heap.size) #[.int .u64 0, .slice none 0 0] 33 := (show Row ((wf).alloc (.cells #[.int .u64 0, .slice none 0 0] 33)) (wf.heap.size) #[.int .u64 0, .slice none 0 0] 33 from by have := Row.new (wf) #[.int .u64 0, .slice none 0 0] 33; simpa using this)
              have hP : Hid (wf.heap.size ≤ wf.heap.size) := (by have := hWwf.out; show _ ≤ _; omega)
              refine wpAnyH_ready (rs := [2, 6]) (by kernel_rfl) (by simp) ?_
              refine AllReadyH.cons rfl (fun K hK => ?_) (AllReadyH.cons rfl (fun K hK => ?_) AllReadyH.nil)
              · go_simp
                go_at_call 9
                refine (page_in hS.r c ⟨lsn, vp, os⟩ hpc).mono ?_
                rintro e wk ⟨v1, rfl, hO1, b1⟩
                refine hK.out _ _ (hS.down b1) fun hS => ?_
                try simp only [Act.put, List.getElem_toArray, List.getElem_cons_zero, List.getElem_cons_succ, List.setIfInBounds_toArray, List.set_cons_zero, List.set_cons_succ]
                have hWwk : Hid (wf.heap.size ≤ wk.heap.size) := hS.sz
                have rP := rP.below b1 rP.lt
                refine wpAnyH_ready (rs := [6]) (by kernel_rfl) (by simp) ?_
                refine AllReadyH.cons rfl (fun K hK => ?_) AllReadyH.nil
                · go_simp
                  refine hK.out _ _ (hS.down ((Below.refl _ _).alloc (Nat.le_refl _) _)) fun hS => ?_
                  try simp only [Act.put, List.getElem_toArray, List.getElem_cons_zero, List.getElem_cons_succ, List.setIfInBounds_toArray, List.set_cons_zero, List.set_cons_succ]
                  have rM : Row ((wk).alloc (.cells (madeCells #[.int .u8 0] m) 5)) (wk.heap.size) (madeCells #[.int .u8 0] m) 5 := (show Row ((wk).alloc (.cells (madeCells #[.int .u8 0] m) 5)) (wk.heap.size) (madeCells #[.int .u8 0] m) 5 from by have := Row.new (wk) (madeCells #[.int .u8 0] m) 5; simpa using this)
                  have hO1 := hO1.alloc (.cells (madeCells #[.int .u8 0] m) 5)
                  have rP := rP.alloc (.cells (madeCells #[.int .u8 0] m) 5)
                  refine wpAnyH_ready (rs := [7]) (by kernel_rfl) (by simp) ?_
                  refine AllReadyH.cons rfl (fun K hK => ?_) AllReadyH.nil
                  · refine step_of rfl (wp_conv (.tmp 148) rfl (wk.heap.size) m rfl rM (hK.out _ _ hS fun hS => ?_))
                    try simp only [Act.put, List.getElem_toArray, List.getElem_cons_zero, List.getElem_cons_succ, List.setIfInBounds_toArray, List.set_cons_zero, List.set_cons_succ]
                    refine wpAnyH_take (i := 8) (v := .agg #[.bool true, .int .u16 0, .int .u32 i, .int .u16 0, .int .u8 0, .string (zs8 m)]) rfl (by kernel_rfl) (by kernel_rfl) (by kernel_rfl) (fun _ _ _ h => h) (Or.inl ⟨by rfl, fun w _ => by go_simp⟩) hS ?_
                    try simp only [Act.put, List.getElem_toArray, List.getElem_cons_zero, List.getElem_cons_succ, List.setIfInBounds_toArray, List.set_cons_zero, List.set_cons_succ]
                    refine wpAnyH_ready (rs := [9]) (by kernel_rfl) (by simp) ?_
                    refine AllReadyH.cons rfl (fun K hK => ?_) AllReadyH.nil
                    · go_simp
                      go_at_call 15
                      refine (add_any lsn _ os ⟨true, 0, i, 0, 0, zs8 m⟩ _ hO1.olds).mono ?_
                      rintro e wd ⟨v2, rfl, hO2, b2⟩
                      refine hK.out _ _ (hS.down b2) fun hS => ?_
                      try simp only [Act.put, List.getElem_toArray, List.getElem_cons_zero, List.getElem_cons_succ, List.setIfInBounds_toArray, List.set_cons_zero, List.set_cons_succ]
                      have hWwd : Hid (wf.heap.size ≤ wd.heap.size) := hS.sz
                      have hO2 := hO2.base (Nat.zero_le _)
                      have rP := rP.below b2 rP.lt
                      refine wpAnyH_take (i := 10) (v := .tuple #[.agg #[.int .u64 (addL lsn os ⟨true, 0, i, 0, 0, zs8 m⟩), v2], .int .u8 (addS os ⟨true, 0, i, 0, 0, zs8 m⟩), .int .i64 (addE os ⟨true, 0, i, 0, 0, zs8 m⟩)]) rfl (by kernel_rfl) (by kernel_rfl) (by kernel_rfl) (fun _ _ _ h => h) (Or.inl ⟨by rfl, fun w _ => by go_simp⟩) hS ?_
                      try simp only [Act.put, List.getElem_toArray, List.getElem_cons_zero, List.getElem_cons_succ, List.setIfInBounds_toArray, List.set_cons_zero, List.set_cons_succ]
                      refine wpAnyH_take (i := 11) (v := .agg #[.int .u64 (addL lsn os ⟨true, 0, i, 0, 0, zs8 m⟩), v2]) rfl (by kernel_rfl) (by kernel_rfl) (by kernel_rfl) (fun _ _ _ h => h) (Or.inl ⟨by rfl, fun w _ => by go_simp⟩) hS ?_
                      try simp only [Act.put, List.getElem_toArray, List.getElem_cons_zero, List.getElem_cons_succ, List.setIfInBounds_toArray, List.set_cons_zero, List.set_cons_succ]
                      refine wpAnyH_take (i := 12) (v := .int .u8 (addS os ⟨true, 0, i, 0, 0, zs8 m⟩)) rfl (by kernel_rfl) (by kernel_rfl) (by kernel_rfl) (fun _ _ _ h => h) (Or.inl ⟨by rfl, fun w _ => by go_simp⟩) hS ?_
                      try simp only [Act.put, List.getElem_toArray, List.getElem_cons_zero, List.getElem_cons_succ, List.setIfInBounds_toArray, List.set_cons_zero, List.set_cons_succ]
                      refine wpAnyH_take (i := 13) (v := .int .i64 (addE os ⟨true, 0, i, 0, 0, zs8 m⟩)) rfl (by kernel_rfl) (by kernel_rfl) (by kernel_rfl) (fun _ _ _ h => h) (Or.inl ⟨by rfl, fun w _ => by go_simp⟩) hS ?_
                      try simp only [Act.put, List.getElem_toArray, List.getElem_cons_zero, List.getElem_cons_succ, List.setIfInBounds_toArray, List.set_cons_zero, List.set_cons_succ]
                      obtain ⟨oa2, cap2, rfl⟩ := hO2.form
                      refine wpAnyH_ready (rs := [15]) (by kernel_rfl) (by simp) ?_
                      refine AllReadyH.cons rfl (fun K hK => ?_) AllReadyH.nil
                      refine step_cells rfl 33 (.tmp 23) (.tmp 152) rfl (wf.heap.size) #[.int .u64 (addL lsn os ⟨true, 0, i, 0, 0, zs8 m⟩), .slice oa2 (addR os ⟨true, 0, i, 0, 0, zs8 m⟩).length cap2] rfl rfl 33 _ rP 2 size33 rfl rfl (by simp [Value.oneCell']) (hK.out _ _ (hS.set hP.out _ ⟨HGA.out.1, HGA.out.2.1, HGA.out.2.2, rP⟩) fun hS => ?_)
                      try simp only [Act.put, List.getElem_toArray, List.getElem_cons_zero, List.getElem_cons_succ, List.setIfInBounds_toArray, List.set_cons_zero, List.set_cons_succ]
                      refine wpAnyH_take (i := 16) (v := .int .u8 (addS os ⟨true, 0, i, 0, 0, zs8 m⟩)) rfl (by kernel_rfl) (by kernel_rfl) (by kernel_rfl) (fun _ _ _ h => h) (Or.inl ⟨by rfl, fun w _ => by go_simp⟩) hS ?_
                      try simp only [Act.put, List.getElem_toArray, List.getElem_cons_zero, List.getElem_cons_succ, List.setIfInBounds_toArray, List.set_cons_zero, List.set_cons_succ]
                      refine wpAnyH_take (i := 17) (v := .int .i64 (addE os ⟨true, 0, i, 0, 0, zs8 m⟩)) rfl (by kernel_rfl) (by kernel_rfl) (by kernel_rfl) (fun _ _ _ h => h) (Or.inl ⟨by rfl, fun w _ => by go_simp⟩) hS ?_
                      try simp only [Act.put, List.getElem_toArray, List.getElem_cons_zero, List.getElem_cons_succ, List.setIfInBounds_toArray, List.set_cons_zero, List.set_cons_succ]
                      refine wpAnyH_done (by kernel_rfl) ?_ _
                      go_wp2
                      go_meet
                      exact ⟨_, _, rfl, rfl, hS, rP.set _, hO2.rowOther rP _⟩
              · go_simp
                refine hK.out _ _ (hS.down ((Below.refl _ _).alloc (Nat.le_refl _) _)) fun hS => ?_
                try simp only [Act.put, List.getElem_toArray, List.getElem_cons_zero, List.getElem_cons_succ, List.setIfInBounds_toArray, List.set_cons_zero, List.set_cons_succ]
                have rM : Row ((((wf).alloc (.cells #[.int .u64 0, .slice none 0 0] 33)).alloc (.cells (madeCells #[.int .u8 0] m) 5)).drew) (wf.heap.size + 1) (madeCells #[.int .u8 0] m) 5 := (show Row (((wf).alloc (.cells #[.int .u64 0, .slice none 0 0] 33)).alloc (.cells (madeCells #[.int .u8 0] m) 5)) (wf.heap.size + 1) (madeCells #[.int .u8 0] m) 5 from by have := Row.new ((wf).alloc (.cells #[.int .u64 0, .slice none 0 0] 33)) (madeCells #[.int .u8 0] m) 5; simpa using this)
                have rP := rP.alloc (.cells (madeCells #[.int .u8 0] m) 5)
                refine wpAnyH_ready (rs := [2, 7]) (by kernel_rfl) (by simp) ?_
                refine AllReadyH.cons rfl (fun K hK => ?_) (AllReadyH.cons rfl (fun K hK => ?_) AllReadyH.nil)
                · go_simp
                  go_at_call 9
                  refine (page_in hS.r c ⟨lsn, vp, os⟩ hpc).mono ?_
                  rintro e wk ⟨v1, rfl, hO1, b1⟩
                  refine hK.out _ _ (hS.down b1) fun hS => ?_
                  try simp only [Act.put, List.getElem_toArray, List.getElem_cons_zero, List.getElem_cons_succ, List.setIfInBounds_toArray, List.set_cons_zero, List.set_cons_succ]
                  have hWwk : Hid (wf.heap.size ≤ wk.heap.size) := hS.sz
                  have rM := rM.below b1 rM.lt
                  have rP := rP.below b1 rP.lt
                  refine wpAnyH_ready (rs := [7]) (by kernel_rfl) (by simp) ?_
                  refine AllReadyH.cons rfl (fun K hK => ?_) AllReadyH.nil
                  · refine step_of rfl (wp_conv (.tmp 148) rfl (wf.heap.size + 1) m rfl rM (hK.out _ _ hS fun hS => ?_))
                    try simp only [Act.put, List.getElem_toArray, List.getElem_cons_zero, List.getElem_cons_succ, List.setIfInBounds_toArray, List.set_cons_zero, List.set_cons_succ]
                    refine wpAnyH_take (i := 8) (v := .agg #[.bool true, .int .u16 0, .int .u32 i, .int .u16 0, .int .u8 0, .string (zs8 m)]) rfl (by kernel_rfl) (by kernel_rfl) (by kernel_rfl) (fun _ _ _ h => h) (Or.inl ⟨by rfl, fun w _ => by go_simp⟩) hS ?_
                    try simp only [Act.put, List.getElem_toArray, List.getElem_cons_zero, List.getElem_cons_succ, List.setIfInBounds_toArray, List.set_cons_zero, List.set_cons_succ]
                    refine wpAnyH_ready (rs := [9]) (by kernel_rfl) (by simp) ?_
                    refine AllReadyH.cons rfl (fun K hK => ?_) AllReadyH.nil
                    · go_simp
                      go_at_call 15
                      refine (add_any lsn _ os ⟨true, 0, i, 0, 0, zs8 m⟩ _ hO1.olds).mono ?_
                      rintro e wd ⟨v2, rfl, hO2, b2⟩
                      refine hK.out _ _ (hS.down b2) fun hS => ?_
                      try simp only [Act.put, List.getElem_toArray, List.getElem_cons_zero, List.getElem_cons_succ, List.setIfInBounds_toArray, List.set_cons_zero, List.set_cons_succ]
                      have hWwd : Hid (wf.heap.size ≤ wd.heap.size) := hS.sz
                      have hO2 := hO2.base (Nat.zero_le _)
                      have rP := rP.below b2 rP.lt
                      refine wpAnyH_take (i := 10) (v := .tuple #[.agg #[.int .u64 (addL lsn os ⟨true, 0, i, 0, 0, zs8 m⟩), v2], .int .u8 (addS os ⟨true, 0, i, 0, 0, zs8 m⟩), .int .i64 (addE os ⟨true, 0, i, 0, 0, zs8 m⟩)]) rfl (by kernel_rfl) (by kernel_rfl) (by kernel_rfl) (fun _ _ _ h => h) (Or.inl ⟨by rfl, fun w _ => by go_simp⟩) hS ?_
                      try simp only [Act.put, List.getElem_toArray, List.getElem_cons_zero, List.getElem_cons_succ, List.setIfInBounds_toArray, List.set_cons_zero, List.set_cons_succ]
                      refine wpAnyH_take (i := 11) (v := .agg #[.int .u64 (addL lsn os ⟨true, 0, i, 0, 0, zs8 m⟩), v2]) rfl (by kernel_rfl) (by kernel_rfl) (by kernel_rfl) (fun _ _ _ h => h) (Or.inl ⟨by rfl, fun w _ => by go_simp⟩) hS ?_
                      try simp only [Act.put, List.getElem_toArray, List.getElem_cons_zero, List.getElem_cons_succ, List.setIfInBounds_toArray, List.set_cons_zero, List.set_cons_succ]
                      refine wpAnyH_take (i := 12) (v := .int .u8 (addS os ⟨true, 0, i, 0, 0, zs8 m⟩)) rfl (by kernel_rfl) (by kernel_rfl) (by kernel_rfl) (fun _ _ _ h => h) (Or.inl ⟨by rfl, fun w _ => by go_simp⟩) hS ?_
                      try simp only [Act.put, List.getElem_toArray, List.getElem_cons_zero, List.getElem_cons_succ, List.setIfInBounds_toArray, List.set_cons_zero, List.set_cons_succ]
                      refine wpAnyH_take (i := 13) (v := .int .i64 (addE os ⟨true, 0, i, 0, 0, zs8 m⟩)) rfl (by kernel_rfl) (by kernel_rfl) (by kernel_rfl) (fun _ _ _ h => h) (Or.inl ⟨by rfl, fun w _ => by go_simp⟩) hS ?_
                      try simp only [Act.put, List.getElem_toArray, List.getElem_cons_zero, List.getElem_cons_succ, List.setIfInBounds_toArray, List.set_cons_zero, List.set_cons_succ]
                      obtain ⟨oa2, cap2, rfl⟩ := hO2.form
                      refine wpAnyH_ready (rs := [15]) (by kernel_rfl) (by simp) ?_
                      refine AllReadyH.cons rfl (fun K hK => ?_) AllReadyH.nil
                      refine step_cells rfl 33 (.tmp 23) (.tmp 152) rfl (wf.heap.size) #[.int .u64 (addL lsn os ⟨true, 0, i, 0, 0, zs8 m⟩), .slice oa2 (addR os ⟨true, 0, i, 0, 0, zs8 m⟩).length cap2] rfl rfl 33 _ rP 2 size33 rfl rfl (by simp [Value.oneCell']) (hK.out _ _ (hS.set hP.out _ ⟨HGA.out.1, HGA.out.2.1, HGA.out.2.2, rP⟩) fun hS => ?_)
                      try simp only [Act.put, List.getElem_toArray, List.getElem_cons_zero, List.getElem_cons_succ, List.setIfInBounds_toArray, List.set_cons_zero, List.set_cons_succ]
                      refine wpAnyH_take (i := 16) (v := .int .u8 (addS os ⟨true, 0, i, 0, 0, zs8 m⟩)) rfl (by kernel_rfl) (by kernel_rfl) (by kernel_rfl) (fun _ _ _ h => h) (Or.inl ⟨by rfl, fun w _ => by go_simp⟩) hS ?_
                      try simp only [Act.put, List.getElem_toArray, List.getElem_cons_zero, List.getElem_cons_succ, List.setIfInBounds_toArray, List.set_cons_zero, List.set_cons_succ]
                      refine wpAnyH_take (i := 17) (v := .int .i64 (addE os ⟨true, 0, i, 0, 0, zs8 m⟩)) rfl (by kernel_rfl) (by kernel_rfl) (by kernel_rfl) (fun _ _ _ h => h) (Or.inl ⟨by rfl, fun w _ => by go_simp⟩) hS ?_
                      try simp only [Act.put, List.getElem_toArray, List.getElem_cons_zero, List.getElem_cons_succ, List.setIfInBounds_toArray, List.set_cons_zero, List.set_cons_succ]
                      refine wpAnyH_done (by kernel_rfl) ?_ _
                      go_wp2
                      go_meet
                      exact ⟨_, _, rfl, rfl, hS, rP.set _, hO2.rowOther rP _⟩
                · refine step_of rfl (wp_conv (.tmp 148) rfl (wf.heap.size + 1) m rfl rM (hK.out _ _ hS fun hS => ?_))
                  try simp only [Act.put, List.getElem_toArray, List.getElem_cons_zero, List.getElem_cons_succ, List.setIfInBounds_toArray, List.set_cons_zero, List.set_cons_succ]
                  refine wpAnyH_take (i := 8) (v := .agg #[.bool true, .int .u16 0, .int .u32 i, .int .u16 0, .int .u8 0, .string (zs8 m)]) rfl (by kernel_rfl) (by kernel_rfl) (by kernel_rfl) (fun _ _ _ h => h) (Or.inl ⟨by rfl, fun w _ => by go_simp⟩) hS ?_
                  try simp only [Act.put, List.getElem_toArray, List.getElem_cons_zero, List.getElem_cons_succ, List.setIfInBounds_toArray, List.set_cons_zero, List.set_cons_succ]
                  refine wpAnyH_ready (rs := [2]) (by kernel_rfl) (by simp) ?_
                  refine AllReadyH.cons rfl (fun K hK => ?_) AllReadyH.nil
                  · go_simp
                    go_at_call 9
                    refine (page_in hS.r c ⟨lsn, vp, os⟩ hpc).mono ?_
                    rintro e wk ⟨v1, rfl, hO1, b1⟩
                    refine hK.out _ _ (hS.down b1) fun hS => ?_
                    try simp only [Act.put, List.getElem_toArray, List.getElem_cons_zero, List.getElem_cons_succ, List.setIfInBounds_toArray, List.set_cons_zero, List.set_cons_succ]
                    have hWwk : Hid (wf.heap.size ≤ wk.heap.size) := hS.sz
                    have rM := rM.below b1 rM.lt
                    have rP := rP.below b1 rP.lt
                    refine wpAnyH_ready (rs := [9]) (by kernel_rfl) (by simp) ?_
                    refine AllReadyH.cons rfl (fun K hK => ?_) AllReadyH.nil
                    · go_simp
                      go_at_call 15
                      refine (add_any lsn _ os ⟨true, 0, i, 0, 0, zs8 m⟩ _ hO1.olds).mono ?_
                      rintro e wd ⟨v2, rfl, hO2, b2⟩
                      refine hK.out _ _ (hS.down b2) fun hS => ?_
                      try simp only [Act.put, List.getElem_toArray, List.getElem_cons_zero, List.getElem_cons_succ, List.setIfInBounds_toArray, List.set_cons_zero, List.set_cons_succ]
                      have hWwd : Hid (wf.heap.size ≤ wd.heap.size) := hS.sz
                      have hO2 := hO2.base (Nat.zero_le _)
                      have rP := rP.below b2 rP.lt
                      refine wpAnyH_take (i := 10) (v := .tuple #[.agg #[.int .u64 (addL lsn os ⟨true, 0, i, 0, 0, zs8 m⟩), v2], .int .u8 (addS os ⟨true, 0, i, 0, 0, zs8 m⟩), .int .i64 (addE os ⟨true, 0, i, 0, 0, zs8 m⟩)]) rfl (by kernel_rfl) (by kernel_rfl) (by kernel_rfl) (fun _ _ _ h => h) (Or.inl ⟨by rfl, fun w _ => by go_simp⟩) hS ?_
                      try simp only [Act.put, List.getElem_toArray, List.getElem_cons_zero, List.getElem_cons_succ, List.setIfInBounds_toArray, List.set_cons_zero, List.set_cons_succ]
                      refine wpAnyH_take (i := 11) (v := .agg #[.int .u64 (addL lsn os ⟨true, 0, i, 0, 0, zs8 m⟩), v2]) rfl (by kernel_rfl) (by kernel_rfl) (by kernel_rfl) (fun _ _ _ h => h) (Or.inl ⟨by rfl, fun w _ => by go_simp⟩) hS ?_
                      try simp only [Act.put, List.getElem_toArray, List.getElem_cons_zero, List.getElem_cons_succ, List.setIfInBounds_toArray, List.set_cons_zero, List.set_cons_succ]
                      refine wpAnyH_take (i := 12) (v := .int .u8 (addS os ⟨true, 0, i, 0, 0, zs8 m⟩)) rfl (by kernel_rfl) (by kernel_rfl) (by kernel_rfl) (fun _ _ _ h => h) (Or.inl ⟨by rfl, fun w _ => by go_simp⟩) hS ?_
                      try simp only [Act.put, List.getElem_toArray, List.getElem_cons_zero, List.getElem_cons_succ, List.setIfInBounds_toArray, List.set_cons_zero, List.set_cons_succ]
                      refine wpAnyH_take (i := 13) (v := .int .i64 (addE os ⟨true, 0, i, 0, 0, zs8 m⟩)) rfl (by kernel_rfl) (by kernel_rfl) (by kernel_rfl) (fun _ _ _ h => h) (Or.inl ⟨by rfl, fun w _ => by go_simp⟩) hS ?_
                      try simp only [Act.put, List.getElem_toArray, List.getElem_cons_zero, List.getElem_cons_succ, List.setIfInBounds_toArray, List.set_cons_zero, List.set_cons_succ]
                      obtain ⟨oa2, cap2, rfl⟩ := hO2.form
                      refine wpAnyH_ready (rs := [15]) (by kernel_rfl) (by simp) ?_
                      refine AllReadyH.cons rfl (fun K hK => ?_) AllReadyH.nil
                      refine step_cells rfl 33 (.tmp 23) (.tmp 152) rfl (wf.heap.size) #[.int .u64 (addL lsn os ⟨true, 0, i, 0, 0, zs8 m⟩), .slice oa2 (addR os ⟨true, 0, i, 0, 0, zs8 m⟩).length cap2] rfl rfl 33 _ rP 2 size33 rfl rfl (by simp [Value.oneCell']) (hK.out _ _ (hS.set hP.out _ ⟨HGA.out.1, HGA.out.2.1, HGA.out.2.2, rP⟩) fun hS => ?_)
                      try simp only [Act.put, List.getElem_toArray, List.getElem_cons_zero, List.getElem_cons_succ, List.setIfInBounds_toArray, List.set_cons_zero, List.set_cons_succ]
                      refine wpAnyH_take (i := 16) (v := .int .u8 (addS os ⟨true, 0, i, 0, 0, zs8 m⟩)) rfl (by kernel_rfl) (by kernel_rfl) (by kernel_rfl) (fun _ _ _ h => h) (Or.inl ⟨by rfl, fun w _ => by go_simp⟩) hS ?_
                      try simp only [Act.put, List.getElem_toArray, List.getElem_cons_zero, List.getElem_cons_succ, List.setIfInBounds_toArray, List.set_cons_zero, List.set_cons_succ]
                      refine wpAnyH_take (i := 17) (v := .int .i64 (addE os ⟨true, 0, i, 0, 0, zs8 m⟩)) rfl (by kernel_rfl) (by kernel_rfl) (by kernel_rfl) (fun _ _ _ h => h) (Or.inl ⟨by rfl, fun w _ => by go_simp⟩) hS ?_
                      try simp only [Act.put, List.getElem_toArray, List.getElem_cons_zero, List.getElem_cons_succ, List.setIfInBounds_toArray, List.set_cons_zero, List.set_cons_succ]
                      refine wpAnyH_done (by kernel_rfl) ?_ _
                      go_wp2
                      go_meet
                      exact ⟨_, _, rfl, rfl, hS, rP.set _, hO2.rowOther rP _⟩
        case rest =>
            obtain ⟨P, v2, rfl, rfl, F2, rP, oP⟩ := hcut
            clear hmk F1
            have hE := hE0.out
            have er : addR os ⟨true, 0, i, 0, 0, zs8 m⟩ = os ++ [⟨true, 0, i, 0, 0, zs8 m⟩] := by unfold addR; rw [if_pos hE, HAL.out.1.added]
            have el : addL lsn os ⟨true, 0, i, 0, 0, zs8 m⟩ = lsn := by unfold addL; rw [if_pos hE]
            have hmm := (addE_ok hE).2
            rw [HAL.out.1.added] at hmm
            rw [er] at oP
            rw [el] at rP
            rw [hE]
            have HAA : Hid (AL (os ++ [⟨true, 0, i, 0, 0, zs8 m⟩]) ∧ may (os ++ [⟨true, 0, i, 0, 0, zs8 m⟩]) = true ∧ liveN (os ++ [(⟨true, 0, i, 0, 0, zs8 m⟩ : O)]) = liveN os + 1 ∧ (os ++ [(⟨true, 0, i, 0, 0, zs8 m⟩ : O)]).length ≤ 15) := ⟨HAL.out.1.snoc rfl (by rw [zs8_size]; exact hm66), hmm, liveN_snoc _ _ rfl, (may_small hmm).1⟩
            clear hmm er el hE
            generalize os ++ [(⟨true, 0, i, 0, 0, zs8 m⟩ : O)] = os2 at oP HAA
            obtain ⟨oa2, cap2, rfl⟩ := oP.form
            have rg := range_two rP
            have hnote := note_in F2.r c hcl lsn _ os2 oP.olds (by have := HAA.out.2.2.2; omega)
            have HG2 : Hid (∀ v', Good (ps.set c ⟨lsn, v', os2⟩) ∧ (ps.set c ⟨lsn, v', os2⟩).length = k ∧ liveP (ps.set c ⟨lsn, v', os2⟩) = (i : Int) + 1) := fun v' => ⟨HG.out.1.set c ⟨HAA.out.1, HAA.out.2.1⟩, by rw [List.length_set]; exact HG.out.2.1, by rw [liveP_set hpc, HG.out.2.2]; show _ - liveN os + liveN os2 = _; rw [HAA.out.2.2.1]; omega⟩
            have HLV : Hid (∀ W v', RAt W g a (ps.set c ⟨lsn, v', os2⟩) c → Calls Try.prog 14 #[.pointer (some ⟨g, 0, none⟩)] W fun e w' => e = .returned (.int .i64 ((i : Int) + 1)) ∧ Below W.heap.size W w') := fun W v' hc => by
              have := rlive_any hc
              rw [(HG2.out v').2.2] at this
              exact this
            have w9 : IntKind.i64.wrap ((i : Int) + 1) = (i : Int) + 1 := by rw [IntKind.wrap_i64]; omega
            have t1 : Hid (1 = 1) := rfl
            have hga := HGA0.out
            go_wp2_with (first
              | (have hh := t1; clear hh t1; refine wpList_load_mid rfl 33 (.tmp 23) rfl P 0 rfl [.int .u64 lsn, .slice oa2 os2.length cap2] _ rg Try.underlying33 rfl size33 ?_)
              | (go_at_call 13; refine hnote.mono ?_; clear hnote; rintro e w5 ⟨v5, rfl, c5, o5⟩; have b5 : Below w.heap.size w w5 := F2.b.trans (o5.below F2.b.size (by rintro q (rfl | rfl) <;> have := HGW.out <;> omega)); have hlv := HLV.out w5 v5 c5)
              | (go_at_call 14; refine hlv.mono ?_; clear hlv; rintro e w6 ⟨rfl, b6⟩))
            go_roundw
            case rel => exact ⟨i + 1, _, c, by go_num, HG2.out v5, c5.below b6, b5.trans (b6.mono b5.size)⟩
            case measure => simp [intOf]; omega
      | none =>
        rw [hfp] at hf
        simp only [Option.getD_none, Option.isSome_none] at hf
        have HNO : Hid (∀ p ∈ ps, fits p.os (m : Int) = false) := fun p hp => find_none hfp hp
        clear hfp
        have hpos := full_some HG.out.1 hm66 (by rw [HG.out.2.1]; omega) HNO.out
        have hlenI := refs_all HG.out.1
        rw [HG.out.2.2] at hlenI
        obtain ⟨r, HR⟩ : ∃ r : Nat, Hid (out % (refsP ps).length = r) := ⟨_, rfl⟩
        have hr : r < (refsP ps).length := by rw [← HR.out]; exact Nat.mod_lt _ hpos
        obtain ⟨pk, sj, ⟨lsn, vp, os⟩, o, hpk, hsj, hx⟩ := refs_mem (List.getElem_mem hr)
        simp only at hsj
        have HX : Hid ((refsP ps)[r]? = some ⟨(pk : Int) + 1, (sj : Int) % 256⟩) := by show _ = _; rw [List.getElem?_eq_getElem hr, hx]
        have HAL : Hid (AL os ∧ may os = true) := HG.out.1 _ (List.mem_of_getElem? hpk)
        have hpkl := (List.getElem?_eq_some_iff.1 hpk).1
        have hpk4 : pk < k := by rw [← HG.out.2.1]; exact hpkl
        have hsj15 : sj < 15 := by have h1 := (List.getElem?_eq_some_iff.1 hsj).1; have h2 := (may_small HAL.out.2).1; omega
        have hsm : (sj : Int) % 256 = sj := by omega
        rw [hsm] at HX
        clear hx hsm
        have HLEN : Hid ((refsP ps).length = i) := by show _ = _; omega
        rw [HLEN.out] at hpos hr HR
        clear hlenI
        have hz33 := zero33
        have hz41 := zero41
        have hz38 := zero38
        go_wp2_with (go_at_call 7; refine hf.mono ?_; clear hf; rintro e wf ⟨rfl, c2, o2⟩; have b2 : Below w.heap.size w wf := b1.trans (o2.below b1.size (by rintro q (rfl | rfl) <;> have := HGW.out <;> omega)))
        have F1 : Rm w wf wf g a ps l := ⟨c2, b2, Nat.le_refl _⟩
        have HGA0 : Hid (g < wf.heap.size ∧ a < wf.heap.size ∧ w.heap.size ≤ wf.heap.size) := ⟨c2.room.lt, c2.arr.lt, b2.size⟩
        clear e1 e2 v1 v2 v3 hcw hcell x1 x2 hwj o2 c1 b1 c2 b2
        go_loopw [13] (fun d wr => ∃ (j : Nat), d = .int .i64 j ∧ j ≤ k ∧ Rm w wf wr g a ps l) (fun d _ => k - (intOf d).toNat)
        case atStart => exact ⟨0, rfl, by omega, F1⟩
        case round =>
          clear F1
          obtain ⟨j, rfl, hj, F1⟩ := hrel
          by_cases hjk : j < k
          · have hjk' : (j : Int) < (k : Int) := by omega
            obtain ⟨p, hp⟩ : ∃ p, ps[j]? = some p := ⟨_, List.getElem?_eq_getElem (by rw [HG.out.2.1]; exact hjk)⟩
            have hpg := page_in F1.r j p hp
            have HFT : Hid (∀ W v, Olds W v p.os → Calls Try.prog 8 #[.agg #[.int .u64 p.lsn, v], .int .i64 m] W fun e w' => e = .returned (.bool false) ∧ Below W.heap.size W w') := fun W v h => by
              have := fits_any p.lsn v p.os m W h
              rw [HNO.out p (List.mem_of_getElem? hp)] at this
              exact this
            obtain ⟨L0, HL0⟩ : ∃ L0, Hid (p.lsn = L0) := ⟨_, rfl⟩
            unfold CopU at hpg
            rw [HL0.out] at hpg HFT
            clear hpk hsj hpkl
            go_wp2_with (first
              | (go_at_call 9; refine hpg.mono ?_; clear hpg; rintro e w5 ⟨v5, rfl, hO5, b5⟩; have F5 := F1.down b5; have hft := HFT.out w5 v5 hO5.olds)
              | (go_at_call 8; refine hft.mono ?_; clear hft; rintro e w6 ⟨rfl, b6⟩; have F6 := F5.down b6))
            go_roundw
            case rel => exact ⟨j + 1, by go_num, by omega, F6⟩
            case measure => simp [intOf]; omega
          · have hjk' : ¬ (j : Int) < (k : Int) := by omega
            obtain rfl : j = k := by omega
            have hrf := refs_any F1.r
            go_upto_region 17 with (go_at_call 10; refine hrf.mono ?_; clear hrf; rintro e w5 ⟨v5, rfl, hO5, b5⟩)
            have F5 := F1.down b5
            clear F1 b5
            obtain ⟨gL, capL, hv, _⟩ := hO5.blk (by rw [HLEN.out]; exact hpos)
            rw [HLEN.out] at hv
            subst hv
            have hcl : ∀ z u, [Value.int .u16 ((pk : Int) + 1), .int .u8 (sj : Int)][z]? = some u → w5.cell? ((⟨gL, r * 2, none⟩ : Addr).add z) = some u := fun z u hz => by
              have hz2 : z < 2 := by have := (List.getElem?_eq_some_iff.1 hz).1; simpa using this
              have h1 := World.ownsRow.cells hO5 (g := gL) rfl (r * 2 + z) u (by rw [Rf.flat_at _ r z _ HX.out hz2]; exact hz)
              rw [Addr.add_mid, Nat.zero_add] at h1
              rw [Addr.add_mid]
              exact h1
            have x1 : (out : Int).tmod (i : Int) = r := by rw [Int.tmod_eq_emod_of_nonneg (by omega), ← HR.out]; exact (Int.natCast_emod out i).symm
            have x2 : (out : Int) % (i : Int) = r := by rw [← HR.out]; exact (Int.natCast_emod out i).symm
            have x3 : IntKind.i64.wrap (out : Int) = out := by rw [IntKind.wrap_i64]; omega
            have x4 : IntKind.i64.wrap (r : Int) = r := by rw [IntKind.wrap_i64]; omega
            have x5 : ¬ (i : Int) = 0 := by omega
            have x6 : (r : Int) < (i : Int) := by omega
            have z0 : Row (w5.alloc (.cells #[.int .u16 0, .int .u8 0] 38)) w5.heap.size #[.int .u16 0, .int .u8 0] 38 := Row.new _ _ _
            have t1 : Hid (1 = 1) := rfl
            have t2 : Hid (1 = 1) := rfl
            go_upto_region 18 with (first
              | (have hh := t1; clear hh t1; refine wpList_load_any rfl 38 (.tmp 83) rfl ⟨gL, r * 2, none⟩ rfl [.int .u16 ((pk : Int) + 1), .int .u8 (sj : Int)] _ hcl Try.underlying38 rfl size38 ?_)
              | (have hh := t2; clear hh t2; refine store_cells rfl 38 (.tmp 15) (.tmp 84) rfl w5.heap.size #[.int .u16 ((pk : Int) + 1), .int .u8 (sj : Int)] rfl rfl 38 _ z0 2 size38 rfl rfl (by simp [Value.oneCell']) ?_))
            have rX := z0.set #[.int .u16 ((pk : Int) + 1), .int .u8 (sj : Int)]
            have F6 := F5.down (below_setRow ((Below.refl w5.heap.size w5).alloc (Nat.le_refl _) (.cells #[.int .u16 0, .int .u8 0] 38)) (Nat.le_refl _) #[.int .u16 ((pk : Int) + 1), .int .u8 (sj : Int)])
            have HXB : Hid (wf.heap.size ≤ w5.heap.size) := F5.sz
            clear F5 hO5 hcl x1 x2 x3 x4 x5 x6 z0
            generalize (w5.alloc (.cells #[.int .u16 0, .int .u8 0] 38)).setRow w5.heap.size #[.int .u16 ((pk : Int) + 1), .int .u8 (sj : Int)] = w6 at rX F6 ⊢
            generalize w5.heap.size = X at rX HXB ⊢
            have y1 : IntKind.i64.wrap ((pk : Int) + 1) = (pk : Int) + 1 := by rw [IntKind.wrap_i64]; omega
            have y2 : IntKind.i64.wrap ((pk : Int) + 1 - 1) = pk := by rw [IntKind.wrap_i64]; omega
            have rX0 := row_at rX 0 _ rfl
            have hpg := page_in F6.r pk _ hpk
            unfold CopU at hpg
            have t2 : Hid (1 = 1) := rfl
            go_upto_region 19 with (first
              | (go_at_call 9; refine hpg.mono ?_; clear hpg; rintro e w7 ⟨v7, rfl, hO7, b7⟩; obtain ⟨oa7, cap7, rfl⟩ := hO7.form; have z0 : Row (w7.alloc (.cells #[.int .u64 0, .slice none 0 0] 33)) w7.heap.size #[.int .u64 0, .slice none 0 0] 33 := Row.new _ _ _)
              | (have hh := t2; clear hh t2; refine store_cells rfl 33 (.tmp 16) (.tmp 90) rfl w7.heap.size #[.int .u64 lsn, .slice oa7 os.length cap7] rfl rfl 33 _ z0 2 size33 rfl rfl (by simp [Value.oneCell']) ?_))
            have hb8 : Below w7.heap.size w7 ((w7.alloc (.cells #[.int .u64 0, .slice none 0 0] 33)).setRow w7.heap.size #[.int .u64 lsn, .slice oa7 os.length cap7]) := below_setRow ((Below.refl _ _).alloc (Nat.le_refl _) _) (Nat.le_refl _) _
            have rU := z0.set #[.int .u64 lsn, .slice oa7 os.length cap7]
            have F8 := (F6.down b7).down hb8
            have rX8 := (rX.below b7 rX.lt).below hb8 (rX.below b7 rX.lt).lt
            have hO8 := hO7.olds.keep hb8
            clear F6 rX rX0 b7 hb8 hO7 z0 y1
            generalize (w7.alloc (.cells #[.int .u64 0, .slice none 0 0] 33)).setRow w7.heap.size #[.int .u64 lsn, .slice oa7 os.length cap7] = w8 at rU F8 rX8 hO8 ⊢
            generalize w7.heap.size = U at rU ⊢
            have hgt := get_any lsn _ os sj (by omega) w8 hO8
            have hg2 := HAL.out.1.got HAL.out.2 hsj
            rw [hg2] at hgt
            unfold Got at hgt
            obtain ⟨ol, op, ot, on, ons, dl⟩ := o
            unfold O.arr at hgt
            simp only at hgt
            have rX1 := row_at rX8 1 _ rfl
            have t1 : Hid (1 = 1) := rfl
            have t2 : Hid (1 = 1) := rfl
            go_upto_region 20 with (first
              | (have hh := t1; clear hh t1; refine wpList_load_row rfl 33 (.tmp 16) rfl U rfl 33 _ (0, 0) _ rU Try.underlying33 rfl size33 ?_)
              | (go_at_call 11; refine hgt.mono ?_; clear hgt; rintro e w9 ⟨rfl, b9⟩; have z0 : Row (w9.alloc (.cells #[.bool false, .int .u16 0, .int .u32 0, .int .u16 0, .int .u8 0, .string ByteArray.empty] 41)) w9.heap.size #[.bool false, .int .u16 0, .int .u32 0, .int .u16 0, .int .u8 0, .string ByteArray.empty] 41 := Row.new _ _ _)
              | (have hh := t2; clear hh t2; refine store_cells rfl 41 (.tmp 17) (.tmp 96) rfl w9.heap.size #[.bool ol, .int .u16 op, .int .u32 ot, .int .u16 on, .int .u8 ons, .string dl] rfl rfl 41 _ z0 6 size41 rfl rfl (by simp [Value.oneCell']) ?_))
            have hb10 : Below w9.heap.size w9 ((w9.alloc (.cells #[.bool false, .int .u16 0, .int .u32 0, .int .u16 0, .int .u8 0, .string ByteArray.empty] 41)).setRow w9.heap.size #[.bool ol, .int .u16 op, .int .u32 ot, .int .u16 on, .int .u8 ons, .string dl]) := below_setRow ((Below.refl _ _).alloc (Nat.le_refl _) _) (Nat.le_refl _) _
            have rD := z0.set #[.bool ol, .int .u16 op, .int .u32 ot, .int .u16 on, .int .u8 ons, .string dl]
            have F10 := (F8.down b9).down hb10
            have rX10 := (rX8.below b9 rX8.lt).below hb10 (rX8.below b9 rX8.lt).lt
            have rU10 := (rU.below b9 rU.lt).below hb10 (rU.below b9 rU.lt).lt
            have hO10 := (hO8.keep b9).keep hb10
            clear F8 rX8 rX1 rU hO8 b9 hb10 z0
            generalize (w9.alloc (.cells #[.bool false, .int .u16 0, .int .u32 0, .int .u16 0, .int .u8 0, .string ByteArray.empty] 41)).setRow w9.heap.size #[.bool ol, .int .u16 op, .int .u32 ot, .int .u16 on, .int .u8 ons, .string dl] = w10 at rD F10 rX10 rU10 hO10 ⊢
            generalize w9.heap.size = D at rD ⊢
            have hfr := free_any lsn _ os sj (by omega) w10 hO10
            have g2 : (got os sj).2 = true := by rw [hg2]
            have ge : freeE os sj = 0 := by unfold freeE; rw [g2]; rfl
            simp only [g2, if_true, ge] at hfr
            unfold Ans at hfr
            have HFL : Hid ((freed os sj).length ≤ 15) := (may_small (free_good hg2).1).1
            clear g2 ge hg2
            have rX1 := row_at rX10 1 _ rfl
            have t1 : Hid (1 = 1) := rfl
            have t2 : Hid (1 = 1) := rfl
            go_upto_region 21 with (first
              | (have hh := t1; clear hh t1; refine wpList_load_row rfl 33 (.tmp 16) rfl U rfl 33 _ (0, 0) _ rU10 Try.underlying33 rfl size33 ?_)
              | (go_at_call 12; refine hfr.mono ?_; clear hfr; rintro e w11 ⟨v11, rfl, hO11, b11⟩; obtain ⟨oa11, cap11, rfl⟩ := hO11.form; have z0 : Row (w11.alloc (.cells #[.int .u64 0, .slice none 0 0] 33)) w11.heap.size #[.int .u64 0, .slice none 0 0] 33 := Row.new _ _ _)
              | (have hh := t2; clear hh t2; refine store_cells rfl 33 (.tmp 19) (.tmp 103) rfl w11.heap.size #[.int .u64 lsn, .slice oa11 (freed os sj).length cap11] rfl rfl 33 _ z0 2 size33 rfl rfl (by simp [Value.oneCell']) ?_))
            have hb12 : Below w11.heap.size w11 ((w11.alloc (.cells #[.int .u64 0, .slice none 0 0] 33)).setRow w11.heap.size #[.int .u64 lsn, .slice oa11 (freed os sj).length cap11]) := below_setRow ((Below.refl _ _).alloc (Nat.le_refl _) _) (Nat.le_refl _) _
            have rV := z0.set #[.int .u64 lsn, .slice oa11 (freed os sj).length cap11]
            have F12 := (F10.down b11).down hb12
            have rX12 := (rX10.below b11 rX10.lt).below hb12 (rX10.below b11 rX10.lt).lt
            have rD12 := (rD.below b11 rD.lt).below hb12 (rD.below b11 rD.lt).lt
            have hO12 := hO11.olds.keep hb12
            clear F10 rX10 rX1 rU10 hO10 hO11 b11 hb12 z0 rD
            generalize (w11.alloc (.cells #[.int .u64 0, .slice none 0 0] 33)).setRow w11.heap.size #[.int .u64 lsn, .slice oa11 (freed os sj).length cap11] = w12 at rV F12 rX12 rD12 hO12 ⊢
            generalize w11.heap.size = V at rV ⊢
            have hnt := note_in F12.r pk hpkl lsn _ (freed os sj) hO12 (by have := HFL.out; omega)
            unfold Noted at hnt
            obtain ⟨fo, HFO⟩ : ∃ fo, Hid (freed os sj = fo) := ⟨_, rfl⟩
            have HROOM : Hid (∀ q : Nat, q ≤ dl.size → fits fo q = true) := fun q hq => by rw [← HFO.out]; exact HAL.out.1.room HAL.out.2 hsj q hq
            have HLIV : Hid (liveN fo = liveN os - 1) := by show _ = _; rw [← HFO.out]; exact live_free HAL.out.1 hsj
            rw [HFO.out] at hnt rV
            have y1 : IntKind.i64.wrap ((pk : Int) + 1) = (pk : Int) + 1 := by rw [IntKind.wrap_i64]; omega
            have rX0 := row_at rX12 0 _ rfl
            have t1 : Hid (1 = 1) := rfl
            go_upto_region 22 with (first
              | (have hh := t1; clear hh t1; refine wpList_load_row rfl 33 (.tmp 19) rfl V rfl 33 _ (0, 0) _ rV Try.underlying33 rfl size33 ?_)
              | (go_at_call 13; refine hnt.mono ?_; clear hnt; rintro e w13 ⟨v13, rfl, c13, o13⟩))
            have rD13 := rD12.off o13 (by rintro (q | q) <;> subst q; exact rD12.ne F12.r.room (by decide) rfl; exact rD12.ne F12.r.arr (by decide) rfl)
            have b13 : Below w.heap.size w w13 := F12.b.trans (o13.below F12.b.size (by rintro q (rfl | rfl) <;> have := HGW.out <;> omega))
            clear F12 rX12 rD12 rV hO12 o13 rX0 y1 y2
            have HPS : Hid (∀ z : Nat, z ≤ dl.size → ∃ c, findP (ps.set pk ⟨lsn, v13, fo⟩) l z = some c) := fun z hz => find_some l (k := pk) (p := ⟨lsn, v13, fo⟩) (List.getElem?_set_self hpkl) (HROOM.out z hz)
            have HL13 : Hid (liveP (ps.set pk ⟨lsn, v13, fo⟩) = (i : Int) - 1) := by show _ = _; rw [liveP_set hpk, HG.out.2.2]; show _ - liveN os + liveN fo = _; rw [HLIV.out]; omega
            generalize ps.set pk ⟨lsn, v13, fo⟩ = ps2 at c13 HPS HL13
            obtain ⟨q, HQ⟩ : ∃ q : Nat, Hid (min m dl.size = q) := ⟨_, rfl⟩
            have hq1 : min (m : Int) (dl.size : Int) = q := by rw [← HQ.out]; omega
            obtain ⟨cc, hcc⟩ := HPS.out q (by rw [← HQ.out]; exact Nat.min_le_right _ _)
            have hf2 := find_any c13 (q : Int)
            unfold Found at hf2
            rw [hcc] at hf2
            simp only [Option.getD_some, Option.isSome_some] at hf2
            have HL2 : Hid (∀ W, RAt W g a ps2 cc → Calls Try.prog 14 #[.pointer (some ⟨g, 0, none⟩)] W fun e w' => e = .returned (.int .i64 ((i : Int) - 1)) ∧ Below W.heap.size W w') := fun W hc => by
              have := rlive_any hc
              rw [HL13.out] at this
              exact this
            have rD5 := row_at rD13 5 _ rfl
            have y3 : IntKind.i64.wrap ((i : Int) - 1) = (i : Int) - 1 := by rw [IntKind.wrap_i64]; omega
            go_wp2_with (first
              | (go_at_call 7; refine hf2.mono ?_; clear hf2; rintro e w14 ⟨rfl, c14, o14⟩; have b14 : Below w.heap.size w w14 := b13.trans (o14.below b13.size (by rintro q (rfl | rfl) <;> have := HGW.out <;> omega)); have hl2 := HL2.out w14 c14)
              | (go_at_call 14; refine hl2.mono ?_; clear hl2; rintro e w15 ⟨rfl, b15⟩)
              | (go_at_call 6; refine (HA.out _).mono ?_; rintro e w16 ⟨rfl, b16⟩))
            go_ret
            have b17 := b14.trans (b15.mono b14.size)
            exact ⟨rfl, b17.trans (b16.mono b17.size)⟩
end Go.Proofs.Ytddhjkgefninbab
