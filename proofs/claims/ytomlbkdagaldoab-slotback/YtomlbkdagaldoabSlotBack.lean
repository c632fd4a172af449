/-
  Proved: for every undo page and every record the Go function varvelaw07.SlotBack returns true and leaves its arguments as they were; no condition.
-/
import Derived.Test.YtomlbkdagaldoabHeld
namespace Go.Proofs.Ytomlbkdagaldoab.slotBack
open Go.ChangeShapes Go.WideShapes Go.ChangeAt Go.RowKit
open Go.Deep
set_option linter.unusedVariables false
set_option linter.unusedSimpArgs false

theorem own : ownKnob Try.prog.godebug = none := by kernel_rfl

set_option maxHeartbeats 4000000 in
theorem walk (w : World) (lsn : Int) (v : Value) (os : List O) (o : O) (ho : Olds w v os) :
    Calls Try.prog 4 #[.agg #[.int .u64 lsn, v], .agg o.arr] w fun e w' => e = .returned (.bool true) ∧ Below w.heap.size w w' := by
  obtain ⟨oa, cap, rfl, _⟩ := ho.open
  obtain ⟨n, HN⟩ : ∃ n, Hid (os.length = n) := ⟨_, rfl⟩
  rw [HN.out] at ho ⊢
  have hz := zero25
  have hz3 := zero31
  have x0 : Bx w ((w.alloc (.cells #[.int .u64 lsn, .slice oa n cap] 25)).alloc (.cells o.arr 31)) lsn (.slice oa n cap) o := ⟨(Row.new _ _ _).alloc _, by have := Row.new (w.alloc (.cells #[.int .u64 lsn, .slice oa n cap] 25)) o.arr 31; simpa using this, ((Below.refl _ _).alloc (Nat.le_refl _) _).alloc (by simp) _⟩
  go_enter Try.func4, Try.ntmps4
  go_upto_region 1 with fail
  generalize (w.alloc (.cells #[.int .u64 lsn, .slice oa n cap] 25)).alloc (.cells o.arr 31) = w1 at x0 ⊢
  have c1 := row_at x0.u 1 _ rfl
  by_cases hn : n > 100
  · have hn' : (n : Int) > 100 := by omega
    go_wp2_with (go_at_call 7; refine (awake_any _).mono ?_; rintro e w2 ⟨rfl, b2⟩)
    go_ret
    exact ⟨rfl, (x0.down b2).b⟩
  have hn' : ¬ (n : Int) > 100 := by omega
  have hn1 : os.length ≤ 1000000000 := by rw [HN.out]; omega
  go_upto_region 3 with fail
  clear c1
  go_cut [5, 6, 7] from 17 to 24 (fun a b c wx => ∃ P v2, a = .pointer (some ⟨P, 0, none⟩) ∧ b = .int .u8 (addS os o) ∧ c = .int .i64 (addE os o) ∧ Bx w wx lsn (.slice oa n cap) o ∧ Pg w wx P (addL lsn os o) v2 (addR os o))
  case first =>
    refine wp_region_held_drew (S := fun w' => Bx w w' lsn (.slice oa n cap) o) (by kernel_rfl) (x0.down (Below.refl _ _).drew) fun hS => ?_
    refine wpAnyH_take (i := 0) (v := .agg #[.int .u64 lsn, .slice oa n cap]) rfl (by kernel_rfl) (by kernel_rfl) (by kernel_rfl) (fun _ _ _ h => h) (yields_st (by rfl) 25 (.tmp 2) rfl (w.heap.size) rfl 25 #[.int .u64 lsn, .slice oa n cap] (fun w h => h.u) Try.underlying25 rfl size25) hS ?_
    try simp only [Act.put, List.getElem_toArray, List.getElem_cons_zero, List.getElem_cons_succ, List.setIfInBounds_toArray, List.set_cons_zero, List.set_cons_succ]
    refine wpAnyH_take (i := 2) (v := .agg o.arr) rfl (by kernel_rfl) (by kernel_rfl) (by kernel_rfl) (fun _ _ _ h => h) (yields_st (by rfl) 31 (.tmp 3) rfl (w.heap.size + 1) rfl 31 o.arr (fun w h => h.o) Try.underlying31 rfl size31) hS ?_
    try simp only [Act.put, List.getElem_toArray, List.getElem_cons_zero, List.getElem_cons_succ, List.setIfInBounds_toArray, List.set_cons_zero, List.set_cons_succ]
    refine wpAnyH_ready (rs := [1, 8]) (by kernel_rfl) (by simp) ?_
    refine AllReadyH.cons rfl (fun K hK => ?_) (AllReadyH.cons rfl (fun K hK => ?_) AllReadyH.nil)
    · go_simp
      go_at_call 9
      refine (kept_any lsn _ os _ (ho.keep hS.b) (by omega)).mono ?_
      rintro e wc ⟨v1, rfl, hO1, b1⟩
      refine hK.out _ _ (hS.down b1) fun hS => ?_
      try simp only [Act.put, List.getElem_toArray, List.getElem_cons_zero, List.getElem_cons_succ, List.setIfInBounds_toArray, List.set_cons_zero, List.set_cons_succ]
      have hwc : Hid (w.heap.size + 2 ≤ wc.heap.size) := hS.o.lt
      refine wpAnyH_ready (rs := [3, 8]) (by kernel_rfl) (by simp) ?_
      refine AllReadyH.cons rfl (fun K hK => ?_) (AllReadyH.cons rfl (fun K hK => ?_) AllReadyH.nil)
      · go_simp
        go_at_call 8
        refine (add_any lsn _ os o _ (hO1.olds)).mono ?_
        rintro e wd ⟨v2, rfl, hO2, b2⟩
        refine hK.out _ _ (hS.down b2) fun hS => ?_
        try simp only [Act.put, List.getElem_toArray, List.getElem_cons_zero, List.getElem_cons_succ, List.setIfInBounds_toArray, List.set_cons_zero, List.set_cons_succ]
        refine wpAnyH_take (i := 4) (v := .tuple #[.agg #[.int .u64 (addL lsn os o), v2], .int .u8 (addS os o), .int .i64 (addE os o)]) rfl (by kernel_rfl) (by kernel_rfl) (by kernel_rfl) (fun _ _ _ h => h) (Or.inl ⟨by rfl, fun w _ => by go_simp⟩) hS ?_
        try simp only [Act.put, List.getElem_toArray, List.getElem_cons_zero, List.getElem_cons_succ, List.setIfInBounds_toArray, List.set_cons_zero, List.set_cons_succ]
        refine wpAnyH_take (i := 5) (v := .agg #[.int .u64 (addL lsn os o), v2]) rfl (by kernel_rfl) (by kernel_rfl) (by kernel_rfl) (fun _ _ _ h => h) (Or.inl ⟨by rfl, fun w _ => by go_simp⟩) hS ?_
        try simp only [Act.put, List.getElem_toArray, List.getElem_cons_zero, List.getElem_cons_succ, List.setIfInBounds_toArray, List.set_cons_zero, List.set_cons_succ]
        refine wpAnyH_take (i := 6) (v := .int .u8 (addS os o)) rfl (by kernel_rfl) (by kernel_rfl) (by kernel_rfl) (fun _ _ _ h => h) (Or.inl ⟨by rfl, fun w _ => by go_simp⟩) hS ?_
        try simp only [Act.put, List.getElem_toArray, List.getElem_cons_zero, List.getElem_cons_succ, List.setIfInBounds_toArray, List.set_cons_zero, List.set_cons_succ]
        refine wpAnyH_take (i := 7) (v := .int .i64 (addE os o)) rfl (by kernel_rfl) (by kernel_rfl) (by kernel_rfl) (fun _ _ _ h => h) (Or.inl ⟨by rfl, fun w _ => by go_simp⟩) hS ?_
        try simp only [Act.put, List.getElem_toArray, List.getElem_cons_zero, List.getElem_cons_succ, List.setIfInBounds_toArray, List.set_cons_zero, List.set_cons_succ]
        refine wpAnyH_ready (rs := [8]) (by kernel_rfl) (by simp) ?_
        refine AllReadyH.cons rfl (fun K hK => ?_) AllReadyH.nil
        · go_simp
          refine hK.out _ _ (hS.down ((Below.refl _ _).alloc (Nat.le_refl _) _)) fun hS => ?_
          try simp only [Act.put, List.getElem_toArray, List.getElem_cons_zero, List.getElem_cons_succ, List.setIfInBounds_toArray, List.set_cons_zero, List.set_cons_succ]
          have yP := Row.new wd #[.int .u64 0, .slice none 0 0] 25
          have zO := hO2.alloc (.cells #[.int .u64 0, .slice none 0 0] 25)
          have hP : w.heap.size + 2 ≤ wd.heap.size := Nat.le_trans hwc.out b2.size
          obtain ⟨oa2, cap2, rfl⟩ := zO.form
          refine wpAnyH_ready (rs := [9]) (by kernel_rfl) (by simp) ?_
          refine AllReadyH.cons rfl (fun K hK => ?_) AllReadyH.nil
          refine step_cells rfl 25 (.tmp 5) (.tmp 22) rfl (wd.heap.size) #[.int .u64 (addL lsn os o), .slice oa2 (addR os o).length cap2] rfl rfl 25 _ yP 2 size25 rfl rfl (by simp [Value.oneCell']) (hK.out _ _ (hS.setRow _ hP _) fun hS => ?_)
          try simp only [Act.put, List.getElem_toArray, List.getElem_cons_zero, List.getElem_cons_succ, List.setIfInBounds_toArray, List.set_cons_zero, List.set_cons_succ]
          refine wpAnyH_take (i := 10) (v := .int .u8 (addS os o)) rfl (by kernel_rfl) (by kernel_rfl) (by kernel_rfl) (fun _ _ _ h => h) (Or.inl ⟨by rfl, fun w _ => by go_simp⟩) hS ?_
          try simp only [Act.put, List.getElem_toArray, List.getElem_cons_zero, List.getElem_cons_succ, List.setIfInBounds_toArray, List.set_cons_zero, List.set_cons_succ]
          refine wpAnyH_take (i := 11) (v := .int .i64 (addE os o)) rfl (by kernel_rfl) (by kernel_rfl) (by kernel_rfl) (fun _ _ _ h => h) (Or.inl ⟨by rfl, fun w _ => by go_simp⟩) hS ?_
          try simp only [Act.put, List.getElem_toArray, List.getElem_cons_zero, List.getElem_cons_succ, List.setIfInBounds_toArray, List.set_cons_zero, List.set_cons_succ]
          refine wpAnyH_done (by kernel_rfl) ?_ _
          go_wp2
          go_meet
          exact ⟨_, _, rfl, rfl, rfl, hS, ⟨yP.set _, (zO.rowOther yP _).base (hwc.out), hP⟩⟩
      · go_simp
        refine hK.out _ _ (hS.down ((Below.refl _ _).alloc (Nat.le_refl _) _)) fun hS => ?_
        try simp only [Act.put, List.getElem_toArray, List.getElem_cons_zero, List.getElem_cons_succ, List.setIfInBounds_toArray, List.set_cons_zero, List.set_cons_succ]
        refine wpAnyH_ready (rs := [3]) (by kernel_rfl) (by simp) ?_
        refine AllReadyH.cons rfl (fun K hK => ?_) AllReadyH.nil
        · go_simp
          go_at_call 8
          refine (add_any lsn _ os o _ ((hO1.alloc _).olds)).mono ?_
          rintro e wd ⟨v2, rfl, hO2, b2⟩
          refine hK.out _ _ (hS.down b2) fun hS => ?_
          try simp only [Act.put, List.getElem_toArray, List.getElem_cons_zero, List.getElem_cons_succ, List.setIfInBounds_toArray, List.set_cons_zero, List.set_cons_succ]
          refine wpAnyH_take (i := 4) (v := .tuple #[.agg #[.int .u64 (addL lsn os o), v2], .int .u8 (addS os o), .int .i64 (addE os o)]) rfl (by kernel_rfl) (by kernel_rfl) (by kernel_rfl) (fun _ _ _ h => h) (Or.inl ⟨by rfl, fun w _ => by go_simp⟩) hS ?_
          try simp only [Act.put, List.getElem_toArray, List.getElem_cons_zero, List.getElem_cons_succ, List.setIfInBounds_toArray, List.set_cons_zero, List.set_cons_succ]
          refine wpAnyH_take (i := 5) (v := .agg #[.int .u64 (addL lsn os o), v2]) rfl (by kernel_rfl) (by kernel_rfl) (by kernel_rfl) (fun _ _ _ h => h) (Or.inl ⟨by rfl, fun w _ => by go_simp⟩) hS ?_
          try simp only [Act.put, List.getElem_toArray, List.getElem_cons_zero, List.getElem_cons_succ, List.setIfInBounds_toArray, List.set_cons_zero, List.set_cons_succ]
          refine wpAnyH_take (i := 6) (v := .int .u8 (addS os o)) rfl (by kernel_rfl) (by kernel_rfl) (by kernel_rfl) (fun _ _ _ h => h) (Or.inl ⟨by rfl, fun w _ => by go_simp⟩) hS ?_
          try simp only [Act.put, List.getElem_toArray, List.getElem_cons_zero, List.getElem_cons_succ, List.setIfInBounds_toArray, List.set_cons_zero, List.set_cons_succ]
          refine wpAnyH_take (i := 7) (v := .int .i64 (addE os o)) rfl (by kernel_rfl) (by kernel_rfl) (by kernel_rfl) (fun _ _ _ h => h) (Or.inl ⟨by rfl, fun w _ => by go_simp⟩) hS ?_
          try simp only [Act.put, List.getElem_toArray, List.getElem_cons_zero, List.getElem_cons_succ, List.setIfInBounds_toArray, List.set_cons_zero, List.set_cons_succ]
          have yP := (Row.new wc #[.int .u64 0, .slice none 0 0] 25).below b2 (Row.new wc #[.int .u64 0, .slice none 0 0] 25).lt
          have zO := hO2
          have hP : w.heap.size + 2 ≤ wc.heap.size := hwc.out
          obtain ⟨oa2, cap2, rfl⟩ := zO.form
          refine wpAnyH_ready (rs := [9]) (by kernel_rfl) (by simp) ?_
          refine AllReadyH.cons rfl (fun K hK => ?_) AllReadyH.nil
          refine step_cells rfl 25 (.tmp 5) (.tmp 22) rfl (wc.heap.size) #[.int .u64 (addL lsn os o), .slice oa2 (addR os o).length cap2] rfl rfl 25 _ yP 2 size25 rfl rfl (by simp [Value.oneCell']) (hK.out _ _ (hS.setRow _ hP _) fun hS => ?_)
          try simp only [Act.put, List.getElem_toArray, List.getElem_cons_zero, List.getElem_cons_succ, List.setIfInBounds_toArray, List.set_cons_zero, List.set_cons_succ]
          refine wpAnyH_take (i := 10) (v := .int .u8 (addS os o)) rfl (by kernel_rfl) (by kernel_rfl) (by kernel_rfl) (fun _ _ _ h => h) (Or.inl ⟨by rfl, fun w _ => by go_simp⟩) hS ?_
          try simp only [Act.put, List.getElem_toArray, List.getElem_cons_zero, List.getElem_cons_succ, List.setIfInBounds_toArray, List.set_cons_zero, List.set_cons_succ]
          refine wpAnyH_take (i := 11) (v := .int .i64 (addE os o)) rfl (by kernel_rfl) (by kernel_rfl) (by kernel_rfl) (fun _ _ _ h => h) (Or.inl ⟨by rfl, fun w _ => by go_simp⟩) hS ?_
          try simp only [Act.put, List.getElem_toArray, List.getElem_cons_zero, List.getElem_cons_succ, List.setIfInBounds_toArray, List.set_cons_zero, List.set_cons_succ]
          refine wpAnyH_done (by kernel_rfl) ?_ _
          go_wp2
          go_meet
          exact ⟨_, _, rfl, rfl, rfl, hS, ⟨yP.set _, (zO.rowOther yP _).base (by have := hwc.out; simp; omega), hP⟩⟩
    · go_simp
      refine hK.out _ _ (hS.down ((Below.refl _ _).alloc (Nat.le_refl _) _)) fun hS => ?_
      try simp only [Act.put, List.getElem_toArray, List.getElem_cons_zero, List.getElem_cons_succ, List.setIfInBounds_toArray, List.set_cons_zero, List.set_cons_succ]
      refine wpAnyH_ready (rs := [1]) (by kernel_rfl) (by simp) ?_
      refine AllReadyH.cons rfl (fun K hK => ?_) AllReadyH.nil
      · go_simp
        go_at_call 9
        refine (kept_any lsn _ os _ (ho.keep hS.b) (by omega)).mono ?_
        rintro e wc ⟨v1, rfl, hO1, b1⟩
        refine hK.out _ _ (hS.down b1) fun hS => ?_
        try simp only [Act.put, List.getElem_toArray, List.getElem_cons_zero, List.getElem_cons_succ, List.setIfInBounds_toArray, List.set_cons_zero, List.set_cons_succ]
        have hwc : Hid (w.heap.size + 2 ≤ wc.heap.size) := hS.o.lt
        refine wpAnyH_ready (rs := [3]) (by kernel_rfl) (by simp) ?_
        refine AllReadyH.cons rfl (fun K hK => ?_) AllReadyH.nil
        · go_simp
          go_at_call 8
          refine (add_any lsn _ os o _ (hO1.olds)).mono ?_
          rintro e wd ⟨v2, rfl, hO2, b2⟩
          refine hK.out _ _ (hS.down b2) fun hS => ?_
          try simp only [Act.put, List.getElem_toArray, List.getElem_cons_zero, List.getElem_cons_succ, List.setIfInBounds_toArray, List.set_cons_zero, List.set_cons_succ]
          refine wpAnyH_take (i := 4) (v := .tuple #[.agg #[.int .u64 (addL lsn os o), v2], .int .u8 (addS os o), .int .i64 (addE os o)]) rfl (by kernel_rfl) (by kernel_rfl) (by kernel_rfl) (fun _ _ _ h => h) (Or.inl ⟨by rfl, fun w _ => by go_simp⟩) hS ?_
          try simp only [Act.put, List.getElem_toArray, List.getElem_cons_zero, List.getElem_cons_succ, List.setIfInBounds_toArray, List.set_cons_zero, List.set_cons_succ]
          refine wpAnyH_take (i := 5) (v := .agg #[.int .u64 (addL lsn os o), v2]) rfl (by kernel_rfl) (by kernel_rfl) (by kernel_rfl) (fun _ _ _ h => h) (Or.inl ⟨by rfl, fun w _ => by go_simp⟩) hS ?_
          try simp only [Act.put, List.getElem_toArray, List.getElem_cons_zero, List.getElem_cons_succ, List.setIfInBounds_toArray, List.set_cons_zero, List.set_cons_succ]
          refine wpAnyH_take (i := 6) (v := .int .u8 (addS os o)) rfl (by kernel_rfl) (by kernel_rfl) (by kernel_rfl) (fun _ _ _ h => h) (Or.inl ⟨by rfl, fun w _ => by go_simp⟩) hS ?_
          try simp only [Act.put, List.getElem_toArray, List.getElem_cons_zero, List.getElem_cons_succ, List.setIfInBounds_toArray, List.set_cons_zero, List.set_cons_succ]
          refine wpAnyH_take (i := 7) (v := .int .i64 (addE os o)) rfl (by kernel_rfl) (by kernel_rfl) (by kernel_rfl) (fun _ _ _ h => h) (Or.inl ⟨by rfl, fun w _ => by go_simp⟩) hS ?_
          try simp only [Act.put, List.getElem_toArray, List.getElem_cons_zero, List.getElem_cons_succ, List.setIfInBounds_toArray, List.set_cons_zero, List.set_cons_succ]
          have yP := (((show Row (w1.alloc (.cells #[.int .u64 0, .slice none 0 0] 25)).drew w1.heap.size #[.int .u64 0, .slice none 0 0] 25 from Row.new w1 #[.int .u64 0, .slice none 0 0] 25)).below b1 (Row.new w1 #[.int .u64 0, .slice none 0 0] 25).lt).below b2 (((show Row (w1.alloc (.cells #[.int .u64 0, .slice none 0 0] 25)).drew w1.heap.size #[.int .u64 0, .slice none 0 0] 25 from Row.new w1 #[.int .u64 0, .slice none 0 0] 25)).below b1 (Row.new w1 #[.int .u64 0, .slice none 0 0] 25).lt).lt
          have zO := hO2
          have hP : w.heap.size + 2 ≤ w1.heap.size := x0.o.lt
          obtain ⟨oa2, cap2, rfl⟩ := zO.form
          refine wpAnyH_ready (rs := [9]) (by kernel_rfl) (by simp) ?_
          refine AllReadyH.cons rfl (fun K hK => ?_) AllReadyH.nil
          refine step_cells rfl 25 (.tmp 5) (.tmp 22) rfl (w1.heap.size) #[.int .u64 (addL lsn os o), .slice oa2 (addR os o).length cap2] rfl rfl 25 _ yP 2 size25 rfl rfl (by simp [Value.oneCell']) (hK.out _ _ (hS.setRow _ hP _) fun hS => ?_)
          try simp only [Act.put, List.getElem_toArray, List.getElem_cons_zero, List.getElem_cons_succ, List.setIfInBounds_toArray, List.set_cons_zero, List.set_cons_succ]
          refine wpAnyH_take (i := 10) (v := .int .u8 (addS os o)) rfl (by kernel_rfl) (by kernel_rfl) (by kernel_rfl) (fun _ _ _ h => h) (Or.inl ⟨by rfl, fun w _ => by go_simp⟩) hS ?_
          try simp only [Act.put, List.getElem_toArray, List.getElem_cons_zero, List.getElem_cons_succ, List.setIfInBounds_toArray, List.set_cons_zero, List.set_cons_succ]
          refine wpAnyH_take (i := 11) (v := .int .i64 (addE os o)) rfl (by kernel_rfl) (by kernel_rfl) (by kernel_rfl) (fun _ _ _ h => h) (Or.inl ⟨by rfl, fun w _ => by go_simp⟩) hS ?_
          try simp only [Act.put, List.getElem_toArray, List.getElem_cons_zero, List.getElem_cons_succ, List.setIfInBounds_toArray, List.set_cons_zero, List.set_cons_succ]
          refine wpAnyH_done (by kernel_rfl) ?_ _
          go_wp2
          go_meet
          exact ⟨_, _, rfl, rfl, rfl, hS, ⟨yP.set _, (zO.rowOther yP _).base (hwc.out), hP⟩⟩
  case rest =>
    obtain ⟨P, v2, rfl, rfl, rfl, X1, G1⟩ := hcut
    by_cases hE : addE os o = 0
    · obtain ⟨hs15, hl15, hla15⟩ := spare_small hE
      have e1 : addL lsn os o = lsn := by unfold addL; rw [if_pos hE]
      have e2 : addR os o = added os o := by unfold addR; rw [if_pos hE]
      have e3 : addS os o = (spareAt os : Nat) := by unfold addS; rw [if_pos hE]
      rw [e1, e2] at G1
      rw [e3, hE]
      have hgt := added_got hE
      have hfr := freed_added hE
      obtain ⟨hf, hmd⟩ := addE_ok hE
      have hlive : o.live = true := by unfold fit at hf; simp only [Bool.and_eq_true] at hf; exact hf.1.2
      have hla := live_added (os := os) hlive
      have hn2 : Hid ((added os o).length ≤ 1000) := Nat.le_trans hla15 (by omega)
      have hn3 : Hid (os.length ≤ 1000) := Nat.le_trans hl15 (by omega)
      have hn4 : Hid ((added os o).length ≤ 1000000000) := Nat.le_trans hla15 (by omega)
      have hlb := live_le os os.length (Nat.le_refl _)
      rw [List.take_length] at hlb
      obtain ⟨z, hlo⟩ : ∃ z, liveN os = z := ⟨_, rfl⟩
      rw [hlo] at hla hlb
      have hzw : IntKind.i64.wrap (z + 1) = z + 1 := by rw [IntKind.wrap_i64]; omega
      obtain ⟨s, HS⟩ : ∃ s, Hid (spareAt os = s) := ⟨_, rfl⟩
      rw [HS.out] at hgt hfr hs15 ⊢
      have hs256 : s < 256 := by omega
      have HFR := show Hid _ from hfr
      have HGT := show Hid _ from hgt
      have HHE := show Hid _ from hE
      have HMD := show Hid _ from hmd
      have HLA := show Hid _ from hla
      have HLO := show Hid _ from hlo
      clear e1 e2 e3 hfr hgt hE hf hlive hmd hla hlo hla15 hl15 hs15 hlb
      have hk := kept_any lsn v2 (added os o) wc G1.own.olds hn4.out
      have rg := range_two G1.row
      have tl : Hid (1 = 1) := rfl
      have ts : Hid (1 = 1) := rfl
      obtain ⟨oa2, cap2, rfl⟩ := G1.own.form
      go_upto_region 7 with (first
        | (have hh := tl; clear hh tl; refine wpList_load_mid rfl 25 (.tmp 5) rfl P 0 rfl [.int .u64 lsn, .slice oa2 (added os o).length cap2] _ rg Try.underlying25 rfl size25 ?_)
        | (go_at_call 9; refine hk.mono ?_; rintro e w2 ⟨v3, rfl, hO3, b3⟩)
        | (go_at_call 12; refine (get_any lsn v3 (added os o) s hs256 w2 hO3.olds).mono ?_; rw [HGT.out]; rintro e w3 ⟨rfl, b4⟩
           have y0 : Row (w3.alloc (.cells #[.bool false, .int .u16 0, .int .u32 0, .int .u16 0, .int .u8 0, .string ByteArray.empty] 31)) w3.heap.size #[.bool false, .int .u16 0, .int .u32 0, .int .u16 0, .int .u8 0, .string ByteArray.empty] 31 := Row.new _ _ _)
        | (have hh := ts; clear hh ts; refine store_cells rfl 31 (.tmp 8) (.tmp 39) rfl w3.heap.size o.arr rfl rfl 31 _ y0 6 size31 rfl rfl (arr_one _) ?_))
      have b5 : Below w3.heap.size w3 ((w3.alloc (.cells #[.bool false, .int .u16 0, .int .u32 0, .int .u16 0, .int .u8 0, .string ByteArray.empty] 31)).setRow w3.heap.size o.arr) := below_setRow ((Below.refl _ _).alloc (Nat.le_refl _) _) (Nat.le_refl _) _
      have X3 := ((X1.down b3).down b4).down b5
      have G3 := ((G1.down b3).down b4).down b5
      have yR : Row ((w3.alloc (.cells #[.bool false, .int .u16 0, .int .u32 0, .int .u16 0, .int .u8 0, .string ByteArray.empty] 31)).setRow w3.heap.size o.arr) w3.heap.size o.arr 31 := y0.set _
      clear b3 b4 b5 y0 hO3 rg hk X1 G1
      generalize (w3.alloc (.cells #[.bool false, .int .u16 0, .int .u32 0, .int .u16 0, .int .u8 0, .string ByteArray.empty] 31)).setRow w3.heap.size o.arr = w4 at X3 G3 yR ⊢
      generalize w3.heap.size = R at yR ⊢
      have hk := kept_any lsn _ (added os o) w4 G3.own.olds hn4.out
      have rg := range_two G3.row
      have tl : Hid (1 = 1) := rfl
      have ts : Hid (1 = 1) := rfl
      have hgt2 : (got (added os o) s).2 = true := by rw [HGT.out]
      have hfe : freeE (added os o) s = 0 := by unfold freeE; rw [hgt2]; rfl
      have hfc := fun (v : Value) (w : World) (h : Olds w v (added os o)) => free_any lsn v (added os o) s hs256 w h
      simp only [hgt2, if_true, HFR.out, hfe] at hfc
      have HFC := show Hid _ from hfc
      clear hfc hgt2 hfe
      go_upto_region 8 with (first
        | (have hh := tl; clear hh tl; refine wpList_load_mid rfl 25 (.tmp 5) rfl P 0 rfl [.int .u64 lsn, .slice oa2 (added os o).length cap2] _ rg Try.underlying25 rfl size25 ?_)
        | (go_at_call 9; refine hk.mono ?_; rintro e w5 ⟨v4, rfl, hO4, b5⟩)
        | (go_at_call 13; refine (HFC.out v4 w5 hO4.olds).mono ?_; rintro e w6 ⟨v5, rfl, hO5, b6⟩
           obtain ⟨oa5, cap5, rfl⟩ := hO5.form
           have y0 : Row (w6.alloc (.cells #[.int .u64 0, .slice none 0 0] 25)) w6.heap.size #[.int .u64 0, .slice none 0 0] 25 := Row.new _ _ _)
        | (have hh := ts; clear hh ts; refine store_cells rfl 25 (.tmp 10) (.tmp 46) rfl w6.heap.size #[.int .u64 lsn, .slice oa5 os.length cap5] rfl rfl 25 _ y0 2 size25 rfl rfl (by simp [Value.oneCell']) ?_))
      have b7 : Below w6.heap.size w6 ((w6.alloc (.cells #[.int .u64 0, .slice none 0 0] 25)).setRow w6.heap.size #[.int .u64 lsn, .slice oa5 os.length cap5]) := below_setRow ((Below.refl _ _).alloc (Nat.le_refl _) _) (Nat.le_refl _) _
      have h65 : w.heap.size + 2 ≤ w5.heap.size := Nat.le_trans (show w.heap.size + 2 ≤ w4.heap.size from X3.o.lt) b5.size
      have SB : Sb w ((w6.alloc (.cells #[.int .u64 0, .slice none 0 0] 25)).setRow w6.heap.size #[.int .u64 lsn, .slice oa5 os.length cap5]) lsn (.slice oa n cap) o P (.slice oa2 (added os o).length cap2) (added os o) R w6.heap.size (.slice oa5 os.length cap5) os := ⟨((X3.down b5).down b6).down b7, ((G3.down b5).down b6).down b7, ((yR.below b5 yR.lt).below b6 (yR.below b5 yR.lt).lt).below b7 ((yR.below b5 yR.lt).below b6 (yR.below b5 yR.lt).lt).lt, ⟨y0.set _, (hO5.keep b7).base h65, Nat.le_trans h65 b6.size⟩⟩
      clear b5 b6 b7 y0 hO4 hO5 rg hk X3 G3 yR h65 x0
      generalize (w6.alloc (.cells #[.int .u64 0, .slice none 0 0] 25)).setRow w6.heap.size #[.int .u64 lsn, .slice oa5 os.length cap5] = w7 at SB ⊢
      generalize w6.heap.size = Q at SB ⊢
      have heq : Hid (∀ w, (Op.equalIn 10000 31 (.agg o.arr) (.agg o.arr)).run Try.prog w = .ok true w) := fun w => by rw [equal31]; simp
      have hmd := HMD.out
      have hla := HLA.out
      have hlo := HLO.out
      generalize Value.slice oa2 (added os o).length cap2 = v2 at SB ⊢
      generalize Value.slice oa5 os.length cap5 = v5 at SB ⊢
      refine wp_region_held_drew (S := fun w' => Sb w w' lsn (.slice oa n cap) o P v2 (added os o) R Q v5 os) (by kernel_rfl) (SB.down (Below.refl _ _).drew) fun hS => ?_
      clear SB
      refine wpAnyH_take (i := 0) (v := .bool true) rfl (by kernel_rfl) (by kernel_rfl) (by kernel_rfl) (fun _ _ _ h => h) (Or.inl ⟨by rfl, fun w _ => by rfl⟩) hS ?_
      try simp only [Act.put, List.getElem_toArray, List.getElem_cons_zero, List.getElem_cons_succ, List.setIfInBounds_toArray, List.set_cons_zero, List.set_cons_succ]
      refine wpAnyH_take (i := 1) (v := .bool true) rfl (by kernel_rfl) (by kernel_rfl) (by kernel_rfl) (fun _ _ _ h => h) (Or.inl ⟨by rfl, fun w _ => by rfl⟩) hS ?_
      try simp only [Act.put, List.getElem_toArray, List.getElem_cons_zero, List.getElem_cons_succ, List.setIfInBounds_toArray, List.set_cons_zero, List.set_cons_succ]
      refine wpAnyH_take (i := 2) (v := .agg o.arr) rfl (by kernel_rfl) (by kernel_rfl) (by kernel_rfl) (fun _ _ _ h => h) (yields_st (by rfl) 31 (.tmp 8) rfl (R) rfl 31 o.arr (fun w h => h.r) Try.underlying31 rfl size31) hS ?_
      try simp only [Act.put, List.getElem_toArray, List.getElem_cons_zero, List.getElem_cons_succ, List.setIfInBounds_toArray, List.set_cons_zero, List.set_cons_succ]
      refine wpAnyH_take (i := 3) (v := .agg o.arr) rfl (by kernel_rfl) (by kernel_rfl) (by kernel_rfl) (fun _ _ _ h => h) (yields_st (by rfl) 31 (.tmp 3) rfl (w.heap.size + 1) rfl 31 o.arr (fun w h => h.x.o) Try.underlying31 rfl size31) hS ?_
      try simp only [Act.put, List.getElem_toArray, List.getElem_cons_zero, List.getElem_cons_succ, List.setIfInBounds_toArray, List.set_cons_zero, List.set_cons_succ]
      refine wpAnyH_take (i := 4) (v := .bool true) rfl (by kernel_rfl) (by kernel_rfl) (by kernel_rfl) (fun _ _ _ h => h) (yields_eq (by rfl) 31 31 (.tmp 50) (.tmp 51) rfl o.arr o.arr rfl rfl Try.eqGuardType31 true heq.out) hS ?_
      try simp only [Act.put, List.getElem_toArray, List.getElem_cons_zero, List.getElem_cons_succ, List.setIfInBounds_toArray, List.set_cons_zero, List.set_cons_succ]
      refine wpAnyH_take (i := 5) (v := .bool true) rfl (by kernel_rfl) (by kernel_rfl) (by kernel_rfl) (fun _ _ _ h => h) (Or.inl ⟨by rfl, fun w _ => by go_simp⟩) hS ?_
      try simp only [Act.put, List.getElem_toArray, List.getElem_cons_zero, List.getElem_cons_succ, List.setIfInBounds_toArray, List.set_cons_zero, List.set_cons_succ]
      refine wpAnyH_take (i := 6) (v := .bool true) rfl (by kernel_rfl) (by kernel_rfl) (by kernel_rfl) (fun _ _ _ h => h) (Or.inl ⟨by rfl, fun w _ => by rfl⟩) hS ?_
      try simp only [Act.put, List.getElem_toArray, List.getElem_cons_zero, List.getElem_cons_succ, List.setIfInBounds_toArray, List.set_cons_zero, List.set_cons_succ]
      refine wpAnyH_take (i := 7) (v := .int .i64 0) rfl (by kernel_rfl) (by kernel_rfl) (by kernel_rfl) (fun _ _ _ h => h) (Or.inl ⟨by rfl, fun w _ => by rfl⟩) hS ?_
      try simp only [Act.put, List.getElem_toArray, List.getElem_cons_zero, List.getElem_cons_succ, List.setIfInBounds_toArray, List.set_cons_zero, List.set_cons_succ]
      refine wpAnyH_take (i := 8) (v := .bool true) rfl (by kernel_rfl) (by kernel_rfl) (by kernel_rfl) (fun _ _ _ h => h) (Or.inl ⟨by rfl, fun w _ => by go_simp⟩) hS ?_
      try simp only [Act.put, List.getElem_toArray, List.getElem_cons_zero, List.getElem_cons_succ, List.setIfInBounds_toArray, List.set_cons_zero, List.set_cons_succ]
      refine wpAnyH_take (i := 9) (v := .bool true) rfl (by kernel_rfl) (by kernel_rfl) (by kernel_rfl) (fun _ _ _ h => h) (Or.inl ⟨by rfl, fun w _ => by go_simp⟩) hS ?_
      try simp only [Act.put, List.getElem_toArray, List.getElem_cons_zero, List.getElem_cons_succ, List.setIfInBounds_toArray, List.set_cons_zero, List.set_cons_succ]
      refine wpAnyH_take (i := 10) (v := .bool true) rfl (by kernel_rfl) (by kernel_rfl) (by kernel_rfl) (fun _ _ _ h => h) (Or.inl ⟨by rfl, fun w _ => by rfl⟩) hS ?_
      try simp only [Act.put, List.getElem_toArray, List.getElem_cons_zero, List.getElem_cons_succ, List.setIfInBounds_toArray, List.set_cons_zero, List.set_cons_succ]
      refine wpAnyH_take (i := 11) (v := .agg #[.int .u64 lsn, v5]) rfl (by kernel_rfl) (by kernel_rfl) (by kernel_rfl) (fun _ _ _ h => h) (yields_st (by rfl) 25 (.tmp 10) rfl (Q) rfl 25 #[.int .u64 lsn, v5] (fun w h => h.q.row) Try.underlying25 rfl size25) hS ?_
      try simp only [Act.put, List.getElem_toArray, List.getElem_cons_zero, List.getElem_cons_succ, List.setIfInBounds_toArray, List.set_cons_zero, List.set_cons_succ]
      refine wpAnyH_take (i := 12) (v := .agg #[.int .u64 lsn, .slice oa n cap]) rfl (by kernel_rfl) (by kernel_rfl) (by kernel_rfl) (fun _ _ _ h => h) (yields_st (by rfl) 25 (.tmp 2) rfl (w.heap.size) rfl 25 #[.int .u64 lsn, .slice oa n cap] (fun w h => h.x.u) Try.underlying25 rfl size25) hS ?_
      try simp only [Act.put, List.getElem_toArray, List.getElem_cons_zero, List.getElem_cons_succ, List.setIfInBounds_toArray, List.set_cons_zero, List.set_cons_succ]
      refine wpAnyH_ready (rs := [13]) (by kernel_rfl) (by simp) ?_
      refine AllReadyH.cons rfl (fun K hK => ?_) AllReadyH.nil
      go_simp
      go_at_call 14
      refine (same_any lsn _ _ os _ hS.q.own.olds (ho.keep hS.x.b) hn1).mono ?_
      rintro e wz ⟨rfl, hcb⟩
      refine hK.out _ _ (hS.down hcb) fun hS => ?_
      try simp only [Act.put, List.getElem_toArray, List.getElem_cons_zero, List.getElem_cons_succ, List.setIfInBounds_toArray, List.set_cons_zero, List.set_cons_succ]
      refine wpAnyH_take (i := 14) (v := .bool true) rfl (by kernel_rfl) (by kernel_rfl) (by kernel_rfl) (fun _ _ _ h => h) (Or.inl ⟨by rfl, fun w _ => by go_simp⟩) hS ?_
      try simp only [Act.put, List.getElem_toArray, List.getElem_cons_zero, List.getElem_cons_succ, List.setIfInBounds_toArray, List.set_cons_zero, List.set_cons_succ]
      refine wpAnyH_take (i := 15) (v := .bool true) rfl (by kernel_rfl) (by kernel_rfl) (by kernel_rfl) (fun _ _ _ h => h) (Or.inl ⟨by rfl, fun w _ => by rfl⟩) hS ?_
      try simp only [Act.put, List.getElem_toArray, List.getElem_cons_zero, List.getElem_cons_succ, List.setIfInBounds_toArray, List.set_cons_zero, List.set_cons_succ]
      refine wpAnyH_take (i := 16) (v := .agg #[.int .u64 lsn, v2]) rfl (by kernel_rfl) (by kernel_rfl) (by kernel_rfl) (fun _ _ _ h => h) (yields_st (by rfl) 25 (.tmp 5) rfl (P) rfl 25 #[.int .u64 lsn, v2] (fun w h => h.p.row) Try.underlying25 rfl size25) hS ?_
      try simp only [Act.put, List.getElem_toArray, List.getElem_cons_zero, List.getElem_cons_succ, List.setIfInBounds_toArray, List.set_cons_zero, List.set_cons_succ]
      refine wpAnyH_take (i := 18) (v := .agg #[.int .u64 lsn, .slice oa n cap]) rfl (by kernel_rfl) (by kernel_rfl) (by kernel_rfl) (fun _ _ _ h => h) (yields_st (by rfl) 25 (.tmp 2) rfl (w.heap.size) rfl 25 #[.int .u64 lsn, .slice oa n cap] (fun w h => h.x.u) Try.underlying25 rfl size25) hS ?_
      try simp only [Act.put, List.getElem_toArray, List.getElem_cons_zero, List.getElem_cons_succ, List.setIfInBounds_toArray, List.set_cons_zero, List.set_cons_succ]
      refine wpAnyH_ready (rs := [17]) (by kernel_rfl) (by simp) ?_
      refine AllReadyH.cons rfl (fun K hK => ?_) AllReadyH.nil
      go_simp
      go_at_call 15
      refine (live_any lsn _ (added os o) _ hS.p.own.olds hn2.out).mono ?_
      rw [hla]; rintro e wz ⟨rfl, hcb⟩
      refine hK.out _ _ (hS.down hcb) fun hS => ?_
      try simp only [Act.put, List.getElem_toArray, List.getElem_cons_zero, List.getElem_cons_succ, List.setIfInBounds_toArray, List.set_cons_zero, List.set_cons_succ]
      refine wpAnyH_ready (rs := [19]) (by kernel_rfl) (by simp) ?_
      refine AllReadyH.cons rfl (fun K hK => ?_) AllReadyH.nil
      go_simp
      go_at_call 15
      refine (live_any lsn _ os _ (ho.keep hS.x.b) hn3.out).mono ?_
      rw [hlo]; rintro e wz ⟨rfl, hcb⟩
      refine hK.out _ _ (hS.down hcb) fun hS => ?_
      try simp only [Act.put, List.getElem_toArray, List.getElem_cons_zero, List.getElem_cons_succ, List.setIfInBounds_toArray, List.set_cons_zero, List.set_cons_succ]
      refine wpAnyH_take (i := 20) (v := .int .i64 (z + 1)) rfl (by kernel_rfl) (by kernel_rfl) (by kernel_rfl) (fun _ _ _ h => h) (Or.inl ⟨by rfl, fun w _ => by go_simp⟩) hS ?_
      try simp only [Act.put, List.getElem_toArray, List.getElem_cons_zero, List.getElem_cons_succ, List.setIfInBounds_toArray, List.set_cons_zero, List.set_cons_succ]
      refine wpAnyH_take (i := 21) (v := .bool true) rfl (by kernel_rfl) (by kernel_rfl) (by kernel_rfl) (fun _ _ _ h => h) (Or.inl ⟨by rfl, fun w _ => by go_simp⟩) hS ?_
      try simp only [Act.put, List.getElem_toArray, List.getElem_cons_zero, List.getElem_cons_succ, List.setIfInBounds_toArray, List.set_cons_zero, List.set_cons_succ]
      refine wpAnyH_take (i := 22) (v := .bool true) rfl (by kernel_rfl) (by kernel_rfl) (by kernel_rfl) (fun _ _ _ h => h) (Or.inl ⟨by rfl, fun w _ => by go_simp⟩) hS ?_
      try simp only [Act.put, List.getElem_toArray, List.getElem_cons_zero, List.getElem_cons_succ, List.setIfInBounds_toArray, List.set_cons_zero, List.set_cons_succ]
      refine wpAnyH_take (i := 23) (v := .bool true) rfl (by kernel_rfl) (by kernel_rfl) (by kernel_rfl) (fun _ _ _ h => h) (Or.inl ⟨by rfl, fun w _ => by rfl⟩) hS ?_
      try simp only [Act.put, List.getElem_toArray, List.getElem_cons_zero, List.getElem_cons_succ, List.setIfInBounds_toArray, List.set_cons_zero, List.set_cons_succ]
      refine wpAnyH_take (i := 24) (v := .agg #[.int .u64 lsn, v2]) rfl (by kernel_rfl) (by kernel_rfl) (by kernel_rfl) (fun _ _ _ h => h) (yields_st (by rfl) 25 (.tmp 5) rfl (P) rfl 25 #[.int .u64 lsn, v2] (fun w h => h.p.row) Try.underlying25 rfl size25) hS ?_
      try simp only [Act.put, List.getElem_toArray, List.getElem_cons_zero, List.getElem_cons_succ, List.setIfInBounds_toArray, List.set_cons_zero, List.set_cons_succ]
      refine wpAnyH_ready (rs := [25]) (by kernel_rfl) (by simp) ?_
      refine AllReadyH.cons rfl (fun K hK => ?_) AllReadyH.nil
      go_simp
      go_at_call 11
      refine (may_any lsn _ (added os o) _ hS.p.own.olds).mono ?_
      rw [hmd]; rintro e wz ⟨rfl, hcb⟩
      refine hK.out _ _ (hS.down hcb) fun hS => ?_
      try simp only [Act.put, List.getElem_toArray, List.getElem_cons_zero, List.getElem_cons_succ, List.setIfInBounds_toArray, List.set_cons_zero, List.set_cons_succ]
      refine wpAnyH_take (i := 26) (v := .bool true) rfl (by kernel_rfl) (by kernel_rfl) (by kernel_rfl) (fun _ _ _ h => h) (Or.inl ⟨by rfl, fun w _ => by go_simp⟩) hS ?_
      try simp only [Act.put, List.getElem_toArray, List.getElem_cons_zero, List.getElem_cons_succ, List.setIfInBounds_toArray, List.set_cons_zero, List.set_cons_succ]
      refine wpAnyH_take (i := 27) (v := .bool true) rfl (by kernel_rfl) (by kernel_rfl) (by kernel_rfl) (fun _ _ _ h => h) (Or.inl ⟨by rfl, fun w _ => by rfl⟩) hS ?_
      try simp only [Act.put, List.getElem_toArray, List.getElem_cons_zero, List.getElem_cons_succ, List.setIfInBounds_toArray, List.set_cons_zero, List.set_cons_succ]
      refine wpAnyH_ready (rs := [28]) (by kernel_rfl) (by simp) ?_
      refine AllReadyH.cons rfl (fun K hK => ?_) AllReadyH.nil
      go_simp
      go_at_call 7
      refine (awake_any _).mono ?_
      rintro e wz ⟨rfl, hcb⟩
      refine hK.out _ _ (hS.down hcb) fun hS => ?_
      try simp only [Act.put, List.getElem_toArray, List.getElem_cons_zero, List.getElem_cons_succ, List.setIfInBounds_toArray, List.set_cons_zero, List.set_cons_succ]
      refine wpAnyH_take (i := 29) (v := .bool true) rfl (by kernel_rfl) (by kernel_rfl) (by kernel_rfl) (fun _ _ _ h => h) (Or.inl ⟨by rfl, fun w _ => by go_simp⟩) hS ?_
      try simp only [Act.put, List.getElem_toArray, List.getElem_cons_zero, List.getElem_cons_succ, List.setIfInBounds_toArray, List.set_cons_zero, List.set_cons_succ]
      refine wpAnyH_take (i := 30) (v := .bool true) rfl (by kernel_rfl) (by kernel_rfl) (by kernel_rfl) (fun _ _ _ h => h) (Or.inl ⟨by rfl, fun w _ => by rfl⟩) hS ?_
      try simp only [Act.put, List.getElem_toArray, List.getElem_cons_zero, List.getElem_cons_succ, List.setIfInBounds_toArray, List.set_cons_zero, List.set_cons_succ]
      refine wpAnyH_done (by kernel_rfl) ?_ _
      go_wp2
      go_ret
      exact ⟨rfl, hS.x.b⟩
    · have e2 : addR os o = [] := by unfold addR; rw [if_neg hE]
      rw [e2] at G1
      obtain ⟨oa2, cap2, rfl⟩ := G1.own.form
      have cP := row_at G1.row 1 _ rfl
      have hEb : (addE os o == 0) = false := by simpa using hE
      go_wp2_with (go_at_call 7; refine (awake_any _).mono ?_; rintro e w2 ⟨rfl, b2⟩)
      go_ret
      exact ⟨rfl, (X1.down b2).b⟩

set_option maxRecDepth 100000 in
theorem lifted (os : Os) (started : os.Started) (H : Type) (enc : TypeId × Value → H) :
    ReturnsInHanded {} Try.checked os 4 .any (Rows.slotBackSpec.pre6 enc Try.prog Try.f4 Rows.slotBackRow.domain false) (Rows.slotBackSpec.post enc Try.prog Try.f4 false true false false) := by
  refine returnsInHanded_of_change_sized (C := Try.checked) own started (by kernel_rfl) Try.func4
    (ChangeSpec.witness6 (enc := enc) (C := Try.checked) false ⟨#[], #[.agg #[.int .u64 0, .slice none 0 0], .agg #[.bool false, .int .u16 0, .int .u32 0, .int .u16 0, .int .u8 0, .string ByteArray.empty]], []⟩ 8 (by kernel_rfl) (by kernel_rfl) (by kernel_rfl) (by kernel_rfl)) ?_
  intro W base args ds gs before hval0 hW hcnd hsz0 _
  have hval : ∀ (j : Nat) t v, Try.f4.params[j]? = some t → args[j]? = some v → Value.okWide Try.prog W .any base t v := hval0
  have hW' := hW
  obtain ⟨p, q, hA0, hV, rfl, hfz, hnd⟩ := hW
  have hA : DataW.TrodAll enc Try.prog W 0 (fun _ => true) true Try.f4.params.toList args.toList ds p := hA0
  have hsz : (DataW.weightsEach Try.prog (Try.f4.params.toList ++ []) (ds ++ gs)).all (· ≤ reachBytes) = true := hsz0
  rw [Try.params4] at hA hval hsz
  obtain ⟨v0, vs0, d0, ds0, p0, q0, hargs, rfl, rfl, h0, r0⟩ := trodAll_cons hA
  obtain ⟨v1, vs1, d1, ds1, p1, q1, rfl, rfl, rfl, h1, r1⟩ := trodAll_cons r0
  obtain ⟨rfl, rfl, rfl⟩ := trodAll_nil r1
  obtain rfl : args = #[v0, v1] := by cases args; simp_all
  obtain ⟨rfl, rfl⟩ := trodVars_none hV
  simp only [List.append_nil] at hsz
  have hlt : ∀ x ∈ (p0 ++ (p1 ++ [])), x.block < W.heap.size := fun x hx => hW'.lt x (by simpa using hx)
  have hw0 : (d0.weights Try.prog 25).all (· ≤ reachBytes) = true := List.all_eq_true.2 fun m hm => List.all_eq_true.1 hsz m (by simp [DataW.weightsEach, hm])
  have hw1 : (d1.weights Try.prog 31).all (· ≤ reachBytes) = true := List.all_eq_true.2 fun m hm => List.all_eq_true.1 hsz m (by simp [DataW.weightsEach, hm])
  have k0 := h0
  have k1 := h1
  obtain ⟨a0, c0, l0, rfl, w0⟩ := open_undov (hval 0 25 v0 rfl rfl) h0 hw0
  obtain ⟨a1, rfl⟩ := open_oldv (hval 1 31 v1 rfl rfl) h1 hw1
  clear hA0 hval0
  simp only [List.append_nil] at hW'
  refine (walk W a0 c0 l0 a1 w0).mono fun e W' ⟨he, hg⟩ => ?_
  subst he
  exact ⟨_, rfl, ⟨_, _, _, [], (p0 ++ (p1 ++ [])), [], hW', (trodAll_cons_mk (shut_bool Try.underlying4 _) trodAll_mk0), (trodAll_cons_mk (Below.trod laid (by kernel_rfl) (of_decide_eq_true (by kernel_rfl)) k0 hg (fun x hx => hlt x (by simp [hx]))) (trodAll_cons_mk (Below.trod laid (by kernel_rfl) (of_decide_eq_true (by kernel_rfl)) k1 hg (fun x hx => hlt x (by simp [hx]))) trodAll_mk0)), rfl,
    hg.frame _, fun h => by cases h⟩⟩

theorem over : Rows.slotBackRow.holds Try.pinned (OpenSpec.ofChange Rows.slotBackSpec) :=
  OpenClaim.holds_of_wide 4 Try.f4 rfl rfl rfl rfl rfl rfl rfl ⟨rfl, rfl, rfl, rfl, rfl⟩ rfl rfl rfl rfl rfl (by kernel_rfl) Try.func4 (by kernel_rfl)
    (of_decide_eq_true (by kernel_rfl)) (by unfold Func.isWrapper; first | (rw [if_pos (by decide +kernel)]; kernel_rfl) | (rw [if_neg (by decide +kernel)]; exact ⟨rfl, rfl⟩))
    (fun os started H enc _ => lifted os started H enc)

/-- The statement. -/
theorem proved : Rows.SlotBackSaid :=
  over
#print axioms proved
end Go.Proofs.Ytomlbkdagaldoab.slotBack
