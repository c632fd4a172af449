/-
  Proved here: the document's room tells that a record fits just where the program does.
-/
import Derived.Test.YtddhjkgefninbaaRae
import Derived.Laws.IdiomStrings
import Derived.Deep.OwnRows
namespace Go.Proofs.Ytddhjkgefninbaa
open Go.ChangeShapes Go.WideShapes Go.ChangeAt Go.RowKit
set_option linter.unusedVariables false
set_option linter.unusedSimpArgs false
set_option maxRecDepth 20000

def zs8 (m : Nat) : ByteArray := ⟨(List.replicate m (0 : UInt8)).toArray⟩
theorem zs8_size (m : Nat) : (zs8 m).size = m := by show (List.replicate m (0 : UInt8)).toArray.size = m; simp
theorem wp_conv {o : Oper} {a : Act} {w : World} {K : Act → World → Prop} {Q : Exit → Act → World → Prop} (x : Operand) (ho : o.op = .convert 64 9 x) (M m : Nat) (hx : a.eval x = .slice (some ⟨M, 0, none⟩) m m) (hr : Row w M (madeCells #[.int .u8 0] m) 5)
    (h : K (a.put o.dst (.string (zs8 m))) w) : Oper.wp Try.prog o a w K Q := by
  have hc := run_convert_bytes_back (P := Try.prog) w 64 9 5 ⟨M, 0, none⟩ m (List.replicate m (0 : UInt8)) Try.underlying64 Try.underlying5 Try.underlying9 (fun j hj => by
    have hj' : j < m := by simpa using hj
    rw [Addr.add_mid, Nat.zero_add, cell_of_row w M j _ _ _ hr]
    simp [madeCells, hj', Nat.mod_one])
  rw [List.length_replicate] at hc
  unfold Oper.wp execOp
  simp only [ho, hx, Sem.run_bind, hc, Result.andThen_ok, Sem.run_pure]
  exact h
theorem info5 : (Try.prog.info? 5).map (fun i => (i.zero, i.size, i.bytes)) = some (some (.int .u8 0), 1, 1) := by kernel_rfl

theorem zs8_zeros (m : Nat) : zs8 m = zeros m := by
  apply bytes_inj
  rw [ByteArray.toList_eq, ByteArray.toList_eq]
  show List.replicate m (0 : UInt8) = Lib.repeatL [0] m
  induction m with
  | zero => rfl
  | succ k ih => rw [List.replicate_succ, ih]; rfl
set_option maxHeartbeats 4000000 in
theorem rfits_any (lsn : Int) (v : Value) (os : List O) (k : Int) (w : World) (ho : Olds w v os) (hF : ∀ x ∈ os, x.Fits) :
    Calls Try.prog 19 #[.agg #[.int .u64 lsn, v], .int .i64 k] w fun e w' => e = .returned (.bool (fits os k)) ∧ Below w.heap.size w w' := by
  have HADD0 : Hid (∀ m : Nat, ∀ W, Below w.heap.size w W → Calls Try.prog 23 #[.agg #[.int .u64 lsn, v], .agg (zo m).arr] W fun e w' => RAns W (addE os (zo m)) e w') := fun m W hW => radd_any lsn v os (zo m) W (ho.keep hW) hF ⟨by show (0 : Int) ≤ 0 ∧ (0 : Int) ≤ 65535; omega, by show (0 : Int) ≤ 0 ∧ (0 : Int) ≤ 4294967295; omega, by show (0 : Int) ≤ 0 ∧ (0 : Int) ≤ 65535; omega, by show (0 : Int) ≤ 0 ∧ (0 : Int) ≤ 255; omega⟩
  obtain ⟨oa, cap, rfl, _⟩ := ho.open
  obtain ⟨n, HN⟩ : ∃ n, Hid (os.length = n) := ⟨_, rfl⟩
  rw [HN.out] at ho HADD0 ⊢
  have hz := zero33
  have r0 : Row (w.alloc (.cells #[.int .u64 lsn, .slice oa n cap] 33)) w.heap.size #[.int .u64 lsn, .slice oa n cap] 33 := Row.new _ _ _
  have ab : Below w.heap.size w (w.alloc (.cells #[.int .u64 lsn, .slice oa n cap] 33)) := (Below.refl _ _).alloc (Nat.le_refl _) _
  by_cases h0 : k < 0
  · have hf : fits os k = false := by unfold fits; rw [decide_eq_false (by omega : ¬ 0 ≤ k)]; rfl
    rw [hf]
    go_enter Try.func19, Try.ntmps19
    go_wp2
    go_ret
    exact ⟨rfl, ab⟩
  by_cases h66 : k > 66
  · have hf : fits os k = false := by unfold fits; rw [decide_eq_false (by omega : ¬ k ≤ 66)]; simp
    rw [hf]
    go_enter Try.func19, Try.ntmps19
    go_wp2
    go_ret
    exact ⟨rfl, ab⟩
  obtain ⟨m, rfl⟩ : ∃ m : Nat, k = m := ⟨k.toNat, by omega⟩
  have hm66 : m ≤ 66 := by omega
  have hfm : fits os m = decide (addE os (zo m) = 0) := by unfold fits; rw [decide_eq_true (by omega : (0 : Int) ≤ m), decide_eq_true (by omega : (m : Int) ≤ 66)]; simp
  have HF := show Hid _ from hfm
  clear hfm
  have hmk := run_make_row' (P := Try.prog) 64 5 (.int .u8 0) 1 Try.underlying64 info5 rfl .i64 .i64 m (by omega) (by omega)
  obtain ⟨E, HE⟩ : ∃ E, Hid (addE os (zo m) = E) := ⟨_, rfl⟩
  have HADD : Hid (∀ W, Below w.heap.size w W → Calls Try.prog 23 #[.agg #[.int .u64 lsn, .slice oa n cap], .agg #[.bool true, .int .u16 0, .int .u32 0, .int .u16 0, .int .u8 0, .string (zs8 m)]] W fun e w' => RAns W E e w') := fun W hW => by rw [zs8_zeros, ← HE.out]; exact HADD0.out m W hW
  rw [HE.out] at HF
  clear HADD0
  go_enter Try.func19, Try.ntmps19
  go_upto_region 3 with fail
  generalize w.alloc (.cells #[.int .u64 lsn, .slice oa n cap] 33) = w1 at r0 ab ⊢
  go_cut [7] from 14 to 23 (fun c wx => c = .int .i64 E ∧ Below w.heap.size w wx)
  case first =>
      have hWw1 : Hid (w.heap.size + 1 ≤ w1.heap.size) := r0.lt
      refine wp_region_held_drew (S := fun w' => Row w' w.heap.size #[.int .u64 lsn, .slice oa n cap] 33 ∧ Below w.heap.size w w') (by kernel_rfl) ⟨r0, ab.drew⟩ fun hS => ?_
      refine wpAnyH_take (i := 0) (v := .agg #[.int .u64 lsn, .slice oa n cap]) rfl (by kernel_rfl) (by kernel_rfl) (by kernel_rfl) (fun _ _ _ h => h) (yields_st (by rfl) 33 (.tmp 2) rfl (w.heap.size) rfl 33 #[.int .u64 lsn, .slice oa n cap] (fun w h => h.1) Try.underlying33 rfl size33) hS ?_
      try simp only [Act.put, List.getElem_toArray, List.getElem_cons_zero, List.getElem_cons_succ, List.setIfInBounds_toArray, List.set_cons_zero, List.set_cons_succ]
      refine wpAnyH_take (i := 1) (v := .int .i64 m) rfl (by kernel_rfl) (by kernel_rfl) (by kernel_rfl) (fun _ _ _ h => h) (Or.inl ⟨by rfl, fun w _ => by rfl⟩) hS ?_
      try simp only [Act.put, List.getElem_toArray, List.getElem_cons_zero, List.getElem_cons_succ, List.setIfInBounds_toArray, List.set_cons_zero, List.set_cons_succ]
      refine wpAnyH_ready (rs := [2, 10]) (by kernel_rfl) (by simp) ?_
      refine AllReadyH.cons rfl (fun K hK => ?_) (AllReadyH.cons rfl (fun K hK => ?_) AllReadyH.nil)
      · go_simp
        refine hK.out _ _ ⟨hS.1.below ((Below.refl _ _).alloc (Nat.le_refl _) _) hS.1.lt, hS.2.trans ((Below.refl _ _).alloc (Nat.le_refl _) _ |>.mono hS.2.size)⟩ fun hS => ?_
        try simp only [Act.put, List.getElem_toArray, List.getElem_cons_zero, List.getElem_cons_succ, List.setIfInBounds_toArray, List.set_cons_zero, List.set_cons_succ]
        have rM : Row (((w1).alloc (.cells (madeCells #[.int .u8 0] m) 5)).drew) (w1.heap.size) (madeCells #[.int .u8 0] m) 5 := (show Row ((w1).alloc (.cells (madeCells #[.int .u8 0] m) 5)) (w1.heap.size) (madeCells #[.int .u8 0] m) 5 from by have := Row.new (w1) (madeCells #[.int .u8 0] m) 5; simpa using this)
        refine wpAnyH_ready (rs := [3, 10]) (by kernel_rfl) (by simp) ?_
        refine AllReadyH.cons rfl (fun K hK => ?_) (AllReadyH.cons rfl (fun K hK => ?_) AllReadyH.nil)
        · refine step_of rfl (wp_conv (.tmp 17) rfl (w1.heap.size) m rfl rM (hK.out _ _ hS fun hS => ?_))
          try simp only [Act.put, List.getElem_toArray, List.getElem_cons_zero, List.getElem_cons_succ, List.setIfInBounds_toArray, List.set_cons_zero, List.set_cons_succ]
          refine wpAnyH_take (i := 4) (v := .agg #[.bool true, .int .u16 0, .int .u32 0, .int .u16 0, .int .u8 0, .string (zs8 m)]) rfl (by kernel_rfl) (by kernel_rfl) (by kernel_rfl) (fun _ _ _ h => h) (Or.inl ⟨by rfl, fun w _ => by go_simp⟩) hS ?_
          try simp only [Act.put, List.getElem_toArray, List.getElem_cons_zero, List.getElem_cons_succ, List.setIfInBounds_toArray, List.set_cons_zero, List.set_cons_succ]
          refine wpAnyH_ready (rs := [5, 10]) (by kernel_rfl) (by simp) ?_
          refine AllReadyH.cons rfl (fun K hK => ?_) (AllReadyH.cons rfl (fun K hK => ?_) AllReadyH.nil)
          · go_simp
            go_at_call 23
            refine (HADD.out _ hS.2).mono ?_
            rintro e wd ⟨l2, oa2, n2, cap2, y2, rfl, b2⟩
            refine hK.out _ _ ⟨hS.1.below b2 hS.1.lt, hS.2.trans (b2.mono hS.2.size)⟩ fun hS => ?_
            try simp only [Act.put, List.getElem_toArray, List.getElem_cons_zero, List.getElem_cons_succ, List.setIfInBounds_toArray, List.set_cons_zero, List.set_cons_succ]
            have hWwd : Hid (w.heap.size + 1 ≤ wd.heap.size) := hS.1.lt
            refine wpAnyH_take (i := 6) (v := .tuple #[.agg #[.int .u64 l2, .slice oa2 n2 cap2], .int .i64 y2, .int .i64 E]) rfl (by kernel_rfl) (by kernel_rfl) (by kernel_rfl) (fun _ _ _ h => h) (Or.inl ⟨by rfl, fun w _ => by go_simp⟩) hS ?_
            try simp only [Act.put, List.getElem_toArray, List.getElem_cons_zero, List.getElem_cons_succ, List.setIfInBounds_toArray, List.set_cons_zero, List.set_cons_succ]
            refine wpAnyH_take (i := 7) (v := .agg #[.int .u64 l2, .slice oa2 n2 cap2]) rfl (by kernel_rfl) (by kernel_rfl) (by kernel_rfl) (fun _ _ _ h => h) (Or.inl ⟨by rfl, fun w _ => by go_simp⟩) hS ?_
            try simp only [Act.put, List.getElem_toArray, List.getElem_cons_zero, List.getElem_cons_succ, List.setIfInBounds_toArray, List.set_cons_zero, List.set_cons_succ]
            refine wpAnyH_take (i := 8) (v := .int .i64 y2) rfl (by kernel_rfl) (by kernel_rfl) (by kernel_rfl) (fun _ _ _ h => h) (Or.inl ⟨by rfl, fun w _ => by go_simp⟩) hS ?_
            try simp only [Act.put, List.getElem_toArray, List.getElem_cons_zero, List.getElem_cons_succ, List.setIfInBounds_toArray, List.set_cons_zero, List.set_cons_succ]
            refine wpAnyH_take (i := 9) (v := .int .i64 E) rfl (by kernel_rfl) (by kernel_rfl) (by kernel_rfl) (fun _ _ _ h => h) (Or.inl ⟨by rfl, fun w _ => by go_simp⟩) hS ?_
            try simp only [Act.put, List.getElem_toArray, List.getElem_cons_zero, List.getElem_cons_succ, List.setIfInBounds_toArray, List.set_cons_zero, List.set_cons_succ]
            refine wpAnyH_ready (rs := [10]) (by kernel_rfl) (by simp) ?_
            refine AllReadyH.cons rfl (fun K hK => ?_) AllReadyH.nil
            · go_simp
              refine hK.out _ _ ⟨hS.1.below ((Below.refl _ _).alloc (Nat.le_refl _) _) hS.1.lt, hS.2.trans ((Below.refl _ _).alloc (Nat.le_refl _) _ |>.mono hS.2.size)⟩ fun hS => ?_
              try simp only [Act.put, List.getElem_toArray, List.getElem_cons_zero, List.getElem_cons_succ, List.setIfInBounds_toArray, List.set_cons_zero, List.set_cons_succ]
              have rP : Row ((wd).alloc (.cells #[.int .u64 0, .slice none 0 0] 33)) (wd.heap.size) #[.int .u64 0, .slice none 0 0] 33 := (show Row ((wd).alloc (.cells #[.int .u64 0, .slice none 0 0] 33)) (wd.heap.size) #[.int .u64 0, .slice none 0 0] 33 from by have := Row.new (wd) #[.int .u64 0, .slice none 0 0] 33; simpa using this)
              have hP : Hid (w.heap.size + 1 ≤ wd.heap.size) := (by have := hWwd.out; show _ ≤ _; omega)
              refine wpAnyH_ready (rs := [11]) (by kernel_rfl) (by simp) ?_
              refine AllReadyH.cons rfl (fun K hK => ?_) AllReadyH.nil
              refine step_cells rfl 33 (.tmp 5) (.tmp 21) rfl (wd.heap.size) #[.int .u64 l2, .slice oa2 n2 cap2] rfl rfl 33 _ rP 2 size33 rfl rfl (by simp [Value.oneCell']) (hK.out _ _ ⟨hS.1.other (by have := hP.out; omega) _, below_setRow hS.2 (by have := hP.out; omega) _⟩ fun hS => ?_)
              try simp only [Act.put, List.getElem_toArray, List.getElem_cons_zero, List.getElem_cons_succ, List.setIfInBounds_toArray, List.set_cons_zero, List.set_cons_succ]
              refine wpAnyH_take (i := 12) (v := .int .i64 y2) rfl (by kernel_rfl) (by kernel_rfl) (by kernel_rfl) (fun _ _ _ h => h) (Or.inl ⟨by rfl, fun w _ => by go_simp⟩) hS ?_
              try simp only [Act.put, List.getElem_toArray, List.getElem_cons_zero, List.getElem_cons_succ, List.setIfInBounds_toArray, List.set_cons_zero, List.set_cons_succ]
              refine wpAnyH_take (i := 13) (v := .int .i64 E) rfl (by kernel_rfl) (by kernel_rfl) (by kernel_rfl) (fun _ _ _ h => h) (Or.inl ⟨by rfl, fun w _ => by go_simp⟩) hS ?_
              try simp only [Act.put, List.getElem_toArray, List.getElem_cons_zero, List.getElem_cons_succ, List.setIfInBounds_toArray, List.set_cons_zero, List.set_cons_succ]
              refine wpAnyH_done (by kernel_rfl) ?_ _
              go_wp2
              go_meet
              exact ⟨rfl, hS.2⟩
          · go_simp
            refine hK.out _ _ ⟨hS.1.below ((Below.refl _ _).alloc (Nat.le_refl _) _) hS.1.lt, hS.2.trans ((Below.refl _ _).alloc (Nat.le_refl _) _ |>.mono hS.2.size)⟩ fun hS => ?_
            try simp only [Act.put, List.getElem_toArray, List.getElem_cons_zero, List.getElem_cons_succ, List.setIfInBounds_toArray, List.set_cons_zero, List.set_cons_succ]
            have rP : Row ((((w1).alloc (.cells (madeCells #[.int .u8 0] m) 5)).alloc (.cells #[.int .u64 0, .slice none 0 0] 33)).drew) (w1.heap.size + 1) #[.int .u64 0, .slice none 0 0] 33 := (show Row (((w1).alloc (.cells (madeCells #[.int .u8 0] m) 5)).alloc (.cells #[.int .u64 0, .slice none 0 0] 33)) (w1.heap.size + 1) #[.int .u64 0, .slice none 0 0] 33 from by have := Row.new ((w1).alloc (.cells (madeCells #[.int .u8 0] m) 5)) #[.int .u64 0, .slice none 0 0] 33; simpa using this)
            have hP : Hid (w.heap.size + 1 ≤ w1.heap.size + 1) := (by have := hWw1.out; show _ ≤ _; omega)
            have rM := rM.alloc (.cells #[.int .u64 0, .slice none 0 0] 33)
            refine wpAnyH_ready (rs := [5]) (by kernel_rfl) (by simp) ?_
            refine AllReadyH.cons rfl (fun K hK => ?_) AllReadyH.nil
            · go_simp
              go_at_call 23
              refine (HADD.out _ hS.2).mono ?_
              rintro e wd ⟨l2, oa2, n2, cap2, y2, rfl, b2⟩
              refine hK.out _ _ ⟨hS.1.below b2 hS.1.lt, hS.2.trans (b2.mono hS.2.size)⟩ fun hS => ?_
              try simp only [Act.put, List.getElem_toArray, List.getElem_cons_zero, List.getElem_cons_succ, List.setIfInBounds_toArray, List.set_cons_zero, List.set_cons_succ]
              have hWwd : Hid (w.heap.size + 1 ≤ wd.heap.size) := hS.1.lt
              have rP := rP.below b2 rP.lt
              refine wpAnyH_take (i := 6) (v := .tuple #[.agg #[.int .u64 l2, .slice oa2 n2 cap2], .int .i64 y2, .int .i64 E]) rfl (by kernel_rfl) (by kernel_rfl) (by kernel_rfl) (fun _ _ _ h => h) (Or.inl ⟨by rfl, fun w _ => by go_simp⟩) hS ?_
              try simp only [Act.put, List.getElem_toArray, List.getElem_cons_zero, List.getElem_cons_succ, List.setIfInBounds_toArray, List.set_cons_zero, List.set_cons_succ]
              refine wpAnyH_take (i := 7) (v := .agg #[.int .u64 l2, .slice oa2 n2 cap2]) rfl (by kernel_rfl) (by kernel_rfl) (by kernel_rfl) (fun _ _ _ h => h) (Or.inl ⟨by rfl, fun w _ => by go_simp⟩) hS ?_
              try simp only [Act.put, List.getElem_toArray, List.getElem_cons_zero, List.getElem_cons_succ, List.setIfInBounds_toArray, List.set_cons_zero, List.set_cons_succ]
              refine wpAnyH_take (i := 8) (v := .int .i64 y2) rfl (by kernel_rfl) (by kernel_rfl) (by kernel_rfl) (fun _ _ _ h => h) (Or.inl ⟨by rfl, fun w _ => by go_simp⟩) hS ?_
              try simp only [Act.put, List.getElem_toArray, List.getElem_cons_zero, List.getElem_cons_succ, List.setIfInBounds_toArray, List.set_cons_zero, List.set_cons_succ]
              refine wpAnyH_take (i := 9) (v := .int .i64 E) rfl (by kernel_rfl) (by kernel_rfl) (by kernel_rfl) (fun _ _ _ h => h) (Or.inl ⟨by rfl, fun w _ => by go_simp⟩) hS ?_
              try simp only [Act.put, List.getElem_toArray, List.getElem_cons_zero, List.getElem_cons_succ, List.setIfInBounds_toArray, List.set_cons_zero, List.set_cons_succ]
              refine wpAnyH_ready (rs := [11]) (by kernel_rfl) (by simp) ?_
              refine AllReadyH.cons rfl (fun K hK => ?_) AllReadyH.nil
              refine step_cells rfl 33 (.tmp 5) (.tmp 21) rfl (w1.heap.size + 1) #[.int .u64 l2, .slice oa2 n2 cap2] rfl rfl 33 _ rP 2 size33 rfl rfl (by simp [Value.oneCell']) (hK.out _ _ ⟨hS.1.other (by have := hP.out; omega) _, below_setRow hS.2 (by have := hP.out; omega) _⟩ fun hS => ?_)
              try simp only [Act.put, List.getElem_toArray, List.getElem_cons_zero, List.getElem_cons_succ, List.setIfInBounds_toArray, List.set_cons_zero, List.set_cons_succ]
              refine wpAnyH_take (i := 12) (v := .int .i64 y2) rfl (by kernel_rfl) (by kernel_rfl) (by kernel_rfl) (fun _ _ _ h => h) (Or.inl ⟨by rfl, fun w _ => by go_simp⟩) hS ?_
              try simp only [Act.put, List.getElem_toArray, List.getElem_cons_zero, List.getElem_cons_succ, List.setIfInBounds_toArray, List.set_cons_zero, List.set_cons_succ]
              refine wpAnyH_take (i := 13) (v := .int .i64 E) rfl (by kernel_rfl) (by kernel_rfl) (by kernel_rfl) (fun _ _ _ h => h) (Or.inl ⟨by rfl, fun w _ => by go_simp⟩) hS ?_
              try simp only [Act.put, List.getElem_toArray, List.getElem_cons_zero, List.getElem_cons_succ, List.setIfInBounds_toArray, List.set_cons_zero, List.set_cons_succ]
              refine wpAnyH_done (by kernel_rfl) ?_ _
              go_wp2
              go_meet
              exact ⟨rfl, hS.2⟩
        · go_simp
          refine hK.out _ _ ⟨hS.1.below ((Below.refl _ _).alloc (Nat.le_refl _) _) hS.1.lt, hS.2.trans ((Below.refl _ _).alloc (Nat.le_refl _) _ |>.mono hS.2.size)⟩ fun hS => ?_
          try simp only [Act.put, List.getElem_toArray, List.getElem_cons_zero, List.getElem_cons_succ, List.setIfInBounds_toArray, List.set_cons_zero, List.set_cons_succ]
          have rP : Row ((((w1).alloc (.cells (madeCells #[.int .u8 0] m) 5)).alloc (.cells #[.int .u64 0, .slice none 0 0] 33)).drew) (w1.heap.size + 1) #[.int .u64 0, .slice none 0 0] 33 := (show Row (((w1).alloc (.cells (madeCells #[.int .u8 0] m) 5)).alloc (.cells #[.int .u64 0, .slice none 0 0] 33)) (w1.heap.size + 1) #[.int .u64 0, .slice none 0 0] 33 from by have := Row.new ((w1).alloc (.cells (madeCells #[.int .u8 0] m) 5)) #[.int .u64 0, .slice none 0 0] 33; simpa using this)
          have hP : Hid (w.heap.size + 1 ≤ w1.heap.size + 1) := (by have := hWw1.out; show _ ≤ _; omega)
          have rM := rM.alloc (.cells #[.int .u64 0, .slice none 0 0] 33)
          refine wpAnyH_ready (rs := [3]) (by kernel_rfl) (by simp) ?_
          refine AllReadyH.cons rfl (fun K hK => ?_) AllReadyH.nil
          · refine step_of rfl (wp_conv (.tmp 17) rfl (w1.heap.size) m rfl rM (hK.out _ _ hS fun hS => ?_))
            try simp only [Act.put, List.getElem_toArray, List.getElem_cons_zero, List.getElem_cons_succ, List.setIfInBounds_toArray, List.set_cons_zero, List.set_cons_succ]
            refine wpAnyH_take (i := 4) (v := .agg #[.bool true, .int .u16 0, .int .u32 0, .int .u16 0, .int .u8 0, .string (zs8 m)]) rfl (by kernel_rfl) (by kernel_rfl) (by kernel_rfl) (fun _ _ _ h => h) (Or.inl ⟨by rfl, fun w _ => by go_simp⟩) hS ?_
            try simp only [Act.put, List.getElem_toArray, List.getElem_cons_zero, List.getElem_cons_succ, List.setIfInBounds_toArray, List.set_cons_zero, List.set_cons_succ]
            refine wpAnyH_ready (rs := [5]) (by kernel_rfl) (by simp) ?_
            refine AllReadyH.cons rfl (fun K hK => ?_) AllReadyH.nil
            · go_simp
              go_at_call 23
              refine (HADD.out _ hS.2).mono ?_
              rintro e wd ⟨l2, oa2, n2, cap2, y2, rfl, b2⟩
              refine hK.out _ _ ⟨hS.1.below b2 hS.1.lt, hS.2.trans (b2.mono hS.2.size)⟩ fun hS => ?_
              try simp only [Act.put, List.getElem_toArray, List.getElem_cons_zero, List.getElem_cons_succ, List.setIfInBounds_toArray, List.set_cons_zero, List.set_cons_succ]
              have hWwd : Hid (w.heap.size + 1 ≤ wd.heap.size) := hS.1.lt
              have rP := rP.below b2 rP.lt
              refine wpAnyH_take (i := 6) (v := .tuple #[.agg #[.int .u64 l2, .slice oa2 n2 cap2], .int .i64 y2, .int .i64 E]) rfl (by kernel_rfl) (by kernel_rfl) (by kernel_rfl) (fun _ _ _ h => h) (Or.inl ⟨by rfl, fun w _ => by go_simp⟩) hS ?_
              try simp only [Act.put, List.getElem_toArray, List.getElem_cons_zero, List.getElem_cons_succ, List.setIfInBounds_toArray, List.set_cons_zero, List.set_cons_succ]
              refine wpAnyH_take (i := 7) (v := .agg #[.int .u64 l2, .slice oa2 n2 cap2]) rfl (by kernel_rfl) (by kernel_rfl) (by kernel_rfl) (fun _ _ _ h => h) (Or.inl ⟨by rfl, fun w _ => by go_simp⟩) hS ?_
              try simp only [Act.put, List.getElem_toArray, List.getElem_cons_zero, List.getElem_cons_succ, List.setIfInBounds_toArray, List.set_cons_zero, List.set_cons_succ]
              refine wpAnyH_take (i := 8) (v := .int .i64 y2) rfl (by kernel_rfl) (by kernel_rfl) (by kernel_rfl) (fun _ _ _ h => h) (Or.inl ⟨by rfl, fun w _ => by go_simp⟩) hS ?_
              try simp only [Act.put, List.getElem_toArray, List.getElem_cons_zero, List.getElem_cons_succ, List.setIfInBounds_toArray, List.set_cons_zero, List.set_cons_succ]
              refine wpAnyH_take (i := 9) (v := .int .i64 E) rfl (by kernel_rfl) (by kernel_rfl) (by kernel_rfl) (fun _ _ _ h => h) (Or.inl ⟨by rfl, fun w _ => by go_simp⟩) hS ?_
              try simp only [Act.put, List.getElem_toArray, List.getElem_cons_zero, List.getElem_cons_succ, List.setIfInBounds_toArray, List.set_cons_zero, List.set_cons_succ]
              refine wpAnyH_ready (rs := [11]) (by kernel_rfl) (by simp) ?_
              refine AllReadyH.cons rfl (fun K hK => ?_) AllReadyH.nil
              refine step_cells rfl 33 (.tmp 5) (.tmp 21) rfl (w1.heap.size + 1) #[.int .u64 l2, .slice oa2 n2 cap2] rfl rfl 33 _ rP 2 size33 rfl rfl (by simp [Value.oneCell']) (hK.out _ _ ⟨hS.1.other (by have := hP.out; omega) _, below_setRow hS.2 (by have := hP.out; omega) _⟩ fun hS => ?_)
              try simp only [Act.put, List.getElem_toArray, List.getElem_cons_zero, List.getElem_cons_succ, List.setIfInBounds_toArray, List.set_cons_zero, List.set_cons_succ]
              refine wpAnyH_take (i := 12) (v := .int .i64 y2) rfl (by kernel_rfl) (by kernel_rfl) (by kernel_rfl) (fun _ _ _ h => h) (Or.inl ⟨by rfl, fun w _ => by go_simp⟩) hS ?_
              try simp only [Act.put, List.getElem_toArray, List.getElem_cons_zero, List.getElem_cons_succ, List.setIfInBounds_toArray, List.set_cons_zero, List.set_cons_succ]
              refine wpAnyH_take (i := 13) (v := .int .i64 E) rfl (by kernel_rfl) (by kernel_rfl) (by kernel_rfl) (fun _ _ _ h => h) (Or.inl ⟨by rfl, fun w _ => by go_simp⟩) hS ?_
              try simp only [Act.put, List.getElem_toArray, List.getElem_cons_zero, List.getElem_cons_succ, List.setIfInBounds_toArray, List.set_cons_zero, List.set_cons_succ]
              refine wpAnyH_done (by kernel_rfl) ?_ _
              go_wp2
              go_meet
              exact ⟨rfl, hS.2⟩
      · go_simp
        refine hK.out _ _ ⟨hS.1.below ((Below.refl _ _).alloc (Nat.le_refl _) _) hS.1.lt, hS.2.trans ((Below.refl _ _).alloc (Nat.le_refl _) _ |>.mono hS.2.size)⟩ fun hS => ?_
        try simp only [Act.put, List.getElem_toArray, List.getElem_cons_zero, List.getElem_cons_succ, List.setIfInBounds_toArray, List.set_cons_zero, List.set_cons_succ]
        have rP : Row (((w1).alloc (.cells #[.int .u64 0, .slice none 0 0] 33)).drew) (w1.heap.size) #[.int .u64 0, .slice none 0 0] 33 := (show Row ((w1).alloc (.cells #[.int .u64 0, .slice none 0 0] 33)) (w1.heap.size) #[.int .u64 0, .slice none 0 0] 33 from by have := Row.new (w1) #[.int .u64 0, .slice none 0 0] 33; simpa using this)
        have hP : Hid (w.heap.size + 1 ≤ w1.heap.size) := (by have := hWw1.out; show _ ≤ _; omega)
        refine wpAnyH_ready (rs := [2]) (by kernel_rfl) (by simp) ?_
        refine AllReadyH.cons rfl (fun K hK => ?_) AllReadyH.nil
        · go_simp
          refine hK.out _ _ ⟨hS.1.below ((Below.refl _ _).alloc (Nat.le_refl _) _) hS.1.lt, hS.2.trans ((Below.refl _ _).alloc (Nat.le_refl _) _ |>.mono hS.2.size)⟩ fun hS => ?_
          try simp only [Act.put, List.getElem_toArray, List.getElem_cons_zero, List.getElem_cons_succ, List.setIfInBounds_toArray, List.set_cons_zero, List.set_cons_succ]
          have rM : Row ((((w1).alloc (.cells #[.int .u64 0, .slice none 0 0] 33)).alloc (.cells (madeCells #[.int .u8 0] m) 5)).drew) (w1.heap.size + 1) (madeCells #[.int .u8 0] m) 5 := (show Row (((w1).alloc (.cells #[.int .u64 0, .slice none 0 0] 33)).alloc (.cells (madeCells #[.int .u8 0] m) 5)) (w1.heap.size + 1) (madeCells #[.int .u8 0] m) 5 from by have := Row.new ((w1).alloc (.cells #[.int .u64 0, .slice none 0 0] 33)) (madeCells #[.int .u8 0] m) 5; simpa using this)
          have rP := rP.alloc (.cells (madeCells #[.int .u8 0] m) 5)
          refine wpAnyH_ready (rs := [3]) (by kernel_rfl) (by simp) ?_
          refine AllReadyH.cons rfl (fun K hK => ?_) AllReadyH.nil
          · refine step_of rfl (wp_conv (.tmp 17) rfl (w1.heap.size + 1) m rfl rM (hK.out _ _ hS fun hS => ?_))
            try simp only [Act.put, List.getElem_toArray, List.getElem_cons_zero, List.getElem_cons_succ, List.setIfInBounds_toArray, List.set_cons_zero, List.set_cons_succ]
            refine wpAnyH_take (i := 4) (v := .agg #[.bool true, .int .u16 0, .int .u32 0, .int .u16 0, .int .u8 0, .string (zs8 m)]) rfl (by kernel_rfl) (by kernel_rfl) (by kernel_rfl) (fun _ _ _ h => h) (Or.inl ⟨by rfl, fun w _ => by go_simp⟩) hS ?_
            try simp only [Act.put, List.getElem_toArray, List.getElem_cons_zero, List.getElem_cons_succ, List.setIfInBounds_toArray, List.set_cons_zero, List.set_cons_succ]
            refine wpAnyH_ready (rs := [5]) (by kernel_rfl) (by simp) ?_
            refine AllReadyH.cons rfl (fun K hK => ?_) AllReadyH.nil
            · go_simp
              go_at_call 23
              refine (HADD.out _ hS.2).mono ?_
              rintro e wd ⟨l2, oa2, n2, cap2, y2, rfl, b2⟩
              refine hK.out _ _ ⟨hS.1.below b2 hS.1.lt, hS.2.trans (b2.mono hS.2.size)⟩ fun hS => ?_
              try simp only [Act.put, List.getElem_toArray, List.getElem_cons_zero, List.getElem_cons_succ, List.setIfInBounds_toArray, List.set_cons_zero, List.set_cons_succ]
              have hWwd : Hid (w.heap.size + 1 ≤ wd.heap.size) := hS.1.lt
              have rP := rP.below b2 rP.lt
              refine wpAnyH_take (i := 6) (v := .tuple #[.agg #[.int .u64 l2, .slice oa2 n2 cap2], .int .i64 y2, .int .i64 E]) rfl (by kernel_rfl) (by kernel_rfl) (by kernel_rfl) (fun _ _ _ h => h) (Or.inl ⟨by rfl, fun w _ => by go_simp⟩) hS ?_
              try simp only [Act.put, List.getElem_toArray, List.getElem_cons_zero, List.getElem_cons_succ, List.setIfInBounds_toArray, List.set_cons_zero, List.set_cons_succ]
              refine wpAnyH_take (i := 7) (v := .agg #[.int .u64 l2, .slice oa2 n2 cap2]) rfl (by kernel_rfl) (by kernel_rfl) (by kernel_rfl) (fun _ _ _ h => h) (Or.inl ⟨by rfl, fun w _ => by go_simp⟩) hS ?_
              try simp only [Act.put, List.getElem_toArray, List.getElem_cons_zero, List.getElem_cons_succ, List.setIfInBounds_toArray, List.set_cons_zero, List.set_cons_succ]
              refine wpAnyH_take (i := 8) (v := .int .i64 y2) rfl (by kernel_rfl) (by kernel_rfl) (by kernel_rfl) (fun _ _ _ h => h) (Or.inl ⟨by rfl, fun w _ => by go_simp⟩) hS ?_
              try simp only [Act.put, List.getElem_toArray, List.getElem_cons_zero, List.getElem_cons_succ, List.setIfInBounds_toArray, List.set_cons_zero, List.set_cons_succ]
              refine wpAnyH_take (i := 9) (v := .int .i64 E) rfl (by kernel_rfl) (by kernel_rfl) (by kernel_rfl) (fun _ _ _ h => h) (Or.inl ⟨by rfl, fun w _ => by go_simp⟩) hS ?_
              try simp only [Act.put, List.getElem_toArray, List.getElem_cons_zero, List.getElem_cons_succ, List.setIfInBounds_toArray, List.set_cons_zero, List.set_cons_succ]
              refine wpAnyH_ready (rs := [11]) (by kernel_rfl) (by simp) ?_
              refine AllReadyH.cons rfl (fun K hK => ?_) AllReadyH.nil
              refine step_cells rfl 33 (.tmp 5) (.tmp 21) rfl (w1.heap.size) #[.int .u64 l2, .slice oa2 n2 cap2] rfl rfl 33 _ rP 2 size33 rfl rfl (by simp [Value.oneCell']) (hK.out _ _ ⟨hS.1.other (by have := hP.out; omega) _, below_setRow hS.2 (by have := hP.out; omega) _⟩ fun hS => ?_)
              try simp only [Act.put, List.getElem_toArray, List.getElem_cons_zero, List.getElem_cons_succ, List.setIfInBounds_toArray, List.set_cons_zero, List.set_cons_succ]
              refine wpAnyH_take (i := 12) (v := .int .i64 y2) rfl (by kernel_rfl) (by kernel_rfl) (by kernel_rfl) (fun _ _ _ h => h) (Or.inl ⟨by rfl, fun w _ => by go_simp⟩) hS ?_
              try simp only [Act.put, List.getElem_toArray, List.getElem_cons_zero, List.getElem_cons_succ, List.setIfInBounds_toArray, List.set_cons_zero, List.set_cons_succ]
              refine wpAnyH_take (i := 13) (v := .int .i64 E) rfl (by kernel_rfl) (by kernel_rfl) (by kernel_rfl) (fun _ _ _ h => h) (Or.inl ⟨by rfl, fun w _ => by go_simp⟩) hS ?_
              try simp only [Act.put, List.getElem_toArray, List.getElem_cons_zero, List.getElem_cons_succ, List.setIfInBounds_toArray, List.set_cons_zero, List.set_cons_succ]
              refine wpAnyH_done (by kernel_rfl) ?_ _
              go_wp2
              go_meet
              exact ⟨rfl, hS.2⟩
  case rest =>
    obtain ⟨rfl, B4⟩ := hcut
    have HT : Hid (fits os m = decide (E = 0)) := HF.out
    by_cases hE0 : E = 0
    · subst hE0
      go_wp2
      go_ret
      exact ⟨by rw [HT.out]; rfl, B4⟩
    · have hE0' : ¬ E = 0 := hE0
      go_wp2
      go_ret
      exact ⟨by rw [HT.out, decide_eq_false hE0]; first | rfl | simp [hE0], B4⟩
end Go.Proofs.Ytddhjkgefninbaa
