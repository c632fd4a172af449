/-
  Proved here: whether a further record has room (slot.Fits).
-/
import Derived.Test.YtddhjkgefninbaaRepeat
import Derived.Test.YtddhjkgefninbaaHeld
namespace Go.Proofs.Ytddhjkgefninbaa
open Go.ChangeShapes Go.WideShapes Go.ChangeAt Go.RowKit
set_option linter.unusedVariables false
set_option linter.unusedSimpArgs false
set_option maxRecDepth 20000

/-- So many noughts as a text. -/
def zeros (m : Nat) : ByteArray := ⟨(Lib.repeatL [0] m).toArray⟩
def zo (m : Nat) : O := ⟨true, 0, 0, 0, 0, zeros m⟩
theorem zeros_size (m : Nat) : (zeros m).size = m := by
  show (Lib.repeatL [0] m).toArray.size = m
  rw [List.size_toArray, Lib.repeatL_length]; simp
theorem rep_any (m : Nat) (w : World) (hm : m ≤ 66) : Calls Try.prog 22 #[.string ⟨#[0]⟩, .int .i64 m] w fun e w' => e = .returned (.string (zeros m)) ∧ Below w.heap.size w w' := repeat_any ⟨#[0]⟩ m w (by omega) (by show 1 * m ≤ _; omega)
/-- Whether there is room. -/
def fits (os : List O) (n : Int) : Bool := decide (0 ≤ n) && decide (n ≤ 66) && decide (addE os (zo n.toNat) = 0)
set_option maxHeartbeats 4000000 in
theorem fits_any (lsn : Int) (v : Value) (os : List O) (k : Int) (w : World) (ho : Olds w v os) :
    Calls Try.prog 18 #[.agg #[.int .u64 lsn, v], .int .i64 k] w fun e w' => e = .returned (.bool (fits os k)) ∧ Below w.heap.size w w' := by
  obtain ⟨oa, cap, rfl, _⟩ := ho.open
  obtain ⟨n, HN⟩ : ∃ n, Hid (os.length = n) := ⟨_, rfl⟩
  rw [HN.out] at ho ⊢
  have hz := zero33
  have r0 : Row (w.alloc (.cells #[.int .u64 lsn, .slice oa n cap] 33)) w.heap.size #[.int .u64 lsn, .slice oa n cap] 33 := Row.new _ _ _
  have ab : Below w.heap.size w (w.alloc (.cells #[.int .u64 lsn, .slice oa n cap] 33)) := (Below.refl _ _).alloc (Nat.le_refl _) _
  by_cases h0 : k < 0
  · have hf : fits os k = false := by unfold fits; rw [decide_eq_false (by omega : ¬ 0 ≤ k)]; rfl
    rw [hf]
    go_enter Try.func18, Try.ntmps18
    go_wp2
    go_ret
    exact ⟨rfl, ab⟩
  by_cases h66 : k > 66
  · have hf : fits os k = false := by unfold fits; rw [decide_eq_false (by omega : ¬ k ≤ 66)]; simp
    rw [hf]
    go_enter Try.func18, Try.ntmps18
    go_wp2
    go_ret
    exact ⟨rfl, ab⟩
  obtain ⟨m, rfl⟩ : ∃ m : Nat, k = m := ⟨k.toNat, by omega⟩
  have hm66 : m ≤ 66 := by omega
  have hfm : fits os m = decide (addE os (zo m) = 0) := by unfold fits; rw [decide_eq_true (by omega : (0 : Int) ≤ m), decide_eq_true (by omega : (m : Int) ≤ 66)]; simp
  have HF := show Hid _ from hfm
  clear hfm
  go_enter Try.func18, Try.ntmps18
  go_upto_region 3 with fail
  generalize w.alloc (.cells #[.int .u64 lsn, .slice oa n cap] 33) = w1 at r0 ab ⊢
  go_cut [7] from 14 to 22 (fun c wx => c = .int .i64 (addE os (zo m)) ∧ Below w.heap.size w wx)
  case first =>
    refine wp_region_held_drew (S := fun w' => Row w' w.heap.size #[.int .u64 lsn, .slice oa n cap] 33 ∧ Below w.heap.size w w') (by kernel_rfl) ⟨r0, ab.drew⟩ fun hS => ?_
    refine wpAnyH_take (i := 0) (v := .agg #[.int .u64 lsn, .slice oa n cap]) rfl (by kernel_rfl) (by kernel_rfl) (by kernel_rfl) (fun _ _ _ h => h) (yields_st (by rfl) 33 (.tmp 2) rfl (w.heap.size) rfl 33 #[.int .u64 lsn, .slice oa n cap] (fun w h => h.1) Try.underlying33 rfl size33) hS ?_
    try simp only [Act.put, List.getElem_toArray, List.getElem_cons_zero, List.getElem_cons_succ, List.setIfInBounds_toArray, List.set_cons_zero, List.set_cons_succ]
    refine wpAnyH_take (i := 1) (v := .int .i64 m) rfl (by kernel_rfl) (by kernel_rfl) (by kernel_rfl) (fun _ _ _ h => h) (Or.inl ⟨by rfl, fun w _ => by rfl⟩) hS ?_
    try simp only [Act.put, List.getElem_toArray, List.getElem_cons_zero, List.getElem_cons_succ, List.setIfInBounds_toArray, List.set_cons_zero, List.set_cons_succ]
    refine wpAnyH_ready (rs := [2, 9]) (by kernel_rfl) (by simp) ?_
    refine AllReadyH.cons rfl (fun K hK => ?_) (AllReadyH.cons rfl (fun K hK => ?_) AllReadyH.nil)
    · go_simp
      go_at_call 22
      refine (rep_any m _ hm66).mono ?_
      rintro e wc ⟨rfl, b1⟩
      refine hK.out _ _ ⟨hS.1.below b1 hS.1.lt, hS.2.trans (b1.mono hS.2.size)⟩ fun hS => ?_
      try simp only [Act.put, List.getElem_toArray, List.getElem_cons_zero, List.getElem_cons_succ, List.setIfInBounds_toArray, List.set_cons_zero, List.set_cons_succ]
      have hwc : Hid (w.heap.size + 1 ≤ wc.heap.size) := hS.1.lt
      refine wpAnyH_take (i := 3) (v := .agg #[.bool true, .int .u16 0, .int .u32 0, .int .u16 0, .int .u8 0, .string (zeros m)]) rfl (by kernel_rfl) (by kernel_rfl) (by kernel_rfl) (fun _ _ _ h => h) (Or.inl ⟨by rfl, fun w _ => by go_simp⟩) hS ?_
      try simp only [Act.put, List.getElem_toArray, List.getElem_cons_zero, List.getElem_cons_succ, List.setIfInBounds_toArray, List.set_cons_zero, List.set_cons_succ]
      refine wpAnyH_ready (rs := [4, 9]) (by kernel_rfl) (by simp) ?_
      refine AllReadyH.cons rfl (fun K hK => ?_) (AllReadyH.cons rfl (fun K hK => ?_) AllReadyH.nil)
      · go_simp
        go_at_call 21
        refine (add_any lsn _ os (zo m) _ (ho.keep hS.2)).mono ?_
        rintro e wd ⟨v2, rfl, hO2, b2⟩
        refine hK.out _ _ ⟨hS.1.below b2 hS.1.lt, hS.2.trans (b2.mono hS.2.size)⟩ fun hS => ?_
        try simp only [Act.put, List.getElem_toArray, List.getElem_cons_zero, List.getElem_cons_succ, List.setIfInBounds_toArray, List.set_cons_zero, List.set_cons_succ]
        refine wpAnyH_take (i := 5) (v := .tuple #[.agg #[.int .u64 (addL lsn os (zo m)), v2], .int .u8 (addS os (zo m)), .int .i64 (addE os (zo m))]) rfl (by kernel_rfl) (by kernel_rfl) (by kernel_rfl) (fun _ _ _ h => h) (Or.inl ⟨by rfl, fun w _ => by go_simp⟩) hS ?_
        try simp only [Act.put, List.getElem_toArray, List.getElem_cons_zero, List.getElem_cons_succ, List.setIfInBounds_toArray, List.set_cons_zero, List.set_cons_succ]
        refine wpAnyH_take (i := 6) (v := .agg #[.int .u64 (addL lsn os (zo m)), v2]) rfl (by kernel_rfl) (by kernel_rfl) (by kernel_rfl) (fun _ _ _ h => h) (Or.inl ⟨by rfl, fun w _ => by go_simp⟩) hS ?_
        try simp only [Act.put, List.getElem_toArray, List.getElem_cons_zero, List.getElem_cons_succ, List.setIfInBounds_toArray, List.set_cons_zero, List.set_cons_succ]
        refine wpAnyH_take (i := 7) (v := .int .u8 (addS os (zo m))) rfl (by kernel_rfl) (by kernel_rfl) (by kernel_rfl) (fun _ _ _ h => h) (Or.inl ⟨by rfl, fun w _ => by go_simp⟩) hS ?_
        try simp only [Act.put, List.getElem_toArray, List.getElem_cons_zero, List.getElem_cons_succ, List.setIfInBounds_toArray, List.set_cons_zero, List.set_cons_succ]
        refine wpAnyH_take (i := 8) (v := .int .i64 (addE os (zo m))) rfl (by kernel_rfl) (by kernel_rfl) (by kernel_rfl) (fun _ _ _ h => h) (Or.inl ⟨by rfl, fun w _ => by go_simp⟩) hS ?_
        try simp only [Act.put, List.getElem_toArray, List.getElem_cons_zero, List.getElem_cons_succ, List.setIfInBounds_toArray, List.set_cons_zero, List.set_cons_succ]
        refine wpAnyH_ready (rs := [9]) (by kernel_rfl) (by simp) ?_
        refine AllReadyH.cons rfl (fun K hK => ?_) AllReadyH.nil
        · go_simp
          refine hK.out _ _ ⟨hS.1.alloc _, hS.2.alloc hS.2.size _⟩ fun hS => ?_
          try simp only [Act.put, List.getElem_toArray, List.getElem_cons_zero, List.getElem_cons_succ, List.setIfInBounds_toArray, List.set_cons_zero, List.set_cons_succ]
          have yP := Row.new wd #[.int .u64 0, .slice none 0 0] 33
          have hP : w.heap.size + 1 ≤ wd.heap.size := Nat.le_trans hwc.out b2.size
          obtain ⟨oa2, cap2, rfl⟩ := hO2.form
          refine wpAnyH_ready (rs := [10]) (by kernel_rfl) (by simp) ?_
          refine AllReadyH.cons rfl (fun K hK => ?_) AllReadyH.nil
          refine step_cells rfl 33 (.tmp 5) (.tmp 20) rfl (wd.heap.size) #[.int .u64 (addL lsn os (zo m)), .slice oa2 (addR os (zo m)).length cap2] rfl rfl 33 _ yP 2 size33 rfl rfl (by simp [Value.oneCell']) (hK.out _ _ ⟨hS.1.other (by omega) _, below_setRow hS.2 (by omega) _⟩ fun hS => ?_)
          try simp only [Act.put, List.getElem_toArray, List.getElem_cons_zero, List.getElem_cons_succ, List.setIfInBounds_toArray, List.set_cons_zero, List.set_cons_succ]
          refine wpAnyH_take (i := 11) (v := .int .u8 (addS os (zo m))) rfl (by kernel_rfl) (by kernel_rfl) (by kernel_rfl) (fun _ _ _ h => h) (Or.inl ⟨by rfl, fun w _ => by go_simp⟩) hS ?_
          try simp only [Act.put, List.getElem_toArray, List.getElem_cons_zero, List.getElem_cons_succ, List.setIfInBounds_toArray, List.set_cons_zero, List.set_cons_succ]
          refine wpAnyH_take (i := 12) (v := .int .i64 (addE os (zo m))) rfl (by kernel_rfl) (by kernel_rfl) (by kernel_rfl) (fun _ _ _ h => h) (Or.inl ⟨by rfl, fun w _ => by go_simp⟩) hS ?_
          try simp only [Act.put, List.getElem_toArray, List.getElem_cons_zero, List.getElem_cons_succ, List.setIfInBounds_toArray, List.set_cons_zero, List.set_cons_succ]
          refine wpAnyH_done (by kernel_rfl) ?_ _
          go_wp2
          go_meet
          exact ⟨rfl, hS.2⟩
      · go_simp
        refine hK.out _ _ ⟨hS.1.alloc _, hS.2.alloc hS.2.size _⟩ fun hS => ?_
        try simp only [Act.put, List.getElem_toArray, List.getElem_cons_zero, List.getElem_cons_succ, List.setIfInBounds_toArray, List.set_cons_zero, List.set_cons_succ]
        refine wpAnyH_ready (rs := [4]) (by kernel_rfl) (by simp) ?_
        refine AllReadyH.cons rfl (fun K hK => ?_) AllReadyH.nil
        · go_simp
          go_at_call 21
          refine (add_any lsn _ os (zo m) _ (ho.keep hS.2)).mono ?_
          rintro e wd ⟨v2, rfl, hO2, b2⟩
          refine hK.out _ _ ⟨hS.1.below b2 hS.1.lt, hS.2.trans (b2.mono hS.2.size)⟩ fun hS => ?_
          try simp only [Act.put, List.getElem_toArray, List.getElem_cons_zero, List.getElem_cons_succ, List.setIfInBounds_toArray, List.set_cons_zero, List.set_cons_succ]
          refine wpAnyH_take (i := 5) (v := .tuple #[.agg #[.int .u64 (addL lsn os (zo m)), v2], .int .u8 (addS os (zo m)), .int .i64 (addE os (zo m))]) rfl (by kernel_rfl) (by kernel_rfl) (by kernel_rfl) (fun _ _ _ h => h) (Or.inl ⟨by rfl, fun w _ => by go_simp⟩) hS ?_
          try simp only [Act.put, List.getElem_toArray, List.getElem_cons_zero, List.getElem_cons_succ, List.setIfInBounds_toArray, List.set_cons_zero, List.set_cons_succ]
          refine wpAnyH_take (i := 6) (v := .agg #[.int .u64 (addL lsn os (zo m)), v2]) rfl (by kernel_rfl) (by kernel_rfl) (by kernel_rfl) (fun _ _ _ h => h) (Or.inl ⟨by rfl, fun w _ => by go_simp⟩) hS ?_
          try simp only [Act.put, List.getElem_toArray, List.getElem_cons_zero, List.getElem_cons_succ, List.setIfInBounds_toArray, List.set_cons_zero, List.set_cons_succ]
          refine wpAnyH_take (i := 7) (v := .int .u8 (addS os (zo m))) rfl (by kernel_rfl) (by kernel_rfl) (by kernel_rfl) (fun _ _ _ h => h) (Or.inl ⟨by rfl, fun w _ => by go_simp⟩) hS ?_
          try simp only [Act.put, List.getElem_toArray, List.getElem_cons_zero, List.getElem_cons_succ, List.setIfInBounds_toArray, List.set_cons_zero, List.set_cons_succ]
          refine wpAnyH_take (i := 8) (v := .int .i64 (addE os (zo m))) rfl (by kernel_rfl) (by kernel_rfl) (by kernel_rfl) (fun _ _ _ h => h) (Or.inl ⟨by rfl, fun w _ => by go_simp⟩) hS ?_
          try simp only [Act.put, List.getElem_toArray, List.getElem_cons_zero, List.getElem_cons_succ, List.setIfInBounds_toArray, List.set_cons_zero, List.set_cons_succ]
          have yP := (Row.new wc #[.int .u64 0, .slice none 0 0] 33).below b2 (Row.new wc #[.int .u64 0, .slice none 0 0] 33).lt
          have hP : w.heap.size + 1 ≤ wc.heap.size := hwc.out
          obtain ⟨oa2, cap2, rfl⟩ := hO2.form
          refine wpAnyH_ready (rs := [10]) (by kernel_rfl) (by simp) ?_
          refine AllReadyH.cons rfl (fun K hK => ?_) AllReadyH.nil
          refine step_cells rfl 33 (.tmp 5) (.tmp 20) rfl (wc.heap.size) #[.int .u64 (addL lsn os (zo m)), .slice oa2 (addR os (zo m)).length cap2] rfl rfl 33 _ yP 2 size33 rfl rfl (by simp [Value.oneCell']) (hK.out _ _ ⟨hS.1.other (by omega) _, below_setRow hS.2 (by omega) _⟩ fun hS => ?_)
          try simp only [Act.put, List.getElem_toArray, List.getElem_cons_zero, List.getElem_cons_succ, List.setIfInBounds_toArray, List.set_cons_zero, List.set_cons_succ]
          refine wpAnyH_take (i := 11) (v := .int .u8 (addS os (zo m))) rfl (by kernel_rfl) (by kernel_rfl) (by kernel_rfl) (fun _ _ _ h => h) (Or.inl ⟨by rfl, fun w _ => by go_simp⟩) hS ?_
          try simp only [Act.put, List.getElem_toArray, List.getElem_cons_zero, List.getElem_cons_succ, List.setIfInBounds_toArray, List.set_cons_zero, List.set_cons_succ]
          refine wpAnyH_take (i := 12) (v := .int .i64 (addE os (zo m))) rfl (by kernel_rfl) (by kernel_rfl) (by kernel_rfl) (fun _ _ _ h => h) (Or.inl ⟨by rfl, fun w _ => by go_simp⟩) hS ?_
          try simp only [Act.put, List.getElem_toArray, List.getElem_cons_zero, List.getElem_cons_succ, List.setIfInBounds_toArray, List.set_cons_zero, List.set_cons_succ]
          refine wpAnyH_done (by kernel_rfl) ?_ _
          go_wp2
          go_meet
          exact ⟨rfl, hS.2⟩
    · go_simp
      refine hK.out _ _ ⟨hS.1.alloc _, hS.2.alloc hS.2.size _⟩ fun hS => ?_
      try simp only [Act.put, List.getElem_toArray, List.getElem_cons_zero, List.getElem_cons_succ, List.setIfInBounds_toArray, List.set_cons_zero, List.set_cons_succ]
      refine wpAnyH_ready (rs := [2]) (by kernel_rfl) (by simp) ?_
      refine AllReadyH.cons rfl (fun K hK => ?_) AllReadyH.nil
      · go_simp
        go_at_call 22
        refine (rep_any m _ hm66).mono ?_
        rintro e wc ⟨rfl, b1⟩
        refine hK.out _ _ ⟨hS.1.below b1 hS.1.lt, hS.2.trans (b1.mono hS.2.size)⟩ fun hS => ?_
        try simp only [Act.put, List.getElem_toArray, List.getElem_cons_zero, List.getElem_cons_succ, List.setIfInBounds_toArray, List.set_cons_zero, List.set_cons_succ]
        have hwc : Hid (w.heap.size + 1 ≤ wc.heap.size) := hS.1.lt
        refine wpAnyH_take (i := 3) (v := .agg #[.bool true, .int .u16 0, .int .u32 0, .int .u16 0, .int .u8 0, .string (zeros m)]) rfl (by kernel_rfl) (by kernel_rfl) (by kernel_rfl) (fun _ _ _ h => h) (Or.inl ⟨by rfl, fun w _ => by go_simp⟩) hS ?_
        try simp only [Act.put, List.getElem_toArray, List.getElem_cons_zero, List.getElem_cons_succ, List.setIfInBounds_toArray, List.set_cons_zero, List.set_cons_succ]
        refine wpAnyH_ready (rs := [4]) (by kernel_rfl) (by simp) ?_
        refine AllReadyH.cons rfl (fun K hK => ?_) AllReadyH.nil
        · go_simp
          go_at_call 21
          refine (add_any lsn _ os (zo m) _ (ho.keep hS.2)).mono ?_
          rintro e wd ⟨v2, rfl, hO2, b2⟩
          refine hK.out _ _ ⟨hS.1.below b2 hS.1.lt, hS.2.trans (b2.mono hS.2.size)⟩ fun hS => ?_
          try simp only [Act.put, List.getElem_toArray, List.getElem_cons_zero, List.getElem_cons_succ, List.setIfInBounds_toArray, List.set_cons_zero, List.set_cons_succ]
          refine wpAnyH_take (i := 5) (v := .tuple #[.agg #[.int .u64 (addL lsn os (zo m)), v2], .int .u8 (addS os (zo m)), .int .i64 (addE os (zo m))]) rfl (by kernel_rfl) (by kernel_rfl) (by kernel_rfl) (fun _ _ _ h => h) (Or.inl ⟨by rfl, fun w _ => by go_simp⟩) hS ?_
          try simp only [Act.put, List.getElem_toArray, List.getElem_cons_zero, List.getElem_cons_succ, List.setIfInBounds_toArray, List.set_cons_zero, List.set_cons_succ]
          refine wpAnyH_take (i := 6) (v := .agg #[.int .u64 (addL lsn os (zo m)), v2]) rfl (by kernel_rfl) (by kernel_rfl) (by kernel_rfl) (fun _ _ _ h => h) (Or.inl ⟨by rfl, fun w _ => by go_simp⟩) hS ?_
          try simp only [Act.put, List.getElem_toArray, List.getElem_cons_zero, List.getElem_cons_succ, List.setIfInBounds_toArray, List.set_cons_zero, List.set_cons_succ]
          refine wpAnyH_take (i := 7) (v := .int .u8 (addS os (zo m))) rfl (by kernel_rfl) (by kernel_rfl) (by kernel_rfl) (fun _ _ _ h => h) (Or.inl ⟨by rfl, fun w _ => by go_simp⟩) hS ?_
          try simp only [Act.put, List.getElem_toArray, List.getElem_cons_zero, List.getElem_cons_succ, List.setIfInBounds_toArray, List.set_cons_zero, List.set_cons_succ]
          refine wpAnyH_take (i := 8) (v := .int .i64 (addE os (zo m))) rfl (by kernel_rfl) (by kernel_rfl) (by kernel_rfl) (fun _ _ _ h => h) (Or.inl ⟨by rfl, fun w _ => by go_simp⟩) hS ?_
          try simp only [Act.put, List.getElem_toArray, List.getElem_cons_zero, List.getElem_cons_succ, List.setIfInBounds_toArray, List.set_cons_zero, List.set_cons_succ]
          have yP := (((show Row (w1.alloc (.cells #[.int .u64 0, .slice none 0 0] 33)).drew w1.heap.size #[.int .u64 0, .slice none 0 0] 33 from Row.new w1 #[.int .u64 0, .slice none 0 0] 33)).below b1 (Row.new w1 #[.int .u64 0, .slice none 0 0] 33).lt).below b2 (((show Row (w1.alloc (.cells #[.int .u64 0, .slice none 0 0] 33)).drew w1.heap.size #[.int .u64 0, .slice none 0 0] 33 from Row.new w1 #[.int .u64 0, .slice none 0 0] 33)).below b1 (Row.new w1 #[.int .u64 0, .slice none 0 0] 33).lt).lt
          have hP : w.heap.size + 1 ≤ w1.heap.size := r0.lt
          obtain ⟨oa2, cap2, rfl⟩ := hO2.form
          refine wpAnyH_ready (rs := [10]) (by kernel_rfl) (by simp) ?_
          refine AllReadyH.cons rfl (fun K hK => ?_) AllReadyH.nil
          refine step_cells rfl 33 (.tmp 5) (.tmp 20) rfl (w1.heap.size) #[.int .u64 (addL lsn os (zo m)), .slice oa2 (addR os (zo m)).length cap2] rfl rfl 33 _ yP 2 size33 rfl rfl (by simp [Value.oneCell']) (hK.out _ _ ⟨hS.1.other (by omega) _, below_setRow hS.2 (by omega) _⟩ fun hS => ?_)
          try simp only [Act.put, List.getElem_toArray, List.getElem_cons_zero, List.getElem_cons_succ, List.setIfInBounds_toArray, List.set_cons_zero, List.set_cons_succ]
          refine wpAnyH_take (i := 11) (v := .int .u8 (addS os (zo m))) rfl (by kernel_rfl) (by kernel_rfl) (by kernel_rfl) (fun _ _ _ h => h) (Or.inl ⟨by rfl, fun w _ => by go_simp⟩) hS ?_
          try simp only [Act.put, List.getElem_toArray, List.getElem_cons_zero, List.getElem_cons_succ, List.setIfInBounds_toArray, List.set_cons_zero, List.set_cons_succ]
          refine wpAnyH_take (i := 12) (v := .int .i64 (addE os (zo m))) rfl (by kernel_rfl) (by kernel_rfl) (by kernel_rfl) (fun _ _ _ h => h) (Or.inl ⟨by rfl, fun w _ => by go_simp⟩) hS ?_
          try simp only [Act.put, List.getElem_toArray, List.getElem_cons_zero, List.getElem_cons_succ, List.setIfInBounds_toArray, List.set_cons_zero, List.set_cons_succ]
          refine wpAnyH_done (by kernel_rfl) ?_ _
          go_wp2
          go_meet
          exact ⟨rfl, hS.2⟩
  case rest =>
    obtain ⟨rfl, B⟩ := hcut
    by_cases hE : addE os (zo m) = 0
    · rw [hE]
      rw [decide_eq_true hE] at HF
      go_wp2
      go_ret
      exact ⟨ret_bool HF.out.symm, B⟩
    · rw [decide_eq_false hE] at HF
      go_wp2
      go_ret
      exact ⟨ret_bool (by rw [HF.out]; simpa using hE), B⟩
end Go.Proofs.Ytddhjkgefninbaa
