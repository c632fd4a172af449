/-
  Proved: for every undo page and every call (any kind, any slot, any record) the Go function varvelaw07.SlotKeeps returns true and leaves its arguments as they were; no condition.
-/
import Derived.Test.YtomlbkdagaldoabMark
namespace Go.Proofs.Ytomlbkdagaldoab.slotKeeps
open Go.ChangeShapes Go.WideShapes Go.ChangeAt Go.RowKit
open Go.Deep
set_option linter.unusedVariables false
set_option linter.unusedSimpArgs false

theorem own : ownKnob Try.prog.godebug = none := by kernel_rfl

set_option maxHeartbeats 8000000 in
set_option maxRecDepth 20000 in
theorem walk (w : World) (lsn : Int) (v : Value) (os : List O) (kd : Int) (s : Nat) (o : O) (ho : Olds w v os) (hs : s < 256) :
    Calls Try.prog 5 #[.agg #[.int .u64 lsn, v], .agg (opArr kd s o)] w fun e w' => e = .returned (.bool true) ∧ Below w.heap.size w w' := by
  obtain ⟨oa, cap, rfl, _⟩ := ho.open
  obtain ⟨n, HN⟩ : ∃ n, Hid (os.length = n) := ⟨_, rfl⟩
  rw [HN.out] at ho ⊢
  have hz := zero25
  have hz3 := zero31
  have x0 : Row ((w.alloc (.cells #[.int .u64 lsn, .slice oa n cap] 25)).alloc (.cells (opArr kd s o) 48)) w.heap.size #[.int .u64 lsn, .slice oa n cap] 25 ∧ Row ((w.alloc (.cells #[.int .u64 lsn, .slice oa n cap] 25)).alloc (.cells (opArr kd s o) 48)) (w.heap.size + 1) (opArr kd s o) 48 ∧ Below w.heap.size w ((w.alloc (.cells #[.int .u64 lsn, .slice oa n cap] 25)).alloc (.cells (opArr kd s o) 48)) ∧ ((w.alloc (.cells #[.int .u64 lsn, .slice oa n cap] 25)).alloc (.cells (opArr kd s o) 48)).heap.size = w.heap.size + 2 := ⟨(Row.new _ _ _).alloc _, by have := Row.new (w.alloc (.cells #[.int .u64 lsn, .slice oa n cap] 25)) (opArr kd s o) 48; simpa using this, ((Below.refl _ _).alloc (Nat.le_refl _) _).alloc (by simp) _, by simp⟩
  go_enter Try.func5, Try.ntmps5
  go_upto_region 1 with fail
  generalize (w.alloc (.cells #[.int .u64 lsn, .slice oa n cap] 25)).alloc (.cells (opArr kd s o) 48) = w1 at x0 ⊢
  obtain ⟨u1, p1, b1, hsz⟩ := x0
  have HSZ := show Hid _ from hsz
  clear hsz
  have c1 := row_at u1 1 _ rfl
  by_cases hn : n > 100
  · have hn' : (n : Int) > 100 := by omega
    go_wp2_with (go_at_call 7; refine (awake_any _).mono ?_; rintro e w2 ⟨rfl, b2⟩)
    go_ret
    exact ⟨rfl, b1.trans (b2.mono b1.size)⟩
  have hn' : ¬ (n : Int) > 100 := by omega
  have hn1 : os.length ≤ 1000000000 := by rw [HN.out]; omega
  have hl1 : (os ++ [p77]).length = n + 1 := by rw [← HN.out]; simp
  go_upto_region 4 with (refine build_none rfl 25 rfl _ built25 ?_)
  have k0 : Ko w (w1.alloc (.cells #[.int .u64 0, .slice none 0 0] 25)) lsn (.slice oa n cap) kd s o 0 (.slice none 0 0) := ⟨u1.alloc _, p1.alloc _, by have := Row.new w1 #[.int .u64 0, .slice none 0 0] 25; rwa [HSZ.out] at this, b1.alloc b1.size _⟩
  have hX : w1.heap.size = w.heap.size + 2 := HSZ.out
  simp only [hX]
  clear u1 p1 b1 c1 hX HSZ
  generalize w1.alloc (.cells #[.int .u64 0, .slice none 0 0] 25) = w2 at k0 ⊢
  have cs := row_at k0.p 1 (.int .u8 (s : Int)) rfl
  have hk := kept_any lsn _ os w2 (ho.keep k0.b) hn1
  have rg := range_two k0.u
  have t1 : Hid (1 = 1) := rfl
  have t2 : Hid (1 = 1) := rfl
  have hw2 : Hid (w.heap.size + 3 ≤ w2.heap.size) := k0.x.lt
  go_upto_region 6 with (first
    | (have hh := t1; clear hh t1; refine wpList_load_mid rfl 25 (.tmp 2) rfl w.heap.size 0 rfl [.int .u64 lsn, .slice oa n cap] _ rg Try.underlying25 rfl size25 ?_)
    | (go_at_call 9; refine hk.mono ?_; rintro e w4 ⟨v1, rfl, hO, b4⟩
       obtain ⟨oa1, cap1, rfl⟩ := hO.form
       rw [HN.out] at hO ⊢
       have y0 : Row (w4.alloc (.cells #[.int .u64 0, .slice none 0 0] 25)) w4.heap.size #[.int .u64 0, .slice none 0 0] 25 := Row.new _ _ _)
    | (have hh := t2; clear hh t2; refine store_cells rfl 25 (.tmp 8) (.tmp 23) rfl w4.heap.size #[.int .u64 lsn, .slice oa1 n cap1] rfl rfl 25 _ y0 2 size25 rfl rfl (by simp [Value.oneCell']) ?_))
  have b5 : Below w4.heap.size w4 ((w4.alloc (.cells #[.int .u64 0, .slice none 0 0] 25)).setRow w4.heap.size #[.int .u64 lsn, .slice oa1 n cap1]) := below_setRow ((Below.refl _ _).alloc (Nat.le_refl _) _) (Nat.le_refl _) _
  have k5 := (k0.down b4).down b5
  have hO5 := hO.keep b5
  have qN : Row ((w4.alloc (.cells #[.int .u64 0, .slice none 0 0] 25)).setRow w4.heap.size #[.int .u64 lsn, .slice oa1 n cap1]) w4.heap.size #[.int .u64 lsn, .slice oa1 n cap1] 25 := y0.set _
  have hgQ : Hid (∀ g, (Value.slice oa1 n cap1).ownBlock = some g → w.heap.size + 3 ≤ g) := fun g hg => Nat.le_trans hw2.out (World.ownsRow.lt hO g hg).1
  have hgN : Hid (∀ g, (Value.slice oa1 n cap1).ownBlock = some g → g = w4.heap.size → False) := fun g hg q => by have := (World.ownsRow.lt hO g hg).2; omega
  have hN3 : Hid (w.heap.size + 3 ≤ w4.heap.size) := Nat.le_trans hw2.out b4.size
  have hb5 : Hid (w.heap.size + 3 ≤ ((w4.alloc (.cells #[.int .u64 0, .slice none 0 0] 25)).setRow w4.heap.size #[.int .u64 lsn, .slice oa1 n cap1]).heap.size) := Nat.le_trans hN3.out b5.size
  have hO5 := hO5.base hw2.out
  clear b4 b5 y0 hO hk rg k0 cs
  generalize (w4.alloc (.cells #[.int .u64 0, .slice none 0 0] 25)).setRow w4.heap.size #[.int .u64 lsn, .slice oa1 n cap1] = w5 at k5 hO5 qN hb5 ⊢
  generalize w4.heap.size = N at qN hgN hN3 ⊢
  have xX : Row (w5.alloc (.cells #[.bool false, .int .u16 0, .int .u32 77, .int .u16 0, .int .u8 0, .string ByteArray.empty] 31)) w5.heap.size p77.arr 31 := Row.new _ _ _
  have HR := show Hid _ from (fun ty => Own.snocP (w := (w5.alloc (.cells #[.bool false, .int .u16 0, .int .u32 77, .int .u16 0, .int .u8 0, .string ByteArray.empty] 31)).drew) (hO5.alloc (.cells #[.bool false, .int .u16 0, .int .u32 77, .int .u16 0, .int .u8 0, .string ByteArray.empty] 31)) ty w5.heap.size p77 xX (by have := hb5.out; simp; omega) (by rw [HN.out]; omega))
  have KA : Ko w (w5.alloc (.cells #[.bool false, .int .u16 0, .int .u32 77, .int .u16 0, .int .u8 0, .string ByteArray.empty] 31)).drew lsn (.slice oa n cap) kd s o 0 (.slice none 0 0) := k5.down ((Below.refl _ _).alloc (Nat.le_refl _) _).drew
  have aN : Row (w5.alloc (.cells #[.bool false, .int .u16 0, .int .u32 77, .int .u16 0, .int .u8 0, .string ByteArray.empty] 31)).drew N #[.int .u64 lsn, .slice oa1 n cap1] 25 := qN.alloc _
  try simp only [Act.put]
  go_cut [] from 24 to 33 (fun wx => ∃ g cap2, Ko w wx lsn (.slice oa n cap) kd s o 0 (.slice none 0 0) ∧ In w wx N lsn g n cap2 os)
  case first =>
    refine wp_region_held_drew (S := fun _ => True) (by kernel_rfl) trivial fun hS => ?_
    refine wpAnyH_take (i := 0) (v := .pointer (some ⟨N, 1, none⟩)) rfl (by kernel_rfl) (by kernel_rfl) (by kernel_rfl) (fun _ _ _ h => h) (Or.inl ⟨by rfl, fun w _ => by go_simp⟩) hS ?_
    try simp only [Act.put, List.getElem_toArray, List.getElem_cons_zero, List.getElem_cons_succ, List.setIfInBounds_toArray, List.set_cons_zero, List.set_cons_succ]
    refine wpAnyH_take (i := 2) (v := .agg #[.bool false, .int .u16 0, .int .u32 77, .int .u16 0, .int .u8 0, .string ByteArray.empty]) rfl (by kernel_rfl) (by kernel_rfl) (by kernel_rfl) (fun _ _ _ h => h) (Or.inl ⟨by rfl, fun w _ => by go_simp⟩) hS ?_
    try simp only [Act.put, List.getElem_toArray, List.getElem_cons_zero, List.getElem_cons_succ, List.setIfInBounds_toArray, List.set_cons_zero, List.set_cons_succ]
    refine wpAnyH_take (i := 5) (v := .pointer (some ⟨N, 1, none⟩)) rfl (by kernel_rfl) (by kernel_rfl) (by kernel_rfl) (fun _ _ _ h => h) (Or.inl ⟨by rfl, fun w _ => by go_simp⟩) hS ?_
    try simp only [Act.put, List.getElem_toArray, List.getElem_cons_zero, List.getElem_cons_succ, List.setIfInBounds_toArray, List.set_cons_zero, List.set_cons_succ]
    refine wpAnyH_ready (rs := [1, 3, 6]) (by kernel_rfl) (by simp) ?_
    refine AllReadyH.cons rfl (fun K hK => ?_) (AllReadyH.cons rfl (fun K hK => ?_) (AllReadyH.cons rfl (fun K hK => ?_) AllReadyH.nil))
    · have cq := row_at (qN) 1 _ rfl
      go_simp
      refine hK.out _ _ trivial fun hS => ?_
      try simp only [Act.put, List.getElem_toArray, List.getElem_cons_zero, List.getElem_cons_succ, List.setIfInBounds_toArray, List.set_cons_zero, List.set_cons_succ]
      refine wpAnyH_ready (rs := [3, 6]) (by kernel_rfl) (by simp) ?_
      refine AllReadyH.cons rfl (fun K hK => ?_) (AllReadyH.cons rfl (fun K hK => ?_) AllReadyH.nil)
      · go_simp
        refine hK.out _ _ trivial fun hS => ?_
        try simp only [Act.put, List.getElem_toArray, List.getElem_cons_zero, List.getElem_cons_succ, List.setIfInBounds_toArray, List.set_cons_zero, List.set_cons_succ]
        refine wpAnyH_ready (rs := [4, 6]) (by kernel_rfl) (by simp) ?_
        refine AllReadyH.cons rfl (fun K hK => ?_) (AllReadyH.cons rfl (fun K hK => ?_) AllReadyH.nil)
        · refine step_of rfl (wp_copy (.tmp 25) (.tmp 27) 23 rfl _ _ rfl rfl (T := fun v' w' => Own w' (w.heap.size + 3) v' (os ++ [p77]) ∧ (w5.alloc (.cells #[.bool false, .int .u16 0, .int .u32 77, .int .u16 0, .int .u8 0, .string ByteArray.empty] 31)).drew.grownBy w' (Value.slice oa1 n cap1).ownBlock) (fun ty => HR.out ty) ?_)
          rintro v2 w7 ⟨hO7, gr⟩
          refine hK.out _ _ trivial fun hS => ?_
          try simp only [Act.put, List.getElem_toArray, List.getElem_cons_zero, List.getElem_cons_succ, List.setIfInBounds_toArray, List.set_cons_zero, List.set_cons_succ]
          obtain ⟨g, cap2, rfl, hgb⟩ := hO7.blk (by simp)
          rw [hl1] at hO7 ⊢
          have K7 := KA.grown gr hgQ.out
          have tN : Row w7 N #[.int .u64 lsn, .slice oa1 n cap1] 25 := aN.grown gr (fun q => hgN.out _ q rfl)
          refine wpAnyH_ready (rs := [6]) (by kernel_rfl) (by simp) ?_
          refine AllReadyH.cons rfl (fun K hK => ?_) AllReadyH.nil
          · have cq := row_at (tN) 1 _ rfl
            go_simp
            refine hK.out _ _ trivial fun hS => ?_
            try simp only [Act.put, List.getElem_toArray, List.getElem_cons_zero, List.getElem_cons_succ, List.setIfInBounds_toArray, List.set_cons_zero, List.set_cons_succ]
            refine wpAnyH_take (i := 7) (v := .int .i64 n) rfl (by kernel_rfl) (by kernel_rfl) (by kernel_rfl) (fun _ _ _ h => h) (Or.inl ⟨by rfl, fun w _ => by go_simp⟩) hS ?_
            try simp only [Act.put, List.getElem_toArray, List.getElem_cons_zero, List.getElem_cons_succ, List.setIfInBounds_toArray, List.set_cons_zero, List.set_cons_succ]
            have hcap : n + 1 ≤ cap2 := by
              rcases hO7.2 with ⟨q, _⟩ | ⟨g', c', cur, q, _, _, hle, _⟩
              · cases q
              · injection q with _ _ q3
                rw [q3]; simpa [HN.out] using hle
            have hcap' : (n : Int) ≤ (cap2 : Int) := by omega
            refine wpAnyH_take (i := 8) (v := .slice (some ⟨g, 0, none⟩) n cap2) rfl (by kernel_rfl) (by kernel_rfl) (by kernel_rfl) (fun _ _ _ h => h) (Or.inl ⟨by rfl, fun w _ => by go_simp⟩) hS ?_
            try simp only [Act.put, List.getElem_toArray, List.getElem_cons_zero, List.getElem_cons_succ, List.setIfInBounds_toArray, List.set_cons_zero, List.set_cons_succ]
            refine wpAnyH_take (i := 9) (v := .pointer (some ⟨N, 1, none⟩)) rfl (by kernel_rfl) (by kernel_rfl) (by kernel_rfl) (fun _ _ _ h => h) (Or.inl ⟨by rfl, fun w _ => by go_simp⟩) hS ?_
            try simp only [Act.put, List.getElem_toArray, List.getElem_cons_zero, List.getElem_cons_succ, List.setIfInBounds_toArray, List.set_cons_zero, List.set_cons_succ]
            have cN7 := row_at tN 1 _ rfl
            have fN7 := row_frozen tN 1
            refine wpAnyH_ready (rs := [10]) (by kernel_rfl) (by simp) ?_
            refine AllReadyH.cons rfl (fun K hK => ?_) AllReadyH.nil
            go_simp
            refine hK.out _ _ trivial fun hS => ?_
            try simp only [Act.put, List.getElem_toArray, List.getElem_cons_zero, List.getElem_cons_succ, List.setIfInBounds_toArray, List.set_cons_zero, List.set_cons_succ]
            refine wpAnyH_done (by kernel_rfl) ?_ _
            go_wp2
            go_meet
            have hgN2 : g ≠ N := by
              rintro rfl
              rcases hO7.2 with ⟨q, _⟩ | ⟨g', c', cur, q, _, hc, _⟩
              · cases q
              · injection q with q1 _ _
                injection q1 with q1
                injection q1 with q1 _ _
                rw [← q1] at hc
                have := tN
                unfold Row at this
                rw [this] at hc; cases hc
            exact ⟨g, cap2, K7.setCell N 1 hN3.out _, ⟨row_set tN 1 _, hO7.apart N 1 _ hgN2, HN.out, hN3.out⟩⟩
        · have cq := row_at (aN) 1 _ rfl
          go_simp
          refine hK.out _ _ trivial fun hS => ?_
          try simp only [Act.put, List.getElem_toArray, List.getElem_cons_zero, List.getElem_cons_succ, List.setIfInBounds_toArray, List.set_cons_zero, List.set_cons_succ]
          refine wpAnyH_take (i := 7) (v := .int .i64 n) rfl (by kernel_rfl) (by kernel_rfl) (by kernel_rfl) (fun _ _ _ h => h) (Or.inl ⟨by rfl, fun w _ => by go_simp⟩) hS ?_
          try simp only [Act.put, List.getElem_toArray, List.getElem_cons_zero, List.getElem_cons_succ, List.setIfInBounds_toArray, List.set_cons_zero, List.set_cons_succ]
          refine wpAnyH_ready (rs := [4]) (by kernel_rfl) (by simp) ?_
          refine AllReadyH.cons rfl (fun K hK => ?_) AllReadyH.nil
          · refine step_of rfl (wp_copy (.tmp 25) (.tmp 27) 23 rfl _ _ rfl rfl (T := fun v' w' => Own w' (w.heap.size + 3) v' (os ++ [p77]) ∧ (w5.alloc (.cells #[.bool false, .int .u16 0, .int .u32 77, .int .u16 0, .int .u8 0, .string ByteArray.empty] 31)).drew.grownBy w' (Value.slice oa1 n cap1).ownBlock) (fun ty => HR.out ty) ?_)
            rintro v2 w7 ⟨hO7, gr⟩
            refine hK.out _ _ trivial fun hS => ?_
            try simp only [Act.put, List.getElem_toArray, List.getElem_cons_zero, List.getElem_cons_succ, List.setIfInBounds_toArray, List.set_cons_zero, List.set_cons_succ]
            obtain ⟨g, cap2, rfl, hgb⟩ := hO7.blk (by simp)
            rw [hl1] at hO7 ⊢
            have K7 := KA.grown gr hgQ.out
            have tN : Row w7 N #[.int .u64 lsn, .slice oa1 n cap1] 25 := aN.grown gr (fun q => hgN.out _ q rfl)
            have hcap : n + 1 ≤ cap2 := by
              rcases hO7.2 with ⟨q, _⟩ | ⟨g', c', cur, q, _, _, hle, _⟩
              · cases q
              · injection q with _ _ q3
                rw [q3]; simpa [HN.out] using hle
            have hcap' : (n : Int) ≤ (cap2 : Int) := by omega
            refine wpAnyH_take (i := 8) (v := .slice (some ⟨g, 0, none⟩) n cap2) rfl (by kernel_rfl) (by kernel_rfl) (by kernel_rfl) (fun _ _ _ h => h) (Or.inl ⟨by rfl, fun w _ => by go_simp⟩) hS ?_
            try simp only [Act.put, List.getElem_toArray, List.getElem_cons_zero, List.getElem_cons_succ, List.setIfInBounds_toArray, List.set_cons_zero, List.set_cons_succ]
            refine wpAnyH_take (i := 9) (v := .pointer (some ⟨N, 1, none⟩)) rfl (by kernel_rfl) (by kernel_rfl) (by kernel_rfl) (fun _ _ _ h => h) (Or.inl ⟨by rfl, fun w _ => by go_simp⟩) hS ?_
            try simp only [Act.put, List.getElem_toArray, List.getElem_cons_zero, List.getElem_cons_succ, List.setIfInBounds_toArray, List.set_cons_zero, List.set_cons_succ]
            have cN7 := row_at tN 1 _ rfl
            have fN7 := row_frozen tN 1
            refine wpAnyH_ready (rs := [10]) (by kernel_rfl) (by simp) ?_
            refine AllReadyH.cons rfl (fun K hK => ?_) AllReadyH.nil
            go_simp
            refine hK.out _ _ trivial fun hS => ?_
            try simp only [Act.put, List.getElem_toArray, List.getElem_cons_zero, List.getElem_cons_succ, List.setIfInBounds_toArray, List.set_cons_zero, List.set_cons_succ]
            refine wpAnyH_done (by kernel_rfl) ?_ _
            go_wp2
            go_meet
            have hgN2 : g ≠ N := by
              rintro rfl
              rcases hO7.2 with ⟨q, _⟩ | ⟨g', c', cur, q, _, hc, _⟩
              · cases q
              · injection q with q1 _ _
                injection q1 with q1
                injection q1 with q1 _ _
                rw [← q1] at hc
                have := tN
                unfold Row at this
                rw [this] at hc; cases hc
            exact ⟨g, cap2, K7.setCell N 1 hN3.out _, ⟨row_set tN 1 _, hO7.apart N 1 _ hgN2, HN.out, hN3.out⟩⟩
      · have cq := row_at (qN) 1 _ rfl
        go_simp
        refine hK.out _ _ trivial fun hS => ?_
        try simp only [Act.put, List.getElem_toArray, List.getElem_cons_zero, List.getElem_cons_succ, List.setIfInBounds_toArray, List.set_cons_zero, List.set_cons_succ]
        refine wpAnyH_take (i := 7) (v := .int .i64 n) rfl (by kernel_rfl) (by kernel_rfl) (by kernel_rfl) (fun _ _ _ h => h) (Or.inl ⟨by rfl, fun w _ => by go_simp⟩) hS ?_
        try simp only [Act.put, List.getElem_toArray, List.getElem_cons_zero, List.getElem_cons_succ, List.setIfInBounds_toArray, List.set_cons_zero, List.set_cons_succ]
        refine wpAnyH_ready (rs := [3]) (by kernel_rfl) (by simp) ?_
        refine AllReadyH.cons rfl (fun K hK => ?_) AllReadyH.nil
        · go_simp
          refine hK.out _ _ trivial fun hS => ?_
          try simp only [Act.put, List.getElem_toArray, List.getElem_cons_zero, List.getElem_cons_succ, List.setIfInBounds_toArray, List.set_cons_zero, List.set_cons_succ]
          refine wpAnyH_ready (rs := [4]) (by kernel_rfl) (by simp) ?_
          refine AllReadyH.cons rfl (fun K hK => ?_) AllReadyH.nil
          · refine step_of rfl (wp_copy (.tmp 25) (.tmp 27) 23 rfl _ _ rfl rfl (T := fun v' w' => Own w' (w.heap.size + 3) v' (os ++ [p77]) ∧ (w5.alloc (.cells #[.bool false, .int .u16 0, .int .u32 77, .int .u16 0, .int .u8 0, .string ByteArray.empty] 31)).drew.grownBy w' (Value.slice oa1 n cap1).ownBlock) (fun ty => HR.out ty) ?_)
            rintro v2 w7 ⟨hO7, gr⟩
            refine hK.out _ _ trivial fun hS => ?_
            try simp only [Act.put, List.getElem_toArray, List.getElem_cons_zero, List.getElem_cons_succ, List.setIfInBounds_toArray, List.set_cons_zero, List.set_cons_succ]
            obtain ⟨g, cap2, rfl, hgb⟩ := hO7.blk (by simp)
            rw [hl1] at hO7 ⊢
            have K7 := KA.grown gr hgQ.out
            have tN : Row w7 N #[.int .u64 lsn, .slice oa1 n cap1] 25 := aN.grown gr (fun q => hgN.out _ q rfl)
            have hcap : n + 1 ≤ cap2 := by
              rcases hO7.2 with ⟨q, _⟩ | ⟨g', c', cur, q, _, _, hle, _⟩
              · cases q
              · injection q with _ _ q3
                rw [q3]; simpa [HN.out] using hle
            have hcap' : (n : Int) ≤ (cap2 : Int) := by omega
            refine wpAnyH_take (i := 8) (v := .slice (some ⟨g, 0, none⟩) n cap2) rfl (by kernel_rfl) (by kernel_rfl) (by kernel_rfl) (fun _ _ _ h => h) (Or.inl ⟨by rfl, fun w _ => by go_simp⟩) hS ?_
            try simp only [Act.put, List.getElem_toArray, List.getElem_cons_zero, List.getElem_cons_succ, List.setIfInBounds_toArray, List.set_cons_zero, List.set_cons_succ]
            refine wpAnyH_take (i := 9) (v := .pointer (some ⟨N, 1, none⟩)) rfl (by kernel_rfl) (by kernel_rfl) (by kernel_rfl) (fun _ _ _ h => h) (Or.inl ⟨by rfl, fun w _ => by go_simp⟩) hS ?_
            try simp only [Act.put, List.getElem_toArray, List.getElem_cons_zero, List.getElem_cons_succ, List.setIfInBounds_toArray, List.set_cons_zero, List.set_cons_succ]
            have cN7 := row_at tN 1 _ rfl
            have fN7 := row_frozen tN 1
            refine wpAnyH_ready (rs := [10]) (by kernel_rfl) (by simp) ?_
            refine AllReadyH.cons rfl (fun K hK => ?_) AllReadyH.nil
            go_simp
            refine hK.out _ _ trivial fun hS => ?_
            try simp only [Act.put, List.getElem_toArray, List.getElem_cons_zero, List.getElem_cons_succ, List.setIfInBounds_toArray, List.set_cons_zero, List.set_cons_succ]
            refine wpAnyH_done (by kernel_rfl) ?_ _
            go_wp2
            go_meet
            have hgN2 : g ≠ N := by
              rintro rfl
              rcases hO7.2 with ⟨q, _⟩ | ⟨g', c', cur, q, _, hc, _⟩
              · cases q
              · injection q with q1 _ _
                injection q1 with q1
                injection q1 with q1 _ _
                rw [← q1] at hc
                have := tN
                unfold Row at this
                rw [this] at hc; cases hc
            exact ⟨g, cap2, K7.setCell N 1 hN3.out _, ⟨row_set tN 1 _, hO7.apart N 1 _ hgN2, HN.out, hN3.out⟩⟩
    · go_simp
      refine hK.out _ _ trivial fun hS => ?_
      try simp only [Act.put, List.getElem_toArray, List.getElem_cons_zero, List.getElem_cons_succ, List.setIfInBounds_toArray, List.set_cons_zero, List.set_cons_succ]
      refine wpAnyH_ready (rs := [1, 6]) (by kernel_rfl) (by simp) ?_
      refine AllReadyH.cons rfl (fun K hK => ?_) (AllReadyH.cons rfl (fun K hK => ?_) AllReadyH.nil)
      · have cq := row_at (aN) 1 _ rfl
        go_simp
        refine hK.out _ _ trivial fun hS => ?_
        try simp only [Act.put, List.getElem_toArray, List.getElem_cons_zero, List.getElem_cons_succ, List.setIfInBounds_toArray, List.set_cons_zero, List.set_cons_succ]
        refine wpAnyH_ready (rs := [4, 6]) (by kernel_rfl) (by simp) ?_
        refine AllReadyH.cons rfl (fun K hK => ?_) (AllReadyH.cons rfl (fun K hK => ?_) AllReadyH.nil)
        · refine step_of rfl (wp_copy (.tmp 25) (.tmp 27) 23 rfl _ _ rfl rfl (T := fun v' w' => Own w' (w.heap.size + 3) v' (os ++ [p77]) ∧ (w5.alloc (.cells #[.bool false, .int .u16 0, .int .u32 77, .int .u16 0, .int .u8 0, .string ByteArray.empty] 31)).drew.grownBy w' (Value.slice oa1 n cap1).ownBlock) (fun ty => HR.out ty) ?_)
          rintro v2 w7 ⟨hO7, gr⟩
          refine hK.out _ _ trivial fun hS => ?_
          try simp only [Act.put, List.getElem_toArray, List.getElem_cons_zero, List.getElem_cons_succ, List.setIfInBounds_toArray, List.set_cons_zero, List.set_cons_succ]
          obtain ⟨g, cap2, rfl, hgb⟩ := hO7.blk (by simp)
          rw [hl1] at hO7 ⊢
          have K7 := KA.grown gr hgQ.out
          have tN : Row w7 N #[.int .u64 lsn, .slice oa1 n cap1] 25 := aN.grown gr (fun q => hgN.out _ q rfl)
          refine wpAnyH_ready (rs := [6]) (by kernel_rfl) (by simp) ?_
          refine AllReadyH.cons rfl (fun K hK => ?_) AllReadyH.nil
          · have cq := row_at (tN) 1 _ rfl
            go_simp
            refine hK.out _ _ trivial fun hS => ?_
            try simp only [Act.put, List.getElem_toArray, List.getElem_cons_zero, List.getElem_cons_succ, List.setIfInBounds_toArray, List.set_cons_zero, List.set_cons_succ]
            refine wpAnyH_take (i := 7) (v := .int .i64 n) rfl (by kernel_rfl) (by kernel_rfl) (by kernel_rfl) (fun _ _ _ h => h) (Or.inl ⟨by rfl, fun w _ => by go_simp⟩) hS ?_
            try simp only [Act.put, List.getElem_toArray, List.getElem_cons_zero, List.getElem_cons_succ, List.setIfInBounds_toArray, List.set_cons_zero, List.set_cons_succ]
            have hcap : n + 1 ≤ cap2 := by
              rcases hO7.2 with ⟨q, _⟩ | ⟨g', c', cur, q, _, _, hle, _⟩
              · cases q
              · injection q with _ _ q3
                rw [q3]; simpa [HN.out] using hle
            have hcap' : (n : Int) ≤ (cap2 : Int) := by omega
            refine wpAnyH_take (i := 8) (v := .slice (some ⟨g, 0, none⟩) n cap2) rfl (by kernel_rfl) (by kernel_rfl) (by kernel_rfl) (fun _ _ _ h => h) (Or.inl ⟨by rfl, fun w _ => by go_simp⟩) hS ?_
            try simp only [Act.put, List.getElem_toArray, List.getElem_cons_zero, List.getElem_cons_succ, List.setIfInBounds_toArray, List.set_cons_zero, List.set_cons_succ]
            refine wpAnyH_take (i := 9) (v := .pointer (some ⟨N, 1, none⟩)) rfl (by kernel_rfl) (by kernel_rfl) (by kernel_rfl) (fun _ _ _ h => h) (Or.inl ⟨by rfl, fun w _ => by go_simp⟩) hS ?_
            try simp only [Act.put, List.getElem_toArray, List.getElem_cons_zero, List.getElem_cons_succ, List.setIfInBounds_toArray, List.set_cons_zero, List.set_cons_succ]
            have cN7 := row_at tN 1 _ rfl
            have fN7 := row_frozen tN 1
            refine wpAnyH_ready (rs := [10]) (by kernel_rfl) (by simp) ?_
            refine AllReadyH.cons rfl (fun K hK => ?_) AllReadyH.nil
            go_simp
            refine hK.out _ _ trivial fun hS => ?_
            try simp only [Act.put, List.getElem_toArray, List.getElem_cons_zero, List.getElem_cons_succ, List.setIfInBounds_toArray, List.set_cons_zero, List.set_cons_succ]
            refine wpAnyH_done (by kernel_rfl) ?_ _
            go_wp2
            go_meet
            have hgN2 : g ≠ N := by
              rintro rfl
              rcases hO7.2 with ⟨q, _⟩ | ⟨g', c', cur, q, _, hc, _⟩
              · cases q
              · injection q with q1 _ _
                injection q1 with q1
                injection q1 with q1 _ _
                rw [← q1] at hc
                have := tN
                unfold Row at this
                rw [this] at hc; cases hc
            exact ⟨g, cap2, K7.setCell N 1 hN3.out _, ⟨row_set tN 1 _, hO7.apart N 1 _ hgN2, HN.out, hN3.out⟩⟩
        · have cq := row_at (aN) 1 _ rfl
          go_simp
          refine hK.out _ _ trivial fun hS => ?_
          try simp only [Act.put, List.getElem_toArray, List.getElem_cons_zero, List.getElem_cons_succ, List.setIfInBounds_toArray, List.set_cons_zero, List.set_cons_succ]
          refine wpAnyH_take (i := 7) (v := .int .i64 n) rfl (by kernel_rfl) (by kernel_rfl) (by kernel_rfl) (fun _ _ _ h => h) (Or.inl ⟨by rfl, fun w _ => by go_simp⟩) hS ?_
          try simp only [Act.put, List.getElem_toArray, List.getElem_cons_zero, List.getElem_cons_succ, List.setIfInBounds_toArray, List.set_cons_zero, List.set_cons_succ]
          refine wpAnyH_ready (rs := [4]) (by kernel_rfl) (by simp) ?_
          refine AllReadyH.cons rfl (fun K hK => ?_) AllReadyH.nil
          · refine step_of rfl (wp_copy (.tmp 25) (.tmp 27) 23 rfl _ _ rfl rfl (T := fun v' w' => Own w' (w.heap.size + 3) v' (os ++ [p77]) ∧ (w5.alloc (.cells #[.bool false, .int .u16 0, .int .u32 77, .int .u16 0, .int .u8 0, .string ByteArray.empty] 31)).drew.grownBy w' (Value.slice oa1 n cap1).ownBlock) (fun ty => HR.out ty) ?_)
            rintro v2 w7 ⟨hO7, gr⟩
            refine hK.out _ _ trivial fun hS => ?_
            try simp only [Act.put, List.getElem_toArray, List.getElem_cons_zero, List.getElem_cons_succ, List.setIfInBounds_toArray, List.set_cons_zero, List.set_cons_succ]
            obtain ⟨g, cap2, rfl, hgb⟩ := hO7.blk (by simp)
            rw [hl1] at hO7 ⊢
            have K7 := KA.grown gr hgQ.out
            have tN : Row w7 N #[.int .u64 lsn, .slice oa1 n cap1] 25 := aN.grown gr (fun q => hgN.out _ q rfl)
            have hcap : n + 1 ≤ cap2 := by
              rcases hO7.2 with ⟨q, _⟩ | ⟨g', c', cur, q, _, _, hle, _⟩
              · cases q
              · injection q with _ _ q3
                rw [q3]; simpa [HN.out] using hle
            have hcap' : (n : Int) ≤ (cap2 : Int) := by omega
            refine wpAnyH_take (i := 8) (v := .slice (some ⟨g, 0, none⟩) n cap2) rfl (by kernel_rfl) (by kernel_rfl) (by kernel_rfl) (fun _ _ _ h => h) (Or.inl ⟨by rfl, fun w _ => by go_simp⟩) hS ?_
            try simp only [Act.put, List.getElem_toArray, List.getElem_cons_zero, List.getElem_cons_succ, List.setIfInBounds_toArray, List.set_cons_zero, List.set_cons_succ]
            refine wpAnyH_take (i := 9) (v := .pointer (some ⟨N, 1, none⟩)) rfl (by kernel_rfl) (by kernel_rfl) (by kernel_rfl) (fun _ _ _ h => h) (Or.inl ⟨by rfl, fun w _ => by go_simp⟩) hS ?_
            try simp only [Act.put, List.getElem_toArray, List.getElem_cons_zero, List.getElem_cons_succ, List.setIfInBounds_toArray, List.set_cons_zero, List.set_cons_succ]
            have cN7 := row_at tN 1 _ rfl
            have fN7 := row_frozen tN 1
            refine wpAnyH_ready (rs := [10]) (by kernel_rfl) (by simp) ?_
            refine AllReadyH.cons rfl (fun K hK => ?_) AllReadyH.nil
            go_simp
            refine hK.out _ _ trivial fun hS => ?_
            try simp only [Act.put, List.getElem_toArray, List.getElem_cons_zero, List.getElem_cons_succ, List.setIfInBounds_toArray, List.set_cons_zero, List.set_cons_succ]
            refine wpAnyH_done (by kernel_rfl) ?_ _
            go_wp2
            go_meet
            have hgN2 : g ≠ N := by
              rintro rfl
              rcases hO7.2 with ⟨q, _⟩ | ⟨g', c', cur, q, _, hc, _⟩
              · cases q
              · injection q with q1 _ _
                injection q1 with q1
                injection q1 with q1 _ _
                rw [← q1] at hc
                have := tN
                unfold Row at this
                rw [this] at hc; cases hc
            exact ⟨g, cap2, K7.setCell N 1 hN3.out _, ⟨row_set tN 1 _, hO7.apart N 1 _ hgN2, HN.out, hN3.out⟩⟩
      · have cq := row_at (aN) 1 _ rfl
        go_simp
        refine hK.out _ _ trivial fun hS => ?_
        try simp only [Act.put, List.getElem_toArray, List.getElem_cons_zero, List.getElem_cons_succ, List.setIfInBounds_toArray, List.set_cons_zero, List.set_cons_succ]
        refine wpAnyH_take (i := 7) (v := .int .i64 n) rfl (by kernel_rfl) (by kernel_rfl) (by kernel_rfl) (fun _ _ _ h => h) (Or.inl ⟨by rfl, fun w _ => by go_simp⟩) hS ?_
        try simp only [Act.put, List.getElem_toArray, List.getElem_cons_zero, List.getElem_cons_succ, List.setIfInBounds_toArray, List.set_cons_zero, List.set_cons_succ]
        refine wpAnyH_ready (rs := [1]) (by kernel_rfl) (by simp) ?_
        refine AllReadyH.cons rfl (fun K hK => ?_) AllReadyH.nil
        · have cq := row_at (aN) 1 _ rfl
          go_simp
          refine hK.out _ _ trivial fun hS => ?_
          try simp only [Act.put, List.getElem_toArray, List.getElem_cons_zero, List.getElem_cons_succ, List.setIfInBounds_toArray, List.set_cons_zero, List.set_cons_succ]
          refine wpAnyH_ready (rs := [4]) (by kernel_rfl) (by simp) ?_
          refine AllReadyH.cons rfl (fun K hK => ?_) AllReadyH.nil
          · refine step_of rfl (wp_copy (.tmp 25) (.tmp 27) 23 rfl _ _ rfl rfl (T := fun v' w' => Own w' (w.heap.size + 3) v' (os ++ [p77]) ∧ (w5.alloc (.cells #[.bool false, .int .u16 0, .int .u32 77, .int .u16 0, .int .u8 0, .string ByteArray.empty] 31)).drew.grownBy w' (Value.slice oa1 n cap1).ownBlock) (fun ty => HR.out ty) ?_)
            rintro v2 w7 ⟨hO7, gr⟩
            refine hK.out _ _ trivial fun hS => ?_
            try simp only [Act.put, List.getElem_toArray, List.getElem_cons_zero, List.getElem_cons_succ, List.setIfInBounds_toArray, List.set_cons_zero, List.set_cons_succ]
            obtain ⟨g, cap2, rfl, hgb⟩ := hO7.blk (by simp)
            rw [hl1] at hO7 ⊢
            have K7 := KA.grown gr hgQ.out
            have tN : Row w7 N #[.int .u64 lsn, .slice oa1 n cap1] 25 := aN.grown gr (fun q => hgN.out _ q rfl)
            have hcap : n + 1 ≤ cap2 := by
              rcases hO7.2 with ⟨q, _⟩ | ⟨g', c', cur, q, _, _, hle, _⟩
              · cases q
              · injection q with _ _ q3
                rw [q3]; simpa [HN.out] using hle
            have hcap' : (n : Int) ≤ (cap2 : Int) := by omega
            refine wpAnyH_take (i := 8) (v := .slice (some ⟨g, 0, none⟩) n cap2) rfl (by kernel_rfl) (by kernel_rfl) (by kernel_rfl) (fun _ _ _ h => h) (Or.inl ⟨by rfl, fun w _ => by go_simp⟩) hS ?_
            try simp only [Act.put, List.getElem_toArray, List.getElem_cons_zero, List.getElem_cons_succ, List.setIfInBounds_toArray, List.set_cons_zero, List.set_cons_succ]
            refine wpAnyH_take (i := 9) (v := .pointer (some ⟨N, 1, none⟩)) rfl (by kernel_rfl) (by kernel_rfl) (by kernel_rfl) (fun _ _ _ h => h) (Or.inl ⟨by rfl, fun w _ => by go_simp⟩) hS ?_
            try simp only [Act.put, List.getElem_toArray, List.getElem_cons_zero, List.getElem_cons_succ, List.setIfInBounds_toArray, List.set_cons_zero, List.set_cons_succ]
            have cN7 := row_at tN 1 _ rfl
            have fN7 := row_frozen tN 1
            refine wpAnyH_ready (rs := [10]) (by kernel_rfl) (by simp) ?_
            refine AllReadyH.cons rfl (fun K hK => ?_) AllReadyH.nil
            go_simp
            refine hK.out _ _ trivial fun hS => ?_
            try simp only [Act.put, List.getElem_toArray, List.getElem_cons_zero, List.getElem_cons_succ, List.setIfInBounds_toArray, List.set_cons_zero, List.set_cons_succ]
            refine wpAnyH_done (by kernel_rfl) ?_ _
            go_wp2
            go_meet
            have hgN2 : g ≠ N := by
              rintro rfl
              rcases hO7.2 with ⟨q, _⟩ | ⟨g', c', cur, q, _, hc, _⟩
              · cases q
              · injection q with q1 _ _
                injection q1 with q1
                injection q1 with q1 _ _
                rw [← q1] at hc
                have := tN
                unfold Row at this
                rw [this] at hc; cases hc
            exact ⟨g, cap2, K7.setCell N 1 hN3.out _, ⟨row_set tN 1 _, hO7.apart N 1 _ hgN2, HN.out, hN3.out⟩⟩
    · have cq := row_at (qN) 1 _ rfl
      go_simp
      refine hK.out _ _ trivial fun hS => ?_
      try simp only [Act.put, List.getElem_toArray, List.getElem_cons_zero, List.getElem_cons_succ, List.setIfInBounds_toArray, List.set_cons_zero, List.set_cons_succ]
      refine wpAnyH_take (i := 7) (v := .int .i64 n) rfl (by kernel_rfl) (by kernel_rfl) (by kernel_rfl) (fun _ _ _ h => h) (Or.inl ⟨by rfl, fun w _ => by go_simp⟩) hS ?_
      try simp only [Act.put, List.getElem_toArray, List.getElem_cons_zero, List.getElem_cons_succ, List.setIfInBounds_toArray, List.set_cons_zero, List.set_cons_succ]
      refine wpAnyH_ready (rs := [1, 3]) (by kernel_rfl) (by simp) ?_
      refine AllReadyH.cons rfl (fun K hK => ?_) (AllReadyH.cons rfl (fun K hK => ?_) AllReadyH.nil)
      · have cq := row_at (qN) 1 _ rfl
        go_simp
        refine hK.out _ _ trivial fun hS => ?_
        try simp only [Act.put, List.getElem_toArray, List.getElem_cons_zero, List.getElem_cons_succ, List.setIfInBounds_toArray, List.set_cons_zero, List.set_cons_succ]
        refine wpAnyH_ready (rs := [3]) (by kernel_rfl) (by simp) ?_
        refine AllReadyH.cons rfl (fun K hK => ?_) AllReadyH.nil
        · go_simp
          refine hK.out _ _ trivial fun hS => ?_
          try simp only [Act.put, List.getElem_toArray, List.getElem_cons_zero, List.getElem_cons_succ, List.setIfInBounds_toArray, List.set_cons_zero, List.set_cons_succ]
          refine wpAnyH_ready (rs := [4]) (by kernel_rfl) (by simp) ?_
          refine AllReadyH.cons rfl (fun K hK => ?_) AllReadyH.nil
          · refine step_of rfl (wp_copy (.tmp 25) (.tmp 27) 23 rfl _ _ rfl rfl (T := fun v' w' => Own w' (w.heap.size + 3) v' (os ++ [p77]) ∧ (w5.alloc (.cells #[.bool false, .int .u16 0, .int .u32 77, .int .u16 0, .int .u8 0, .string ByteArray.empty] 31)).drew.grownBy w' (Value.slice oa1 n cap1).ownBlock) (fun ty => HR.out ty) ?_)
            rintro v2 w7 ⟨hO7, gr⟩
            refine hK.out _ _ trivial fun hS => ?_
            try simp only [Act.put, List.getElem_toArray, List.getElem_cons_zero, List.getElem_cons_succ, List.setIfInBounds_toArray, List.set_cons_zero, List.set_cons_succ]
            obtain ⟨g, cap2, rfl, hgb⟩ := hO7.blk (by simp)
            rw [hl1] at hO7 ⊢
            have K7 := KA.grown gr hgQ.out
            have tN : Row w7 N #[.int .u64 lsn, .slice oa1 n cap1] 25 := aN.grown gr (fun q => hgN.out _ q rfl)
            have hcap : n + 1 ≤ cap2 := by
              rcases hO7.2 with ⟨q, _⟩ | ⟨g', c', cur, q, _, _, hle, _⟩
              · cases q
              · injection q with _ _ q3
                rw [q3]; simpa [HN.out] using hle
            have hcap' : (n : Int) ≤ (cap2 : Int) := by omega
            refine wpAnyH_take (i := 8) (v := .slice (some ⟨g, 0, none⟩) n cap2) rfl (by kernel_rfl) (by kernel_rfl) (by kernel_rfl) (fun _ _ _ h => h) (Or.inl ⟨by rfl, fun w _ => by go_simp⟩) hS ?_
            try simp only [Act.put, List.getElem_toArray, List.getElem_cons_zero, List.getElem_cons_succ, List.setIfInBounds_toArray, List.set_cons_zero, List.set_cons_succ]
            refine wpAnyH_take (i := 9) (v := .pointer (some ⟨N, 1, none⟩)) rfl (by kernel_rfl) (by kernel_rfl) (by kernel_rfl) (fun _ _ _ h => h) (Or.inl ⟨by rfl, fun w _ => by go_simp⟩) hS ?_
            try simp only [Act.put, List.getElem_toArray, List.getElem_cons_zero, List.getElem_cons_succ, List.setIfInBounds_toArray, List.set_cons_zero, List.set_cons_succ]
            have cN7 := row_at tN 1 _ rfl
            have fN7 := row_frozen tN 1
            refine wpAnyH_ready (rs := [10]) (by kernel_rfl) (by simp) ?_
            refine AllReadyH.cons rfl (fun K hK => ?_) AllReadyH.nil
            go_simp
            refine hK.out _ _ trivial fun hS => ?_
            try simp only [Act.put, List.getElem_toArray, List.getElem_cons_zero, List.getElem_cons_succ, List.setIfInBounds_toArray, List.set_cons_zero, List.set_cons_succ]
            refine wpAnyH_done (by kernel_rfl) ?_ _
            go_wp2
            go_meet
            have hgN2 : g ≠ N := by
              rintro rfl
              rcases hO7.2 with ⟨q, _⟩ | ⟨g', c', cur, q, _, hc, _⟩
              · cases q
              · injection q with q1 _ _
                injection q1 with q1
                injection q1 with q1 _ _
                rw [← q1] at hc
                have := tN
                unfold Row at this
                rw [this] at hc; cases hc
            exact ⟨g, cap2, K7.setCell N 1 hN3.out _, ⟨row_set tN 1 _, hO7.apart N 1 _ hgN2, HN.out, hN3.out⟩⟩
      · go_simp
        refine hK.out _ _ trivial fun hS => ?_
        try simp only [Act.put, List.getElem_toArray, List.getElem_cons_zero, List.getElem_cons_succ, List.setIfInBounds_toArray, List.set_cons_zero, List.set_cons_succ]
        refine wpAnyH_ready (rs := [1]) (by kernel_rfl) (by simp) ?_
        refine AllReadyH.cons rfl (fun K hK => ?_) AllReadyH.nil
        · have cq := row_at (aN) 1 _ rfl
          go_simp
          refine hK.out _ _ trivial fun hS => ?_
          try simp only [Act.put, List.getElem_toArray, List.getElem_cons_zero, List.getElem_cons_succ, List.setIfInBounds_toArray, List.set_cons_zero, List.set_cons_succ]
          refine wpAnyH_ready (rs := [4]) (by kernel_rfl) (by simp) ?_
          refine AllReadyH.cons rfl (fun K hK => ?_) AllReadyH.nil
          · refine step_of rfl (wp_copy (.tmp 25) (.tmp 27) 23 rfl _ _ rfl rfl (T := fun v' w' => Own w' (w.heap.size + 3) v' (os ++ [p77]) ∧ (w5.alloc (.cells #[.bool false, .int .u16 0, .int .u32 77, .int .u16 0, .int .u8 0, .string ByteArray.empty] 31)).drew.grownBy w' (Value.slice oa1 n cap1).ownBlock) (fun ty => HR.out ty) ?_)
            rintro v2 w7 ⟨hO7, gr⟩
            refine hK.out _ _ trivial fun hS => ?_
            try simp only [Act.put, List.getElem_toArray, List.getElem_cons_zero, List.getElem_cons_succ, List.setIfInBounds_toArray, List.set_cons_zero, List.set_cons_succ]
            obtain ⟨g, cap2, rfl, hgb⟩ := hO7.blk (by simp)
            rw [hl1] at hO7 ⊢
            have K7 := KA.grown gr hgQ.out
            have tN : Row w7 N #[.int .u64 lsn, .slice oa1 n cap1] 25 := aN.grown gr (fun q => hgN.out _ q rfl)
            have hcap : n + 1 ≤ cap2 := by
              rcases hO7.2 with ⟨q, _⟩ | ⟨g', c', cur, q, _, _, hle, _⟩
              · cases q
              · injection q with _ _ q3
                rw [q3]; simpa [HN.out] using hle
            have hcap' : (n : Int) ≤ (cap2 : Int) := by omega
            refine wpAnyH_take (i := 8) (v := .slice (some ⟨g, 0, none⟩) n cap2) rfl (by kernel_rfl) (by kernel_rfl) (by kernel_rfl) (fun _ _ _ h => h) (Or.inl ⟨by rfl, fun w _ => by go_simp⟩) hS ?_
            try simp only [Act.put, List.getElem_toArray, List.getElem_cons_zero, List.getElem_cons_succ, List.setIfInBounds_toArray, List.set_cons_zero, List.set_cons_succ]
            refine wpAnyH_take (i := 9) (v := .pointer (some ⟨N, 1, none⟩)) rfl (by kernel_rfl) (by kernel_rfl) (by kernel_rfl) (fun _ _ _ h => h) (Or.inl ⟨by rfl, fun w _ => by go_simp⟩) hS ?_
            try simp only [Act.put, List.getElem_toArray, List.getElem_cons_zero, List.getElem_cons_succ, List.setIfInBounds_toArray, List.set_cons_zero, List.set_cons_succ]
            have cN7 := row_at tN 1 _ rfl
            have fN7 := row_frozen tN 1
            refine wpAnyH_ready (rs := [10]) (by kernel_rfl) (by simp) ?_
            refine AllReadyH.cons rfl (fun K hK => ?_) AllReadyH.nil
            go_simp
            refine hK.out _ _ trivial fun hS => ?_
            try simp only [Act.put, List.getElem_toArray, List.getElem_cons_zero, List.getElem_cons_succ, List.setIfInBounds_toArray, List.set_cons_zero, List.set_cons_succ]
            refine wpAnyH_done (by kernel_rfl) ?_ _
            go_wp2
            go_meet
            have hgN2 : g ≠ N := by
              rintro rfl
              rcases hO7.2 with ⟨q, _⟩ | ⟨g', c', cur, q, _, hc, _⟩
              · cases q
              · injection q with q1 _ _
                injection q1 with q1
                injection q1 with q1 _ _
                rw [← q1] at hc
                have := tN
                unfold Row at this
                rw [this] at hc; cases hc
            exact ⟨g, cap2, K7.setCell N 1 hN3.out _, ⟨row_set tN 1 _, hO7.apart N 1 _ hgN2, HN.out, hN3.out⟩⟩
  case rest =>
    obtain ⟨g, cap2, k6, i6⟩ := hcut
    clear KA aN HR xX k5 hO5 qN hgQ hgN
    have hlo : w.heap.size + 3 ≤ wc.heap.size := k6.x.lt
    have HLO := show Hid _ from hlo
    clear hlo
    have ck := row_at k6.p 0 (.int .i64 kd) rfl
    go_upto_block 0 with fail
    clear ck
    go_cut [6, 7] from 36 to 61 (fun a b wx => ∃ (l' : Int) (v' : Value) (os' : List O) (a' : Nat) (E : Int), a = .int .i64 E ∧ b = .int .u8 (a' : Int) ∧ Ko w wx lsn (.slice oa n cap) kd s o l' v' ∧ Own wx (w.heap.size + 3) v' os' ∧ In w wx N lsn g n cap2 os ∧ Hid (a' < 256) ∧ Hid (E = 0 → l' = lsn ∧ may os' = true ∧ ∀ i, i ≠ a' → got os i = got os' i))
    case first =>
      have rg := range_two i6.row
      have csl := row_at k6.p 1 (.int .u8 (s : Int)) rfl
      by_cases q0 : kd = 0
      · have q0b : (kd == 0) = true := by simpa using q0
        have ro : Hid (wc.rangeAt (w.heap.size + 1) 2 o.cells) := fun j v hv => (by
          rw [cell_of_row wc _ _ _ _ _ k6.p]
          have hj : j < 6 := by have := (List.getElem?_eq_some_iff.1 hv).1; simpa [O.cells] using this
          rw [← hv]
          match j, hj with
          | 0, _ => rfl
          | 1, _ => rfl
          | 2, _ => rfl
          | 3, _ => rfl
          | 4, _ => rfl
          | 5, _ => rfl)
        obtain ⟨aS, hS0⟩ : ∃ a : Nat, Hid (addS os o = (a : Int)) := ⟨(addS os o).toNat, (show addS os o = ((addS os o).toNat : Int) by unfold addS; split <;> simp)⟩
        have had := add_any lsn _ os o wc i6.olds
        rw [hS0.out] at had
        clear q0
        have t1 : Hid (1 = 1) := rfl
        have t2 : Hid (1 = 1) := rfl
        have t3 : Hid (1 = 1) := rfl
        go_wp2_with (first
          | (have hh := t1; clear hh t1; refine wpList_load_mid rfl 25 (.tmp 8) rfl N 0 rfl [.int .u64 lsn, .slice (some ⟨g, 0, none⟩) n cap2] _ rg Try.underlying25 rfl size25 ?_)
          | (have hh := t3; clear hh t3; refine wpList_load_mid rfl 31 (.tmp 47) rfl (w.heap.size + 1) 2 rfl o.cells _ ro.out Try.underlying31 rfl size31 ?_)
          | (go_at_call 8; refine (had).mono ?_; rintro e w7 ⟨v2, rfl, hO7, b7⟩
             obtain ⟨oa2, cap3, rfl⟩ := hO7.form
             have k7 := k6.down b7
             have xx := k7.x)
          | (have hh := t2; clear hh t2; refine store_cells rfl 25 (.tmp 5) (.tmp 50) rfl (w.heap.size + 2) #[.int .u64 (addL lsn os o), .slice oa2 _ cap3] rfl rfl 25 _ xx 2 size25 rfl rfl (by simp [Value.oneCell']) ?_))
        go_meet
        refine ⟨_, _, addR os o, aS, addE os o, rfl, rfl, k7.set _ _, (hO7.rowOther xx _).base HLO.out, (i6.down b7).set xx _, ?_, fun hE => ?_⟩
        · have h := hS0.out
          show aS < 256
          unfold addS at h
          split at h
          · rename_i q; have := spare_small q; omega
          · omega
        · have e1 : addL lsn os o = lsn := by unfold addL; rw [if_pos hE]
          have e2 : addR os o = added os o := by unfold addR; rw [if_pos hE]
          have e3 : aS = spareAt os := by have h := hS0.out; unfold addS at h; rw [if_pos hE] at h; omega
          rw [e1, e2, e3]
          exact ⟨rfl, add_good hE⟩
      · have q0b : (kd == 0) = false := by simpa using q0
        by_cases q1 : kd = 1
        · have q1b : (kd == 1) = true := by simpa using q1
          have hfr := free_any lsn _ os s hs wc i6.olds
          obtain ⟨LL, HLL⟩ : ∃ x, Hid ((if (got os s).2 then lsn else 0) = x) := ⟨_, rfl⟩
          obtain ⟨RR, HRR⟩ : ∃ x, Hid ((if (got os s).2 then freed os s else []) = x) := ⟨_, rfl⟩
          obtain ⟨FF, HFF⟩ : ∃ x, Hid (freeE os s = x) := ⟨_, rfl⟩
          rw [HLL.out, HRR.out, HFF.out] at hfr
          clear q0 q1
          have t1 : Hid (1 = 1) := rfl
          have t2 : Hid (1 = 1) := rfl
          have t3 : Hid (1 = 1) := rfl
          go_wp2_with (first
            | (have hh := t1; clear hh t1; refine wpList_load_mid rfl 25 (.tmp 8) rfl N 0 rfl [.int .u64 lsn, .slice (some ⟨g, 0, none⟩) n cap2] _ rg Try.underlying25 rfl size25 ?_)
            | (go_at_call 13; refine (hfr).mono ?_; rintro e w7 ⟨v2, rfl, hO7, b7⟩
               obtain ⟨oa2, cap3, rfl⟩ := hO7.form
               have k7 := k6.down b7
               have xx := k7.x)
            | (have hh := t2; clear hh t2; refine store_cells rfl 25 (.tmp 5) (.tmp 60) rfl (w.heap.size + 2) #[.int .u64 _, .slice oa2 _ cap3] rfl rfl 25 _ xx 2 size25 rfl rfl (by simp [Value.oneCell']) ?_))
          go_meet
          refine ⟨_, _, RR, s, FF, rfl, rfl, k7.set _ _, (hO7.rowOther xx _).base HLO.out, (i6.down b7).set xx _, hs, fun hE => ?_⟩
          rcases got_cases os s with hg | ⟨p, _, _, _, hg⟩
          · have := HFF.out; rw [hE] at this; unfold freeE at this; rw [hg] at this; simp at this
          · rw [← HLL.out, ← HRR.out, hg]; simp only [if_true]; exact ⟨trivial, free_good hg⟩
        · have q1b : (kd == 1) = false := by simpa using q1
          have hfr := cut_any lsn _ os s hs wc i6.olds
          obtain ⟨LL, HLL⟩ : ∃ x, Hid ((if (got os s).2 then lsn else 0) = x) := ⟨_, rfl⟩
          obtain ⟨RR, HRR⟩ : ∃ x, Hid ((if (got os s).2 then os.set s { (got os s).1 with np := 0, ns := 0 } else []) = x) := ⟨_, rfl⟩
          obtain ⟨FF, HFF⟩ : ∃ x, Hid (freeE os s = x) := ⟨_, rfl⟩
          rw [HLL.out, HRR.out, HFF.out] at hfr
          clear q0 q1
          have t1 : Hid (1 = 1) := rfl
          have t2 : Hid (1 = 1) := rfl
          have t3 : Hid (1 = 1) := rfl
          go_wp2_with (first
            | (have hh := t1; clear hh t1; refine wpList_load_mid rfl 25 (.tmp 8) rfl N 0 rfl [.int .u64 lsn, .slice (some ⟨g, 0, none⟩) n cap2] _ rg Try.underlying25 rfl size25 ?_)
            | (go_at_call 16; refine (hfr).mono ?_; rintro e w7 ⟨v2, rfl, hO7, b7⟩
               obtain ⟨oa2, cap3, rfl⟩ := hO7.form
               have k7 := k6.down b7
               have xx := k7.x)
            | (have hh := t2; clear hh t2; refine store_cells rfl 25 (.tmp 5) (.tmp 41) rfl (w.heap.size + 2) #[.int .u64 _, .slice oa2 _ cap3] rfl rfl 25 _ xx 2 size25 rfl rfl (by simp [Value.oneCell']) ?_))
          go_meet
          refine ⟨_, _, RR, s, FF, rfl, rfl, k7.set _ _, (hO7.rowOther xx _).base HLO.out, (i6.down b7).set xx _, hs, fun hE => ?_⟩
          rcases got_cases os s with hg | ⟨p, _, _, _, hg⟩
          · have := HFF.out; rw [hE] at this; unfold freeE at this; rw [hg] at this; simp at this
          · rw [← HLL.out, ← HRR.out, hg]; simp only [if_true]; exact ⟨trivial, cut_good hg⟩
    case rest =>
      obtain ⟨l', v', os', a', E, rfl, rfl, k8, o8, i8, HA, HG⟩ := hcut
      clear k6 i6
      have hcap := i8.cap
      have hwn : IntKind.i64.wrap ((n : Int) + 1) = n + 1 := by rw [IntKind.wrap_i64]; omega
      have hc1 : (n : Int) + 1 ≤ (cap2 : Int) := by omega
      have hc2 : (n : Int) < (n : Int) + 1 := by omega
      have hc0 : ¬ (n : Int) + 1 < 0 := by omega
      have hc3 : ¬ cap2 = 0 := by omega
      go_upto_region 13 with fail
      refine wp_region_held_drew (S := fun w' => Ko w w' lsn (.slice oa n cap) kd s o l' v' ∧ Own w' (w.heap.size + 3) v' os' ∧ In w w' N lsn g n cap2 os) (by kernel_rfl) ⟨k8.down (Below.refl _ _).drew, o8.keep (Below.refl _ _).drew, i8.down (Below.refl _ _).drew⟩ fun hS => ?_
      clear k8 o8 i8
      refine wpAnyH_take (i := 0) (v := .agg #[.int .u64 lsn, .slice (some ⟨g, 0, none⟩) n cap2]) rfl (by kernel_rfl) (by kernel_rfl) (by kernel_rfl) (fun _ _ _ h => h) (yields_st (by rfl) 25 (.tmp 8) rfl (N) rfl 25 #[.int .u64 lsn, .slice (some ⟨g, 0, none⟩) n cap2] (fun w h => h.2.2.row) Try.underlying25 rfl size25) hS ?_
      try simp only [Act.put, List.getElem_toArray, List.getElem_cons_zero, List.getElem_cons_succ, List.setIfInBounds_toArray, List.set_cons_zero, List.set_cons_succ]
      refine wpAnyH_take (i := 1) (v := .agg #[.int .u64 lsn, .slice oa n cap]) rfl (by kernel_rfl) (by kernel_rfl) (by kernel_rfl) (fun _ _ _ h => h) (yields_st (by rfl) 25 (.tmp 2) rfl (w.heap.size) rfl 25 #[.int .u64 lsn, .slice oa n cap] (fun w h => h.1.u) Try.underlying25 rfl size25) hS ?_
      try simp only [Act.put, List.getElem_toArray, List.getElem_cons_zero, List.getElem_cons_succ, List.setIfInBounds_toArray, List.set_cons_zero, List.set_cons_succ]
      refine wpAnyH_ready (rs := [2]) (by kernel_rfl) (by simp) ?_
      refine AllReadyH.cons rfl (fun K hK => ?_) AllReadyH.nil
      go_simp
      go_at_call 14
      refine (same_any lsn _ _ os _ hS.2.2.olds (ho.keep hS.1.b) hn1).mono ?_
      rintro e wz ⟨rfl, hcb⟩
      refine hK.out _ _ ⟨hS.1.down hcb, hS.2.1.keep hcb, hS.2.2.down hcb⟩ fun hS => ?_
      try simp only [Act.put, List.getElem_toArray, List.getElem_cons_zero, List.getElem_cons_succ, List.setIfInBounds_toArray, List.set_cons_zero, List.set_cons_succ]
      refine wpAnyH_take (i := 3) (v := .bool false) rfl (by kernel_rfl) (by kernel_rfl) (by kernel_rfl) (fun _ _ _ h => h) (Or.inl ⟨by rfl, fun w _ => by go_simp⟩) hS ?_
      try simp only [Act.put, List.getElem_toArray, List.getElem_cons_zero, List.getElem_cons_succ, List.setIfInBounds_toArray, List.set_cons_zero, List.set_cons_succ]
      refine wpAnyH_take (i := 4) (v := .bool false) rfl (by kernel_rfl) (by kernel_rfl) (by kernel_rfl) (fun _ _ _ h => h) (Or.inl ⟨by rfl, fun w _ => by rfl⟩) hS ?_
      try simp only [Act.put, List.getElem_toArray, List.getElem_cons_zero, List.getElem_cons_succ, List.setIfInBounds_toArray, List.set_cons_zero, List.set_cons_succ]
      refine wpAnyH_take (i := 5) (v := .pointer (some ⟨N, 1, none⟩)) rfl (by kernel_rfl) (by kernel_rfl) (by kernel_rfl) (fun _ _ _ h => h) (Or.inl ⟨by rfl, fun w _ => by go_simp⟩) hS ?_
      try simp only [Act.put, List.getElem_toArray, List.getElem_cons_zero, List.getElem_cons_succ, List.setIfInBounds_toArray, List.set_cons_zero, List.set_cons_succ]
      refine wpAnyH_take (i := 6) (v := .slice (some ⟨g, 0, none⟩) n cap2) rfl (by kernel_rfl) (by kernel_rfl) (by kernel_rfl) (fun _ _ _ h => h) (Or.inl ⟨by rfl, fun w h => by have c := row_at h.2.2.row 1 _ rfl; go_simp⟩) hS ?_
      try simp only [Act.put, List.getElem_toArray, List.getElem_cons_zero, List.getElem_cons_succ, List.setIfInBounds_toArray, List.set_cons_zero, List.set_cons_succ]
      refine wpAnyH_take (i := 7) (v := .pointer (some ⟨N, 1, none⟩)) rfl (by kernel_rfl) (by kernel_rfl) (by kernel_rfl) (fun _ _ _ h => h) (Or.inl ⟨by rfl, fun w _ => by go_simp⟩) hS ?_
      try simp only [Act.put, List.getElem_toArray, List.getElem_cons_zero, List.getElem_cons_succ, List.setIfInBounds_toArray, List.set_cons_zero, List.set_cons_succ]
      refine wpAnyH_take (i := 8) (v := .slice (some ⟨g, 0, none⟩) n cap2) rfl (by kernel_rfl) (by kernel_rfl) (by kernel_rfl) (fun _ _ _ h => h) (Or.inl ⟨by rfl, fun w h => by have c := row_at h.2.2.row 1 _ rfl; go_simp⟩) hS ?_
      try simp only [Act.put, List.getElem_toArray, List.getElem_cons_zero, List.getElem_cons_succ, List.setIfInBounds_toArray, List.set_cons_zero, List.set_cons_succ]
      refine wpAnyH_take (i := 9) (v := .int .i64 n) rfl (by kernel_rfl) (by kernel_rfl) (by kernel_rfl) (fun _ _ _ h => h) (Or.inl ⟨by rfl, fun w _ => by go_simp⟩) hS ?_
      try simp only [Act.put, List.getElem_toArray, List.getElem_cons_zero, List.getElem_cons_succ, List.setIfInBounds_toArray, List.set_cons_zero, List.set_cons_succ]
      refine wpAnyH_take (i := 10) (v := .int .i64 (n + 1)) rfl (by kernel_rfl) (by kernel_rfl) (by kernel_rfl) (fun _ _ _ h => h) (Or.inl ⟨by rfl, fun w _ => by go_simp⟩) hS ?_
      try simp only [Act.put, List.getElem_toArray, List.getElem_cons_zero, List.getElem_cons_succ, List.setIfInBounds_toArray, List.set_cons_zero, List.set_cons_succ]
      refine wpAnyH_take (i := 11) (v := .slice (some ⟨g, 0, none⟩) (n + 1) cap2) rfl (by kernel_rfl) (by kernel_rfl) (by kernel_rfl) (fun _ _ _ h => h) (Or.inl ⟨by rfl, fun w _ => by go_simp⟩) hS ?_
      try simp only [Act.put, List.getElem_toArray, List.getElem_cons_zero, List.getElem_cons_succ, List.setIfInBounds_toArray, List.set_cons_zero, List.set_cons_succ]
      refine wpAnyH_take (i := 12) (v := .pointer (some ⟨N, 1, none⟩)) rfl (by kernel_rfl) (by kernel_rfl) (by kernel_rfl) (fun _ _ _ h => h) (Or.inl ⟨by rfl, fun w _ => by go_simp⟩) hS ?_
      try simp only [Act.put, List.getElem_toArray, List.getElem_cons_zero, List.getElem_cons_succ, List.setIfInBounds_toArray, List.set_cons_zero, List.set_cons_succ]
      refine wpAnyH_take (i := 13) (v := .slice (some ⟨g, 0, none⟩) n cap2) rfl (by kernel_rfl) (by kernel_rfl) (by kernel_rfl) (fun _ _ _ h => h) (Or.inl ⟨by rfl, fun w h => by have c := row_at h.2.2.row 1 _ rfl; go_simp⟩) hS ?_
      try simp only [Act.put, List.getElem_toArray, List.getElem_cons_zero, List.getElem_cons_succ, List.setIfInBounds_toArray, List.set_cons_zero, List.set_cons_succ]
      refine wpAnyH_take (i := 14) (v := .int .i64 n) rfl (by kernel_rfl) (by kernel_rfl) (by kernel_rfl) (fun _ _ _ h => h) (Or.inl ⟨by rfl, fun w _ => by go_simp⟩) hS ?_
      try simp only [Act.put, List.getElem_toArray, List.getElem_cons_zero, List.getElem_cons_succ, List.setIfInBounds_toArray, List.set_cons_zero, List.set_cons_succ]
      refine wpAnyH_take (i := 15) (v := .pointer (some ⟨g, n * 6, none⟩)) rfl (by kernel_rfl) (by kernel_rfl) (by kernel_rfl) (fun _ _ _ h => h) (Or.inl ⟨by rfl, fun w _ => by go_simp⟩) hS ?_
      try simp only [Act.put, List.getElem_toArray, List.getElem_cons_zero, List.getElem_cons_succ, List.setIfInBounds_toArray, List.set_cons_zero, List.set_cons_succ]
      refine wpAnyH_take (i := 16) (v := .pointer (some ⟨g, n * 6 + 2, none⟩)) rfl (by kernel_rfl) (by kernel_rfl) (by kernel_rfl) (fun _ _ _ h => h) (Or.inl ⟨by rfl, fun w _ => by go_simp⟩) hS ?_
      try simp only [Act.put, List.getElem_toArray, List.getElem_cons_zero, List.getElem_cons_succ, List.setIfInBounds_toArray, List.set_cons_zero, List.set_cons_succ]
      refine wpAnyH_take (i := 17) (v := .int .u32 77) rfl (by kernel_rfl) (by kernel_rfl) (by kernel_rfl) (fun _ _ _ h => h) (Or.inl ⟨by rfl, fun w h => by have c := h.2.2.mark; go_simp⟩) hS ?_
      try simp only [Act.put, List.getElem_toArray, List.getElem_cons_zero, List.getElem_cons_succ, List.setIfInBounds_toArray, List.set_cons_zero, List.set_cons_succ]
      refine wpAnyH_take (i := 18) (v := .bool false) rfl (by kernel_rfl) (by kernel_rfl) (by kernel_rfl) (fun _ _ _ h => h) (Or.inl ⟨by rfl, fun w _ => by go_simp⟩) hS ?_
      try simp only [Act.put, List.getElem_toArray, List.getElem_cons_zero, List.getElem_cons_succ, List.setIfInBounds_toArray, List.set_cons_zero, List.set_cons_succ]
      refine wpAnyH_take (i := 19) (v := .bool false) rfl (by kernel_rfl) (by kernel_rfl) (by kernel_rfl) (fun _ _ _ h => h) (Or.inl ⟨by rfl, fun w _ => by go_simp⟩) hS ?_
      try simp only [Act.put, List.getElem_toArray, List.getElem_cons_zero, List.getElem_cons_succ, List.setIfInBounds_toArray, List.set_cons_zero, List.set_cons_succ]
      refine wpAnyH_done (by kernel_rfl) ?_ _
      obtain ⟨k9, o9, i9⟩ := hS
      clear i9 hwn hc1 hc2 hcap hc0 hc3
      by_cases hE : E = 0
      · obtain ⟨hl, hm, hg⟩ := HG.out hE
        subst hl
        obtain ⟨m1, _, _, _⟩ := may_small hm
        have HGO := show Hid _ from hg
        subst hE
        clear hg HG
        obtain ⟨oa', cap', rfl⟩ := o9.form
        go_wp2
        go_loopw [9] (fun c wr => ∃ (k : Nat), c = .int .i64 k ∧ k ≤ 256 ∧ Ko w wr l' (.slice oa n cap) kd s o l' (.slice oa' os'.length cap') ∧ Own wr (w.heap.size + 3) (.slice oa' os'.length cap') os') (fun c _ => 256 - (intOf c).toNat)
        case atStart => exact ⟨0, rfl, by omega, k9, o9⟩
        case round =>
          clear k9 o9
          obtain ⟨k, rfl, hk, k9, o9⟩ := hrel
          by_cases hk8 : k < 256
          · have hk8' : (k : Int) < 256 := by omega
            have hwk : IntKind.u8.wrap (k : Int) = k := by rw [IntKind.wrap_u8]; omega
            obtain ⟨ga, HGA⟩ : ∃ x, Hid (got os k = x) := ⟨_, rfl⟩
            obtain ⟨gb, HGB⟩ : ∃ x, Hid (got os' k = x) := ⟨_, rfl⟩
            have hgs : k ≠ a' → ga = gb := fun q => by rw [← HGA.out, ← HGB.out]; exact HGO.out k q
            have HGS := show Hid _ from hgs
            clear hgs
            have hka := kept_any l' _ os wr (ho.keep k9.b) hn1
            have hga := fun (v : Value) (w' : World) (h : Olds w' v os) => get_any l' v os k hk8 w' h
            rw [HGA.out] at hga
            have HGG := show Hid _ from hga
            clear hga
            have rg := range_two k9.u
            have t1 : Hid (1 = 1) := rfl
            have t2 : Hid (1 = 1) := rfl
            go_upto_region 21 with (first
              | (have hh := t1; clear hh t1; refine wpList_load_mid rfl 25 (.tmp 2) rfl w.heap.size 0 rfl [.int .u64 l', .slice oa n cap] _ rg Try.underlying25 rfl size25 ?_)
              | (go_at_call 9; refine hka.mono ?_; rintro e w2 ⟨v3, rfl, hO3, b3⟩)
              | (go_at_call 12; refine (HGG.out v3 w2 hO3.olds).mono ?_; rintro e w3 ⟨rfl, b4⟩
                 have y0 : Row (w3.alloc (.cells #[.bool false, .int .u16 0, .int .u32 0, .int .u16 0, .int .u8 0, .string ByteArray.empty] 31)) w3.heap.size #[.bool false, .int .u16 0, .int .u32 0, .int .u16 0, .int .u8 0, .string ByteArray.empty] 31 := Row.new _ _ _)
              | (have hh := t2; clear hh t2; refine store_cells rfl 31 (.tmp 10) (.tmp 95) rfl w3.heap.size ga.1.arr rfl rfl 31 _ y0 6 size31 rfl rfl (arr_one _) ?_))
            have b5 : Below w3.heap.size w3 ((w3.alloc (.cells #[.bool false, .int .u16 0, .int .u32 0, .int .u16 0, .int .u8 0, .string ByteArray.empty] 31)).setRow w3.heap.size ga.1.arr) := below_setRow ((Below.refl _ _).alloc (Nat.le_refl _) _) (Nat.le_refl _) _
            have k10 := ((k9.down b3).down b4).down b5
            have o10 := ((o9.keep b3).keep b4).keep b5
            have yR : Row ((w3.alloc (.cells #[.bool false, .int .u16 0, .int .u32 0, .int .u16 0, .int .u8 0, .string ByteArray.empty] 31)).setRow w3.heap.size ga.1.arr) w3.heap.size ga.1.arr 31 := y0.set _
            clear b3 b4 b5 y0 hO3 rg hka k9 o9 HGG
            generalize (w3.alloc (.cells #[.bool false, .int .u16 0, .int .u32 0, .int .u16 0, .int .u8 0, .string ByteArray.empty] 31)).setRow w3.heap.size ga.1.arr = w4 at k10 o10 yR ⊢
            generalize w3.heap.size = R at yR ⊢
            have hka := kept_any l' _ os' w4 o10.olds (by omega)
            have hga := fun (v : Value) (w' : World) (h : Olds w' v os') => get_any l' v os' k hk8 w' h
            rw [HGB.out] at hga
            have HGG := show Hid _ from hga
            clear hga
            have rg := range_two k10.x
            have t1 : Hid (1 = 1) := rfl
            have t2 : Hid (1 = 1) := rfl
            go_upto_region 22 with (first
              | (have hh := t1; clear hh t1; refine wpList_load_mid rfl 25 (.tmp 5) rfl (w.heap.size + 2) 0 rfl [.int .u64 l', .slice oa' os'.length cap'] _ rg Try.underlying25 rfl size25 ?_)
              | (go_at_call 9; refine hka.mono ?_; rintro e w5 ⟨v5, rfl, hO5, b5⟩)
              | (go_at_call 12; refine (HGG.out v5 w5 hO5.olds).mono ?_; rintro e w6 ⟨rfl, b6⟩
                 have y0 : Row (w6.alloc (.cells #[.bool false, .int .u16 0, .int .u32 0, .int .u16 0, .int .u8 0, .string ByteArray.empty] 31)) w6.heap.size #[.bool false, .int .u16 0, .int .u32 0, .int .u16 0, .int .u8 0, .string ByteArray.empty] 31 := Row.new _ _ _)
              | (have hh := t2; clear hh t2; refine store_cells rfl 31 (.tmp 12) (.tmp 103) rfl w6.heap.size gb.1.arr rfl rfl 31 _ y0 6 size31 rfl rfl (arr_one _) ?_))
            have b7 : Below w6.heap.size w6 ((w6.alloc (.cells #[.bool false, .int .u16 0, .int .u32 0, .int .u16 0, .int .u8 0, .string ByteArray.empty] 31)).setRow w6.heap.size gb.1.arr) := below_setRow ((Below.refl _ _).alloc (Nat.le_refl _) _) (Nat.le_refl _) _
            have k11 := ((k10.down b5).down b6).down b7
            have o11 := ((o10.keep b5).keep b6).keep b7
            have yR2 := ((yR.below b5 yR.lt).below b6 (yR.below b5 yR.lt).lt).below b7 ((yR.below b5 yR.lt).below b6 (yR.below b5 yR.lt).lt).lt
            have yT : Row ((w6.alloc (.cells #[.bool false, .int .u16 0, .int .u32 0, .int .u16 0, .int .u8 0, .string ByteArray.empty] 31)).setRow w6.heap.size gb.1.arr) w6.heap.size gb.1.arr 31 := y0.set _
            clear b5 b6 b7 y0 hO5 rg hka k10 o10 HGG yR
            generalize (w6.alloc (.cells #[.bool false, .int .u16 0, .int .u32 0, .int .u16 0, .int .u8 0, .string ByteArray.empty] 31)).setRow w6.heap.size gb.1.arr = w7 at k11 o11 yR2 yT ⊢
            generalize w6.heap.size = T at yT ⊢
            by_cases hka' : k = a'
            · subst hka'
              go_wp2
              go_roundw
              case rel => first | exact ⟨k + 1, by go_num, by omega, k11, o11⟩ | exact ⟨k + 1, by omega, by omega⟩ | omega
              case measure => simp [intOf]; omega
            · have hkb : ((k : Int) == (a' : Int)) = false := by simp; omega
              have hkne : ¬ (k : Int) = (a' : Int) := by omega
              have hkn1 : ((k : Int) != (a' : Int)) = true := by simp; omega
              have hkn2 : ¬ k = a' := hka'
              obtain rfl := HGS.out hka'
              have heq : ∀ w, (Op.equalIn 10000 31 (.agg #[.bool ga.1.live, .int .u16 ga.1.page, .int .u32 ga.1.ts, .int .u16 ga.1.np, .int .u8 ga.1.ns, .string ga.1.delta]) (.agg #[.bool ga.1.live, .int .u16 ga.1.page, .int .u32 ga.1.ts, .int .u16 ga.1.np, .int .u8 ga.1.ns, .string ga.1.delta])).run Try.prog w = .ok true w := fun w => (equal31 ga.1 ga.1 w).trans (by simp)
              have cR0 := row_at yR2 0 (.bool ga.1.live) rfl
              have cR1 := row_at yR2 1 (.int .u16 ga.1.page) rfl
              have cR2 := row_at yR2 2 (.int .u32 ga.1.ts) rfl
              have cR3 := row_at yR2 3 (.int .u16 ga.1.np) rfl
              have cR4 := row_at yR2 4 (.int .u8 ga.1.ns) rfl
              have cR5 := row_at yR2 5 (.string ga.1.delta) rfl
              have cT0 := row_at yT 0 (.bool ga.1.live) rfl
              have cT1 := row_at yT 1 (.int .u16 ga.1.page) rfl
              have cT2 := row_at yT 2 (.int .u32 ga.1.ts) rfl
              have cT3 := row_at yT 3 (.int .u16 ga.1.np) rfl
              have cT4 := row_at yT 4 (.int .u8 ga.1.ns) rfl
              have cT5 := row_at yT 5 (.string ga.1.delta) rfl
              go_wp2
              go_roundw
              case rel => first | exact ⟨k + 1, by go_num, by omega, k11, o11⟩ | exact ⟨k + 1, by omega, by omega⟩ | omega
              case measure => simp [intOf]; omega
          · have hk8' : ¬ (k : Int) < 256 := by omega
            have cl1 := row_at k9.x 0 (.int .u64 l') rfl
            have cl2 := row_at k9.u 0 (.int .u64 l') rfl
            have rg := range_two k9.x
            have hmy := may_any l' _ os' wr o9.olds
            rw [hm] at hmy
            have t1 : Hid (1 = 1) := rfl
            go_wp2_with (first
              | (have hh := t1; clear hh t1; refine load_mid_g rfl 25 (.tmp 5) rfl (w.heap.size + 2) 0 rfl [.int .u64 l', .slice oa' os'.length cap'] _ rg Try.underlying25 rfl size25 ?_)
              | (go_at_call 11; refine hmy.mono ?_; rintro e w2 ⟨rfl, b2⟩)
              | (go_at_call 7; refine (awake_any _).mono ?_; rintro e w3 ⟨rfl, b3⟩))
            go_ret
            exact ⟨rfl, ((k9.down b2).down b3).b⟩
      · have hEb : (E == 0) = false := by simpa using hE
        go_wp2_with (go_at_call 7; refine (awake_any _).mono ?_; rintro e w2 ⟨rfl, b2⟩)
        go_ret
        exact ⟨rfl, (k9.down b2).b⟩

set_option maxRecDepth 100000 in
theorem lifted (os : Os) (started : os.Started) (H : Type) (enc : TypeId × Value → H) :
    ReturnsInHanded {} Try.checked os 5 .any (Rows.slotKeepsSpec.pre6 enc Try.prog Try.f5 Rows.slotKeepsRow.domain false) (Rows.slotKeepsSpec.post enc Try.prog Try.f5 false true false false) := by
  refine returnsInHanded_of_change_sized (C := Try.checked) own started (by kernel_rfl) Try.func5
    (ChangeSpec.witness6 (enc := enc) (C := Try.checked) false ⟨#[], #[.agg #[.int .u64 0, .slice none 0 0], .agg #[.int .i64 0, .int .u8 0, .bool false, .int .u16 0, .int .u32 0, .int .u16 0, .int .u8 0, .string ByteArray.empty]], []⟩ 8 (by kernel_rfl) (by kernel_rfl) (by kernel_rfl) (by kernel_rfl)) ?_
  intro W base args ds gs before hval0 hW hcnd hsz0 _
  have hval : ∀ (j : Nat) t v, Try.f5.params[j]? = some t → args[j]? = some v → Value.okWide Try.prog W .any base t v := hval0
  have hW' := hW
  obtain ⟨p, q, hA0, hV, rfl, hfz, hnd⟩ := hW
  have hA : DataW.TrodAll enc Try.prog W 0 (fun _ => true) true Try.f5.params.toList args.toList ds p := hA0
  have hsz : (DataW.weightsEach Try.prog (Try.f5.params.toList ++ []) (ds ++ gs)).all (· ≤ reachBytes) = true := hsz0
  rw [Try.params5] at hA hval hsz
  obtain ⟨v0, vs0, d0, ds0, p0, q0, hargs, rfl, rfl, h0, r0⟩ := trodAll_cons hA
  obtain ⟨v1, vs1, d1, ds1, p1, q1, rfl, rfl, rfl, h1, r1⟩ := trodAll_cons r0
  obtain ⟨rfl, rfl, rfl⟩ := trodAll_nil r1
  obtain rfl : args = #[v0, v1] := by cases args; simp_all
  obtain ⟨rfl, rfl⟩ := trodVars_none hV
  simp only [List.append_nil] at hsz
  have hlt : ∀ x ∈ (p0 ++ (p1 ++ [])), x.block < W.heap.size := fun x hx => hW'.lt x (by simpa using hx)
  have hw0 : (d0.weights Try.prog 25).all (· ≤ reachBytes) = true := List.all_eq_true.2 fun m hm => List.all_eq_true.1 hsz m (by simp [DataW.weightsEach, hm])
  have hw1 : (d1.weights Try.prog 48).all (· ≤ reachBytes) = true := List.all_eq_true.2 fun m hm => List.all_eq_true.1 hsz m (by simp [DataW.weightsEach, hm])
  have k0 := h0
  have k1 := h1
  obtain ⟨a0, c0, l0, rfl, w0⟩ := open_undov (hval 0 25 v0 rfl rfl) h0 hw0
  obtain ⟨a1, c1, l1, rfl, w1⟩ := open_opv (hval 1 48 v1 rfl rfl) h1 hw1
  clear hA0 hval0
  simp only [List.append_nil] at hW'
  refine (walk W a0 c0 l0 a1 c1 l1 w0 w1).mono fun e W' ⟨he, hg⟩ => ?_
  subst he
  exact ⟨_, rfl, ⟨_, _, _, [], (p0 ++ (p1 ++ [])), [], hW', (trodAll_cons_mk (shut_bool Try.underlying4 _) trodAll_mk0), (trodAll_cons_mk (Below.trod laid (by kernel_rfl) (of_decide_eq_true (by kernel_rfl)) k0 hg (fun x hx => hlt x (by simp [hx]))) (trodAll_cons_mk (Below.trod laid (by kernel_rfl) (of_decide_eq_true (by kernel_rfl)) k1 hg (fun x hx => hlt x (by simp [hx]))) trodAll_mk0)), rfl,
    hg.frame _, fun h => by cases h⟩⟩

theorem over : Rows.slotKeepsRow.holds Try.pinned (OpenSpec.ofChange Rows.slotKeepsSpec) :=
  OpenClaim.holds_of_wide 5 Try.f5 rfl rfl rfl rfl rfl rfl rfl ⟨rfl, rfl, rfl, rfl, rfl⟩ rfl rfl rfl rfl rfl (by kernel_rfl) Try.func5 (by kernel_rfl)
    (of_decide_eq_true (by kernel_rfl)) (by unfold Func.isWrapper; first | (rw [if_pos (by decide +kernel)]; kernel_rfl) | (rw [if_neg (by decide +kernel)]; exact ⟨rfl, rfl⟩))
    (fun os started H enc _ => lifted os started H enc)

/-- The statement. -/
theorem proved : Rows.SlotKeepsSaid :=
  over
#print axioms proved
end Go.Proofs.Ytomlbkdagaldoab.slotKeeps
