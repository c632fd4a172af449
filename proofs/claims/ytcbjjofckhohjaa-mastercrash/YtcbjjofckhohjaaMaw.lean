/-
  Proved here: the document's May; masters compared; what the statements run at their head (awake).
-/
import Derived.Test.YtcbjjofckhohjaaMfa
namespace Go.Proofs.Ytcbjjofckhohjaa
open Go.ChangeShapes Go.WideShapes Go.ChangeAt Go.RowKit
set_option linter.unusedVariables false
set_option linter.unusedSimpArgs false
set_option maxRecDepth 20000

/-- Two masters are one. -/
def eqM (a b : M) : Bool := decide (a.seq = b.seq) && decide (a.ep = b.ep) && decide (a.tail = b.tail) && decide (a.lsn = b.lsn) && decide (a.last = b.last) && decide (a.pg = b.pg) && decide (a.un = b.un) && decide (a.lg = b.lg) && decide (a.mx = b.mx)
theorem eqM_true {a b : M} (h : eqM a b = true) : a = b := by
  unfold eqM at h
  simp only [Bool.and_eq_true, decide_eq_true_eq] at h
  obtain ⟨⟨⟨⟨⟨⟨⟨⟨h0, h1⟩, h2⟩, h3⟩, h4⟩, h5⟩, h6⟩, h7⟩, h8⟩ := h
  cases a; cases b
  simp_all
theorem eqM_self (a : M) : eqM a a = true := by simp [eqM]
theorem eqM_iff (a b : M) : eqM a b = true ↔ a = b := ⟨eqM_true, fun h => by rw [h]; exact eqM_self b⟩
set_option maxHeartbeats 2000000 in
theorem equal27 (a b : M) (w : World) : (Op.equalIn 10000 27 (.agg (mcells a)) (.agg (mcells b))).run Try.prog w = .ok (eqM a b) w := by
  go_simp
  unfold eqM
  by_cases h0 : a.seq = b.seq
  rotate_left
  · simp [h0]
  by_cases h1 : a.ep = b.ep
  rotate_left
  · simp [h0, h1]
  by_cases h2 : a.tail = b.tail
  rotate_left
  · simp [h0, h1, h2]
  by_cases h3 : a.lsn = b.lsn
  rotate_left
  · simp [h0, h1, h2, h3]
  by_cases h4 : a.last = b.last
  rotate_left
  · simp [h0, h1, h2, h3, h4]
  by_cases h5 : a.pg = b.pg
  rotate_left
  · simp [h0, h1, h2, h3, h4, h5]
  by_cases h6 : a.un = b.un
  rotate_left
  · simp [h0, h1, h2, h3, h4, h5, h6]
  by_cases h7 : a.lg = b.lg
  rotate_left
  · simp [h0, h1, h2, h3, h4, h5, h6, h7]
  by_cases h8 : a.mx = b.mx
  rotate_left
  · simp [h0, h1, h2, h3, h4, h5, h6, h7, h8]
  simp [h0, h1, h2, h3, h4, h5, h6, h7, h8]

set_option maxHeartbeats 2000000 in
theorem rmay_any (m : M) (w : World) : Calls Try.prog 12 #[.agg (mcells m)] w fun e w' => e = .returned (.bool (mayM m)) ∧ Below w.heap.size w w' := by
  obtain ⟨sq, ep, tl, ls, la, pg, un, lg, mx⟩ := m
  have HM : Hid (mayM ⟨sq, ep, tl, ls, la, pg, un, lg, mx⟩ = (decide (1 ≤ pg ∧ pg ≤ 16) && decide (1 ≤ un ∧ un ≤ 32) && decide (64 ≤ lg ∧ lg ≤ 512) && decide (la ≤ mx))) := rfl
  have hz := zero25
  have y0 : Row (w.alloc (.cells #[.int .u64 sq, .int .u32 ep, .int .u32 tl, .int .u64 ls, .int .u32 la, .int .i64 pg, .int .i64 un, .int .i64 lg, .int .u32 mx] 27)) w.heap.size #[.int .u64 sq, .int .u32 ep, .int .u32 tl, .int .u64 ls, .int .u32 la, .int .i64 pg, .int .i64 un, .int .i64 lg, .int .u32 mx] 27 := Row.new _ _ _
  have yb : Below w.heap.size w (w.alloc (.cells #[.int .u64 sq, .int .u32 ep, .int .u32 tl, .int .u64 ls, .int .u32 la, .int .i64 pg, .int .i64 un, .int .i64 lg, .int .u32 mx] 27)) := (Below.refl _ _).alloc (Nat.le_refl _) _
  have hs : (w.alloc (.cells #[.int .u64 sq, .int .u32 ep, .int .u32 tl, .int .u64 ls, .int .u32 la, .int .i64 pg, .int .i64 un, .int .i64 lg, .int .u32 mx] 27)).heap.size = w.heap.size + 1 := by simp
  go_enter Try.func12, Try.ntmps12
  go_upto_region 1 with fail
  generalize w.alloc (.cells #[.int .u64 sq, .int .u32 ep, .int .u32 tl, .int .u64 ls, .int .u32 la, .int .i64 pg, .int .i64 un, .int .i64 lg, .int .u32 mx] 27) = w1 at y0 yb hs ⊢
  have c5 := row_at y0 5 (.int .i64 pg) rfl
  have c6 := row_at y0 6 (.int .i64 un) rfl
  have c7 := row_at y0 7 (.int .i64 lg) rfl
  have c8 := row_at y0 8 (.int .u32 mx) rfl
  go_upto_region 2 with fail
  have x0 := y0.alloc (.cells #[.int .i64 pg, .int .i64 un, .int .i64 lg, .int .u32 mx] 25)
  have x1 : Row (w1.alloc (.cells #[.int .i64 pg, .int .i64 un, .int .i64 lg, .int .u32 mx] 25)) (w.heap.size + 1) #[.int .i64 pg, .int .i64 un, .int .i64 lg, .int .u32 mx] 25 := by rw [← hs]; exact Row.new _ _ _
  have yb := yb.alloc (by omega) (.cells #[.int .i64 pg, .int .i64 un, .int .i64 lg, .int .u32 mx] 25)
  clear c5 c6 c7 c8 y0 hs hz
  generalize w1.alloc (.cells #[.int .i64 pg, .int .i64 un, .int .i64 lg, .int .u32 mx] 25) = w2 at x0 x1 yb ⊢
  have c4 := row_at x0 4 (.int .u32 la) rfl
  have d0 := row_at x1 0 (.int .i64 pg) rfl
  have d1 := row_at x1 1 (.int .i64 un) rfl
  have d2 := row_at x1 2 (.int .i64 lg) rfl
  have d3 := row_at x1 3 (.int .u32 mx) rfl
  clear x0 x1
  by_cases h1 : pg < 1
  · go_wp2
    go_ret
    exact ⟨by rw [HM.out]; simp; omega, yb⟩
  · by_cases h2 : un < 1
    · go_wp2
      go_ret
      exact ⟨by rw [HM.out]; simp; omega, yb⟩
    · by_cases h3 : lg < 64
      · go_wp2
        go_ret
        exact ⟨by rw [HM.out]; simp; omega, yb⟩
      · by_cases h4 : pg ≤ 16
        · by_cases h5 : un ≤ 32
          · by_cases h6 : lg ≤ 512
            · go_wp2
              go_ret
              exact ⟨by rw [HM.out, show decide (1 ≤ pg ∧ pg ≤ 16) = true by simp; omega, show decide (1 ≤ un ∧ un ≤ 32) = true by simp; omega, show decide (64 ≤ lg ∧ lg ≤ 512) = true by simp; omega]; rfl, yb⟩
            · go_wp2
              go_ret
              exact ⟨by rw [HM.out]; simp; omega, yb⟩
          · go_wp2
            go_ret
            exact ⟨by rw [HM.out]; simp; omega, yb⟩
        · go_wp2
          go_ret
          exact ⟨by rw [HM.out]; simp; omega, yb⟩

theorem plain_fit (q : Int) (h : 0 ≤ q ∧ q ≤ 18446744073709551615) : (plainM q).Fit := ⟨h, by simp [plainM], by simp [plainM], by simp [plainM], by simp [plainM], by simp [plainM], by simp [plainM], by simp [plainM], by simp [plainM]⟩
theorem new_well (n : Nat) : Well (Dsk.new n) n 0 := ⟨rfl, rfl, rfl, fun _ => rfl, by simp [Dsk.new], by simp [Dsk.new]⟩
theorem new_seen (n : Nat) (b : Int) : (Dsk.new n).seen b = zs 256 := by
  show blk (fun i => ((Dsk.new n).sure.get b (i : Int))) 4 = _
  have : (fun i : Nat => ((Dsk.new n).sure.get b (i : Int))) = fun _ => zs 64 := by funext i; rfl
  rw [this]
  decide +kernel
theorem ldB_none {b0 b1 : List Int} (h0 : isM b0 = false) (h1 : isM b1 = false) : ldB b0 b1 = (zm, 0, 2) := by
  unfold ldB ldR
  simp [ldS, twoB, h0, h1]
theorem ldB_fst {b0 b1 : List Int} (h0 : isM b0 = true) (h1 : isM b1 = false ∨ (gotM b1).seq ≤ (gotM b0).seq) : ldB b0 b1 = (gotM b0, 0, 0) := by
  unfold ldB ldR
  rcases h1 with h1 | h1
  · simp [ldS, twoB, h0, h1]
  · have h2 : ¬ (gotM b0).seq < (gotM b1).seq := by omega
    simp [ldS, twoB, h0, h2]
theorem ldB_snd {b0 b1 : List Int} (h1 : isM b1 = true) (h0 : isM b0 = false ∨ (gotM b0).seq < (gotM b1).seq) : ldB b0 b1 = (gotM b1, 1, 0) := by
  unfold ldB ldR
  rcases h0 with h0 | h0
  · simp [ldS, twoB, h0, h1]
  · cases h2 : isM b0
    · simp [ldS, twoB, h2, h1]
    · simp [ldS, twoB, h2, h1, h0]
theorem ldB_right (m : M) (hf : m.Fit) (hm : mayM m = true) : ldB (zs 256) (packB m) = (m, 1, 0) := by
  rw [ldB_snd (isM_packB m hf hm) (Or.inl isM_zs), gotM_packB m hf hm]

set_option maxHeartbeats 4000000 in
theorem awake_any (w : World) : Calls Try.prog 15 #[] w fun e w' => e = .returned (.bool true) ∧ Below w.heap.size w w' := by
  have HP : Hid _ := fun w => plain_any 5 w
  have HZ : Hid (∀ w, Calls Try.prog 14 #[.agg #[.int .i64 2, .int .i64 3, .int .i64 64, .int .u32 100]] w fun e w' => e = .returned (.int .i64 71) ∧ Below w.heap.size w w') := fun w => msize_any (plainM 5) w
  have HEQ : Hid (∀ w, (Op.equalIn 10000 27 (.agg #[.int .u64 5, .int .u32 3, .int .u32 0, .int .u64 9, .int .u32 0, .int .i64 2, .int .i64 3, .int .i64 64, .int .u32 100]) (.agg #[.int .u64 5, .int .u32 3, .int .u32 0, .int .u64 9, .int .u32 0, .int .i64 2, .int .i64 3, .int .i64 64, .int .u32 100])).run Try.prog w = .ok true w) := fun w => by
    have := equal27 (plainM 5) (plainM 5) w
    rw [eqM_self] at this; exact this
  have hf : (plainM 5).Fit := plain_fit 5 (by decide)
  have hk : okS (plainM 5) 1 = true := by decide +kernel
  have hm : mayM (plainM 5) = true := by decide +kernel
  have es := stor_well (new_well 4) 1 (plainM 5) hk (by decide)
  obtain ⟨D1, HD1⟩ : ∃ x, Hid ((((((Dsk.new 4).tick ((Dsk.new 4).ops + 1)).wrote 1 (packB (plainM 5)) 4).tick ((Dsk.new 4).ops + 2)).synced) = x) := ⟨_, rfl⟩
  rw [HD1.out] at es
  have w1 : Well D1 4 2 := by rw [← HD1.out]; exact ⟨rfl, rfl, rfl, fun _ => rfl, by decide, by decide⟩
  have l1 := (load_well w1 (by decide)).1
  have s0 : D1.seen 0 = zs 256 := by
    rw [← HD1.out, synced_seen, tick_seen, wrote_other _ _ _ _ (by decide), tick_seen, new_seen]
  have s1 : D1.seen 1 = packB (plainM 5) := by
    rw [← HD1.out, synced_seen, tick_seen, wrote_seen _ _ _ (packB_length _)]
  rw [s0, s1, ldB_right _ hf hm] at l1
  have HST : Hid (∀ (wa : World) (g : Nat) (L : Loc), DAt wa g (Dsk.new 4) L 0 → Calls Try.prog 21 #[.pointer (some ⟨g, 0, none⟩), .int .i64 1, .agg #[.int .u64 5, .int .u32 3, .int .u32 0, .int .u64 9, .int .u32 0, .int .i64 2, .int .i64 3, .int .i64 64, .int .u32 100]] wa fun e w' => e = .returned (.int .i64 0) ∧ Crashed wa g D1 L 4 w') := fun wa g L h => by
    have := mstore_any h (by decide) (by decide) 1 (plainM 5) hf
    rw [es] at this; exact this
  have HLD : Hid (∀ (wa : World) (g : Nat) (L : Loc), DAt wa g D1 L 4 → Calls Try.prog 19 #[.pointer (some ⟨g, 0, none⟩)] wa fun e w' => e = .returned (.tuple #[.agg #[.int .u64 5, .int .u32 3, .int .u32 0, .int .u64 9, .int .u32 0, .int .i64 2, .int .i64 3, .int .i64 64, .int .u32 100], .int .i64 1, .int .i64 0]) ∧ Off (foot g L) wa w') := fun wa g L h => by
    have := mload_any h (by have := w1.hi; omega)
    rw [l1] at this
    refine this.mono ?_
    rintro e w' ⟨rfl, _, h2⟩
    exact ⟨rfl, h2⟩
  clear es w1 l1 s0 s1 hf hk hm HD1
  have hz := zero27
  go_enter Try.func15, Try.ntmps15
  go_upto_region 2 with (go_at_call 16; refine (new_some 4 (by decide) (by decide) _).mono ?_; rintro ex wa ⟨rfl, hd, hb⟩)
  have hfo := fun j => new_foot w.heap.size j
  generalize Loc.new w.heap.size = L at hd hfo
  generalize hG : w.heap.size + 2 = G at hd hfo ⊢
  go_upto_region 4 with (first
    | (go_at_call 20; refine (HP.out _).mono ?_; rintro ex wp ⟨rfl, hp⟩)
    | (go_at_call 21; refine (HST.out _ _ _ (hd.below hp)).mono ?_; clear HST; rintro ex ws ⟨rfl, ⟨L2, k1, k2, k3⟩⟩))
  have o1 : Below w.heap.size w ws := (hb.trans (hp.mono hb.size)).trans (k2.below (Nat.le_trans hb.size hp.size) (fun k hk => hfo k hk))
  have hfo2 : ∀ j, foot G L2 j → w.heap.size ≤ j := fun j hj => by
    rcases k3 j hj with q | q
    · exact hfo j q
    · have := hb.size; have := hp.size; omega
  clear hd hp hb k2 k3 hfo
  go_upto_region 5 with (first
    | (go_at_call 19; refine (HLD.out _ _ _ k1).mono ?_; clear HLD; rintro ex wl ⟨rfl, k2⟩
       have qm : Row (wl.alloc (.cells #[.int .u64 0, .int .u32 0, .int .u32 0, .int .u64 0, .int .u32 0, .int .i64 0, .int .i64 0, .int .i64 0, .int .u32 0] 27)) wl.heap.size #[.int .u64 0, .int .u32 0, .int .u32 0, .int .u64 0, .int .u32 0, .int .i64 0, .int .i64 0, .int .i64 0, .int .u32 0] 27 := Row.new _ _ _)
    | (refine store_cells rfl 27 (.tmp 2) (.tmp 17) rfl wl.heap.size #[.int .u64 5, .int .u32 3, .int .u32 0, .int .u64 9, .int .u32 0, .int .i64 2, .int .i64 3, .int .i64 64, .int .u32 100] rfl rfl 27 _ qm 9 size27 rfl rfl (by simp [Value.oneCell']) ?_))
  have wb := o1.trans (k2.below o1.size hfo2)
  have qm := qm.set #[.int .u64 5, .int .u32 3, .int .u32 0, .int .u64 9, .int .u32 0, .int .i64 2, .int .i64 3, .int .i64 64, .int .u32 100]
  have wb := below_setRow (wb.alloc wb.size (.cells #[.int .u64 0, .int .u32 0, .int .u32 0, .int .u64 0, .int .u32 0, .int .i64 0, .int .i64 0, .int .i64 0, .int .u32 0] 27)) wb.size #[.int .u64 5, .int .u32 3, .int .u32 0, .int .u64 9, .int .u32 0, .int .i64 2, .int .i64 3, .int .i64 64, .int .u32 100]
  show Code.wp _ _ _ _ ((wl.alloc (.cells #[.int .u64 0, .int .u32 0, .int .u32 0, .int .u64 0, .int .u32 0, .int .i64 0, .int .i64 0, .int .i64 0, .int .u32 0] 27)).setRow wl.heap.size #[.int .u64 5, .int .u32 3, .int .u32 0, .int .u64 9, .int .u32 0, .int .i64 2, .int .i64 3, .int .i64 64, .int .u32 100])
  generalize (wl.alloc (.cells #[.int .u64 0, .int .u32 0, .int .u32 0, .int .u64 0, .int .u32 0, .int .i64 0, .int .i64 0, .int .i64 0, .int .u32 0] 27)).setRow wl.heap.size #[.int .u64 5, .int .u32 3, .int .u32 0, .int .u64 9, .int .u32 0, .int .i64 2, .int .i64 3, .int .i64 64, .int .u32 100] = wm at qm wb ⊢
  generalize wl.heap.size = gm at qm ⊢
  clear k1 k2 hfo2 o1 hz
  refine wp_region_held_drew (S := fun w' => Row w' gm #[.int .u64 5, .int .u32 3, .int .u32 0, .int .u64 9, .int .u32 0, .int .i64 2, .int .i64 3, .int .i64 64, .int .u32 100] 27 ∧ Below w.heap.size w w') (by kernel_rfl) ⟨qm, wb.drew⟩ fun hS => ?_
  clear qm wb
  refine wpAnyH_take (i := 0) (v := .int .i64 0) rfl (by kernel_rfl) (by kernel_rfl) (by kernel_rfl) (fun _ _ _ h => h) (Or.inl ⟨by rfl, fun w _ => by go_simp⟩) hS ?_
  try simp only [Act.put, List.getElem_toArray, List.getElem_cons_zero, List.getElem_cons_succ, List.setIfInBounds_toArray, List.set_cons_zero, List.set_cons_succ]
  refine wpAnyH_take (i := 1) (v := .bool true) rfl (by kernel_rfl) (by kernel_rfl) (by kernel_rfl) (fun _ _ _ h => h) (Or.inl ⟨by rfl, fun w _ => by go_simp⟩) hS ?_
  try simp only [Act.put, List.getElem_toArray, List.getElem_cons_zero, List.getElem_cons_succ, List.setIfInBounds_toArray, List.set_cons_zero, List.set_cons_succ]
  refine wpAnyH_take (i := 2) (v := .bool true) rfl (by kernel_rfl) (by kernel_rfl) (by kernel_rfl) (fun _ _ _ h => h) (Or.inl ⟨by rfl, fun w _ => by go_simp⟩) hS ?_
  try simp only [Act.put, List.getElem_toArray, List.getElem_cons_zero, List.getElem_cons_succ, List.setIfInBounds_toArray, List.set_cons_zero, List.set_cons_succ]
  refine wpAnyH_take (i := 3) (v := .int .i64 1) rfl (by kernel_rfl) (by kernel_rfl) (by kernel_rfl) (fun _ _ _ h => h) (Or.inl ⟨by rfl, fun w _ => by go_simp⟩) hS ?_
  try simp only [Act.put, List.getElem_toArray, List.getElem_cons_zero, List.getElem_cons_succ, List.setIfInBounds_toArray, List.set_cons_zero, List.set_cons_succ]
  refine wpAnyH_take (i := 4) (v := .bool true) rfl (by kernel_rfl) (by kernel_rfl) (by kernel_rfl) (fun _ _ _ h => h) (Or.inl ⟨by rfl, fun w _ => by go_simp⟩) hS ?_
  try simp only [Act.put, List.getElem_toArray, List.getElem_cons_zero, List.getElem_cons_succ, List.setIfInBounds_toArray, List.set_cons_zero, List.set_cons_succ]
  refine wpAnyH_take (i := 5) (v := .bool true) rfl (by kernel_rfl) (by kernel_rfl) (by kernel_rfl) (fun _ _ _ h => h) (Or.inl ⟨by rfl, fun w _ => by go_simp⟩) hS ?_
  try simp only [Act.put, List.getElem_toArray, List.getElem_cons_zero, List.getElem_cons_succ, List.setIfInBounds_toArray, List.set_cons_zero, List.set_cons_succ]
  refine wpAnyH_take (i := 6) (v := .bool true) rfl (by kernel_rfl) (by kernel_rfl) (by kernel_rfl) (fun _ _ _ h => h) (Or.inl ⟨by rfl, fun w _ => by go_simp⟩) hS ?_
  try simp only [Act.put, List.getElem_toArray, List.getElem_cons_zero, List.getElem_cons_succ, List.setIfInBounds_toArray, List.set_cons_zero, List.set_cons_succ]
  refine wpAnyH_take (i := 7) (v := .agg #[.int .u64 5, .int .u32 3, .int .u32 0, .int .u64 9, .int .u32 0, .int .i64 2, .int .i64 3, .int .i64 64, .int .u32 100]) rfl (by kernel_rfl) (by kernel_rfl) (by kernel_rfl) (fun _ _ _ h => h) (yields_cells (by rfl) 27 (.tmp 2) rfl gm rfl 27 #[.int .u64 5, .int .u32 3, .int .u32 0, .int .u64 9, .int .u32 0, .int .i64 2, .int .i64 3, .int .i64 64, .int .u32 100] (fun w h => h.1) 9 Try.underlying27 rfl size27 rfl) hS ?_
  try simp only [Act.put, List.getElem_toArray, List.getElem_cons_zero, List.getElem_cons_succ, List.setIfInBounds_toArray, List.set_cons_zero, List.set_cons_succ]
  refine wpAnyH_ready (rs := [8]) (by kernel_rfl) (by simp) ?_
  refine AllReadyH.cons rfl (fun K hK => ?_) AllReadyH.nil
  go_simp
  go_at_call 20
  refine Calls.mono (HP.out _) ?_
  rintro e wc ⟨rfl, hcb⟩
  refine hK.out _ _ (⟨hS.1.below hcb hS.1.lt, hS.2.trans (hcb.mono hS.2.size)⟩) fun hS => ?_
  try simp only [Act.put, List.getElem_toArray, List.getElem_cons_zero, List.getElem_cons_succ, List.setIfInBounds_toArray, List.set_cons_zero, List.set_cons_succ]
  clear hcb
  refine wpAnyH_take (i := 9) (v := .bool true) rfl (by kernel_rfl) (by kernel_rfl) (by kernel_rfl) (fun _ _ _ h => h) (yields_eq (by rfl) 27 27 (.tmp 27) (.tmp 28) rfl #[.int .u64 5, .int .u32 3, .int .u32 0, .int .u64 9, .int .u32 0, .int .i64 2, .int .i64 3, .int .i64 64, .int .u32 100] #[.int .u64 5, .int .u32 3, .int .u32 0, .int .u64 9, .int .u32 0, .int .i64 2, .int .i64 3, .int .i64 64, .int .u32 100] rfl rfl (by kernel_rfl) true HEQ.out) hS ?_
  try simp only [Act.put, List.getElem_toArray, List.getElem_cons_zero, List.getElem_cons_succ, List.setIfInBounds_toArray, List.set_cons_zero, List.set_cons_succ]
  refine wpAnyH_take (i := 10) (v := .bool true) rfl (by kernel_rfl) (by kernel_rfl) (by kernel_rfl) (fun _ _ _ h => h) (Or.inl ⟨by rfl, fun w _ => by go_simp⟩) hS ?_
  try simp only [Act.put, List.getElem_toArray, List.getElem_cons_zero, List.getElem_cons_succ, List.setIfInBounds_toArray, List.set_cons_zero, List.set_cons_succ]
  refine wpAnyH_take (i := 11) (v := .bool true) rfl (by kernel_rfl) (by kernel_rfl) (by kernel_rfl) (fun _ _ _ h => h) (Or.inl ⟨by rfl, fun w _ => by go_simp⟩) hS ?_
  try simp only [Act.put, List.getElem_toArray, List.getElem_cons_zero, List.getElem_cons_succ, List.setIfInBounds_toArray, List.set_cons_zero, List.set_cons_succ]
  refine wpAnyH_take (i := 12) (v := .pointer (some ⟨gm, 5, none⟩)) rfl (by kernel_rfl) (by kernel_rfl) (by kernel_rfl) (fun _ _ _ h => h) (Or.inl ⟨by rfl, fun w _ => by go_simp⟩) hS ?_
  try simp only [Act.put, List.getElem_toArray, List.getElem_cons_zero, List.getElem_cons_succ, List.setIfInBounds_toArray, List.set_cons_zero, List.set_cons_succ]
  refine wpAnyH_take (i := 13) (v := .agg #[.int .i64 2, .int .i64 3, .int .i64 64, .int .u32 100]) rfl (by kernel_rfl) (by kernel_rfl) (by kernel_rfl) (fun _ _ _ h => h) (Or.inl ⟨by rfl, fun w h => by have c0 := row_at h.1 5 _ rfl; have c1 := row_at h.1 6 _ rfl; have c2 := row_at h.1 7 _ rfl; have c3 := row_at h.1 8 _ rfl; go_simp⟩) hS ?_
  try simp only [Act.put, List.getElem_toArray, List.getElem_cons_zero, List.getElem_cons_succ, List.setIfInBounds_toArray, List.set_cons_zero, List.set_cons_succ]
  refine wpAnyH_ready (rs := [14]) (by kernel_rfl) (by simp) ?_
  refine AllReadyH.cons rfl (fun K hK => ?_) AllReadyH.nil
  go_simp
  go_at_call 14
  refine Calls.mono (HZ.out _) ?_
  rintro e w2_14 ⟨rfl, hcb⟩
  refine hK.out _ _ (⟨hS.1.below hcb hS.1.lt, hS.2.trans (hcb.mono hS.2.size)⟩) fun hS => ?_
  try simp only [Act.put, List.getElem_toArray, List.getElem_cons_zero, List.getElem_cons_succ, List.setIfInBounds_toArray, List.set_cons_zero, List.set_cons_succ]
  clear hcb
  refine wpAnyH_take (i := 15) (v := .bool true) rfl (by kernel_rfl) (by kernel_rfl) (by kernel_rfl) (fun _ _ _ h => h) (Or.inl ⟨by rfl, fun w _ => by go_simp⟩) hS ?_
  try simp only [Act.put, List.getElem_toArray, List.getElem_cons_zero, List.getElem_cons_succ, List.setIfInBounds_toArray, List.set_cons_zero, List.set_cons_succ]
  refine wpAnyH_take (i := 16) (v := .bool true) rfl (by kernel_rfl) (by kernel_rfl) (by kernel_rfl) (fun _ _ _ h => h) (Or.inl ⟨by rfl, fun w _ => by go_simp⟩) hS ?_
  try simp only [Act.put, List.getElem_toArray, List.getElem_cons_zero, List.getElem_cons_succ, List.setIfInBounds_toArray, List.set_cons_zero, List.set_cons_succ]
  refine wpAnyH_take (i := 17) (v := .bool true) rfl (by kernel_rfl) (by kernel_rfl) (by kernel_rfl) (fun _ _ _ h => h) (Or.inl ⟨by rfl, fun w _ => by go_simp⟩) hS ?_
  try simp only [Act.put, List.getElem_toArray, List.getElem_cons_zero, List.getElem_cons_succ, List.setIfInBounds_toArray, List.set_cons_zero, List.set_cons_succ]
  refine wpAnyH_done (by kernel_rfl) ?_ _
  go_wp2
  go_ret
  exact ⟨rfl, hS.2⟩
end Go.Proofs.Ytcbjjofckhohjaa
