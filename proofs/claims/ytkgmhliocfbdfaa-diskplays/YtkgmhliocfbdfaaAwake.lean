/-
  Proved here: disk.Write where it is refused; that what was written is read (the statements' own fixed run).
-/
import Derived.Test.YtkgmhliocfbdfaaWrite
namespace Go.Proofs.Ytkgmhliocfbdfaa
open Go.ChangeShapes Go.WideShapes Go.ChangeAt Go.RowKit
set_option linter.unusedVariables false
set_option linter.unusedSimpArgs false

/-- Write, where it is refused. -/
theorem write_err (v : Value) (b E : Int) (hE : ¬ E = 0) (x : List Int) (w : World) (F : Nat → Prop) (T : World → Prop)
    (hh : ∀ wa, Below w.heap.size w wa → Calls Try.prog 37 #[v, .int .i64 b] wa fun e w' => e = .returned (.int .i64 E) ∧ Off F wa w' ∧ T w') :
    Calls Try.prog 26 #[v, .int .i64 b, .agg (bs x)] w fun e w' => e = .returned (.int .i64 E) ∧ Off F w w' ∧ T w' := by
  have ab : Below w.heap.size w (w.alloc (.cells (bs x) 35)) := (Below.refl _ _).alloc (Nat.le_refl _) _
  go_enter Try.func26, Try.ntmps26
  go_wp2_with (go_at_call 37; refine (hh _ ab).mono ?_; rintro e w' ⟨rfl, ho, ht⟩)
  go_ret
  exact ⟨rfl, (Off.of_below (F := F) ab).trans ho (fun j hj => Or.inl hj), ht⟩
/-- What Write answers and leaves. -/
def writ (d : Dsk) (b : Int) (x : List Int) : Int × Dsk := if (ask d b).1 = 0 then (0, (ask d b).2.wrote b x 4) else ask d b
theorem write_any {w : World} {g : Nat} {d : Dsk} {L : Loc} {N : Nat} (h : DAt w g d L N) (ho : d.ops < 9223372036854775806) (b : Int) (x : List Int) (hx : x.length = 256) (xb : Bytes x) (hN : N + 4 < 1000000000000) :
    Calls Try.prog 26 #[.pointer (some ⟨g, 0, none⟩), .int .i64 b, .agg (bs x)] w fun e w' => e = .returned (.int .i64 (writ d b x).1) ∧ ∃ L', DAt w' g (writ d b x).2 L' (N + 4) ∧ Off (foot g L) w w' ∧ ∀ j, foot g L' j → foot g L j ∨ w.heap.size ≤ j := by
  by_cases e0 : (ask d b).1 = 0
  · have e : writ d b x = (0, (ask d b).2.wrote b x 4) := by unfold writ; rw [if_pos e0]
    rw [e]
    exact write_in h ho b x hx xb hN e0
  · have e : writ d b x = ask d b := by unfold writ; rw [if_neg e0]
    rw [e]
    refine (write_err _ b (ask d b).1 e0 x w (foot g L) (fun w' => DAt w' g (ask d b).2 L N) fun wa hb => ?_).mono ?_
    · refine (ask_any (h.below hb) ho b).mono ?_
      rintro e w' ⟨rfl, h1, h2⟩
      exact ⟨rfl, h2.mono (fun j hj => Or.inl (Or.inl hj)), h1⟩
    · rintro e w' ⟨rfl, h1, h2⟩
      refine ⟨rfl, L, { h2 with sure := ?_, big := hN }, h1, fun j hj => Or.inl hj⟩
      obtain ⟨s, hs, hle⟩ := h2.sure
      exact ⟨s, hs, by omega⟩
theorem wrote_seen (d : Dsk) (b : Int) (x : List Int) (hx : x.length = 256) : (d.wrote b x 4).seen b = x := by
  unfold Dsk.seen Secs.block
  have e : (d.wrote b x 4).sure = d.sure ∧ (d.wrote b x 4).pend = d.pend ++ [(b, 0, cut x 0), (b, 1, cut x 1), (b, 2, cut x 2), (b, 3, cut x 3)] := by
    constructor
    · rfl
    · simp [Dsk.wrote, Dsk.push]
  rw [e.1, e.2, over_append]
  generalize over d.sure d.pend = f
  have h2 : ∀ i : Nat, i < 4 → (over f [(b, 0, cut x 0), (b, 1, cut x 1), (b, 2, cut x 2), (b, 3, cut x 3)]).get b (i : Int) = cut x i := by
    intro i hi
    have : i = 0 ∨ i = 1 ∨ i = 2 ∨ i = 3 := by omega
    rcases this with rfl | rfl | rfl | rfl <;> simp [over, Secs.put, Secs.get]
  rw [blk_congr _ (cut x) (fun i hi => by rw [h2 i hi]; exact cut_length x i hx hi) h2]
  exact blk_cut x hx
theorem wrote_ops (d : Dsk) (b : Int) (x : List Int) : (d.wrote b x 4).ops = d.ops ∧ (d.wrote b x 4).down = d.down ∧ (d.wrote b x 4).n = d.n ∧ (d.wrote b x 4).fuse = d.fuse ∧ (d.wrote b x 4).fails = d.fails := ⟨rfl, rfl, rfl, rfl, rfl⟩

theorem filled_at (b : Int) (hb : 0 ≤ b ∧ b ≤ 255) (x : List Int) (hx : filled b = x) (w : World) : Calls Try.prog 14 #[.int .u8 b] w fun e w' => e = .returned (.agg (bs x)) ∧ Below w.heap.size w w' := by
  subst hx; exact filled_any b hb w

set_option maxHeartbeats 1000000 in
theorem awake_any (w : World) : Calls Try.prog 10 #[] w fun e w' => e = .returned (.bool true) ∧ Below w.heap.size w w' := by
  have hf9 := filled_at 9 (by omega)
  have hxl := filled_length 9
  have hxb := filled_bytes 9
  obtain ⟨x, HX⟩ : ∃ x, Hid (filled 9 = x) := ⟨_, rfl⟩
  have hf9 := hf9 x HX.out
  rw [HX.out] at hxl hxb
  have hnew := new_some 2 (by omega) (by omega) w
  have a1 : ask (Dsk.new 2) 1 = (0, { Dsk.new 2 with ops := 1 }) := by simp [ask, count, Dsk.new]
  have w1 : writ (Dsk.new 2) 1 x = (0, ({ Dsk.new 2 with ops := 1 } : Dsk).wrote 1 x 4) := by unfold writ; rw [a1]; rfl
  obtain ⟨d2, HD2⟩ : ∃ d2, Hid ((({ Dsk.new 2 with ops := 1 } : Dsk).wrote 1 x 4) = d2) := ⟨_, rfl⟩
  rw [HD2.out] at w1
  have a2 : ask d2 1 = (0, { d2 with ops := 2 }) := by
    rw [← HD2.out]
    simp [ask, count, wrote_ops, Dsk.new]
  have s2 : d2.seen 1 = x := by rw [← HD2.out]; exact wrote_seen _ 1 x hxl
  have r2 : read d2 1 = (x, 0, { d2 with ops := 2 }) := by
    unfold read; rw [a2]
    simp only [if_true]
    show (Dsk.seen { d2 with ops := 2 } 1, (0 : Int), ({ d2 with ops := 2 } : Dsk)) = _
    have : Dsk.seen { d2 with ops := 2 } 1 = d2.seen 1 := rfl
    rw [this, s2]
  have o2 : d2.ops = 1 := by rw [← HD2.out]; rfl
  have n2 : d2.n = 2 := by rw [← HD2.out]; rfl
  have HW1 : Hid _ := w1
  have HR2 : Hid _ := r2
  have HN2 : Hid _ := n2
  have HO2 : Hid _ := o2
  clear w1 r2 n2 o2 a1 a2 s2
  have he : Hid (∀ w, (Op.equalIn 10000 35 (.agg (bs x)) (.agg (bs x))).run Try.prog w = .ok true w) := fun w => by rw [equal35 x x hxl hxl w]; simp
  have hz := zero35
  go_enter Try.func10, Try.ntmps10
  go_wp2_with (first
    | (go_at_call 9; refine hnew.mono ?_; rintro e w1 ⟨rfl, D1, B1⟩)
    | (go_at_call 14; refine (hf9 _).mono ?_; rintro e w2 ⟨rfl, B2⟩
       have D2 := D1.below B2)
    | (go_at_call 26; refine (write_any D2 (by simp [Dsk.new]) 1 x hxl hxb (by omega)).mono ?_; rw [HW1.out]; rintro e w3 ⟨rfl, L3, D3, O3, F3⟩)
    | (go_at_call 30; refine (read_any D3 (by rw [HO2.out]; omega) 1).mono ?_; rw [HR2.out]; rintro e w4 ⟨rfl, D4, O4⟩
       have y0 : Row (w4.alloc (.cells (bs (zs 256)) 35)) w4.heap.size (bs (zs 256)) 35 := Row.new _ _ _)
    | (refine store_row rfl 35 (.tmp 2) (.tmp 16) rfl w4.heap.size x rfl rfl 35 _ y0 256 size35 (by rw [bs_size, zs_length]) hxl ?_))
  have B3 : Below w.heap.size w w3 := (B1.trans (B2.mono B1.size)).trans (O3.below (Nat.le_trans B1.size B2.size) (fun k hk => new_foot _ _ hk))
  have B4 : Below w.heap.size w w4 := B3.trans (O4.below B3.size (fun k hk => by
    rcases F3 k hk with q | q
    · exact new_foot _ _ q
    · have := B1.size; have := B2.size; omega))
  have B5 : Below w.heap.size w ((w4.alloc (.cells (bs (zs 256)) 35)).setRow w4.heap.size (bs x)) := below_setRow (B4.alloc B4.size _) B4.size _
  have y5 : Row ((w4.alloc (.cells (bs (zs 256)) 35)).setRow w4.heap.size (bs x)) w4.heap.size (bs x) 35 := y0.set _
  have D5 : DAt ((w4.alloc (.cells (bs (zs 256)) 35)).setRow w4.heap.size (bs x)) (w.heap.size + 2) { d2 with ops := 2 } L3 (0 + 4) := (D4.alloc _).setRow _ _ (fun q => by have := D4.lt q; omega)
  generalize (w4.alloc (.cells (bs (zs 256)) 35)).setRow w4.heap.size (bs x) = w5 at B5 y5 D5 ⊢
  generalize w4.heap.size = Y at y5 ⊢
  clear y0 D1 D2 D3 D4 O3 O4 F3 B1 B2 B3 B4
  obtain ⟨g, HG⟩ : ∃ g, Hid (w.heap.size + 2 = g) := ⟨_, rfl⟩
  have hn5 : Hid (({ d2 with ops := 2 } : Dsk).n = 2) := HN2.out
  generalize ({ d2 with ops := 2 } : Dsk) = d5 at D5 hn5
  rw [HG.out] at D5 ⊢
  refine wp_region_held_drew (S := fun w' => Row w' Y (bs x) 35 ∧ DAt w' g d5 L3 (0 + 4) ∧ Below w.heap.size w w') (by kernel_rfl) ⟨y5, D5.drew, B5.drew⟩ fun hS => ?_
  refine wpAnyH_take (i := 0) (v := .int .i64 0) rfl (by kernel_rfl) (by kernel_rfl) (by kernel_rfl) (fun _ _ _ h => h) (Or.inl ⟨by rfl, fun w _ => by rfl⟩) hS ?_
  try simp only [Act.put, List.getElem_toArray, List.getElem_cons_zero, List.getElem_cons_succ, List.setIfInBounds_toArray, List.set_cons_zero, List.set_cons_succ]
  refine wpAnyH_take (i := 1) (v := .bool true) rfl (by kernel_rfl) (by kernel_rfl) (by kernel_rfl) (fun _ _ _ h => h) (Or.inl ⟨by rfl, fun w _ => by go_simp⟩) hS ?_
  try simp only [Act.put, List.getElem_toArray, List.getElem_cons_zero, List.getElem_cons_succ, List.setIfInBounds_toArray, List.set_cons_zero, List.set_cons_succ]
  refine wpAnyH_take (i := 2) (v := .bool true) rfl (by kernel_rfl) (by kernel_rfl) (by kernel_rfl) (fun _ _ _ h => h) (Or.inl ⟨by rfl, fun w _ => by rfl⟩) hS ?_
  try simp only [Act.put, List.getElem_toArray, List.getElem_cons_zero, List.getElem_cons_succ, List.setIfInBounds_toArray, List.set_cons_zero, List.set_cons_succ]
  refine wpAnyH_take (i := 3) (v := .agg (bs x)) rfl (by kernel_rfl) (by kernel_rfl) (by kernel_rfl) (fun _ _ _ h => h) (yields_row (by rfl) 35 (.tmp 2) rfl Y rfl 35 (bs x) (fun w h => h.1) 256 5 Try.underlying35 size35 (by rw [bs_size, hxl])) hS ?_
  try simp only [Act.put, List.getElem_toArray, List.getElem_cons_zero, List.getElem_cons_succ, List.setIfInBounds_toArray, List.set_cons_zero, List.set_cons_succ]
  refine wpAnyH_ready (rs := [4]) (by kernel_rfl) (by simp) ?_
  refine AllReadyH.cons rfl (fun K hK => ?_) AllReadyH.nil
  go_simp
  go_at_call 14
  refine (hf9 _).mono ?_
  rintro e wc ⟨rfl, hcb⟩
  refine hK.out _ _ (⟨hS.1.below hcb hS.1.lt, hS.2.1.below hcb, hS.2.2.trans (hcb.mono hS.2.2.size)⟩) fun hS => ?_
  try simp only [Act.put, List.getElem_toArray, List.getElem_cons_zero, List.getElem_cons_succ, List.setIfInBounds_toArray, List.set_cons_zero, List.set_cons_succ]
  refine wpAnyH_take (i := 5) (v := .bool true) rfl (by kernel_rfl) (by kernel_rfl) (by kernel_rfl) (fun _ _ _ h => h) (yields_eq (by rfl) 35 35 (.tmp 21) (.tmp 22) rfl (bs x) (bs x) rfl rfl Try.eqGuardType35 true he.out) hS ?_
  try simp only [Act.put, List.getElem_toArray, List.getElem_cons_zero, List.getElem_cons_succ, List.setIfInBounds_toArray, List.set_cons_zero, List.set_cons_succ]
  refine wpAnyH_take (i := 6) (v := .bool true) rfl (by kernel_rfl) (by kernel_rfl) (by kernel_rfl) (fun _ _ _ h => h) (Or.inl ⟨by rfl, fun w _ => by go_simp⟩) hS ?_
  try simp only [Act.put, List.getElem_toArray, List.getElem_cons_zero, List.getElem_cons_succ, List.setIfInBounds_toArray, List.set_cons_zero, List.set_cons_succ]
  refine wpAnyH_take (i := 7) (v := .bool true) rfl (by kernel_rfl) (by kernel_rfl) (by kernel_rfl) (fun _ _ _ h => h) (Or.inl ⟨by rfl, fun w _ => by rfl⟩) hS ?_
  try simp only [Act.put, List.getElem_toArray, List.getElem_cons_zero, List.getElem_cons_succ, List.setIfInBounds_toArray, List.set_cons_zero, List.set_cons_succ]
  refine wpAnyH_take (i := 8) (v := .pointer (some ⟨g, 0, none⟩)) rfl (by kernel_rfl) (by kernel_rfl) (by kernel_rfl) (fun _ _ _ h => h) (Or.inl ⟨by rfl, fun w _ => by rfl⟩) hS ?_
  try simp only [Act.put, List.getElem_toArray, List.getElem_cons_zero, List.getElem_cons_succ, List.setIfInBounds_toArray, List.set_cons_zero, List.set_cons_succ]
  refine wpAnyH_ready (rs := [9]) (by kernel_rfl) (by simp) ?_
  refine AllReadyH.cons rfl (fun K hK => ?_) AllReadyH.nil
  go_simp
  go_at_call 21
  refine (size_any hS.2.1).mono ?_
  rw [hn5.out]; rintro e wc ⟨rfl, rfl⟩
  refine hK.out _ _ (hS) fun hS => ?_
  try simp only [Act.put, List.getElem_toArray, List.getElem_cons_zero, List.getElem_cons_succ, List.setIfInBounds_toArray, List.set_cons_zero, List.set_cons_succ]
  refine wpAnyH_take (i := 10) (v := .bool true) rfl (by kernel_rfl) (by kernel_rfl) (by kernel_rfl) (fun _ _ _ h => h) (Or.inl ⟨by rfl, fun w _ => by go_simp⟩) hS ?_
  try simp only [Act.put, List.getElem_toArray, List.getElem_cons_zero, List.getElem_cons_succ, List.setIfInBounds_toArray, List.set_cons_zero, List.set_cons_succ]
  refine wpAnyH_take (i := 11) (v := .bool true) rfl (by kernel_rfl) (by kernel_rfl) (by kernel_rfl) (fun _ _ _ h => h) (Or.inl ⟨by rfl, fun w _ => by go_simp⟩) hS ?_
  try simp only [Act.put, List.getElem_toArray, List.getElem_cons_zero, List.getElem_cons_succ, List.setIfInBounds_toArray, List.set_cons_zero, List.set_cons_succ]
  refine wpAnyH_take (i := 12) (v := .bool true) rfl (by kernel_rfl) (by kernel_rfl) (by kernel_rfl) (fun _ _ _ h => h) (Or.inl ⟨by rfl, fun w _ => by rfl⟩) hS ?_
  try simp only [Act.put, List.getElem_toArray, List.getElem_cons_zero, List.getElem_cons_succ, List.setIfInBounds_toArray, List.set_cons_zero, List.set_cons_succ]
  refine wpAnyH_done (by kernel_rfl) ?_ _
  go_wp2
  go_ret
  exact ⟨rfl, hS.2.2⟩
end Go.Proofs.Ytkgmhliocfbdfaa
