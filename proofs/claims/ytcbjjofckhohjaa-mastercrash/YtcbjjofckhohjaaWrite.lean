/-
  Proved here: what disk.Write answers and leaves.
-/
import Derived.Test.YtcbjjofckhohjaaPush
namespace Go.Proofs.Ytcbjjofckhohjaa
open Go.ChangeShapes Go.WideShapes Go.ChangeAt Go.RowKit
set_option linter.unusedVariables false
set_option linter.unusedSimpArgs false
set_option maxRecDepth 20000

/-- A disk to which the first k sectors of a block were written. -/
def Dsk.wrote (d : Dsk) (b : Int) (x : List Int) : Nat → Dsk
  | 0 => d
  | k + 1 => (d.wrote b x k).push (b, (k : Int), cut x k)
theorem wrote_n (d : Dsk) (b : Int) (x : List Int) : ∀ k, (d.wrote b x k).n = d.n
  | 0 => rfl
  | k + 1 => wrote_n d b x k
theorem cut_at (x : List Int) (hx : x.length = 256) (i : Nat) (hi : i < 4) (s : List Int) (hs : cut x i = s) (w : World) :
    Calls Try.prog 34 #[.agg (bs x), .int .i64 i] w fun e w' => e = .returned (.agg (bs s)) ∧ Below w.heap.size w w' := by
  subst hs; exact cut_in x hx i hi w
theorem cut_bytes (x : List Int) (hb : Bytes x) (i : Nat) : Bytes (cut x i) := fun y hy => hb y (List.mem_of_mem_drop (List.mem_of_mem_take hy))
theorem Row.type_ne {w : World} {g k : Nat} {c c' : Array Value} {t t' : TypeId} (h : Row w g c t) (h' : Row w k c' t') (ht : t ≠ t') : g ≠ k := by
  rintro rfl
  unfold Row at h h'
  rw [h] at h'
  cases h'; exact ht rfl
theorem DAt.notX {w : World} {g : Nat} {d : Dsk} {L : Loc} {N : Nat} (h : DAt w g d L N) {X : Nat} {x : List Int} (r : Row w X (bs x) 29) : ¬ foot g L X := by
  rintro (e | e | e | e | e)
  · exact r.type_ne h.row (by decide) e
  · obtain ⟨s, hs, _⟩ := h.sure
    exact r.map_ne hs e.symm
  · exact r.map_ne h.fresh e.symm
  · rcases h.pend.2 with ⟨q, _⟩ | ⟨rr, cap, cur, q, _, hr, _⟩
    · rw [q] at e; cases e
    · rw [q] at e
      simp [Value.ownBlock] at e
      subst e
      unfold Row at r
      rw [r] at hr; cases hr
  · rcases h.fails with ⟨q, _⟩ | ⟨m, n, D, q, ⟨es, clock, hb, _⟩, _⟩
    · rw [q] at e; cases e
    · rw [q] at e; cases e
      unfold Row at r
      rw [r] at hb; cases hb

set_option maxHeartbeats 2000000 in
theorem write_in {w : World} {g : Nat} {d0 : Dsk} {L0 : Loc} {N : Nat} (h0 : DAt w g d0 L0 N) (ho : d0.ops < 9223372036854775806) (b : Int) (x : List Int) (hx : x.length = 256) (xb : Bytes x) (hN : N + 4 < 1000000000000) (ha : (ask d0 b).1 = 0) :
    Calls Try.prog 17 #[.pointer (some ⟨g, 0, none⟩), .int .i64 b, .agg (bs x)] w fun e w' => e = .returned (.int .i64 0) ∧ ∃ L', DAt w' g ((ask d0 b).2.wrote b x 4) L' (N + 4) ∧ Off (foot g L0) w w' ∧ ∀ j, foot g L' j → foot g L0 j ∨ w.heap.size ≤ j := by
  obtain ⟨b0, b1, b2⟩ := ask_in ha
  have hn := h0.small
  have wb : Wf b := wf_of (by omega) (by omega)
  have hask := ask_any (h0.alloc (.cells (bs x) 29)) ho b
  rw [ha] at hask
  have hn1 : (ask d0 b).2.n = d0.n := by rw [b2, count_n]
  generalize (ask d0 b).2 = d1 at hask hn1 ⊢
  clear ha b2
  have aX : Row (w.alloc (.cells (bs x) 29)) w.heap.size (bs x) 29 := Row.new _ _ _
  have gw : g < w.heap.size := h0.row.lt
  have HW : Hid (∀ k : Nat, k < 4 → Wf (k : Int)) := fun k hk => wf_of (by omega) (by omega)
  obtain ⟨X, HX⟩ : ∃ X, Hid (w.heap.size = X) := ⟨_, rfl⟩
  have oa : Off (foot g L0) w (w.alloc (.cells (bs x) 29)) := Off.of_below ((Below.refl _ _).alloc (Nat.le_refl _) _)
  have HPOST : Hid (∀ w', (∃ L', DAt w' g (d1.wrote b x 4) L' (N + 4) ∧ Off (foot g L0) w w' ∧ ∀ j, foot g L' j → foot g L0 j ∨ w.heap.size ≤ j) → ∃ L', DAt w' g (d1.wrote b x 4) L' (N + 4) ∧ Off (foot g L0) w w' ∧ ∀ j, foot g L' j → foot g L0 j ∨ w.heap.size ≤ j) := fun _ h => h
  generalize hPP : (fun w' => ∃ L', DAt w' g (d1.wrote b x 4) L' (N + 4) ∧ Off (foot g L0) w w' ∧ ∀ j, foot g L' j → foot g L0 j ∨ w.heap.size ≤ j) = PP
  have HPP : Hid (∀ w', (∃ L', DAt w' g (d1.wrote b x 4) L' (N + 4) ∧ Off (foot g L0) w w' ∧ ∀ j, foot g L' j → foot g L0 j ∨ w.heap.size ≤ j) → PP w') := fun w' h => by rw [← hPP]; exact h
  show Calls Try.prog 17 _ w fun e w' => e = .returned (.int .i64 0) ∧ (fun w' => ∃ L', DAt w' g (d1.wrote b x 4) L' (N + 4) ∧ Off (foot g L0) w w' ∧ ∀ j, foot g L' j → foot g L0 j ∨ w.heap.size ≤ j) w'
  rw [hPP]
  clear hPP HPOST
  go_enter Try.func17, Try.ntmps17
  go_wp2_with (go_at_call 33; refine hask.mono ?_; rintro e w1 ⟨rfl, D1, o1⟩)
  have rX1 : Row w1 X (bs x) 29 := by rw [← HX.out]; exact aX.off o1 (by omega)
  have O1 : Off (foot g L0) w w1 := oa.trans o1 (fun j hj => Or.inl (Or.inl hj))
  go_loopw [16] (fun c wr => ∃ (k : Nat) (d : Dsk) (L : Loc), c = .int .i64 k ∧ k ≤ 4 ∧ Hid (d = d1.wrote b x k) ∧ Row wr X (bs x) 29 ∧ DAt wr g d L (N + k) ∧ Off (foot g L0) w wr ∧ Hid (∀ j, foot g L j → foot g L0 j ∨ w.heap.size ≤ j)) (fun c _ => 4 - (intOf c).toNat)
  case atStart => exact ⟨0, d1, L0, rfl, by omega, rfl, rX1, D1, O1, fun j hj => Or.inl hj⟩
  case round =>
    clear rX1 O1 D1 o1 oa aX
    obtain ⟨k, d, L, rfl, hk4, HD, rX, D, O, HF⟩ := hrel
    by_cases hk : k < 4
    · have wk := HW.out k hk
      obtain ⟨s, HS⟩ : ∃ s, Hid (cut x k = s) := ⟨_, rfl⟩
      have hsl : s.length = 64 := by rw [← HS.out]; exact cut_length x k hx hk
      have hsec : Sec s := ⟨hsl, by rw [← HS.out]; exact cut_bytes x xb k⟩
      have HD' : Hid (d.push (b, (k : Int), s) = d1.wrote b x (k + 1)) := by show _ = _; rw [HD.out, ← HS.out]; rfl
      have hdn : d.n = d0.n := by rw [HD.out, wrote_n, hn1]
      have hq5 : 0 ≤ b ∧ b < (d.n : Int) ∧ 0 ≤ (k : Int) ∧ (k : Int) < 4 ∧ Sec s := ⟨b0, by rw [hdn]; exact b1, by omega, by omega, hsec⟩
      have HQ5 : Hid _ := hq5
      clear hq5 hsec
      have hz81 := zero84
      have hb81 := built84 b (k : Int) s hsl
      go_wp2_with (first
        | (refine load_row rfl 29 (.tmp 5) rfl X (by rw [← HX.out]; rfl) 29 (bs x) rX 256 5 Try.underlying29 size29 (by rw [bs_size, hx]) ?_)
        | (go_at_call 34; refine (cut_at x hx k hk s HS.out _).mono ?_; rintro e wc ⟨rfl, hcb⟩
           have y0 : Row (wc.alloc (.cells (wcells 0 0 (zs 64)) 84)) wc.heap.size (wcells 0 0 (zs 64)) 84 := Row.new _ _ _)
        | (refine build_two rfl 84 (.tmp 21) (.tmp 24) rfl _ _ rfl rfl (wcells b k s) hb81 ?_)
        | (refine store_cells rfl 84 (.tmp 9) (.tmp 25) rfl wc.heap.size (wcells b k s) rfl rfl 84 _ y0 66 size84 (wcells_size _ _ _ (zs_length 64)) (wcells_size _ _ _ hsl) (wcells_one _ _ _) ?_))
      have hYf : ¬ foot g L wc.heap.size := fun q => by have := D.lt q; have := hcb.size; omega
      have rY3 : Row ((wc.alloc (.cells (wcells 0 0 (zs 64)) 84)).setRow wc.heap.size (wcells b k s)) wc.heap.size (wcells b k s) 84 := y0.set _
      have D3 : DAt ((wc.alloc (.cells (wcells 0 0 (zs 64)) 84)).setRow wc.heap.size (wcells b k s)) g d L (N + k) := ((D.below hcb).alloc _).setRow _ _ hYf
      have rX3 : Row ((wc.alloc (.cells (wcells 0 0 (zs 64)) 84)).setRow wc.heap.size (wcells b k s)) X (bs x) 29 := ((rX.below hcb rX.lt).alloc _).other (by have := rX.lt; have := hcb.size; omega) _
      have O3 : Off (foot g L0) w ((wc.alloc (.cells (wcells 0 0 (zs 64)) 84)).setRow wc.heap.size (wcells b k s)) :=
        ((O.trans (Off.of_below (F := fun _ => False) hcb) (fun _ h => h.elim)).trans (Off.of_below (F := fun _ => False) ((Below.refl _ _).alloc (Nat.le_refl _) _)) (fun _ h => h.elim)).trans (Off.of_setRow (F := (· = wc.heap.size)) _ _ _ rfl) (fun j hj => Or.inr (by have := O.size; have := hcb.size; omega))
      clear y0
      generalize (wc.alloc (.cells (wcells 0 0 (zs 64)) 84)).setRow wc.heap.size (wcells b k s) = w3 at rY3 D3 rX3 O3 ⊢
      generalize wc.heap.size = Y at hYf rY3 ⊢
      clear hcb rX D O hb81 hz81
      have hXf : ¬ foot g L X := D3.notX rX3
      have hYg : g ≠ Y := fun q => hYf (Or.inl q.symm)
      have hYg' : Y ≠ g := hYg.symm
      have hpl : d.pend.length < 1000000000000 := by obtain ⟨_, _, h2⟩ := D3.sure; omega
      have hNk : N + k + 1 < 1000000000000 := by omega
      obtain ⟨w4, hrun4, m4, g4, z4⟩ := D3.drew.fresh.store (by unfold maxLen; omega) wb wk HQ5.out.2.2.2.2
      have g4' : w3.grownBy w4 (some L.b) := ⟨g4.os, g4.tape, g4.output, g4.size, g4.block⟩
      clear z4 g4
      have row4 : Row w4 g (dcells d L) 76 := by
        have := D3.row
        unfold Row at this ⊢
        rw [g4'.block g D3.row.lt (fun q => D3.bg (by cases q; rfl))]; exact this
      have y4 : Row w4 Y (wcells b k s) 84 := by
        have := rY3
        unfold Row at this ⊢
        rw [g4'.block Y rY3.lt (fun q => hYf (Or.inr (Or.inr (Or.inl (by cases q; rfl)))))]; exact this
      have c34 := row_at (row_drew row4) 3 L.p rfl
      have c35 := row_at (row4.alloc (.cells (wcells b k s) 84)) 3 L.p rfl
      have p4 : w4.drew.ownsRow (g + 1) 84 66 L.p d.pend.length (pcells d.pend) := ownsRow_kept D3.pend fun j e hl => g4'.block j hl (fun q => D3.pb (by cases q; exact e))
      have p5 := p4.alloc (.cells (wcells b k s) 84)
      have z5 : Row (w4.drew.alloc (.cells (wcells b k s) 84)) w4.drew.heap.size (pcell (b, (k : Int), s)).toArray 84 := Row.new _ _ _
      have hg5 : g + 1 ≤ (w4.drew.alloc (.cells (wcells b k s) 84)).heap.size := by have := row4.lt; simp; omega
      have hq5 := HQ5.out
      unfold pk at hrun4
      refine wp_region_held_drew (S := fun w' => Row w' g (dcells d L) 76 ∧ Row w' Y (wcells b k s) 84) (by kernel_rfl) ⟨row_drew D3.row, row_drew rY3⟩ fun hS => ?_
      refine wpAnyH_take (i := 0) (v := .pointer (some ⟨g, 0, none⟩)) rfl (by kernel_rfl) (by kernel_rfl) (by kernel_rfl) (fun _ _ _ h => h) (Or.inl ⟨by rfl, fun w _ => by rfl⟩) hS ?_
      try simp only [Act.put, List.getElem_toArray, List.getElem_cons_zero, List.getElem_cons_succ, List.setIfInBounds_toArray, List.set_cons_zero, List.set_cons_succ]
      refine wpAnyH_take (i := 1) (v := .pointer (some ⟨g, 0, none⟩)) rfl (by kernel_rfl) (by kernel_rfl) (by kernel_rfl) (fun _ _ _ h => h) (Or.inl ⟨by rfl, fun w _ => by go_simp⟩) hS ?_
      try simp only [Act.put, List.getElem_toArray, List.getElem_cons_zero, List.getElem_cons_succ, List.setIfInBounds_toArray, List.set_cons_zero, List.set_cons_succ]
      refine wpAnyH_take (i := 2) (v := .pointer (some ⟨g, 2, none⟩)) rfl (by kernel_rfl) (by kernel_rfl) (by kernel_rfl) (fun _ _ _ h => h) (Or.inl ⟨by rfl, fun w _ => by go_simp⟩) hS ?_
      try simp only [Act.put, List.getElem_toArray, List.getElem_cons_zero, List.getElem_cons_succ, List.setIfInBounds_toArray, List.set_cons_zero, List.set_cons_succ]
      refine wpAnyH_take (i := 3) (v := .map (some L.b)) rfl (by kernel_rfl) (by kernel_rfl) (by kernel_rfl) (fun _ _ _ h => h) (Or.inl ⟨by rfl, fun w h => by have c := (row_at h.1 2 (.map (some L.b)) rfl); go_simp⟩) hS ?_
      try simp only [Act.put, List.getElem_toArray, List.getElem_cons_zero, List.getElem_cons_succ, List.setIfInBounds_toArray, List.set_cons_zero, List.set_cons_succ]
      refine wpAnyH_take (i := 4) (v := .pointer (some ⟨Y, 0, none⟩)) rfl (by kernel_rfl) (by kernel_rfl) (by kernel_rfl) (fun _ _ _ h => h) (Or.inl ⟨by rfl, fun w _ => by go_simp⟩) hS ?_
      try simp only [Act.put, List.getElem_toArray, List.getElem_cons_zero, List.getElem_cons_succ, List.setIfInBounds_toArray, List.set_cons_zero, List.set_cons_succ]
      refine wpAnyH_take (i := 5) (v := .agg #[.int .i64 b, .int .i64 k]) rfl (by kernel_rfl) (by kernel_rfl) (by kernel_rfl) (fun _ _ _ h => h) (yieldsIf_load_mid (by rfl) 79 (.tmp 30) rfl Y 0 rfl [.int .i64 b, .int .i64 k] _ (fun w h => range_key h.2) Try.underlying79 rfl size79) hS ?_
      try simp only [Act.put, List.getElem_toArray, List.getElem_cons_zero, List.getElem_cons_succ, List.setIfInBounds_toArray, List.set_cons_zero, List.set_cons_succ]
      refine wpAnyH_take (i := 6) (v := .pointer (some ⟨Y, 2, none⟩)) rfl (by kernel_rfl) (by kernel_rfl) (by kernel_rfl) (fun _ _ _ h => h) (Or.inl ⟨by rfl, fun w _ => by go_simp⟩) hS ?_
      try simp only [Act.put, List.getElem_toArray, List.getElem_cons_zero, List.getElem_cons_succ, List.setIfInBounds_toArray, List.set_cons_zero, List.set_cons_succ]
      refine wpAnyH_take (i := 7) (v := .agg (bs s)) rfl (by kernel_rfl) (by kernel_rfl) (by kernel_rfl) (fun _ _ _ h => h) (yieldsIf_load_mid (by rfl) 81 (.tmp 32) rfl Y 2 rfl (s.map (Value.int .u8)) _ (fun w h => range_sec h.2) Try.underlying81 rfl (by rw [List.length_map, hsl]; exact size81)) hS ?_
      try simp only [Act.put, List.getElem_toArray, List.getElem_cons_zero, List.getElem_cons_succ, List.setIfInBounds_toArray, List.set_cons_zero, List.set_cons_succ]
      refine wpAnyH_ready (rs := [8]) (by kernel_rfl) (by simp) ?_
      refine AllReadyH.cons rfl (fun K hK => step_of rfl (wp_update 72 (.tmp 29) (.tmp 31) (.tmp 33) rfl _ _ _ rfl rfl rfl w4 hrun4 (hK.out _ _ ⟨row4, y4⟩ fun hS => ?_))) AllReadyH.nil
      try simp only [Act.put, List.getElem_toArray, List.getElem_cons_zero, List.getElem_cons_succ, List.setIfInBounds_toArray, List.set_cons_zero, List.set_cons_succ]
      refine wpAnyH_done (by kernel_rfl) ?_ _
      go_wp2
      refine wp_region_held_drew (S := fun w' => Row w' Y (wcells b k s) 84) (by kernel_rfl) (row_drew y4) fun hS => ?_
      refine wpAnyH_take (i := 0) (v := .pointer (some ⟨g, 0, none⟩)) rfl (by kernel_rfl) (by kernel_rfl) (by kernel_rfl) (fun _ _ _ h => h) (Or.inl ⟨by rfl, fun w _ => by rfl⟩) hS ?_
      try simp only [Act.put, List.getElem_toArray, List.getElem_cons_zero, List.getElem_cons_succ, List.setIfInBounds_toArray, List.set_cons_zero, List.set_cons_succ]
      refine wpAnyH_take (i := 1) (v := .pointer (some ⟨g, 0, none⟩)) rfl (by kernel_rfl) (by kernel_rfl) (by kernel_rfl) (fun _ _ _ h => h) (Or.inl ⟨by rfl, fun w _ => by rfl⟩) hS ?_
      try simp only [Act.put, List.getElem_toArray, List.getElem_cons_zero, List.getElem_cons_succ, List.setIfInBounds_toArray, List.set_cons_zero, List.set_cons_succ]
      refine wpAnyH_take (i := 2) (v := .pointer (some ⟨g, 0, none⟩)) rfl (by kernel_rfl) (by kernel_rfl) (by kernel_rfl) (fun _ _ _ h => h) (Or.inl ⟨by rfl, fun w _ => by go_simp⟩) hS ?_
      try simp only [Act.put, List.getElem_toArray, List.getElem_cons_zero, List.getElem_cons_succ, List.setIfInBounds_toArray, List.set_cons_zero, List.set_cons_succ]
      refine wpAnyH_take (i := 3) (v := .pointer (some ⟨g, 3, none⟩)) rfl (by kernel_rfl) (by kernel_rfl) (by kernel_rfl) (fun _ _ _ h => h) (Or.inl ⟨by rfl, fun w _ => by go_simp⟩) hS ?_
      try simp only [Act.put, List.getElem_toArray, List.getElem_cons_zero, List.getElem_cons_succ, List.setIfInBounds_toArray, List.set_cons_zero, List.set_cons_succ]
      refine wpAnyH_take (i := 5) (v := .agg (wcells b k s)) rfl (by kernel_rfl) (by kernel_rfl) (by kernel_rfl) (fun _ _ _ h => h) (yieldsIf_load_mid (by rfl) 84 (.tmp 9) rfl Y 0 rfl (pcell (b, (k : Int), s)) _ (fun w h => range_all h) Try.underlying84 rfl (by rw [pcell_length _ _ _ hsl]; exact size84)) hS ?_
      try simp only [Act.put, List.getElem_toArray, List.getElem_cons_zero, List.getElem_cons_succ, List.setIfInBounds_toArray, List.set_cons_zero, List.set_cons_succ]
      refine wpAnyH_ready (rs := [4, 6]) (by kernel_rfl) (by simp) ?_
      refine AllReadyH.cons rfl (fun K hK => ?_) (AllReadyH.cons rfl (fun K hK => ?_) AllReadyH.nil)
      · go_simp
        refine hK.out _ _ hS fun hS => ?_
        try simp only [Act.put, List.getElem_toArray, List.getElem_cons_zero, List.getElem_cons_succ, List.setIfInBounds_toArray, List.set_cons_zero, List.set_cons_succ]
        refine wpAnyH_ready (rs := [6]) (by kernel_rfl) (by simp) ?_
        refine AllReadyH.cons rfl (fun K hK => step_of rfl (wp_slice_one (.tmp 39) rfl b k s hsl rfl (hK.out _ _ (hS.alloc _) fun hS => ?_))) AllReadyH.nil
        try simp only [Act.put, List.getElem_toArray, List.getElem_cons_zero, List.getElem_cons_succ, List.setIfInBounds_toArray, List.set_cons_zero, List.set_cons_succ]
        refine wpAnyH_ready (rs := [7]) (by kernel_rfl) (by simp) ?_
        refine AllReadyH.cons rfl (fun K hK => step_of rfl (wp_append_write (.tmp 38) (.tmp 40) rfl g L.p d.pend rfl p5 _ (b, (k : Int), s) rfl z5 hsl hpl hg5 ?_)) AllReadyH.nil
        intro r n6 cap6 w6 hp6 hg6 hl6
        obtain ⟨c6, f6, y6, D7, X7, O7, F7⟩ := write_after D3 (b, (k : Int), s) hq5 hNk g4' m4 _ hp6 hg6 hl6 X Y x _ rX3 rY3 hYf hXf O3 HF.out
        refine hK.out _ _ y6 fun hS => ?_
        try simp only [Act.put, List.getElem_toArray, List.getElem_cons_zero, List.getElem_cons_succ, List.setIfInBounds_toArray, List.set_cons_zero, List.set_cons_succ]
        refine wpAnyH_take (i := 8) (v := .pointer (some ⟨g, 0, none⟩)) rfl (by kernel_rfl) (by kernel_rfl) (by kernel_rfl) (fun _ _ _ h => h) (Or.inl ⟨by rfl, fun w _ => by go_simp⟩) hS ?_
        try simp only [Act.put, List.getElem_toArray, List.getElem_cons_zero, List.getElem_cons_succ, List.setIfInBounds_toArray, List.set_cons_zero, List.set_cons_succ]
        refine wpAnyH_take (i := 9) (v := .pointer (some ⟨g, 3, none⟩)) rfl (by kernel_rfl) (by kernel_rfl) (by kernel_rfl) (fun _ _ _ h => h) (Or.inl ⟨by rfl, fun w _ => by go_simp⟩) hS ?_
        try simp only [Act.put, List.getElem_toArray, List.getElem_cons_zero, List.getElem_cons_succ, List.setIfInBounds_toArray, List.set_cons_zero, List.set_cons_succ]
        refine wpAnyH_ready (rs := [10]) (by kernel_rfl) (by simp) ?_
        refine AllReadyH.cons rfl (fun K hK => ?_) AllReadyH.nil
        go_simp
        refine hK.out _ _ (row_setCell_other y6 hYg' _ _) fun hS => ?_
        try simp only [Act.put, List.getElem_toArray, List.getElem_cons_zero, List.getElem_cons_succ, List.setIfInBounds_toArray, List.set_cons_zero, List.set_cons_succ]
        refine wpAnyH_done (by kernel_rfl) ?_ _
        clear c6 f6
        go_wp2
        go_roundw
        case rel => exact ⟨k + 1, d.push (b, (k : Int), s), _, by go_num, by omega, HD', X7, D7, O7, F7⟩
        case measure => simp [intOf]; omega
      · refine step_of rfl (wp_slice_one (.tmp 39) rfl b k s hsl rfl (hK.out _ _ (hS.alloc _) fun hS => ?_))
        try simp only [Act.put, List.getElem_toArray, List.getElem_cons_zero, List.getElem_cons_succ, List.setIfInBounds_toArray, List.set_cons_zero, List.set_cons_succ]
        refine wpAnyH_ready (rs := [4]) (by kernel_rfl) (by simp) ?_
        refine AllReadyH.cons rfl (fun K hK => ?_) AllReadyH.nil
        go_simp
        refine hK.out _ _ hS fun hS => ?_
        try simp only [Act.put, List.getElem_toArray, List.getElem_cons_zero, List.getElem_cons_succ, List.setIfInBounds_toArray, List.set_cons_zero, List.set_cons_succ]
        refine wpAnyH_ready (rs := [7]) (by kernel_rfl) (by simp) ?_
        refine AllReadyH.cons rfl (fun K hK => step_of rfl (wp_append_write (.tmp 38) (.tmp 40) rfl g L.p d.pend rfl p5 _ (b, (k : Int), s) rfl z5 hsl hpl hg5 ?_)) AllReadyH.nil
        intro r n6 cap6 w6 hp6 hg6 hl6
        obtain ⟨c6, f6, y6, D7, X7, O7, F7⟩ := write_after D3 (b, (k : Int), s) hq5 hNk g4' m4 _ hp6 hg6 hl6 X Y x _ rX3 rY3 hYf hXf O3 HF.out
        refine hK.out _ _ y6 fun hS => ?_
        try simp only [Act.put, List.getElem_toArray, List.getElem_cons_zero, List.getElem_cons_succ, List.setIfInBounds_toArray, List.set_cons_zero, List.set_cons_succ]
        refine wpAnyH_take (i := 8) (v := .pointer (some ⟨g, 0, none⟩)) rfl (by kernel_rfl) (by kernel_rfl) (by kernel_rfl) (fun _ _ _ h => h) (Or.inl ⟨by rfl, fun w _ => by go_simp⟩) hS ?_
        try simp only [Act.put, List.getElem_toArray, List.getElem_cons_zero, List.getElem_cons_succ, List.setIfInBounds_toArray, List.set_cons_zero, List.set_cons_succ]
        refine wpAnyH_take (i := 9) (v := .pointer (some ⟨g, 3, none⟩)) rfl (by kernel_rfl) (by kernel_rfl) (by kernel_rfl) (fun _ _ _ h => h) (Or.inl ⟨by rfl, fun w _ => by go_simp⟩) hS ?_
        try simp only [Act.put, List.getElem_toArray, List.getElem_cons_zero, List.getElem_cons_succ, List.setIfInBounds_toArray, List.set_cons_zero, List.set_cons_succ]
        refine wpAnyH_ready (rs := [10]) (by kernel_rfl) (by simp) ?_
        refine AllReadyH.cons rfl (fun K hK => ?_) AllReadyH.nil
        go_simp
        refine hK.out _ _ (row_setCell_other y6 hYg' _ _) fun hS => ?_
        try simp only [Act.put, List.getElem_toArray, List.getElem_cons_zero, List.getElem_cons_succ, List.setIfInBounds_toArray, List.set_cons_zero, List.set_cons_succ]
        refine wpAnyH_done (by kernel_rfl) ?_ _
        clear c6 f6
        go_wp2
        go_roundw
        case rel => exact ⟨k + 1, d.push (b, (k : Int), s), _, by go_num, by omega, HD', X7, D7, O7, F7⟩
        case measure => simp [intOf]; omega
    · have e4 : k = 4 := by omega
      subst e4
      have hp := HPP.out wr ⟨L, by rw [← HD.out]; exact D, O, HF.out⟩
      go_wp2
      go_ret
      exact ⟨rfl, hp⟩
end Go.Proofs.Ytcbjjofckhohjaa
