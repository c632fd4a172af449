/-
  Proved here: what disk.Write answers and leaves. Proved here: disk.Write where it is refused; that what was written is read (the statements' own fixed run). Proved here: what the calls of a disk that is not there answer. Plain facts on slices of one-cell elements: what one holds, and a copy of it by append to a new one. Proved here: what disk.forget and disk.Plan leave. Proved here: what disk.Crash leaves. Plain facts on a range over a map of sectors: begun, one step, and that only the keys that there can be count.
-/
import Derived.Test.YtehogiondcpbcaaJq04
import Derived.Laws.AppendOwnNone
namespace Go.Proofs.Ytehogiondcpbcaa
open Go.ChangeShapes Go.WideShapes Go.ChangeAt Go.RowKit
set_option linter.unusedVariables false
set_option linter.unusedSimpArgs false
set_option maxRecDepth 20000
def Dsk.wrote (d : Dsk) (b : Int) (x : List Int) : Nat → Dsk
  | 0 => d
  | k + 1 => (d.wrote b x k).push (b, (k : Int), cut x k)
theorem wrote_n (d : Dsk) (b : Int) (x : List Int) : ∀ k, (d.wrote b x k).n = d.n
  | 0 => rfl
  | k + 1 => wrote_n d b x k
theorem cut_at (x : List Int) (hx : x.length = 256) (i : Nat) (hi : i < 4) (s : List Int) (hs : cut x i = s) (w : World) :
    Calls Try.prog 38 #[.agg (bs x), .int .i64 i] w fun e w' => e = .returned (.agg (bs s)) ∧ Below w.heap.size w w' := by
  subst hs; exact cut_in x hx i hi w
theorem cut_bytes (x : List Int) (hb : Bytes x) (i : Nat) : Bytes (cut x i) := fun y hy => hb y (List.mem_of_mem_drop (List.mem_of_mem_take hy))
theorem Row.type_ne {w : World} {g k : Nat} {c c' : Array Value} {t t' : TypeId} (h : Row w g c t) (h' : Row w k c' t') (ht : t ≠ t') : g ≠ k := by
  rintro rfl
  unfold Row at h h'
  rw [h] at h'
  cases h'; exact ht rfl
theorem DAt.notX {w : World} {g : Nat} {d : Dsk} {L : Loc} {N : Nat} (h : DAt w g d L N) {X : Nat} {x : List Int} (r : Row w X (bs x) 41) : ¬ foot g L X := by
  rintro (e | e | e | e | e)
  · exact r.type_ne h.row (by decide) e
  · obtain ⟨s, hs, _⟩ := h.sure
    exact r.map_ne hs e.symm
  · exact r.map_ne h.fresh e.symm
  · rcases h.pend.2 with ⟨q, _⟩ | ⟨rr, cap, cur, q, _, hr, _⟩
    · rw [q] at e; cases e
    · rw [q] at e
      simp [Value.ownBlock] at e
      subst e
      unfold Row at r
      rw [r] at hr; cases hr
  · rcases h.fails with ⟨q, _⟩ | ⟨m, n, D, q, ⟨es, clock, hb, _⟩, _⟩
    · rw [q] at e; cases e
    · rw [q] at e; cases e
      unfold Row at r
      rw [r] at hb; cases hb
set_option maxHeartbeats 2000000 in
theorem write_in {w : World} {g : Nat} {d0 : Dsk} {L0 : Loc} {N : Nat} (h0 : DAt w g d0 L0 N) (ho : d0.ops < 9223372036854775806) (b : Int) (x : List Int) (hx : x.length = 256) (xb : Bytes x) (hN : N + 4 < 1000000000000) (ha : (ask d0 b).1 = 0) :
    Calls Try.prog 30 #[.pointer (some ⟨g, 0, none⟩), .int .i64 b, .agg (bs x)] w fun e w' => e = .returned (.int .i64 0) ∧ ∃ L', DAt w' g ((ask d0 b).2.wrote b x 4) L' (N + 4) ∧ Off (foot g L0) w w' ∧ ∀ j, foot g L' j → foot g L0 j ∨ w.heap.size ≤ j := by
  obtain ⟨b0, b1, b2⟩ := ask_in ha
  have hn := h0.small
  have wb : Wf b := wf_of (by omega) (by omega)
  have hask := ask_any (h0.alloc (.cells (bs x) 41)) ho b
  rw [ha] at hask
  have hn1 : (ask d0 b).2.n = d0.n := by rw [b2, count_n]
  generalize (ask d0 b).2 = d1 at hask hn1 ⊢
  clear ha b2
  have aX : Row (w.alloc (.cells (bs x) 41)) w.heap.size (bs x) 41 := Row.new _ _ _
  have gw : g < w.heap.size := h0.row.lt
  have HW : Hid (∀ k : Nat, k < 4 → Wf (k : Int)) := fun k hk => wf_of (by omega) (by omega)
  obtain ⟨X, HX⟩ : ∃ X, Hid (w.heap.size = X) := ⟨_, rfl⟩
  have oa : Off (foot g L0) w (w.alloc (.cells (bs x) 41)) := Off.of_below ((Below.refl _ _).alloc (Nat.le_refl _) _)
  have HPOST : Hid (∀ w', (∃ L', DAt w' g (d1.wrote b x 4) L' (N + 4) ∧ Off (foot g L0) w w' ∧ ∀ j, foot g L' j → foot g L0 j ∨ w.heap.size ≤ j) → ∃ L', DAt w' g (d1.wrote b x 4) L' (N + 4) ∧ Off (foot g L0) w w' ∧ ∀ j, foot g L' j → foot g L0 j ∨ w.heap.size ≤ j) := fun _ h => h
  generalize hPP : (fun w' => ∃ L', DAt w' g (d1.wrote b x 4) L' (N + 4) ∧ Off (foot g L0) w w' ∧ ∀ j, foot g L' j → foot g L0 j ∨ w.heap.size ≤ j) = PP
  have HPP : Hid (∀ w', (∃ L', DAt w' g (d1.wrote b x 4) L' (N + 4) ∧ Off (foot g L0) w w' ∧ ∀ j, foot g L' j → foot g L0 j ∨ w.heap.size ≤ j) → PP w') := fun w' h => by rw [← hPP]; exact h
  show Calls Try.prog 30 _ w fun e w' => e = .returned (.int .i64 0) ∧ (fun w' => ∃ L', DAt w' g (d1.wrote b x 4) L' (N + 4) ∧ Off (foot g L0) w w' ∧ ∀ j, foot g L' j → foot g L0 j ∨ w.heap.size ≤ j) w'
  rw [hPP]
  clear hPP HPOST
  go_enter Try.func30, Try.ntmps30
  go_wp2_with (go_at_call 64; refine hask.mono ?_; rintro e w1 ⟨rfl, D1, o1⟩)
  have rX1 : Row w1 X (bs x) 41 := by rw [← HX.out]; exact aX.off o1 (by omega)
  have O1 : Off (foot g L0) w w1 := oa.trans o1 (fun j hj => Or.inl (Or.inl hj))
  go_loopw [16] (fun c wr => ∃ (k : Nat) (d : Dsk) (L : Loc), c = .int .i64 k ∧ k ≤ 4 ∧ Hid (d = d1.wrote b x k) ∧ Row wr X (bs x) 41 ∧ DAt wr g d L (N + k) ∧ Off (foot g L0) w wr ∧ Hid (∀ j, foot g L j → foot g L0 j ∨ w.heap.size ≤ j)) (fun c _ => 4 - (intOf c).toNat)
  case atStart => exact ⟨0, d1, L0, rfl, by omega, rfl, rX1, D1, O1, fun j hj => Or.inl hj⟩
  case round =>
    clear rX1 O1 D1 o1 oa aX
    obtain ⟨k, d, L, rfl, hk4, HD, rX, D, O, HF⟩ := hrel
    by_cases hk : k < 4
    · have wk := HW.out k hk
      obtain ⟨s, HS⟩ : ∃ s, Hid (cut x k = s) := ⟨_, rfl⟩
      have hsl : s.length = 64 := by rw [← HS.out]; exact cut_length x k hx hk
      have hsec : Sec s := ⟨hsl, by rw [← HS.out]; exact cut_bytes x xb k⟩
      have HD' : Hid (d.push (b, (k : Int), s) = d1.wrote b x (k + 1)) := by show _ = _; rw [HD.out, ← HS.out]; rfl
      have hdn : d.n = d0.n := by rw [HD.out, wrote_n, hn1]
      have hq5 : 0 ≤ b ∧ b < (d.n : Int) ∧ 0 ≤ (k : Int) ∧ (k : Int) < 4 ∧ Sec s := ⟨b0, by rw [hdn]; exact b1, by omega, by omega, hsec⟩
      have HQ5 : Hid _ := hq5
      clear hq5 hsec
      have hz81 := zero136
      have hb81 := built136 b (k : Int) s hsl
      go_wp2_with (first
        | (refine load_row rfl 41 (.tmp 5) rfl X (by rw [← HX.out]; rfl) 41 (bs x) rX 256 5 Try.underlying41 size41 (by rw [bs_size, hx]) ?_)
        | (go_at_call 38; refine (cut_at x hx k hk s HS.out _).mono ?_; rintro e wc ⟨rfl, hcb⟩
           have y0 : Row (wc.alloc (.cells (wcells 0 0 (zs 64)) 136)) wc.heap.size (wcells 0 0 (zs 64)) 136 := Row.new _ _ _)
        | (refine build_two rfl 136 (.tmp 21) (.tmp 24) rfl _ _ rfl rfl (wcells b k s) hb81 ?_)
        | (refine store_cells rfl 136 (.tmp 9) (.tmp 25) rfl wc.heap.size (wcells b k s) rfl rfl 136 _ y0 66 size136 (wcells_size _ _ _ (zs_length 64)) (wcells_size _ _ _ hsl) (wcells_one _ _ _) ?_))
      have hYf : ¬ foot g L wc.heap.size := fun q => by have := D.lt q; have := hcb.size; omega
      have rY3 : Row ((wc.alloc (.cells (wcells 0 0 (zs 64)) 136)).setRow wc.heap.size (wcells b k s)) wc.heap.size (wcells b k s) 136 := y0.set _
      have D3 : DAt ((wc.alloc (.cells (wcells 0 0 (zs 64)) 136)).setRow wc.heap.size (wcells b k s)) g d L (N + k) := ((D.below hcb).alloc _).setRow _ _ hYf
      have rX3 : Row ((wc.alloc (.cells (wcells 0 0 (zs 64)) 136)).setRow wc.heap.size (wcells b k s)) X (bs x) 41 := ((rX.below hcb rX.lt).alloc _).other (by have := rX.lt; have := hcb.size; omega) _
      have O3 : Off (foot g L0) w ((wc.alloc (.cells (wcells 0 0 (zs 64)) 136)).setRow wc.heap.size (wcells b k s)) :=
        ((O.trans (Off.of_below (F := fun _ => False) hcb) (fun _ h => h.elim)).trans (Off.of_below (F := fun _ => False) ((Below.refl _ _).alloc (Nat.le_refl _) _)) (fun _ h => h.elim)).trans (Off.of_setRow (F := (· = wc.heap.size)) _ _ _ rfl) (fun j hj => Or.inr (by have := O.size; have := hcb.size; omega))
      clear y0
      generalize (wc.alloc (.cells (wcells 0 0 (zs 64)) 136)).setRow wc.heap.size (wcells b k s) = w3 at rY3 D3 rX3 O3 ⊢
      generalize wc.heap.size = Y at hYf rY3 ⊢
      clear hcb rX D O hb81 hz81
      have hXf : ¬ foot g L X := D3.notX rX3
      have hYg : g ≠ Y := fun q => hYf (Or.inl q.symm)
      have hYg' : Y ≠ g := hYg.symm
      have hpl : d.pend.length < 1000000000000 := by obtain ⟨_, _, h2⟩ := D3.sure; omega
      have hNk : N + k + 1 < 1000000000000 := by omega
      obtain ⟨w4, hrun4, m4, g4, z4⟩ := D3.drew.fresh.store (by unfold maxLen; omega) wb wk HQ5.out.2.2.2.2
      have g4' : w3.grownBy w4 (some L.b) := ⟨g4.os, g4.tape, g4.output, g4.size, g4.block⟩
      clear z4 g4
      have row4 : Row w4 g (dcells d L) 88 := by
        have := D3.row
        unfold Row at this ⊢
        rw [g4'.block g D3.row.lt (fun q => D3.bg (by cases q; rfl))]; exact this
      have y4 : Row w4 Y (wcells b k s) 136 := by
        have := rY3
        unfold Row at this ⊢
        rw [g4'.block Y rY3.lt (fun q => hYf (Or.inr (Or.inr (Or.inl (by cases q; rfl)))))]; exact this
      have c34 := row_at (row_drew row4) 3 L.p rfl
      have c35 := row_at (row4.alloc (.cells (wcells b k s) 136)) 3 L.p rfl
      have p4 : w4.drew.ownsRow (g + 1) 136 66 L.p d.pend.length (pcells d.pend) := ownsRow_kept D3.pend fun j e hl => g4'.block j hl (fun q => D3.pb (by cases q; exact e))
      have p5 := p4.alloc (.cells (wcells b k s) 136)
      have z5 : Row (w4.drew.alloc (.cells (wcells b k s) 136)) w4.drew.heap.size (pcell (b, (k : Int), s)).toArray 136 := Row.new _ _ _
      have hg5 : g + 1 ≤ (w4.drew.alloc (.cells (wcells b k s) 136)).heap.size := by have := row4.lt; simp; omega
      have hq5 := HQ5.out
      unfold pk at hrun4
      refine wp_region_held_drew (S := fun w' => Row w' g (dcells d L) 88 ∧ Row w' Y (wcells b k s) 136) (by kernel_rfl) ⟨row_drew D3.row, row_drew rY3⟩ fun hS => ?_
      refine tkH (i := 0) (v := .pointer (some ⟨g, 0, none⟩)) rfl (by kernel_rfl) (fun _ _ _ h => h) (Or.inl ⟨by rfl, fun w _ => by rfl⟩) hS ?_
      try simp only [Act.put, nz0, nz1, nz2, nz3, nz4, nz5]
      refine tkH (i := 1) (v := .pointer (some ⟨g, 0, none⟩)) rfl (by kernel_rfl) (fun _ _ _ h => h) (Or.inl ⟨by rfl, fun w _ => by go_simp⟩) hS ?_
      try simp only [Act.put, nz0, nz1, nz2, nz3, nz4, nz5]
      refine tkH (i := 2) (v := .pointer (some ⟨g, 2, none⟩)) rfl (by kernel_rfl) (fun _ _ _ h => h) (Or.inl ⟨by rfl, fun w _ => by go_simp⟩) hS ?_
      try simp only [Act.put, nz0, nz1, nz2, nz3, nz4, nz5]
      refine tkH (i := 3) (v := .map (some L.b)) rfl (by kernel_rfl) (fun _ _ _ h => h) (Or.inl ⟨by rfl, fun w h => by have c := (row_at h.1 2 (.map (some L.b)) rfl); go_simp⟩) hS ?_
      try simp only [Act.put, nz0, nz1, nz2, nz3, nz4, nz5]
      refine tkH (i := 4) (v := .pointer (some ⟨Y, 0, none⟩)) rfl (by kernel_rfl) (fun _ _ _ h => h) (Or.inl ⟨by rfl, fun w _ => by go_simp⟩) hS ?_
      try simp only [Act.put, nz0, nz1, nz2, nz3, nz4, nz5]
      refine tkH (i := 5) (v := .agg #[.int .i64 b, .int .i64 k]) rfl (by kernel_rfl) (fun _ _ _ h => h) (yieldsIf_load_mid (by rfl) 90 (.tmp 30) rfl Y 0 rfl [.int .i64 b, .int .i64 k] _ (fun w h => range_key h.2) Try.underlying90 rfl size90) hS ?_
      try simp only [Act.put, nz0, nz1, nz2, nz3, nz4, nz5]
      refine tkH (i := 6) (v := .pointer (some ⟨Y, 2, none⟩)) rfl (by kernel_rfl) (fun _ _ _ h => h) (Or.inl ⟨by rfl, fun w _ => by go_simp⟩) hS ?_
      try simp only [Act.put, nz0, nz1, nz2, nz3, nz4, nz5]
      refine tkH (i := 7) (v := .agg (bs s)) rfl (by kernel_rfl) (fun _ _ _ h => h) (yieldsIf_load_mid (by rfl) 79 (.tmp 32) rfl Y 2 rfl (s.map (Value.int .u8)) _ (fun w h => range_sec h.2) Try.underlying79 rfl (by rw [List.length_map, hsl]; exact size79)) hS ?_
      try simp only [Act.put, nz0, nz1, nz2, nz3, nz4, nz5]
      refine wpAnyH_ready (rs := [8]) (by kernel_rfl) (by simp) ?_
      refine AllReadyH.cons rfl (fun K hK => step_of rfl (wp_update 84 (.tmp 29) (.tmp 31) (.tmp 33) rfl _ _ _ rfl rfl rfl w4 hrun4 (hK.out _ _ ⟨row4, y4⟩ fun hS => ?_))) AllReadyH.nil
      try simp only [Act.put, nz0, nz1, nz2, nz3, nz4, nz5]
      refine wpAnyH_done (by kernel_rfl) ?_ _
      go_wp2
      refine wp_region_held_drew (S := fun w' => Row w' Y (wcells b k s) 136) (by kernel_rfl) (row_drew y4) fun hS => ?_
      refine tkH (i := 0) (v := .pointer (some ⟨g, 0, none⟩)) rfl (by kernel_rfl) (fun _ _ _ h => h) (Or.inl ⟨by rfl, fun w _ => by rfl⟩) hS ?_
      try simp only [Act.put, nz0, nz1, nz2, nz3, nz4, nz5]
      refine tkH (i := 1) (v := .pointer (some ⟨g, 0, none⟩)) rfl (by kernel_rfl) (fun _ _ _ h => h) (Or.inl ⟨by rfl, fun w _ => by rfl⟩) hS ?_
      try simp only [Act.put, nz0, nz1, nz2, nz3, nz4, nz5]
      refine tkH (i := 2) (v := .pointer (some ⟨g, 0, none⟩)) rfl (by kernel_rfl) (fun _ _ _ h => h) (Or.inl ⟨by rfl, fun w _ => by go_simp⟩) hS ?_
      try simp only [Act.put, nz0, nz1, nz2, nz3, nz4, nz5]
      refine tkH (i := 3) (v := .pointer (some ⟨g, 3, none⟩)) rfl (by kernel_rfl) (fun _ _ _ h => h) (Or.inl ⟨by rfl, fun w _ => by go_simp⟩) hS ?_
      try simp only [Act.put, nz0, nz1, nz2, nz3, nz4, nz5]
      refine tkH (i := 5) (v := .agg (wcells b k s)) rfl (by kernel_rfl) (fun _ _ _ h => h) (yieldsIf_load_mid (by rfl) 136 (.tmp 9) rfl Y 0 rfl (pcell (b, (k : Int), s)) _ (fun w h => range_all h) Try.underlying136 rfl (by rw [pcell_length _ _ _ hsl]; exact size136)) hS ?_
      try simp only [Act.put, nz0, nz1, nz2, nz3, nz4, nz5]
      refine wpAnyH_ready (rs := [4, 6]) (by kernel_rfl) (by simp) ?_
      refine AllReadyH.cons rfl (fun K hK => ?_) (AllReadyH.cons rfl (fun K hK => ?_) AllReadyH.nil)
      · go_simp
        refine hK.out _ _ hS fun hS => ?_
        try simp only [Act.put, nz0, nz1, nz2, nz3, nz4, nz5]
        refine wpAnyH_ready (rs := [6]) (by kernel_rfl) (by simp) ?_
        refine AllReadyH.cons rfl (fun K hK => step_of rfl (wp_slice_one (.tmp 39) rfl b k s hsl rfl (hK.out _ _ (hS.alloc _) fun hS => ?_))) AllReadyH.nil
        try simp only [Act.put, nz0, nz1, nz2, nz3, nz4, nz5]
        refine wpAnyH_ready (rs := [7]) (by kernel_rfl) (by simp) ?_
        refine AllReadyH.cons rfl (fun K hK => step_of rfl (wp_append_write (.tmp 38) (.tmp 40) rfl g L.p d.pend rfl p5 _ (b, (k : Int), s) rfl z5 hsl hpl hg5 ?_)) AllReadyH.nil
        intro r n6 cap6 w6 hp6 hg6 hl6
        obtain ⟨c6, f6, y6, D7, X7, O7, F7⟩ := write_after D3 (b, (k : Int), s) hq5 hNk g4' m4 _ hp6 hg6 hl6 X Y x _ rX3 rY3 hYf hXf O3 HF.out
        refine hK.out _ _ y6 fun hS => ?_
        try simp only [Act.put, nz0, nz1, nz2, nz3, nz4, nz5]
        refine tkH (i := 8) (v := .pointer (some ⟨g, 0, none⟩)) rfl (by kernel_rfl) (fun _ _ _ h => h) (Or.inl ⟨by rfl, fun w _ => by go_simp⟩) hS ?_
        try simp only [Act.put, nz0, nz1, nz2, nz3, nz4, nz5]
        refine tkH (i := 9) (v := .pointer (some ⟨g, 3, none⟩)) rfl (by kernel_rfl) (fun _ _ _ h => h) (Or.inl ⟨by rfl, fun w _ => by go_simp⟩) hS ?_
        try simp only [Act.put, nz0, nz1, nz2, nz3, nz4, nz5]
        refine wpAnyH_ready (rs := [10]) (by kernel_rfl) (by simp) ?_
        refine AllReadyH.cons rfl (fun K hK => ?_) AllReadyH.nil
        go_simp
        refine hK.out _ _ (row_setCell_other y6 hYg' _ _) fun hS => ?_
        try simp only [Act.put, nz0, nz1, nz2, nz3, nz4, nz5]
        refine wpAnyH_done (by kernel_rfl) ?_ _
        clear c6 f6
        go_wp2
        go_roundw
        case rel => exact ⟨k + 1, d.push (b, (k : Int), s), _, by go_num, by omega, HD', X7, D7, O7, F7⟩
        case measure => simp [intOf]; omega
      · refine step_of rfl (wp_slice_one (.tmp 39) rfl b k s hsl rfl (hK.out _ _ (hS.alloc _) fun hS => ?_))
        try simp only [Act.put, nz0, nz1, nz2, nz3, nz4, nz5]
        refine wpAnyH_ready (rs := [4]) (by kernel_rfl) (by simp) ?_
        refine AllReadyH.cons rfl (fun K hK => ?_) AllReadyH.nil
        go_simp
        refine hK.out _ _ hS fun hS => ?_
        try simp only [Act.put, nz0, nz1, nz2, nz3, nz4, nz5]
        refine wpAnyH_ready (rs := [7]) (by kernel_rfl) (by simp) ?_
        refine AllReadyH.cons rfl (fun K hK => step_of rfl (wp_append_write (.tmp 38) (.tmp 40) rfl g L.p d.pend rfl p5 _ (b, (k : Int), s) rfl z5 hsl hpl hg5 ?_)) AllReadyH.nil
        intro r n6 cap6 w6 hp6 hg6 hl6
        obtain ⟨c6, f6, y6, D7, X7, O7, F7⟩ := write_after D3 (b, (k : Int), s) hq5 hNk g4' m4 _ hp6 hg6 hl6 X Y x _ rX3 rY3 hYf hXf O3 HF.out
        refine hK.out _ _ y6 fun hS => ?_
        try simp only [Act.put, nz0, nz1, nz2, nz3, nz4, nz5]
        refine tkH (i := 8) (v := .pointer (some ⟨g, 0, none⟩)) rfl (by kernel_rfl) (fun _ _ _ h => h) (Or.inl ⟨by rfl, fun w _ => by go_simp⟩) hS ?_
        try simp only [Act.put, nz0, nz1, nz2, nz3, nz4, nz5]
        refine tkH (i := 9) (v := .pointer (some ⟨g, 3, none⟩)) rfl (by kernel_rfl) (fun _ _ _ h => h) (Or.inl ⟨by rfl, fun w _ => by go_simp⟩) hS ?_
        try simp only [Act.put, nz0, nz1, nz2, nz3, nz4, nz5]
        refine wpAnyH_ready (rs := [10]) (by kernel_rfl) (by simp) ?_
        refine AllReadyH.cons rfl (fun K hK => ?_) AllReadyH.nil
        go_simp
        refine hK.out _ _ (row_setCell_other y6 hYg' _ _) fun hS => ?_
        try simp only [Act.put, nz0, nz1, nz2, nz3, nz4, nz5]
        refine wpAnyH_done (by kernel_rfl) ?_ _
        clear c6 f6
        go_wp2
        go_roundw
        case rel => exact ⟨k + 1, d.push (b, (k : Int), s), _, by go_num, by omega, HD', X7, D7, O7, F7⟩
        case measure => simp [intOf]; omega
    · have e4 : k = 4 := by omega
      subst e4
      have hp := HPP.out wr ⟨L, by rw [← HD.out]; exact D, O, HF.out⟩
      go_wp2
      go_ret
      exact ⟨rfl, hp⟩
theorem write_err (v : Value) (b E : Int) (hE : ¬ E = 0) (x : List Int) (w : World) (F : Nat → Prop) (T : World → Prop)
    (hh : ∀ wa, Below w.heap.size w wa → Calls Try.prog 64 #[v, .int .i64 b] wa fun e w' => e = .returned (.int .i64 E) ∧ Off F wa w' ∧ T w') :
    Calls Try.prog 30 #[v, .int .i64 b, .agg (bs x)] w fun e w' => e = .returned (.int .i64 E) ∧ Off F w w' ∧ T w' := by
  have ab : Below w.heap.size w (w.alloc (.cells (bs x) 41)) := (Below.refl _ _).alloc (Nat.le_refl _) _
  go_enter Try.func30, Try.ntmps30
  go_wp2_with (go_at_call 64; refine (hh _ ab).mono ?_; rintro e w' ⟨rfl, ho, ht⟩)
  go_ret
  exact ⟨rfl, (Off.of_below (F := F) ab).trans ho (fun j hj => Or.inl hj), ht⟩
def writ (d : Dsk) (b : Int) (x : List Int) : Int × Dsk := if (ask d b).1 = 0 then (0, (ask d b).2.wrote b x 4) else ask d b
theorem write_any {w : World} {g : Nat} {d : Dsk} {L : Loc} {N : Nat} (h : DAt w g d L N) (ho : d.ops < 9223372036854775806) (b : Int) (x : List Int) (hx : x.length = 256) (xb : Bytes x) (hN : N + 4 < 1000000000000) :
    Calls Try.prog 30 #[.pointer (some ⟨g, 0, none⟩), .int .i64 b, .agg (bs x)] w fun e w' => e = .returned (.int .i64 (writ d b x).1) ∧ ∃ L', DAt w' g (writ d b x).2 L' (N + 4) ∧ Off (foot g L) w w' ∧ ∀ j, foot g L' j → foot g L j ∨ w.heap.size ≤ j := by
  by_cases e0 : (ask d b).1 = 0
  · have e : writ d b x = (0, (ask d b).2.wrote b x 4) := by unfold writ; rw [if_pos e0]
    rw [e]
    exact write_in h ho b x hx xb hN e0
  · have e : writ d b x = ask d b := by unfold writ; rw [if_neg e0]
    rw [e]
    refine (write_err _ b (ask d b).1 e0 x w (foot g L) (fun w' => DAt w' g (ask d b).2 L N) fun wa hb => ?_).mono ?_
    · refine (ask_any (h.below hb) ho b).mono ?_
      rintro e w' ⟨rfl, h1, h2⟩
      exact ⟨rfl, h2.mono (fun j hj => Or.inl (Or.inl hj)), h1⟩
    · rintro e w' ⟨rfl, h1, h2⟩
      refine ⟨rfl, L, { h2 with sure := ?_, big := hN }, h1, fun j hj => Or.inl hj⟩
      obtain ⟨s, hs, hle⟩ := h2.sure
      exact ⟨s, hs, by omega⟩
theorem wrote_seen (d : Dsk) (b : Int) (x : List Int) (hx : x.length = 256) : (d.wrote b x 4).seen b = x := by
  unfold Dsk.seen Secs.block
  have e : (d.wrote b x 4).sure = d.sure ∧ (d.wrote b x 4).pend = d.pend ++ [(b, 0, cut x 0), (b, 1, cut x 1), (b, 2, cut x 2), (b, 3, cut x 3)] := by
    constructor
    · rfl
    · simp [Dsk.wrote, Dsk.push]
  rw [e.1, e.2, over_append]
  generalize over d.sure d.pend = f
  have h2 : ∀ i : Nat, i < 4 → (over f [(b, 0, cut x 0), (b, 1, cut x 1), (b, 2, cut x 2), (b, 3, cut x 3)]).get b (i : Int) = cut x i := by
    intro i hi
    have : i = 0 ∨ i = 1 ∨ i = 2 ∨ i = 3 := by omega
    rcases this with rfl | rfl | rfl | rfl <;> simp [over, Secs.put, Secs.get]
  rw [blk_congr _ (cut x) (fun i hi => by rw [h2 i hi]; exact cut_length x i hx hi) h2]
  exact blk_cut x hx
theorem wrote_ops (d : Dsk) (b : Int) (x : List Int) : (d.wrote b x 4).ops = d.ops ∧ (d.wrote b x 4).down = d.down ∧ (d.wrote b x 4).n = d.n ∧ (d.wrote b x 4).fuse = d.fuse ∧ (d.wrote b x 4).fails = d.fails := ⟨rfl, rfl, rfl, rfl, rfl⟩

def Cel (w : World) (v : Value) (cs : List Value) : Prop :=
  (v = .slice none 0 0 ∧ cs = []) ∨ ∃ a cap, v = .slice (some a) cs.length cap ∧ ∀ j u, cs[j]? = some u → w.cell? (a.add j) = some u
theorem Cel.below {w w' : World} {v : Value} {cs : List Value} (h : Cel w v cs) (hb : ∀ a n c, v = .slice (some a) n c → w'.heap[a.block]? = w.heap[a.block]?) : Cel w' v cs := by
  rcases h with h | ⟨a, cap, rfl, h⟩
  · exact Or.inl h
  · refine Or.inr ⟨a, cap, rfl, fun j u hj => ?_⟩
    rw [← h j u hj]
    refine World.cell?_of_block ?_
    have : (a.add j).block = a.block := by unfold Addr.add; split <;> rfl
    rw [this]; exact hb a _ _ rfl
theorem Cel.keep {w w' : World} {v : Value} {cs : List Value} (h : Cel w v cs) (hb : Below w.heap.size w w') : Cel w' v cs := by
  rcases h with h | ⟨a, cap, rfl, h⟩
  · exact Or.inl h
  · refine Or.inr ⟨a, cap, rfl, fun j u hj => ?_⟩
    have h0 := h j u hj
    rw [← h0]
    refine World.cell?_of_block (hb.block _ ?_)
    unfold World.cell? at h0
    by_cases q : (a.add j).block < w.heap.size
    · exact q
    · rw [Array.getElem?_eq_none (by omega)] at h0; cases h0
theorem wp_copy {T : Value → World → Prop} {w : World} {o : Oper} {a : Act} {K : Act → World → Prop} {Q : Exit → Act → World → Prop} (s x : Operand) (t : TypeId)
    (ho : o.op = .call { callee := .builtin .append, args := #[s, x], argTypes := #[t, t] }) (sv v : Value) (hs : a.eval s = sv) (hx : a.eval x = v)
    (hr : ∀ ty, ∃ v' w', (Builtin.append_ #[t, t] ty #[sv, v]).run Try.prog w = .ok v' w' ∧ T v' w')
    (h : ∀ v' w', T v' w' → K (a.put o.dst v') w') : Oper.wp Try.prog o a w K Q := by
  obtain ⟨v', w', hrun, hT⟩ := hr o.type
  unfold Oper.wp
  simp [execOp, ho, resolve, invoke, builtin, hs, hx, hrun, Result.andThen]
  exact h v' w' hT
theorem wpList_copy {T : Value → World → Prop} {w : World} {ops : Array Oper} {rest : List Oper} {o : Oper} {a : Act} {Q : Exit → Act → World → Prop} (hgd : o.guard = none) (s x : Operand) (t : TypeId)
    (ho : o.op = .call { callee := .builtin .append, args := #[s, x], argTypes := #[t, t] }) (sv v : Value) (hs : a.eval s = sv) (hx : a.eval x = v)
    (hr : ∀ ty, ∃ v' w', (Builtin.append_ #[t, t] ty #[sv, v]).run Try.prog w = .ok v' w' ∧ T v' w')
    (h : ∀ v' w', T v' w' → wpList Try.prog ops Q rest (a.put o.dst v') w') : wpList Try.prog ops Q (o :: rest) a w := by
  refine wpList_plain hgd fun K hK => ?_
  obtain ⟨v', w', hrun, hT⟩ := hr o.type
  unfold Oper.wp
  simp [execOp, ho, resolve, invoke, builtin, hs, hx, hrun, Result.andThen]
  exact hK _ _ (h v' w' hT)
def Dsk.forgot (d : Dsk) : Dsk := { d with pend := [] }
def Loc.forgot (L : Loc) (k : Nat) : Loc := { L with b := k, p := .slice none 0 0 }
theorem forget_at {w : World} {g : Nat} {d : Dsk} {L : Loc} {N : Nat} (row : Row w g (dcells d L) 88) (sure : ∃ s, SMap w L.a s d.sure ∧ s ≤ N) (fails : FMap w L.f d.fails) (fa : L.f ≠ .map (some L.a)) (big : N < 1000000000000) (small : 1 ≤ d.n ∧ d.n ≤ 2048) (opsn : 0 ≤ d.ops) (fusew : Wf d.fuse) :
    DAt (((w.alloc (.map #[] 0)).setCell ⟨g, 2, none⟩ (.map (some w.heap.size))).setCell ⟨g, 3, none⟩ (.slice none 0 0)) g d.forgot (L.forgot w.heap.size) N ∧ Off (· = g) w (((w.alloc (.map #[] 0)).setCell ⟨g, 2, none⟩ (.map (some w.heap.size))).setCell ⟨g, 3, none⟩ (.slice none 0 0)) := by
  have keep : ∀ j, j < w.heap.size → j ≠ g → (((w.alloc (.map #[] 0)).setCell ⟨g, 2, none⟩ (.map (some w.heap.size))).setCell ⟨g, 3, none⟩ (.slice none 0 0)).heap[j]? = w.heap[j]? := fun j hj hg => by
    rw [Below.heap_setCell _ _ _ _ hg, Below.heap_setCell _ _ _ _ hg, Below.heap_alloc _ _ _ hj]
  have gl := row.lt
  have ag : L.a ≠ g := by obtain ⟨s, hs, _⟩ := sure; exact row.map_ne hs
  refine ⟨⟨row_set (row_set (row.alloc _) 2 _) 3 _, ?_, ?_, ?_, World.ownsRow_nil _ _ _ _, ?_, fa, ?_, big, (fun q hq => nomatch hq), small, opsn, fusew⟩, ⟨rfl, rfl, rfl, by simp [World.setCell], fun k hk hn => keep k hk hn⟩⟩
  · obtain ⟨s, hs, hle⟩ := sure
    exact ⟨s, hs.kept (keep _ hs.lt ag), by simp [Dsk.forgot]; exact hle⟩
  · have h1 := SMap.made w
    refine h1.kept ?_
    show _ = _
    rw [Below.heap_setCell _ _ _ _ (by simp only [Loc.forgot]; omega), Below.heap_setCell _ _ _ _ (by simp only [Loc.forgot]; omega)]
  · obtain ⟨s, hs, _⟩ := sure
    have := hs.lt
    simp [Loc.forgot]; omega
  · exact fails.kept fun m e hm => keep m hm (fun q => by
      subst q
      rcases fails with ⟨q, _⟩ | ⟨m', n, D, q, ⟨es, clock, hb, _⟩, _⟩
      · have : L.f = .map (some m) := e
        rw [q] at this; cases this
      · have e' : L.f = .map (some m) := e
        rw [q] at e'; cases e'
        unfold Row at row
        rw [row] at hb; cases hb)
  · intro e
    rcases fails with ⟨q, _⟩ | ⟨m', n, D, q, hD, _⟩
    · have : L.f = .map (some w.heap.size) := e
      rw [q] at this; cases this
    · have e' : L.f = .map (some w.heap.size) := e
      rw [q] at e'; cases e'
      have := hD.lt; omega
theorem forget_any {w : World} {g : Nat} {d : Dsk} {L : Loc} {N : Nat} (row : Row w g (dcells d L) 88) (sure : ∃ s, SMap w L.a s d.sure ∧ s ≤ N) (fails : FMap w L.f d.fails) (fa : L.f ≠ .map (some L.a)) (big : N < 1000000000000) (small : 1 ≤ d.n ∧ d.n ≤ 2048) (opsn : 0 ≤ d.ops) (fusew : Wf d.fuse) :
    Calls Try.prog 60 #[.pointer (some ⟨g, 0, none⟩)] w fun e w' => e = .returned (.tuple #[]) ∧ DAt w' g d.forgot (L.forgot w.heap.size) N ∧ Off (· = g) w w' := by
  obtain ⟨hD, hO⟩ := forget_at row sure fails fa big small opsn fusew
  have hmm := @run_makeMap Try.prog
  have r1 := row.alloc (.map #[] 0)
  have c2 := row_at r1 2 (.map (some L.b)) rfl
  have f2 := row_frozen r1 2
  have r2 := row_set r1 2 (.map (some w.heap.size))
  have c3 := row_at r2 3 L.p rfl
  have f3 := row_frozen r2 3
  clear sure fails fa row
  go_enter Try.func60, Try.ntmps60
  go_wp2
  first
    | (go_end0; exact ⟨rfl, hD, hO⟩)
    | (refine bodyPost_ret (results_none rfl _ _ _) rfl ?_; exact ⟨rfl, hD, hO⟩)
def Crashed (w : World) (g : Nat) (d : Dsk) (L : Loc) (N : Nat) (w' : World) : Prop := ∃ L', DAt w' g d L' N ∧ Off (foot g L) w w' ∧ ∀ j, foot g L' j → foot g L j ∨ w.heap.size ≤ j
theorem SMap.congr {w : World} {a n : Nat} {f h : Secs} (hs : SMap w a n f) (e : ∀ b s, Wf b → Wf s → f b s = h b s) : SMap w a n h := by
  obtain ⟨D, hD, hf⟩ := hs
  exact ⟨D, hD, fun b s hb hw => by rw [← e b s hb hw]; exact hf b s hb hw⟩
theorem SMap.range {w : World} {a n : Nat} {f : Secs} (h : SMap w a n f) :
    ∃ w' cnt, (Instr.range 84 (.map (some a))).run Try.prog w = .ok (.pointer (some ⟨w.heap.size, 0, none⟩)) w' ∧ SRng w' a w.heap.size n f (fun b s => (f b s).isSome) cnt ∧ cnt ≤ n ∧ w.grownBy w' none ∧ w'.heap.size = w.heap.size + 1 := by
  obtain ⟨D, hD, hf⟩ := h
  obtain ⟨w', hrun, hr, hg, hs⟩ := hD.range law90 Try.underlying84
  refine ⟨w', _, hrun, ⟨D, _, hr, hf, fun b s hb hw => ?_⟩, hD.size_le, hg, hs⟩
  show _ = (f b s).isSome
  cases e : f b s with
  | none => rw [(hf b s hb hw).1 e]; rfl
  | some xs => rw [Maps.has_true_of_atKey ((hf b s hb hw).2 xs e).2]; rfl
theorem same_kl {b s b' s' : Int} (hb : Wf b) (hs : Wf s) (hb' : Wf b') (hs' : Wf s') : (kl b' s').sameKey (kl b s) = decide (b' = b ∧ s' = s) := by
  by_cases e : b' = b ∧ s' = s
  · obtain ⟨rfl, rfl⟩ := e
    rw [WideAt.sameKey_self (kl_key hb hs)]; simp
  · rw [decide_eq_false e]
    exact Maps.sameKey_ne (fun q => e (kl_inj hb' hs' hb hs q))
theorem SRng.next {w : World} {a r n : Nat} {f : Secs} {left : Int → Int → Bool} {cnt : Nat} (h : SRng w a r n f left cnt) :
    (cnt = 0 ∧ (∀ b s, Wf b → Wf s → left b s = false) ∧ ∀ ty, (Instr.next (.pointer (some ⟨r, 0, none⟩)) false ty).run Try.prog w = .ok (.tuple #[.bool false]) w) ∨
    ∃ b s xs w' cnt', Wf b ∧ Wf s ∧ Sec xs ∧ left b s = true ∧ f b s = some xs ∧ (∀ ty, (Instr.next (.pointer (some ⟨r, 0, none⟩)) false ty).run Try.prog w = .ok (.tuple #[.bool true, pk b s, .agg (bs xs)]) w') ∧
      SRng w' a r n f (fun b' s' => left b' s' && !decide (b' = b ∧ s' = s)) cnt' ∧ cnt' < cnt ∧ w.grownBy w' (some r) ∧ w'.heap.size = w.heap.size ∧ (Instr.entry (.pointer (some ⟨r, 0, none⟩))).run Try.prog w' = .ok (.tuple #[pk b s, .agg (bs xs)]) w' := by
  obtain ⟨D, lf, hr, hf, hl⟩ := h
  rcases hr.next law90 0 with ⟨h0, h1, _⟩ | ⟨key, v, k0, y, w', cnt', hkey, hlk, hv, hat, hrun, hrg, hlt, hgr, hsz, hen⟩
  · refine Or.inl ⟨h0, fun b s hb hs => by rw [← hl b s hb hs]; exact h1 _, fun ty => ?_⟩
    rcases hr.next law90 ty with ⟨_, _, hrun⟩ | ⟨_, _, _, _, _, cnt', _, _, _, _, _, _, hlt, _⟩
    · exact hrun
    · omega
  · obtain ⟨b, s, rfl, hb, hs, rfl⟩ := key_inv hkey
    obtain ⟨xs, hx, rfl, rfl⟩ := secR_inv hv
    refine Or.inr ⟨b, s, xs, w', cnt', hb, hs, hx, by rw [← hl b s hb hs]; exact hlk, ?_, fun ty => ?_, ⟨D, _, hrg, hf, fun b' s' hb' hs' => ?_⟩, hlt, hgr, hsz, hen⟩
    · cases e : f b s with
      | none =>
        have := (hf b s hb hs).1 e
        rw [Maps.has_true_of_atKey hat] at this; cases this
      | some ys =>
        have := ((hf b s hb hs).2 ys e).2 .nil
        rw [hat] at this
        cases this; rfl
    · exact hrun
    · rw [hl b' s' hb' hs', same_kl hb hs hb' hs']
end Go.Proofs.Ytehogiondcpbcaa
