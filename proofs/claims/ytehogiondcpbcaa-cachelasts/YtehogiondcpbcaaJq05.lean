/-
  Proved here: what disk.Write answers and leaves. Proved here: disk.Write where it is refused; that what was written is read (the statements' own fixed run). Proved here: what the calls of a disk that is not there answer. Plain facts on slices of one-cell elements: what one holds, and a copy of it by append to a new one. Proved here: what disk.forget and disk.Plan leave.
-/
import Derived.Test.YtehogiondcpbcaaJq04
import Derived.Laws.AppendOwnNone
namespace Go.Proofs.Ytehogiondcpbcaa
open Go.ChangeShapes Go.WideShapes Go.ChangeAt Go.RowKit
set_option linter.unusedVariables false
set_option linter.unusedSimpArgs false
set_option maxRecDepth 20000
def Dsk.wrote (d : Dsk) (b : Int) (x : List Int) : Nat → Dsk
  | 0 => d
  | k + 1 => (d.wrote b x k).push (b, (k : Int), cut x k)
theorem wrote_n (d : Dsk) (b : Int) (x : List Int) : ∀ k, (d.wrote b x k).n = d.n
  | 0 => rfl
  | k + 1 => wrote_n d b x k
theorem cut_at (x : List Int) (hx : x.length = 256) (i : Nat) (hi : i < 4) (s : List Int) (hs : cut x i = s) (w : World) :
    Calls Try.prog 38 #[.agg (bs x), .int .i64 i] w fun e w' => e = .returned (.agg (bs s)) ∧ Below w.heap.size w w' := by
  subst hs; exact cut_in x hx i hi w
theorem cut_bytes (x : List Int) (hb : Bytes x) (i : Nat) : Bytes (cut x i) := fun y hy => hb y (List.mem_of_mem_drop (List.mem_of_mem_take hy))
theorem Row.type_ne {w : World} {g k : Nat} {c c' : Array Value} {t t' : TypeId} (h : Row w g c t) (h' : Row w k c' t') (ht : t ≠ t') : g ≠ k := by
  rintro rfl
  unfold Row at h h'
  rw [h] at h'
  cases h'; exact ht rfl
theorem DAt.notX {w : World} {g : Nat} {d : Dsk} {L : Loc} {N : Nat} (h : DAt w g d L N) {X : Nat} {x : List Int} (r : Row w X (bs x) 41) : ¬ foot g L X := by
  rintro (e | e | e | e | e)
  · exact r.type_ne h.row (by decide) e
  · obtain ⟨s, hs, _⟩ := h.sure
    exact r.map_ne hs e.symm
  · exact r.map_ne h.fresh e.symm
  · rcases h.pend.2 with ⟨q, _⟩ | ⟨rr, cap, cur, q, _, hr, _⟩
    · rw [q] at e; cases e
    · rw [q] at e
      simp [Value.ownBlock] at e
      subst e
      unfold Row at r
      rw [r] at hr; cases hr
  · rcases h.fails with ⟨q, _⟩ | ⟨m, n, D, q, ⟨es, clock, hb, _⟩, _⟩
    · rw [q] at e; cases e
    · rw [q] at e; cases e
      unfold Row at r
      rw [r] at hb; cases hb
set_option maxHeartbeats 2000000 in
theorem write_in {w : World} {g : Nat} {d0 : Dsk} {L0 : Loc} {N : Nat} (h0 : DAt w g d0 L0 N) (ho : d0.ops < 9223372036854775806) (b : Int) (x : List Int) (hx : x.length = 256) (xb : Bytes x) (hN : N + 4 < 1000000000000) (ha : (ask d0 b).1 = 0) :
    Calls Try.prog 30 #[.pointer (some ⟨g, 0, none⟩), .int .i64 b, .agg (bs x)] w fun e w' => e = .returned (.int .i64 0) ∧ ∃ L', DAt w' g ((ask d0 b).2.wrote b x 4) L' (N + 4) ∧ Off (foot g L0) w w' ∧ ∀ j, foot g L' j → foot g L0 j ∨ w.heap.size ≤ j := by
  obtain ⟨b0, b1, b2⟩ := ask_in ha
  have hn := h0.small
  have wb : Wf b := wf_of (by omega) (by omega)
  have hask := ask_any (h0.alloc (.cells (bs x) 41)) ho b
  rw [ha] at hask
  have hn1 : (ask d0 b).2.n = d0.n := by rw [b2, count_n]
  generalize (ask d0 b).2 = d1 at hask hn1 ⊢
  clear ha b2
  have aX : Row (w.alloc (.cells (bs x) 41)) w.heap.size (bs x) 41 := Row.new _ _ _
  have gw : g < w.heap.size := h0.row.lt
  have HW : Hid (∀ k : Nat, k < 4 → Wf (k : Int)) := fun k hk => wf_of (by omega) (by omega)
  obtain ⟨X, HX⟩ : ∃ X, Hid (w.heap.size = X) := ⟨_, rfl⟩
  have oa : Off (foot g L0) w (w.alloc (.cells (bs x) 41)) := Off.of_below ((Below.refl _ _).alloc (Nat.le_refl _) _)
  have HPOST : Hid (∀ w', (∃ L', DAt w' g (d1.wrote b x 4) L' (N + 4) ∧ Off (foot g L0) w w' ∧ ∀ j, foot g L' j → foot g L0 j ∨ w.heap.size ≤ j) → ∃ L', DAt w' g (d1.wrote b x 4) L' (N + 4) ∧ Off (foot g L0) w w' ∧ ∀ j, foot g L' j → foot g L0 j ∨ w.heap.size ≤ j) := fun _ h => h
  generalize hPP : (fun w' => ∃ L', DAt w' g (d1.wrote b x 4) L' (N + 4) ∧ Off (foot g L0) w w' ∧ ∀ j, foot g L' j → foot g L0 j ∨ w.heap.size ≤ j) = PP
  have HPP : Hid (∀ w', (∃ L', DAt w' g (d1.wrote b x 4) L' (N + 4) ∧ Off (foot g L0) w w' ∧ ∀ j, foot g L' j → foot g L0 j ∨ w.heap.size ≤ j) → PP w') := fun w' h => by rw [← hPP]; exact h
  show Calls Try.prog 30 _ w fun e w' => e = .returned (.int .i64 0) ∧ (fun w' => ∃ L', DAt w' g (d1.wrote b x 4) L' (N + 4) ∧ Off (foot g L0) w w' ∧ ∀ j, foot g L' j → foot g L0 j ∨ w.heap.size ≤ j) w'
  rw [hPP]
  clear hPP HPOST
  go_enter Try.func30, Try.ntmps30
  go_wp2_with (go_at_call 64; refine hask.mono ?_; rintro e w1 ⟨rfl, D1, o1⟩)
  have rX1 : Row w1 X (bs x) 41 := by rw [← HX.out]; exact aX.off o1 (by omega)
  have O1 : Off (foot g L0) w w1 := oa.trans o1 (fun j hj => Or.inl (Or.inl hj))
  go_loopw [16] (fun c wr => ∃ (k : Nat) (d : Dsk) (L : Loc), c = .int .i64 k ∧ k ≤ 4 ∧ Hid (d = d1.wrote b x k) ∧ Row wr X (bs x) 41 ∧ DAt wr g d L (N + k) ∧ Off (foot g L0) w wr ∧ Hid (∀ j, foot g L j → foot g L0 j ∨ w.heap.size ≤ j)) (fun c _ => 4 - (intOf c).toNat)
  case atStart => exact ⟨0, d1, L0, rfl, by omega, rfl, rX1, D1, O1, fun j hj => Or.inl hj⟩
  case round =>
    clear rX1 O1 D1 o1 oa aX
    obtain ⟨k, d, L, rfl, hk4, HD, rX, D, O, HF⟩ := hrel
    by_cases hk : k < 4
    · have wk := HW.out k hk
      obtain ⟨s, HS⟩ : ∃ s, Hid (cut x k = s) := ⟨_, rfl⟩
      have hsl : s.length = 64 := by rw [← HS.out]; exact cut_length x k hx hk
      have hsec : Sec s := ⟨hsl, by rw [← HS.out]; exact cut_bytes x xb k⟩
      have HD' : Hid (d.push (b, (k : Int), s) = d1.wrote b x (k + 1)) := by show _ = _; rw [HD.out, ← HS.out]; rfl
      have hdn : d.n = d0.n := by rw [HD.out, wrote_n, hn1]
      have hq5 : 0 ≤ b ∧ b < (d.n : Int) ∧ 0 ≤ (k : Int) ∧ (k : Int) < 4 ∧ Sec s := ⟨b0, by rw [hdn]; exact b1, by omega, by omega, hsec⟩
      have HQ5 : Hid _ := hq5
      clear hq5 hsec
      have hz81 := zero136
      have hb81 := built136 b (k : Int) s hsl
      go_wp2_with (first
        | (refine load_row rfl 41 (.tmp 5) rfl X (by rw [← HX.out]; rfl) 41 (bs x) rX 256 5 Try.underlying41 size41 (by rw [bs_size, hx]) ?_)
        | (go_at_call 38; refine (cut_at x hx k hk s HS.out _).mono ?_; rintro e wc ⟨rfl, hcb⟩
           have y0 : Row (wc.alloc (.cells (wcells 0 0 (zs 64)) 136)) wc.heap.size (wcells 0 0 (zs 64)) 136 := Row.new _ _ _)
        | (refine build_two rfl 136 (.tmp 21) (.tmp 24) rfl _ _ rfl rfl (wcells b k s) hb81 ?_)
        | (refine store_cells rfl 136 (.tmp 9) (.tmp 25) rfl wc.heap.size (wcells b k s) rfl rfl 136 _ y0 66 size136 (wcells_size _ _ _ (zs_length 64)) (wcells_size _ _ _ hsl) (wcells_one _ _ _) ?_))
      have hYf : ¬ foot g L wc.heap.size := fun q => by have := D.lt q; have := hcb.size; omega
      have rY3 : Row ((wc.alloc (.cells (wcells 0 0 (zs 64)) 136)).setRow wc.heap.size (wcells b k s)) wc.heap.size (wcells b k s) 136 := y0.set _
      have D3 : DAt ((wc.alloc (.cells (wcells 0 0 (zs 64)) 136)).setRow wc.heap.size (wcells b k s)) g d L (N + k) := ((D.below hcb).alloc _).setRow _ _ hYf
      have rX3 : Row ((wc.alloc (.cells (wcells 0 0 (zs 64)) 136)).setRow wc.heap.size (wcells b k s)) X (bs x) 41 := ((rX.below hcb rX.lt).alloc _).other (by have := rX.lt; have := hcb.size; omega) _
      have O3 : Off (foot g L0) w ((wc.alloc (.cells (wcells 0 0 (zs 64)) 136)).setRow wc.heap.size (wcells b k s)) :=
        ((O.trans (Off.of_below (F := fun _ => False) hcb) (fun _ h => h.elim)).trans (Off.of_below (F := fun _ => False) ((Below.refl _ _).alloc (Nat.le_refl _) _)) (fun _ h => h.elim)).trans (Off.of_setRow (F := (· = wc.heap.size)) _ _ _ rfl) (fun j hj => Or.inr (by have := O.size; have := hcb.size; omega))
      clear y0
      generalize (wc.alloc (.cells (wcells 0 0 (zs 64)) 136)).setRow wc.heap.size (wcells b k s) = w3 at rY3 D3 rX3 O3 ⊢
      generalize wc.heap.size = Y at hYf rY3 ⊢
      clear hcb rX D O hb81 hz81
      have hXf : ¬ foot g L X := D3.notX rX3
      have hYg : g ≠ Y := fun q => hYf (Or.inl q.symm)
      have hYg' : Y ≠ g := hYg.symm
      have hpl : d.pend.length < 1000000000000 := by obtain ⟨_, _, h2⟩ := D3.sure; omega
      have hNk : N + k + 1 < 1000000000000 := by omega
      obtain ⟨w4, hrun4, m4, g4, z4⟩ := D3.drew.fresh.store (by unfold maxLen; omega) wb wk HQ5.out.2.2.2.2
      have g4' : w3.grownBy w4 (some L.b) := ⟨g4.os, g4.tape, g4.output, g4.size, g4.block⟩
      clear z4 g4
      have row4 : Row w4 g (dcells d L) 88 := by
        have := D3.row
        unfold Row at this ⊢
        rw [g4'.block g D3.row.lt (fun q => D3.bg (by cases q; rfl))]; exact this
      have y4 : Row w4 Y (wcells b k s) 136 := by
        have := rY3
        unfold Row at this ⊢
        rw [g4'.block Y rY3.lt (fun q => hYf (Or.inr (Or.inr (Or.inl (by cases q; rfl)))))]; exact this
      have c34 := row_at (row_drew row4) 3 L.p rfl
      have c35 := row_at (row4.alloc (.cells (wcells b k s) 136)) 3 L.p rfl
      have p4 : w4.drew.ownsRow (g + 1) 136 66 L.p d.pend.length (pcells d.pend) := ownsRow_kept D3.pend fun j e hl => g4'.block j hl (fun q => D3.pb (by cases q; exact e))
      have p5 := p4.alloc (.cells (wcells b k s) 136)
      have z5 : Row (w4.drew.alloc (.cells (wcells b k s) 136)) w4.drew.heap.size (pcell (b, (k : Int), s)).toArray 136 := Row.new _ _ _
      have hg5 : g + 1 ≤ (w4.drew.alloc (.cells (wcells b k s) 136)).heap.size := by have := row4.lt; simp; omega
      have hq5 := HQ5.out
      unfold pk at hrun4
      refine wp_region_held_drew (S := fun w' => Row w' g (dcells d L) 88 ∧ Row w' Y (wcells b k s) 136) (by kernel_rfl) ⟨row_drew D3.row, row_drew rY3⟩ fun hS => ?_
      refine tkI (i := 0) (v := .pointer (some ⟨g, 0, none⟩)) rfl (by kernel_rfl) (Or.inl ⟨by rfl, fun w _ => by rfl⟩) hS ?_
      try simp only [Act.put, nz]
      refine tkI (i := 1) (v := .pointer (some ⟨g, 0, none⟩)) rfl (by kernel_rfl) (Or.inl ⟨by rfl, fun w _ => by go_simp⟩) hS ?_
      try simp only [Act.put, nz]
      refine tkI (i := 2) (v := .pointer (some ⟨g, 2, none⟩)) rfl (by kernel_rfl) (Or.inl ⟨by rfl, fun w _ => by go_simp⟩) hS ?_
      try simp only [Act.put, nz]
      refine tkI (i := 3) (v := .map (some L.b)) rfl (by kernel_rfl) (Or.inl ⟨by rfl, fun w h => by have c := (row_at h.1 2 (.map (some L.b)) rfl); go_simp⟩) hS ?_
      try simp only [Act.put, nz]
      refine tkI (i := 4) (v := .pointer (some ⟨Y, 0, none⟩)) rfl (by kernel_rfl) (Or.inl ⟨by rfl, fun w _ => by go_simp⟩) hS ?_
      try simp only [Act.put, nz]
      refine tkI (i := 5) (v := .agg #[.int .i64 b, .int .i64 k]) rfl (by kernel_rfl) (yieldsIf_load_mid (by rfl) 90 (.tmp 30) rfl Y 0 rfl [.int .i64 b, .int .i64 k] _ (fun w h => range_key h.2) Try.underlying90 rfl size90) hS ?_
      try simp only [Act.put, nz]
      refine tkI (i := 6) (v := .pointer (some ⟨Y, 2, none⟩)) rfl (by kernel_rfl) (Or.inl ⟨by rfl, fun w _ => by go_simp⟩) hS ?_
      try simp only [Act.put, nz]
      refine tkI (i := 7) (v := .agg (bs s)) rfl (by kernel_rfl) (yieldsIf_load_mid (by rfl) 79 (.tmp 32) rfl Y 2 rfl (s.map (Value.int .u8)) _ (fun w h => range_sec h.2) Try.underlying79 rfl (by rw [List.length_map, hsl]; exact size79)) hS ?_
      try simp only [Act.put, nz]
      refine wpAnyH_ready (rs := [8]) (by kernel_rfl) (by simp) ?_
      refine AllReadyH.cons rfl (fun K hK => step_of rfl (wp_update 84 (.tmp 29) (.tmp 31) (.tmp 33) rfl _ _ _ rfl rfl rfl w4 hrun4 (hK.out _ _ ⟨row4, y4⟩ fun hS => ?_))) AllReadyH.nil
      try simp only [Act.put, nz]
      refine wpAnyH_done (by kernel_rfl) ?_ _
      go_wp2
      refine wp_region_held_drew (S := fun w' => Row w' Y (wcells b k s) 136) (by kernel_rfl) (row_drew y4) fun hS => ?_
      refine tkI (i := 0) (v := .pointer (some ⟨g, 0, none⟩)) rfl (by kernel_rfl) (Or.inl ⟨by rfl, fun w _ => by rfl⟩) hS ?_
      try simp only [Act.put, nz]
      refine tkI (i := 1) (v := .pointer (some ⟨g, 0, none⟩)) rfl (by kernel_rfl) (Or.inl ⟨by rfl, fun w _ => by rfl⟩) hS ?_
      try simp only [Act.put, nz]
      refine tkI (i := 2) (v := .pointer (some ⟨g, 0, none⟩)) rfl (by kernel_rfl) (Or.inl ⟨by rfl, fun w _ => by go_simp⟩) hS ?_
      try simp only [Act.put, nz]
      refine tkI (i := 3) (v := .pointer (some ⟨g, 3, none⟩)) rfl (by kernel_rfl) (Or.inl ⟨by rfl, fun w _ => by go_simp⟩) hS ?_
      try simp only [Act.put, nz]
      refine tkI (i := 5) (v := .agg (wcells b k s)) rfl (by kernel_rfl) (yieldsIf_load_mid (by rfl) 136 (.tmp 9) rfl Y 0 rfl (pcell (b, (k : Int), s)) _ (fun w h => range_all h) Try.underlying136 rfl (by rw [pcell_length _ _ _ hsl]; exact size136)) hS ?_
      try simp only [Act.put, nz]
      refine wpAnyH_ready (rs := [4, 6]) (by kernel_rfl) (by simp) ?_
      refine AllReadyH.cons rfl (fun K hK => ?_) (AllReadyH.cons rfl (fun K hK => ?_) AllReadyH.nil)
      · go_simp
        refine hK.out _ _ hS fun hS => ?_
        try simp only [Act.put, nz]
        refine wpAnyH_ready (rs := [6]) (by kernel_rfl) (by simp) ?_
        refine AllReadyH.cons rfl (fun K hK => step_of rfl (wp_slice_one (.tmp 39) rfl b k s hsl rfl (hK.out _ _ (hS.alloc _) fun hS => ?_))) AllReadyH.nil
        try simp only [Act.put, nz]
        refine wpAnyH_ready (rs := [7]) (by kernel_rfl) (by simp) ?_
        refine AllReadyH.cons rfl (fun K hK => step_of rfl (wp_append_write (.tmp 38) (.tmp 40) rfl g L.p d.pend rfl p5 _ (b, (k : Int), s) rfl z5 hsl hpl hg5 ?_)) AllReadyH.nil
        intro r n6 cap6 w6 hp6 hg6 hl6
        obtain ⟨c6, f6, y6, D7, X7, O7, F7⟩ := write_after D3 (b, (k : Int), s) hq5 hNk g4' m4 _ hp6 hg6 hl6 X Y x _ rX3 rY3 hYf hXf O3 HF.out
        refine hK.out _ _ y6 fun hS => ?_
        try simp only [Act.put, nz]
        refine tkI (i := 8) (v := .pointer (some ⟨g, 0, none⟩)) rfl (by kernel_rfl) (Or.inl ⟨by rfl, fun w _ => by go_simp⟩) hS ?_
        try simp only [Act.put, nz]
        refine tkI (i := 9) (v := .pointer (some ⟨g, 3, none⟩)) rfl (by kernel_rfl) (Or.inl ⟨by rfl, fun w _ => by go_simp⟩) hS ?_
        try simp only [Act.put, nz]
        refine wpAnyH_ready (rs := [10]) (by kernel_rfl) (by simp) ?_
        refine AllReadyH.cons rfl (fun K hK => ?_) AllReadyH.nil
        go_simp
        refine hK.out _ _ (row_setCell_other y6 hYg' _ _) fun hS => ?_
        try simp only [Act.put, nz]
        refine wpAnyH_done (by kernel_rfl) ?_ _
        clear c6 f6
        go_wp2
        go_roundw
        case rel => exact ⟨k + 1, d.push (b, (k : Int), s), _, by go_num, by omega, HD', X7, D7, O7, F7⟩
        case measure => simp [intOf]; omega
      · refine step_of rfl (wp_slice_one (.tmp 39) rfl b k s hsl rfl (hK.out _ _ (hS.alloc _) fun hS => ?_))
        try simp only [Act.put, nz]
        refine wpAnyH_ready (rs := [4]) (by kernel_rfl) (by simp) ?_
        refine AllReadyH.cons rfl (fun K hK => ?_) AllReadyH.nil
        go_simp
        refine hK.out _ _ hS fun hS => ?_
        try simp only [Act.put, nz]
        refine wpAnyH_ready (rs := [7]) (by kernel_rfl) (by simp) ?_
        refine AllReadyH.cons rfl (fun K hK => step_of rfl (wp_append_write (.tmp 38) (.tmp 40) rfl g L.p d.pend rfl p5 _ (b, (k : Int), s) rfl z5 hsl hpl hg5 ?_)) AllReadyH.nil
        intro r n6 cap6 w6 hp6 hg6 hl6
        obtain ⟨c6, f6, y6, D7, X7, O7, F7⟩ := write_after D3 (b, (k : Int), s) hq5 hNk g4' m4 _ hp6 hg6 hl6 X Y x _ rX3 rY3 hYf hXf O3 HF.out
        refine hK.out _ _ y6 fun hS => ?_
        try simp only [Act.put, nz]
        refine tkI (i := 8) (v := .pointer (some ⟨g, 0, none⟩)) rfl (by kernel_rfl) (Or.inl ⟨by rfl, fun w _ => by go_simp⟩) hS ?_
        try simp only [Act.put, nz]
        refine tkI (i := 9) (v := .pointer (some ⟨g, 3, none⟩)) rfl (by kernel_rfl) (Or.inl ⟨by rfl, fun w _ => by go_simp⟩) hS ?_
        try simp only [Act.put, nz]
        refine wpAnyH_ready (rs := [10]) (by kernel_rfl) (by simp) ?_
        refine AllReadyH.cons rfl (fun K hK => ?_) AllReadyH.nil
        go_simp
        refine hK.out _ _ (row_setCell_other y6 hYg' _ _) fun hS => ?_
        try simp only [Act.put, nz]
        refine wpAnyH_done (by kernel_rfl) ?_ _
        clear c6 f6
        go_wp2
        go_roundw
        case rel => exact ⟨k + 1, d.push (b, (k : Int), s), _, by go_num, by omega, HD', X7, D7, O7, F7⟩
        case measure => simp [intOf]; omega
    · have e4 : k = 4 := by omega
      subst e4
      have hp := HPP.out wr ⟨L, by rw [← HD.out]; exact D, O, HF.out⟩
      go_wp2
      go_ret
      exact ⟨rfl, hp⟩
theorem write_err (v : Value) (b E : Int) (hE : ¬ E = 0) (x : List Int) (w : World) (F : Nat → Prop) (T : World → Prop)
    (hh : ∀ wa, Below w.heap.size w wa → Calls Try.prog 64 #[v, .int .i64 b] wa fun e w' => e = .returned (.int .i64 E) ∧ Off F wa w' ∧ T w') :
    Calls Try.prog 30 #[v, .int .i64 b, .agg (bs x)] w fun e w' => e = .returned (.int .i64 E) ∧ Off F w w' ∧ T w' := by
  have ab : Below w.heap.size w (w.alloc (.cells (bs x) 41)) := (Below.refl _ _).alloc (Nat.le_refl _) _
  go_enter Try.func30, Try.ntmps30
  go_wp2_with (go_at_call 64; refine (hh _ ab).mono ?_; rintro e w' ⟨rfl, ho, ht⟩)
  go_ret
  exact ⟨rfl, (Off.of_below (F := F) ab).trans ho (fun j hj => Or.inl hj), ht⟩
def writ (d : Dsk) (b : Int) (x : List Int) : Int × Dsk := if (ask d b).1 = 0 then (0, (ask d b).2.wrote b x 4) else ask d b
theorem write_any {w : World} {g : Nat} {d : Dsk} {L : Loc} {N : Nat} (h : DAt w g d L N) (ho : d.ops < 9223372036854775806) (b : Int) (x : List Int) (hx : x.length = 256) (xb : Bytes x) (hN : N + 4 < 1000000000000) :
    Calls Try.prog 30 #[.pointer (some ⟨g, 0, none⟩), .int .i64 b, .agg (bs x)] w fun e w' => e = .returned (.int .i64 (writ d b x).1) ∧ ∃ L', DAt w' g (writ d b x).2 L' (N + 4) ∧ Off (foot g L) w w' ∧ ∀ j, foot g L' j → foot g L j ∨ w.heap.size ≤ j := by
  by_cases e0 : (ask d b).1 = 0
  · have e : writ d b x = (0, (ask d b).2.wrote b x 4) := by unfold writ; rw [if_pos e0]
    rw [e]
    exact write_in h ho b x hx xb hN e0
  · have e : writ d b x = ask d b := by unfold writ; rw [if_neg e0]
    rw [e]
    refine (write_err _ b (ask d b).1 e0 x w (foot g L) (fun w' => DAt w' g (ask d b).2 L N) fun wa hb => ?_).mono ?_
    · refine (ask_any (h.below hb) ho b).mono ?_
      rintro e w' ⟨rfl, h1, h2⟩
      exact ⟨rfl, h2.mono (fun j hj => Or.inl (Or.inl hj)), h1⟩
    · rintro e w' ⟨rfl, h1, h2⟩
      refine ⟨rfl, L, { h2 with sure := ?_, big := hN }, h1, fun j hj => Or.inl hj⟩
      obtain ⟨s, hs, hle⟩ := h2.sure
      exact ⟨s, hs, by omega⟩
theorem wrote_seen (d : Dsk) (b : Int) (x : List Int) (hx : x.length = 256) : (d.wrote b x 4).seen b = x := by
  unfold Dsk.seen Secs.block
  have e : (d.wrote b x 4).sure = d.sure ∧ (d.wrote b x 4).pend = d.pend ++ [(b, 0, cut x 0), (b, 1, cut x 1), (b, 2, cut x 2), (b, 3, cut x 3)] := by
    constructor
    · rfl
    · simp [Dsk.wrote, Dsk.push]
  rw [e.1, e.2, over_append]
  generalize over d.sure d.pend = f
  have h2 : ∀ i : Nat, i < 4 → (over f [(b, 0, cut x 0), (b, 1, cut x 1), (b, 2, cut x 2), (b, 3, cut x 3)]).get b (i : Int) = cut x i := by
    intro i hi
    have : i = 0 ∨ i = 1 ∨ i = 2 ∨ i = 3 := by omega
    rcases this with rfl | rfl | rfl | rfl <;> simp [over, Secs.put, Secs.get]
  rw [blk_congr _ (cut x) (fun i hi => by rw [h2 i hi]; exact cut_length x i hx hi) h2]
  exact blk_cut x hx
theorem wrote_ops (d : Dsk) (b : Int) (x : List Int) : (d.wrote b x 4).ops = d.ops ∧ (d.wrote b x 4).down = d.down ∧ (d.wrote b x 4).n = d.n ∧ (d.wrote b x 4).fuse = d.fuse ∧ (d.wrote b x 4).fails = d.fails := ⟨rfl, rfl, rfl, rfl, rfl⟩

def Cel (w : World) (v : Value) (cs : List Value) : Prop :=
  (v = .slice none 0 0 ∧ cs = []) ∨ ∃ a cap, v = .slice (some a) cs.length cap ∧ ∀ j u, cs[j]? = some u → w.cell? (a.add j) = some u
theorem Cel.below {w w' : World} {v : Value} {cs : List Value} (h : Cel w v cs) (hb : ∀ a n c, v = .slice (some a) n c → w'.heap[a.block]? = w.heap[a.block]?) : Cel w' v cs := by
  rcases h with h | ⟨a, cap, rfl, h⟩
  · exact Or.inl h
  · refine Or.inr ⟨a, cap, rfl, fun j u hj => ?_⟩
    rw [← h j u hj]
    refine World.cell?_of_block ?_
    have : (a.add j).block = a.block := by unfold Addr.add; split <;> rfl
    rw [this]; exact hb a _ _ rfl
def High (B : Nat) (v : Value) : Prop := ∀ a n c, v = .slice (some a) n c → B ≤ a.block
theorem Cel.keep {w w' : World} {v : Value} {cs : List Value} (h : Cel w v cs) (hb : Below w.heap.size w w') : Cel w' v cs := by
  rcases h with h | ⟨a, cap, rfl, h⟩
  · exact Or.inl h
  · refine Or.inr ⟨a, cap, rfl, fun j u hj => ?_⟩
    have h0 := h j u hj
    rw [← h0]
    refine World.cell?_of_block (hb.block _ ?_)
    unfold World.cell? at h0
    by_cases q : (a.add j).block < w.heap.size
    · exact q
    · rw [Array.getElem?_eq_none (by omega)] at h0; cases h0
theorem Cel.of_owns {w : World} {base : Nat} {e : TypeId} {v : Value} {n : Nat} {cs : List Value} (h : w.ownsRow base e 1 v n cs) : Cel w v cs ∧ High base v := by
  have hc := fun g hg => h.cells (g := g) hg
  have hl := h.lt
  obtain ⟨h1, h2⟩ := h
  rcases h2 with ⟨rfl, rfl⟩ | ⟨g, cap, cur, rfl, hb, hg, _⟩
  · refine ⟨Or.inl ⟨rfl, List.eq_nil_of_length_eq_zero (by simpa using h1)⟩, fun a n c e => by cases e⟩
  · refine ⟨Or.inr ⟨⟨g, 0, none⟩, cap, by rw [h1, Nat.mul_one], hc g rfl⟩, fun a n c e => ?_⟩
    cases e
    exact (hl g rfl).1
theorem run_copy {P : Program} (w : World) (t ty e : TypeId) (i : TypeInfo) (z : Value) (bytes : Nat) (ht : P.underlying t = some (.slice e)) (hi : P.info? e = some i) (hz : i.zero = some z) (hs : i.size = 1) (hby : i.bytes = bytes) (hzs : z.cells.size = 1)
    (v : Value) (cs : List Value) (h : Cel w v cs) (h1 : ∀ u ∈ cs, u.oneCell' = true) (h63 : cs.length * bytes ≤ 140737488355328) (hp : 0 < bytes) :
    ∃ v' w', (Builtin.append_ #[t, t] ty #[.slice (some ⟨w.heap.size, 0, none⟩) 0 0, v]).run P (w.alloc (.cells #[] e)) = .ok v' w' ∧ Cel w' v' cs ∧ High w.heap.size v' ∧ Below w.heap.size w w' := by
  have hown : (w.alloc (.cells #[] e)).ownsRow w.heap.size e 1 (.slice (some ⟨w.heap.size, 0, none⟩) 0 0) 0 [] := World.ownsRow_made w #[] 0 (Nat.le_refl _) (Nat.zero_le _) rfl
  have hlen : cs.length ≤ 140737488355328 := by
    have : cs.length * 1 ≤ cs.length * bytes := Nat.mul_le_mul_left _ hp
    omega
  have b0 : Below w.heap.size w (w.alloc (.cells #[] e)) := (Below.refl _ _).alloc (Nat.le_refl _) _
  rcases h with ⟨rfl, rfl⟩ | ⟨a, cap, rfl, hc⟩
  · refine ⟨_, _, run_append_owned_none (P := P) (w := w.alloc (.cells #[] e)) w.heap.size t ty e i 1 ht hi _ 0 [] hown, ?_⟩
    have := Cel.of_owns hown
    exact ⟨this.1, this.2, b0⟩
  · have hc' : ∀ j u, cs[j]? = some u → (w.alloc (.cells #[] e)).cell? (a.add j) = some u := fun j u hj => by
      have h0 := hc j u hj
      have hlt : (a.add j).block < w.heap.size := by
        unfold World.cell? at h0
        by_cases q : (a.add j).block < w.heap.size
        · exact q
        · rw [Array.getElem?_eq_none (by omega)] at h0; cases h0
      rw [← h0]
      exact World.cell?_of_block (Below.heap_alloc _ _ _ hlt)
    obtain ⟨v', w', hr, h2, h3, h4, h5⟩ := run_append_own_at (P := P) (w.alloc (.cells #[] e)) w.heap.size t ty e i z 1 bytes ht hi hz hs hby hzs (by decide) _ 0 [] hown a cs.length cap cs (by simp) hc' h1 (by unfold maxLen; omega) (by simpa using h63) (by simp)
    refine ⟨v', w', hr, ?_⟩
    simp only [List.nil_append, Nat.zero_add] at h2
    have := Cel.of_owns h2
    refine ⟨this.1, this.2, b0.grown h3 (by simp) (fun k hk => ?_)⟩
    simp [Value.ownBlock] at hk
    omega
theorem info3 : (Try.prog.info? 3).map (fun i => (i.zero, i.size, i.bytes)) = some (some (.int .i64 0), 1, 8) := by kernel_rfl
theorem wp_copy {T : Value → World → Prop} {w : World} {o : Oper} {a : Act} {K : Act → World → Prop} {Q : Exit → Act → World → Prop} (s x : Operand) (t : TypeId)
    (ho : o.op = .call { callee := .builtin .append, args := #[s, x], argTypes := #[t, t] }) (sv v : Value) (hs : a.eval s = sv) (hx : a.eval x = v)
    (hr : ∀ ty, ∃ v' w', (Builtin.append_ #[t, t] ty #[sv, v]).run Try.prog w = .ok v' w' ∧ T v' w')
    (h : ∀ v' w', T v' w' → K (a.put o.dst v') w') : Oper.wp Try.prog o a w K Q := by
  obtain ⟨v', w', hrun, hT⟩ := hr o.type
  unfold Oper.wp
  simp [execOp, ho, resolve, invoke, builtin, hs, hx, hrun, Result.andThen]
  exact h v' w' hT
theorem wpList_copy {T : Value → World → Prop} {w : World} {ops : Array Oper} {rest : List Oper} {o : Oper} {a : Act} {Q : Exit → Act → World → Prop} (hgd : o.guard = none) (s x : Operand) (t : TypeId)
    (ho : o.op = .call { callee := .builtin .append, args := #[s, x], argTypes := #[t, t] }) (sv v : Value) (hs : a.eval s = sv) (hx : a.eval x = v)
    (hr : ∀ ty, ∃ v' w', (Builtin.append_ #[t, t] ty #[sv, v]).run Try.prog w = .ok v' w' ∧ T v' w')
    (h : ∀ v' w', T v' w' → wpList Try.prog ops Q rest (a.put o.dst v') w') : wpList Try.prog ops Q (o :: rest) a w := by
  refine wpList_plain hgd fun K hK => ?_
  obtain ⟨v', w', hrun, hT⟩ := hr o.type
  unfold Oper.wp
  simp [execOp, ho, resolve, invoke, builtin, hs, hx, hrun, Result.andThen]
  exact hK _ _ (h v' w' hT)
def Dsk.forgot (d : Dsk) : Dsk := { d with pend := [] }
def Loc.forgot (L : Loc) (k : Nat) : Loc := { L with b := k, p := .slice none 0 0 }
theorem forget_at {w : World} {g : Nat} {d : Dsk} {L : Loc} {N : Nat} (row : Row w g (dcells d L) 88) (sure : ∃ s, SMap w L.a s d.sure ∧ s ≤ N) (fails : FMap w L.f d.fails) (fa : L.f ≠ .map (some L.a)) (big : N < 1000000000000) (small : 1 ≤ d.n ∧ d.n ≤ 2048) (opsn : 0 ≤ d.ops) (fusew : Wf d.fuse) :
    DAt (((w.alloc (.map #[] 0)).setCell ⟨g, 2, none⟩ (.map (some w.heap.size))).setCell ⟨g, 3, none⟩ (.slice none 0 0)) g d.forgot (L.forgot w.heap.size) N ∧ Off (· = g) w (((w.alloc (.map #[] 0)).setCell ⟨g, 2, none⟩ (.map (some w.heap.size))).setCell ⟨g, 3, none⟩ (.slice none 0 0)) := by
  have keep : ∀ j, j < w.heap.size → j ≠ g → (((w.alloc (.map #[] 0)).setCell ⟨g, 2, none⟩ (.map (some w.heap.size))).setCell ⟨g, 3, none⟩ (.slice none 0 0)).heap[j]? = w.heap[j]? := fun j hj hg => by
    rw [Below.heap_setCell _ _ _ _ hg, Below.heap_setCell _ _ _ _ hg, Below.heap_alloc _ _ _ hj]
  have gl := row.lt
  have ag : L.a ≠ g := by obtain ⟨s, hs, _⟩ := sure; exact row.map_ne hs
  refine ⟨⟨row_set (row_set (row.alloc _) 2 _) 3 _, ?_, ?_, ?_, World.ownsRow_nil _ _ _ _, ?_, fa, ?_, big, (fun q hq => nomatch hq), small, opsn, fusew⟩, ⟨rfl, rfl, rfl, by simp [World.setCell], fun k hk hn => keep k hk hn⟩⟩
  · obtain ⟨s, hs, hle⟩ := sure
    exact ⟨s, hs.kept (keep _ hs.lt ag), by simp [Dsk.forgot]; exact hle⟩
  · have h1 := SMap.made w
    refine h1.kept ?_
    show _ = _
    rw [Below.heap_setCell _ _ _ _ (by simp only [Loc.forgot]; omega), Below.heap_setCell _ _ _ _ (by simp only [Loc.forgot]; omega)]
  · obtain ⟨s, hs, _⟩ := sure
    have := hs.lt
    simp [Loc.forgot]; omega
  · exact fails.kept fun m e hm => keep m hm (fun q => by
      subst q
      rcases fails with ⟨q, _⟩ | ⟨m', n, D, q, ⟨es, clock, hb, _⟩, _⟩
      · have : L.f = .map (some m) := e
        rw [q] at this; cases this
      · have e' : L.f = .map (some m) := e
        rw [q] at e'; cases e'
        unfold Row at row
        rw [row] at hb; cases hb)
  · intro e
    rcases fails with ⟨q, _⟩ | ⟨m', n, D, q, hD, _⟩
    · have : L.f = .map (some w.heap.size) := e
      rw [q] at this; cases this
    · have e' : L.f = .map (some w.heap.size) := e
      rw [q] at e'; cases e'
      have := hD.lt; omega
theorem forget_any {w : World} {g : Nat} {d : Dsk} {L : Loc} {N : Nat} (row : Row w g (dcells d L) 88) (sure : ∃ s, SMap w L.a s d.sure ∧ s ≤ N) (fails : FMap w L.f d.fails) (fa : L.f ≠ .map (some L.a)) (big : N < 1000000000000) (small : 1 ≤ d.n ∧ d.n ≤ 2048) (opsn : 0 ≤ d.ops) (fusew : Wf d.fuse) :
    Calls Try.prog 60 #[.pointer (some ⟨g, 0, none⟩)] w fun e w' => e = .returned (.tuple #[]) ∧ DAt w' g d.forgot (L.forgot w.heap.size) N ∧ Off (· = g) w w' := by
  obtain ⟨hD, hO⟩ := forget_at row sure fails fa big small opsn fusew
  have hmm := @run_makeMap Try.prog
  have r1 := row.alloc (.map #[] 0)
  have c2 := row_at r1 2 (.map (some L.b)) rfl
  have f2 := row_frozen r1 2
  have r2 := row_set r1 2 (.map (some w.heap.size))
  have c3 := row_at r2 3 L.p rfl
  have f3 := row_frozen r2 3
  clear sure fails fa row
  go_enter Try.func60, Try.ntmps60
  go_wp2
  first
    | (go_end0; exact ⟨rfl, hD, hO⟩)
    | (refine bodyPost_ret (results_none rfl _ _ _) rfl ?_; exact ⟨rfl, hD, hO⟩)
def Dsk.plan (d : Dsk) (zl : List Int) (f : Int) : Dsk := { d with ops := 0, fuse := f, fails := fun i => decide (i ∈ zl) }
def Loc.plan (L : Loc) (m : Nat) : Loc := { L with f := .map (some m) }
theorem plan_at {w : World} {g : Nat} {d : Dsk} {L : Loc} {N : Nat} (h : DAt w g d L N) (f : Int) (hf : Wf f) :
    DAt ((((w.setCell ⟨g, 5, none⟩ (.int .i64 0)).setCell ⟨g, 6, none⟩ (.int .i64 f)).alloc (.map #[] 0)).setCell ⟨g, 7, none⟩ (.map (some w.heap.size))) g (d.plan [] f) (L.plan w.heap.size) N ∧
    NMap ((((w.setCell ⟨g, 5, none⟩ (.int .i64 0)).setCell ⟨g, 6, none⟩ (.int .i64 f)).alloc (.map #[] 0)).setCell ⟨g, 7, none⟩ (.map (some w.heap.size))) w.heap.size 0 (fun i => decide (i ∈ ([] : List Int))) ∧
    Off (· = g) w ((((w.setCell ⟨g, 5, none⟩ (.int .i64 0)).setCell ⟨g, 6, none⟩ (.int .i64 f)).alloc (.map #[] 0)).setCell ⟨g, 7, none⟩ (.map (some w.heap.size))) := by
  have h2 := ((h.setOps 0 (by omega)).setFuse f hf).alloc (.map #[] 0)
  have hs : ((w.setCell ⟨g, 5, none⟩ (.int .i64 0)).setCell ⟨g, 6, none⟩ (.int .i64 f)).heap.size = w.heap.size := by simp [World.setCell]
  have hm : NMap (((w.setCell ⟨g, 5, none⟩ (.int .i64 0)).setCell ⟨g, 6, none⟩ (.int .i64 f)).alloc (.map #[] 0)) w.heap.size 0 (fun i => decide (i ∈ ([] : List Int))) := by
    have := NMap.made ((w.setCell ⟨g, 5, none⟩ (.int .i64 0)).setCell ⟨g, 6, none⟩ (.int .i64 f))
    rw [hs] at this
    simpa using this
  have gl := h.row.lt
  have hm' : NMap ((((w.setCell ⟨g, 5, none⟩ (.int .i64 0)).setCell ⟨g, 6, none⟩ (.int .i64 f)).alloc (.map #[] 0)).setCell ⟨g, 7, none⟩ (.map (some w.heap.size))) w.heap.size 0 (fun i => decide (i ∈ ([] : List Int))) :=
    hm.kept (Below.heap_setCell _ _ _ _ (by simp; omega))
  have ho : Off (· = g) (((w.setCell ⟨g, 5, none⟩ (.int .i64 0)).setCell ⟨g, 6, none⟩ (.int .i64 f)).alloc (.map #[] 0)) ((((w.setCell ⟨g, 5, none⟩ (.int .i64 0)).setCell ⟨g, 6, none⟩ (.int .i64 f)).alloc (.map #[] 0)).setCell ⟨g, 7, none⟩ (.map (some w.heap.size))) := Off.of_setCell _ _ _ rfl
  have hal := h.lt (k := L.a) (Or.inr (Or.inl rfl))
  have hbl := h.fresh.lt
  refine ⟨⟨row_set h2.row 7 _, ?_, ?_, h.ab, ?_, hm'.fmap, ?_, ?_, h.big, h.okp, h.small, by simp [Dsk.plan], hf⟩, hm', ?_⟩
  · obtain ⟨s, hs, hle⟩ := h2.sure
    exact ⟨s, hs.off ho h2.ag, hle⟩
  · exact h2.fresh.off ho h2.bg
  · exact ownsRow_kept h2.pend fun k e hl => ho.block k hl (fun q => h2.pg (q ▸ e))
  · intro e; simp [Loc.plan] at e; omega
  · intro e; simp [Loc.plan] at e; omega
  · refine ⟨rfl, rfl, rfl, by simp [World.setCell], fun k hk hn => ?_⟩
    rw [Below.heap_setCell _ _ _ _ hn, Below.heap_alloc _ _ _ (by rw [hs]; exact hk), Below.heap_setCell _ _ _ _ hn, Below.heap_setCell _ _ _ _ hn]
theorem built132 : (Try.prog.built 132 []) = some #[] := by kernel_rfl
theorem DAt.moreFails {w w' : World} {g : Nat} {d : Dsk} {L : Loc} {N : Nat} (h : DAt w g d L N) {m n : Nat} (hm : L.f = .map (some m)) (gr : w.grownBy w' (some m)) {f : Int → Bool} (nm : NMap w' m n f) : DAt w' g { d with fails := f } L N := by
  have ne : ∀ k, foot g L k → k ≠ m → k < w.heap.size → w'.heap[k]? = w.heap[k]? := fun k _ hk hl => gr.block k hl (fun q => hk (by cases q; rfl))
  have mg : g ≠ m := fun q => h.fg (q ▸ hm)
  have ma : L.a ≠ m := fun q => h.fa (q ▸ hm)
  have mb : L.b ≠ m := fun q => h.fb (q ▸ hm)
  have o : Off (· = m) w w' := Off.of_grown gr (fun k hk => by cases hk; rfl)
  exact { h with
    row := h.row.off o mg
    sure := by obtain ⟨s, hs, hle⟩ := h.sure; exact ⟨s, hs.off o ma, hle⟩
    fresh := h.fresh.off o mb
    pend := ownsRow_kept h.pend fun k e hl => o.block k hl (fun q => (h.pf hm).1 (q ▸ e))
    fails := by show FMap w' L.f f; rw [hm]; exact nm.fmap }
theorem take_mem (zl : List Int) (k : Nat) (hk : k < zl.length) : (fun i => decide (i ∈ zl.take k) || decide (i = zl.getD k 0)) = fun i => decide (i ∈ zl.take (k + 1)) := by
  funext i
  have e : zl.take (k + 1) = zl.take k ++ [zl.getD k 0] := by
    rw [List.take_add_one, List.getElem?_eq_getElem hk]
    simp [List.getD, hk]
  rw [e]
  simp [List.mem_append]
def Planned (w : World) (g : Nat) (d : Dsk) (L : Loc) (N : Nat) (w' : World) : Prop := ∃ m, w.heap.size ≤ m ∧ DAt w' g d (L.plan m) N ∧ Off (· = g) w w'
theorem cell_off {F : Nat → Prop} {w w' : World} {p : Addr} {u : Value} (h : w.cell? p = some u) (o : Off F w w') (hp : ¬ F p.block) : w'.cell? p = some u := by
  rw [← h]
  refine World.cell?_of_block (o.block _ ?_ hp)
  unfold World.cell? at h
  by_cases q : p.block < w.heap.size
  · exact q
  · rw [Array.getElem?_eq_none (by omega)] at h; cases h
theorem add_block (a : Addr) (j : Nat) : (a.add j).block = a.block := by unfold Addr.add; split <;> rfl
set_option maxHeartbeats 1000000 in
theorem plan_any {w : World} {g : Nat} {d : Dsk} {L : Loc} {N : Nat} (h : DAt w g d L N) (k : Value) (zl : List Int) (hc : Cel w k (zl.map (.int .i64))) (hne : ∀ a n c, k = .slice (some a) n c → a.block ≠ g) (zw : ∀ z ∈ zl, Wf z) (hl : zl.length * 8 ≤ 140737488355328) (f : Int) (hf : Wf f) :
    Calls Try.prog 24 #[.pointer (some ⟨g, 0, none⟩), k, .int .i64 f] w fun e w' => e = .returned (.tuple #[]) ∧ Planned w g (d.plan zl f) L N w' := by
  obtain ⟨D1, N1, O1⟩ := plan_at h f hf
  have hmm := @run_makeMap Try.prog
  have c5 := row_at h.row 5 (.int .i64 d.ops) rfl
  have f5 := row_frozen h.row 5
  have h1 := h.setOps 0 (by omega)
  have c6 := row_at h1.row 6 (.int .i64 d.fuse) rfl
  have f6 := row_frozen h1.row 6
  have h2 := (h1.setFuse f hf).alloc (.map #[] 0)
  have c7 := row_at h2.row 7 L.f rfl
  have f7 := row_frozen h2.row 7
  have hs2 : ((w.setCell ⟨g, 5, none⟩ (.int .i64 0)).setCell ⟨g, 6, none⟩ (.int .i64 f)).heap.size = w.heap.size := by simp [World.setCell]
  have HPL : Hid (∀ w', DAt w' g (d.plan zl f) (L.plan w.heap.size) N → Off (· = g) w w' → Planned w g (d.plan zl f) L N w') := fun w' a b => ⟨w.heap.size, Nat.le_refl _, a, b⟩
  generalize Planned w g (d.plan zl f) L N = PP at HPL ⊢
  rcases hc with ⟨rfl, hz⟩ | ⟨a, cap, rfl, hcell⟩
  · have hz' : zl = [] := by simpa using hz
    subst hz'
    have hp := HPL.out _ D1 O1
    clear h h1 h2 HPL
    go_enter Try.func24, Try.ntmps24
    go_wp2
    generalize ((((w.setCell ⟨g, 5, none⟩ (.int .i64 0)).setCell ⟨g, 6, none⟩ (.int .i64 f)).alloc (.map #[] 0)).setCell ⟨g, 7, none⟩ (.map (some w.heap.size))) = w1 at hp D1 N1 O1 ⊢
    go_loopw [23] (fun c wr => c = .int .i64 0 ∧ wr = w1) (fun _ _ => 0)
    case atStart => exact ⟨rfl, rfl⟩
    case round =>
      obtain ⟨rfl, rfl⟩ := hrel
      go_wp2
      first
        | (go_end0; exact ⟨rfl, hp⟩)
        | (refine bodyPost_ret (results_none rfl _ _ _) rfl ?_; exact ⟨rfl, hp⟩)
  · have hag : a.block ≠ g := hne a _ _ rfl
    have hlen : (zl.map (Value.int .i64)).length = zl.length := List.length_map ..
    have HCELL : Hid (∀ j, j < zl.length → w.cell? (a.add j) = some (.int .i64 (zl.getD j 0))) := fun j hj => by
      refine hcell j _ ?_
      rw [List.getElem?_map, List.getElem?_eq_getElem hj]
      simp [List.getD, hj]
    rw [hlen] at hne ⊢
    have HZ : Hid (∀ j, j < zl.length → Wf (zl.getD j 0)) := fun j hj => by
      have : zl.getD j 0 = zl[j] := by simp [List.getD, hj]
      rw [this]; exact zw _ (List.getElem_mem hj)
    have HT : Hid (∀ k, k < zl.length → (fun i => decide (i ∈ zl.take k) || decide (i = zl.getD k 0)) = fun i => decide (i ∈ zl.take (k + 1))) := take_mem zl
    have hall : Hid ((fun i => decide (i ∈ zl.take zl.length)) = fun i => decide (i ∈ zl)) := by show _ = _; rw [List.take_length]
    clear h h1 h2 hcell zw hne hlen
    have hl' : zl.length ≤ 17592186044416 := by omega
    clear hl
    obtain ⟨n, HN⟩ : ∃ n, Hid (zl.length = n) := ⟨_, rfl⟩
    rw [HN.out] at HCELL HZ HT hall hl' ⊢
    go_enter Try.func24, Try.ntmps24
    go_wp2
    generalize ((((w.setCell ⟨g, 5, none⟩ (.int .i64 0)).setCell ⟨g, 6, none⟩ (.int .i64 f)).alloc (.map #[] 0)).setCell ⟨g, 7, none⟩ (.map (some w.heap.size))) = w1 at D1 N1 O1 ⊢
    have D1' : DAt w1 g { d.plan zl f with fails := fun i => decide (i ∈ zl.take 0) } (L.plan w.heap.size) N := by rw [List.take_zero]; exact D1
    have N1' : NMap w1 w.heap.size 0 (fun i => decide (i ∈ zl.take 0)) := by rw [List.take_zero]; exact N1
    go_loopw [23] (fun c wr => ∃ k : Nat, c = .int .i64 k ∧ k ≤ n ∧ DAt wr g { d.plan zl f with fails := fun i => decide (i ∈ zl.take k) } (L.plan w.heap.size) N ∧ NMap wr w.heap.size k (fun i => decide (i ∈ zl.take k)) ∧ Off (· = g) w wr) (fun c _ => n - (intOf c).toNat)
    case atStart => exact ⟨0, rfl, Nat.zero_le _, D1', N1', O1⟩
    case round =>
      clear D1 N1 O1 D1' N1' c5 f5 c6 f6 c7 f7 hs2
      obtain ⟨k, rfl, hk, Dk, Nk, Ok⟩ := hrel
      by_cases hkn : k < n
      · have hz := HZ.out k hkn
        have hcel := cell_off (HCELL.out k hkn) Ok (by rw [add_block]; exact hag)
        have ht := HT.out k hkn
        obtain ⟨z, HZZ⟩ : ∃ z, Hid (zl.getD k 0 = z) := ⟨_, rfl⟩
        rw [HZZ.out] at hz hcel ht
        have c7 := row_at Dk.row 7 (.map (some w.heap.size)) rfl
        obtain ⟨w2, hrun, N2, g2, s2⟩ := Nk.store (by unfold maxLen; omega) hz
        rw [ht] at N2
        have D2 := Dk.moreFails (m := w.heap.size) rfl g2 N2
        have O2 : Off (· = g) w w2 := Ok.trans (Off.of_grown (F := (· = w.heap.size)) g2 (fun q hq => by cases hq; rfl)) (fun j hj => Or.inr (by omega))
        clear Dk Nk Ok s2 g2 ht
        have hk64 : (k : Int) < 9223372036854775807 := by omega
        go_wp2_with (first
          | (refine build_none rfl 132 rfl #[] built132 ?_)
          | (at_mapUpdate; refine wpList_plain rfl fun K hK => wp_update 86 (.tmp 30) (.tmp 31) (.tmp 32) rfl _ _ _ rfl rfl rfl w2 hrun (hK _ _ ?_)))
        go_roundw
        case rel => exact ⟨k + 1, by go_num, by omega, D2, N2, O2⟩
        case measure => simp [intOf]; omega
      · have e : k = n := by omega
        subst e
        have hp : PP wr := HPL.out wr (by rw [hall.out] at Dk; exact Dk) Ok
        go_wp2
        first
          | (go_end0; exact ⟨rfl, hp⟩)
          | (refine bodyPost_ret (results_none rfl _ _ _) rfl ?_; exact ⟨rfl, hp⟩)
end Go.Proofs.Ytehogiondcpbcaa
