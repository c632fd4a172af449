/-
  Proved here: what disk.forget and disk.Plan leave.
-/
import Derived.Test.YtcbjjofckhohjaaSlice
namespace Go.Proofs.Ytcbjjofckhohjaa
open Go.ChangeShapes Go.WideShapes Go.ChangeAt Go.RowKit
set_option linter.unusedVariables false
set_option linter.unusedSimpArgs false
set_option maxRecDepth 20000

/-- A disk of which nothing is pending any more. -/
def Dsk.forgot (d : Dsk) : Dsk := { d with pend := [] }
def Loc.forgot (L : Loc) (k : Nat) : Loc := { L with b := k, p := .slice none 0 0 }
theorem forget_at {w : World} {g : Nat} {d : Dsk} {L : Loc} {N : Nat} (row : Row w g (dcells d L) 76) (sure : ∃ s, SMap w L.a s d.sure ∧ s ≤ N) (fails : FMap w L.f d.fails) (fa : L.f ≠ .map (some L.a)) (big : N < 1000000000000) (small : 1 ≤ d.n ∧ d.n ≤ 2048) (opsn : 0 ≤ d.ops) (fusew : Wf d.fuse) :
    DAt (((w.alloc (.map #[] 0)).setCell ⟨g, 2, none⟩ (.map (some w.heap.size))).setCell ⟨g, 3, none⟩ (.slice none 0 0)) g d.forgot (L.forgot w.heap.size) N ∧ Off (· = g) w (((w.alloc (.map #[] 0)).setCell ⟨g, 2, none⟩ (.map (some w.heap.size))).setCell ⟨g, 3, none⟩ (.slice none 0 0)) := by
  have keep : ∀ j, j < w.heap.size → j ≠ g → (((w.alloc (.map #[] 0)).setCell ⟨g, 2, none⟩ (.map (some w.heap.size))).setCell ⟨g, 3, none⟩ (.slice none 0 0)).heap[j]? = w.heap[j]? := fun j hj hg => by
    rw [Below.heap_setCell _ _ _ _ hg, Below.heap_setCell _ _ _ _ hg, Below.heap_alloc _ _ _ hj]
  have gl := row.lt
  have ag : L.a ≠ g := by obtain ⟨s, hs, _⟩ := sure; exact row.map_ne hs
  refine ⟨⟨row_set (row_set (row.alloc _) 2 _) 3 _, ?_, ?_, ?_, World.ownsRow_nil _ _ _ _, ?_, fa, ?_, big, (fun q hq => nomatch hq), small, opsn, fusew⟩, ⟨rfl, rfl, rfl, by simp [World.setCell], fun k hk hn => keep k hk hn⟩⟩
  · obtain ⟨s, hs, hle⟩ := sure
    exact ⟨s, hs.kept (keep _ hs.lt ag), by simp [Dsk.forgot]; exact hle⟩
  · have h1 := SMap.made w
    refine h1.kept ?_
    show _ = _
    rw [Below.heap_setCell _ _ _ _ (by simp only [Loc.forgot]; omega), Below.heap_setCell _ _ _ _ (by simp only [Loc.forgot]; omega)]
  · obtain ⟨s, hs, _⟩ := sure
    have := hs.lt
    simp [Loc.forgot]; omega
  · exact fails.kept fun m e hm => keep m hm (fun q => by
      subst q
      rcases fails with ⟨q, _⟩ | ⟨m', n, D, q, ⟨es, clock, hb, _⟩, _⟩
      · have : L.f = .map (some m) := e
        rw [q] at this; cases this
      · have e' : L.f = .map (some m) := e
        rw [q] at e'; cases e'
        unfold Row at row
        rw [row] at hb; cases hb)
  · intro e
    rcases fails with ⟨q, _⟩ | ⟨m', n, D, q, hD, _⟩
    · have : L.f = .map (some w.heap.size) := e
      rw [q] at this; cases this
    · have e' : L.f = .map (some w.heap.size) := e
      rw [q] at e'; cases e'
      have := hD.lt; omega
theorem forget_any {w : World} {g : Nat} {d : Dsk} {L : Loc} {N : Nat} (row : Row w g (dcells d L) 76) (sure : ∃ s, SMap w L.a s d.sure ∧ s ≤ N) (fails : FMap w L.f d.fails) (fa : L.f ≠ .map (some L.a)) (big : N < 1000000000000) (small : 1 ≤ d.n ∧ d.n ≤ 2048) (opsn : 0 ≤ d.ops) (fusew : Wf d.fuse) :
    Calls Try.prog 37 #[.pointer (some ⟨g, 0, none⟩)] w fun e w' => e = .returned (.tuple #[]) ∧ DAt w' g d.forgot (L.forgot w.heap.size) N ∧ Off (· = g) w w' := by
  obtain ⟨hD, hO⟩ := forget_at row sure fails fa big small opsn fusew
  have hmm := @run_makeMap Try.prog
  have r1 := row.alloc (.map #[] 0)
  have c2 := row_at r1 2 (.map (some L.b)) rfl
  have f2 := row_frozen r1 2
  have r2 := row_set r1 2 (.map (some w.heap.size))
  have c3 := row_at r2 3 L.p rfl
  have f3 := row_frozen r2 3
  clear sure fails fa row
  go_enter Try.func37, Try.ntmps37
  go_wp2
  first
    | (go_end0; exact ⟨rfl, hD, hO⟩)
    | (refine bodyPost_ret (results_none rfl _ _ _) rfl ?_; exact ⟨rfl, hD, hO⟩)

/-- A disk with a plan. -/
def Dsk.plan (d : Dsk) (zl : List Int) (f : Int) : Dsk := { d with ops := 0, fuse := f, fails := fun i => decide (i ∈ zl) }
def Loc.plan (L : Loc) (m : Nat) : Loc := { L with f := .map (some m) }
theorem plan_at {w : World} {g : Nat} {d : Dsk} {L : Loc} {N : Nat} (h : DAt w g d L N) (f : Int) (hf : Wf f) :
    DAt ((((w.setCell ⟨g, 5, none⟩ (.int .i64 0)).setCell ⟨g, 6, none⟩ (.int .i64 f)).alloc (.map #[] 0)).setCell ⟨g, 7, none⟩ (.map (some w.heap.size))) g (d.plan [] f) (L.plan w.heap.size) N ∧
    NMap ((((w.setCell ⟨g, 5, none⟩ (.int .i64 0)).setCell ⟨g, 6, none⟩ (.int .i64 f)).alloc (.map #[] 0)).setCell ⟨g, 7, none⟩ (.map (some w.heap.size))) w.heap.size 0 (fun i => decide (i ∈ ([] : List Int))) ∧
    Off (· = g) w ((((w.setCell ⟨g, 5, none⟩ (.int .i64 0)).setCell ⟨g, 6, none⟩ (.int .i64 f)).alloc (.map #[] 0)).setCell ⟨g, 7, none⟩ (.map (some w.heap.size))) := by
  have h2 := ((h.setOps 0 (by omega)).setFuse f hf).alloc (.map #[] 0)
  have hs : ((w.setCell ⟨g, 5, none⟩ (.int .i64 0)).setCell ⟨g, 6, none⟩ (.int .i64 f)).heap.size = w.heap.size := by simp [World.setCell]
  have hm : NMap (((w.setCell ⟨g, 5, none⟩ (.int .i64 0)).setCell ⟨g, 6, none⟩ (.int .i64 f)).alloc (.map #[] 0)) w.heap.size 0 (fun i => decide (i ∈ ([] : List Int))) := by
    have := NMap.made ((w.setCell ⟨g, 5, none⟩ (.int .i64 0)).setCell ⟨g, 6, none⟩ (.int .i64 f))
    rw [hs] at this
    simpa using this
  have gl := h.row.lt
  have hm' : NMap ((((w.setCell ⟨g, 5, none⟩ (.int .i64 0)).setCell ⟨g, 6, none⟩ (.int .i64 f)).alloc (.map #[] 0)).setCell ⟨g, 7, none⟩ (.map (some w.heap.size))) w.heap.size 0 (fun i => decide (i ∈ ([] : List Int))) :=
    hm.kept (Below.heap_setCell _ _ _ _ (by simp; omega))
  have ho : Off (· = g) (((w.setCell ⟨g, 5, none⟩ (.int .i64 0)).setCell ⟨g, 6, none⟩ (.int .i64 f)).alloc (.map #[] 0)) ((((w.setCell ⟨g, 5, none⟩ (.int .i64 0)).setCell ⟨g, 6, none⟩ (.int .i64 f)).alloc (.map #[] 0)).setCell ⟨g, 7, none⟩ (.map (some w.heap.size))) := Off.of_setCell _ _ _ rfl
  have hal := h.lt (k := L.a) (Or.inr (Or.inl rfl))
  have hbl := h.fresh.lt
  refine ⟨⟨row_set h2.row 7 _, ?_, ?_, h.ab, ?_, hm'.fmap, ?_, ?_, h.big, h.okp, h.small, by simp [Dsk.plan], hf⟩, hm', ?_⟩
  · obtain ⟨s, hs, hle⟩ := h2.sure
    exact ⟨s, hs.off ho h2.ag, hle⟩
  · exact h2.fresh.off ho h2.bg
  · exact ownsRow_kept h2.pend fun k e hl => ho.block k hl (fun q => h2.pg (q ▸ e))
  · intro e; simp [Loc.plan] at e; omega
  · intro e; simp [Loc.plan] at e; omega
  · refine ⟨rfl, rfl, rfl, by simp [World.setCell], fun k hk hn => ?_⟩
    rw [Below.heap_setCell _ _ _ _ hn, Below.heap_alloc _ _ _ (by rw [hs]; exact hk), Below.heap_setCell _ _ _ _ hn, Below.heap_setCell _ _ _ _ hn]
theorem built85 : (Try.prog.built 85 []) = some #[] := by kernel_rfl
theorem DAt.moreFails {w w' : World} {g : Nat} {d : Dsk} {L : Loc} {N : Nat} (h : DAt w g d L N) {m n : Nat} (hm : L.f = .map (some m)) (gr : w.grownBy w' (some m)) {f : Int → Bool} (nm : NMap w' m n f) : DAt w' g { d with fails := f } L N := by
  have ne : ∀ k, foot g L k → k ≠ m → k < w.heap.size → w'.heap[k]? = w.heap[k]? := fun k _ hk hl => gr.block k hl (fun q => hk (by cases q; rfl))
  have mg : g ≠ m := fun q => h.fg (q ▸ hm)
  have ma : L.a ≠ m := fun q => h.fa (q ▸ hm)
  have mb : L.b ≠ m := fun q => h.fb (q ▸ hm)
  have o : Off (· = m) w w' := Off.of_grown gr (fun k hk => by cases hk; rfl)
  exact { h with
    row := h.row.off o mg
    sure := by obtain ⟨s, hs, hle⟩ := h.sure; exact ⟨s, hs.off o ma, hle⟩
    fresh := h.fresh.off o mb
    pend := ownsRow_kept h.pend fun k e hl => o.block k hl (fun q => (h.pf hm).1 (q ▸ e))
    fails := by show FMap w' L.f f; rw [hm]; exact nm.fmap }
theorem take_mem (zl : List Int) (k : Nat) (hk : k < zl.length) : (fun i => decide (i ∈ zl.take k) || decide (i = zl.getD k 0)) = fun i => decide (i ∈ zl.take (k + 1)) := by
  funext i
  have e : zl.take (k + 1) = zl.take k ++ [zl.getD k 0] := by
    rw [List.take_add_one, List.getElem?_eq_getElem hk]
    simp [List.getD, hk]
  rw [e]
  simp [List.mem_append]

/-- Behind Plan. -/
def Planned (w : World) (g : Nat) (d : Dsk) (L : Loc) (N : Nat) (w' : World) : Prop := ∃ m, w.heap.size ≤ m ∧ DAt w' g d (L.plan m) N ∧ Off (· = g) w w'
theorem cell_off {F : Nat → Prop} {w w' : World} {p : Addr} {u : Value} (h : w.cell? p = some u) (o : Off F w w') (hp : ¬ F p.block) : w'.cell? p = some u := by
  rw [← h]
  refine World.cell?_of_block (o.block _ ?_ hp)
  unfold World.cell? at h
  by_cases q : p.block < w.heap.size
  · exact q
  · rw [Array.getElem?_eq_none (by omega)] at h; cases h
theorem add_block (a : Addr) (j : Nat) : (a.add j).block = a.block := by unfold Addr.add; split <;> rfl
set_option maxHeartbeats 1000000 in
theorem plan_any {w : World} {g : Nat} {d : Dsk} {L : Loc} {N : Nat} (h : DAt w g d L N) (k : Value) (zl : List Int) (hc : Cel w k (zl.map (.int .i64))) (hne : ∀ a n c, k = .slice (some a) n c → a.block ≠ g) (zw : ∀ z ∈ zl, Wf z) (hl : zl.length * 8 ≤ 140737488355328) (f : Int) (hf : Wf f) :
    Calls Try.prog 18 #[.pointer (some ⟨g, 0, none⟩), k, .int .i64 f] w fun e w' => e = .returned (.tuple #[]) ∧ Planned w g (d.plan zl f) L N w' := by
  obtain ⟨D1, N1, O1⟩ := plan_at h f hf
  have hmm := @run_makeMap Try.prog
  have c5 := row_at h.row 5 (.int .i64 d.ops) rfl
  have f5 := row_frozen h.row 5
  have h1 := h.setOps 0 (by omega)
  have c6 := row_at h1.row 6 (.int .i64 d.fuse) rfl
  have f6 := row_frozen h1.row 6
  have h2 := (h1.setFuse f hf).alloc (.map #[] 0)
  have c7 := row_at h2.row 7 L.f rfl
  have f7 := row_frozen h2.row 7
  have hs2 : ((w.setCell ⟨g, 5, none⟩ (.int .i64 0)).setCell ⟨g, 6, none⟩ (.int .i64 f)).heap.size = w.heap.size := by simp [World.setCell]
  have HPL : Hid (∀ w', DAt w' g (d.plan zl f) (L.plan w.heap.size) N → Off (· = g) w w' → Planned w g (d.plan zl f) L N w') := fun w' a b => ⟨w.heap.size, Nat.le_refl _, a, b⟩
  generalize Planned w g (d.plan zl f) L N = PP at HPL ⊢
  rcases hc with ⟨rfl, hz⟩ | ⟨a, cap, rfl, hcell⟩
  · have hz' : zl = [] := by simpa using hz
    subst hz'
    have hp := HPL.out _ D1 O1
    clear h h1 h2 HPL
    go_enter Try.func18, Try.ntmps18
    go_wp2
    generalize ((((w.setCell ⟨g, 5, none⟩ (.int .i64 0)).setCell ⟨g, 6, none⟩ (.int .i64 f)).alloc (.map #[] 0)).setCell ⟨g, 7, none⟩ (.map (some w.heap.size))) = w1 at hp D1 N1 O1 ⊢
    go_loopw [23] (fun c wr => c = .int .i64 0 ∧ wr = w1) (fun _ _ => 0)
    case atStart => exact ⟨rfl, rfl⟩
    case round =>
      obtain ⟨rfl, rfl⟩ := hrel
      go_wp2
      first
        | (go_end0; exact ⟨rfl, hp⟩)
        | (refine bodyPost_ret (results_none rfl _ _ _) rfl ?_; exact ⟨rfl, hp⟩)
  · have hag : a.block ≠ g := hne a _ _ rfl
    have hlen : (zl.map (Value.int .i64)).length = zl.length := List.length_map ..
    have HCELL : Hid (∀ j, j < zl.length → w.cell? (a.add j) = some (.int .i64 (zl.getD j 0))) := fun j hj => by
      refine hcell j _ ?_
      rw [List.getElem?_map, List.getElem?_eq_getElem hj]
      simp [List.getD, hj]
    rw [hlen] at hne ⊢
    have HZ : Hid (∀ j, j < zl.length → Wf (zl.getD j 0)) := fun j hj => by
      have : zl.getD j 0 = zl[j] := by simp [List.getD, hj]
      rw [this]; exact zw _ (List.getElem_mem hj)
    have HT : Hid (∀ k, k < zl.length → (fun i => decide (i ∈ zl.take k) || decide (i = zl.getD k 0)) = fun i => decide (i ∈ zl.take (k + 1))) := take_mem zl
    have hall : Hid ((fun i => decide (i ∈ zl.take zl.length)) = fun i => decide (i ∈ zl)) := by show _ = _; rw [List.take_length]
    clear h h1 h2 hcell zw hne hlen
    have hl' : zl.length ≤ 17592186044416 := by omega
    clear hl
    obtain ⟨n, HN⟩ : ∃ n, Hid (zl.length = n) := ⟨_, rfl⟩
    rw [HN.out] at HCELL HZ HT hall hl' ⊢
    go_enter Try.func18, Try.ntmps18
    go_wp2
    generalize ((((w.setCell ⟨g, 5, none⟩ (.int .i64 0)).setCell ⟨g, 6, none⟩ (.int .i64 f)).alloc (.map #[] 0)).setCell ⟨g, 7, none⟩ (.map (some w.heap.size))) = w1 at D1 N1 O1 ⊢
    have D1' : DAt w1 g { d.plan zl f with fails := fun i => decide (i ∈ zl.take 0) } (L.plan w.heap.size) N := by rw [List.take_zero]; exact D1
    have N1' : NMap w1 w.heap.size 0 (fun i => decide (i ∈ zl.take 0)) := by rw [List.take_zero]; exact N1
    go_loopw [23] (fun c wr => ∃ k : Nat, c = .int .i64 k ∧ k ≤ n ∧ DAt wr g { d.plan zl f with fails := fun i => decide (i ∈ zl.take k) } (L.plan w.heap.size) N ∧ NMap wr w.heap.size k (fun i => decide (i ∈ zl.take k)) ∧ Off (· = g) w wr) (fun c _ => n - (intOf c).toNat)
    case atStart => exact ⟨0, rfl, Nat.zero_le _, D1', N1', O1⟩
    case round =>
      clear D1 N1 O1 D1' N1' c5 f5 c6 f6 c7 f7 hs2
      obtain ⟨k, rfl, hk, Dk, Nk, Ok⟩ := hrel
      by_cases hkn : k < n
      · have hz := HZ.out k hkn
        have hcel := cell_off (HCELL.out k hkn) Ok (by rw [add_block]; exact hag)
        have ht := HT.out k hkn
        obtain ⟨z, HZZ⟩ : ∃ z, Hid (zl.getD k 0 = z) := ⟨_, rfl⟩
        rw [HZZ.out] at hz hcel ht
        have c7 := row_at Dk.row 7 (.map (some w.heap.size)) rfl
        obtain ⟨w2, hrun, N2, g2, s2⟩ := Nk.store (by unfold maxLen; omega) hz
        rw [ht] at N2
        have D2 := Dk.moreFails (m := w.heap.size) rfl g2 N2
        have O2 : Off (· = g) w w2 := Ok.trans (Off.of_grown (F := (· = w.heap.size)) g2 (fun q hq => by cases hq; rfl)) (fun j hj => Or.inr (by omega))
        clear Dk Nk Ok s2 g2 ht
        have hk64 : (k : Int) < 9223372036854775807 := by omega
        go_wp2_with (first
          | (refine build_none rfl 85 rfl #[] built85 ?_)
          | (at_mapUpdate; refine wpList_plain rfl fun K hK => wp_update 74 (.tmp 30) (.tmp 31) (.tmp 32) rfl _ _ _ rfl rfl rfl w2 hrun (hK _ _ ?_)))
        go_roundw
        case rel => exact ⟨k + 1, by go_num, by omega, D2, N2, O2⟩
        case measure => simp [intOf]; omega
      · have e : k = n := by omega
        subst e
        have hp : PP wr := HPL.out wr (by rw [hall.out] at Dk; exact Dk) Ok
        go_wp2
        first
          | (go_end0; exact ⟨rfl, hp⟩)
          | (refine bodyPost_ret (results_none rfl _ _ _) rfl ?_; exact ⟨rfl, hp⟩)
end Go.Proofs.Ytcbjjofckhohjaa
