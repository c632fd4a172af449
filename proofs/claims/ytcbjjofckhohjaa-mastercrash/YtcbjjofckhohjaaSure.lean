/-
  Proved here: what disk.Sure and disk.Seen tell of a block.
-/
import Derived.Test.YtcbjjofckhohjaaCount
namespace Go.Proofs.Ytcbjjofckhohjaa
open Go.ChangeShapes Go.WideShapes Go.ChangeAt Go.RowKit
set_option linter.unusedVariables false
set_option linter.unusedSimpArgs false
set_option maxRecDepth 20000

/-- A block of sectors, the first k of them laidD. -/
def blk (f : Nat → List Int) : Nat → List Int
  | 0 => zs 256
  | k + 1 => lay (blk f k) k (f k)
theorem blk_length (f : Nat → List Int) (hf : ∀ i, (f i).length = 64) : ∀ k, k ≤ 4 → (blk f k).length = 256
  | 0, _ => zs_length 256
  | k + 1, h => lay_length _ _ _ (blk_length f hf k (by omega)) (hf k) (by omega)
theorem lay_at (C s : List Int) (hb : C.length = 256) (hs : s.length = 64) (i : Nat) (hi : i < 4) (C' : List Int) (hC : lay C i s = C') (w : World) :
    Calls Try.prog 40 #[.agg (bs C), .int .i64 i, .agg (bs s)] w fun e w' => e = .returned (.agg (bs C')) ∧ Below w.heap.size w w' := by
  subst hC; exact lay_in C s hb hs i hi w
theorem SMap.get_sec {w : World} {a n : Nat} {f : Secs} (h : SMap w a n f) {b s : Int} (hb : Wf b) (hs : Wf s) : Sec (f.get b s) := by
  unfold Secs.get
  cases e : f b s with
  | none => exact zs_sec
  | some xs => exact h.sec hb hs e
/-- A block as a map of sectors tells it. -/
def Secs.block (f : Secs) (b : Int) : List Int := blk (fun i => f.get b i) 4

set_option maxHeartbeats 1000000 in
theorem sure_in {w : World} {g : Nat} {d : Dsk} {L : Loc} {N : Nat} (hd : DAt w g d L N) (b : Int) (hb : 0 ≤ b ∧ b < d.n) :
    Calls Try.prog 55 #[.pointer (some ⟨g, 0, none⟩), .int .i64 b] w fun e w' => e = .returned (.agg (bs (d.sure.block b))) ∧ Below w.heap.size w w' := by
  have hn := hd.small
  have wb : Wf b := wf_of (by omega) (by omega)
  have hb' : decide (0 ≤ b ∧ b < (d.n : Int)) = true := decide_eq_true hb
  clear hb
  obtain ⟨sN, hsu, _⟩ := hd.sure
  obtain ⟨F, HF⟩ : ∃ F : Nat → List Int, Hid (∀ i : Nat, d.sure.get b (i : Int) = F i) := ⟨fun i => d.sure.get b (i : Int), fun _ => rfl⟩
  have hFl : ∀ i, i < 4 → (F i).length = 64 := fun i hi => by rw [← HF.out i]; exact (hsu.get_sec wb (wf_of (by omega) (by omega))).1
  have hlk : Hid (∀ (k : Nat), k < 4 → ∀ w', Below w.heap.size w w' → (Instr.lookup 72 (.map (some L.a)) (.agg #[.int .i64 b, .int .i64 k]) false).run Try.prog w' = .ok (.agg (bs (F k))) w') := fun k hk w' hb => by
    obtain ⟨s', hs', _⟩ := (hd.below hb).sure
    rw [← HF.out k]; exact hs'.look wb (wf_of (by omega) (by omega))
  have hlk := hlk.out
  have hblk : Hid (d.sure.block b = blk F 4) := by
    show _ = _
    unfold Secs.block
    congr 1; funext i; exact HF.out i
  rw [hblk.out]
  have hz := zero29
  have a0 : Row ((w.alloc (.cells (bs (zs 256)) 29)).alloc (.cells (bs (zs 256)) 29)) w.heap.size (bs (zs 256)) 29 := (Row.new _ _ _).alloc _
  have a1 : Row ((w.alloc (.cells (bs (zs 256)) 29)).alloc (.cells (bs (zs 256)) 29)) (w.heap.size + 1) (bs (zs 256)) 29 := by have := Row.new (w.alloc (.cells (bs (zs 256)) 29)) (bs (zs 256)) 29; simpa using this
  have ab : Below w.heap.size w ((w.alloc (.cells (bs (zs 256)) 29)).alloc (.cells (bs (zs 256)) 29)) := ((Below.refl _ _).alloc (Nat.le_refl _) _).alloc (by simp) _
  have HFL : Hid (∀ i, i < 4 → (F i).length = 64) := hFl
  have hbl : Hid (∀ k, k ≤ 4 → (blk F k).length = 256) := fun k hk => by
    induction k with
    | zero => exact zs_length 256
    | succ k ih => exact lay_length _ _ _ (ih (by omega)) (HFL.out k (by omega)) (by omega)
  clear hFl hsu
  have HLK : Hid _ := hlk
  clear hlk
  go_enter Try.func55, Try.ntmps55
  go_wp2_with (go_at_call 46; refine (has_any (hd.below ab) b).mono ?_; rw [hb']; rintro e w' ⟨rfl, rfl⟩)
  generalize (w.alloc (.cells (bs (zs 256)) 29)).alloc (.cells (bs (zs 256)) 29) = w1 at a0 a1 ab ⊢
  go_loopw [12] (fun c wr => ∃ k : Nat, c = .int .i64 k ∧ k ≤ 4 ∧ Row wr w.heap.size (bs (zs 256)) 29 ∧ Row wr (w.heap.size + 1) (bs (blk F k)) 29 ∧ Below w.heap.size w wr) (fun c _ => 4 - (intOf c).toNat)
  case atStart => exact ⟨0, rfl, by omega, a0, a1, ab⟩
  case round =>
    clear a0 a1 ab
    obtain ⟨k, rfl, hk4, r0, r1, rb⟩ := hrel
    by_cases hk : k < 4
    · have hCl := hbl.out k (by omega)
      have hCl' := hbl.out (k + 1) (by omega)
      have hFl := HFL.out k hk
      have hlk := HLK.out
      obtain ⟨C, HCC⟩ : ∃ C, Hid (blk F k = C) := ⟨_, rfl⟩
      obtain ⟨C', HCC'⟩ : ∃ C', Hid (blk F (k + 1) = C') := ⟨_, rfl⟩
      have HC : Hid (lay C k (F k) = C') := by show _ = _; rw [← HCC.out, ← HCC'.out]; rfl
      rw [HCC.out] at r1 hCl
      rw [HCC'.out] at hCl'
      have r0 : Row wr.drew w.heap.size (bs (zs 256)) 29 := r0
      have r1 : Row wr.drew (w.heap.size + 1) (bs C) 29 := r1
      go_wp2
      refine wp_region_held_drew (S := Below w.heap.size w) (by kernel_rfl) rb.drew fun hS => ?_
      refine wpAnyH_take (i := 1) (v := .int .i64 k) rfl (by kernel_rfl) (by kernel_rfl) (by kernel_rfl) (fun _ _ _ h => h) (Or.inl ⟨by rfl, fun w _ => by rfl⟩) hS ?_
      try simp only [Act.put, List.getElem_toArray, List.getElem_cons_zero, List.getElem_cons_succ, List.setIfInBounds_toArray, List.set_cons_zero, List.set_cons_succ]
      refine wpAnyH_take (i := 2) (v := .pointer (some ⟨g, 0, none⟩)) rfl (by kernel_rfl) (by kernel_rfl) (by kernel_rfl) (fun _ _ _ h => h) (Or.inl ⟨by rfl, fun w _ => by rfl⟩) hS ?_
      try simp only [Act.put, List.getElem_toArray, List.getElem_cons_zero, List.getElem_cons_succ, List.setIfInBounds_toArray, List.set_cons_zero, List.set_cons_succ]
      refine wpAnyH_take (i := 3) (v := .pointer (some ⟨g, 0, none⟩)) rfl (by kernel_rfl) (by kernel_rfl) (by kernel_rfl) (fun _ _ _ h => h) (Or.inl ⟨by rfl, fun w _ => by go_simp⟩) hS ?_
      try simp only [Act.put, List.getElem_toArray, List.getElem_cons_zero, List.getElem_cons_succ, List.setIfInBounds_toArray, List.set_cons_zero, List.set_cons_succ]
      refine wpAnyH_take (i := 4) (v := .pointer (some ⟨g, 1, none⟩)) rfl (by kernel_rfl) (by kernel_rfl) (by kernel_rfl) (fun _ _ _ h => h) (Or.inl ⟨by rfl, fun w _ => by go_simp⟩) hS ?_
      try simp only [Act.put, List.getElem_toArray, List.getElem_cons_zero, List.getElem_cons_succ, List.setIfInBounds_toArray, List.set_cons_zero, List.set_cons_succ]
      refine wpAnyH_take (i := 5) (v := .map (some L.a)) rfl (by kernel_rfl) (by kernel_rfl) (by kernel_rfl) (fun _ _ _ h => h) (Or.inl ⟨by rfl, fun w h => by have c := (row_at (hd.below h).row 1 (.map (some L.a)) rfl); go_simp⟩) hS ?_
      try simp only [Act.put, List.getElem_toArray, List.getElem_cons_zero, List.getElem_cons_succ, List.setIfInBounds_toArray, List.set_cons_zero, List.set_cons_succ]
      refine wpAnyH_take (i := 6) (v := .int .i64 b) rfl (by kernel_rfl) (by kernel_rfl) (by kernel_rfl) (fun _ _ _ h => h) (Or.inl ⟨by rfl, fun w _ => by rfl⟩) hS ?_
      try simp only [Act.put, List.getElem_toArray, List.getElem_cons_zero, List.getElem_cons_succ, List.setIfInBounds_toArray, List.set_cons_zero, List.set_cons_succ]
      refine wpAnyH_take (i := 7) (v := .int .i64 k) rfl (by kernel_rfl) (by kernel_rfl) (by kernel_rfl) (fun _ _ _ h => h) (Or.inl ⟨by rfl, fun w _ => by rfl⟩) hS ?_
      try simp only [Act.put, List.getElem_toArray, List.getElem_cons_zero, List.getElem_cons_succ, List.setIfInBounds_toArray, List.set_cons_zero, List.set_cons_succ]
      refine wpAnyH_take (i := 8) (v := .agg #[.int .i64 b, .int .i64 k]) rfl (by kernel_rfl) (by kernel_rfl) (by kernel_rfl) (fun _ _ _ h => h) (Or.inl ⟨by rfl, fun w _ => by go_simp⟩) hS ?_
      try simp only [Act.put, List.getElem_toArray, List.getElem_cons_zero, List.getElem_cons_succ, List.setIfInBounds_toArray, List.set_cons_zero, List.set_cons_succ]
      refine wpAnyH_take (i := 9) (v := .agg (bs (F k))) rfl (by kernel_rfl) (by kernel_rfl) (by kernel_rfl) (fun _ _ _ h => h) (Or.inl ⟨by rfl, fun w h => by have c := hlk k hk w h; go_simp⟩) hS ?_
      try simp only [Act.put, List.getElem_toArray, List.getElem_cons_zero, List.getElem_cons_succ, List.setIfInBounds_toArray, List.set_cons_zero, List.set_cons_succ]
      refine wpAnyH_ready (rs := [0]) (by kernel_rfl) (by simp) ?_
      refine AllReadyH.cons rfl (fun K hK => step_load rfl 29 (.tmp 5) rfl (w.heap.size + 1) rfl 29 (bs C) r1 256 5 Try.underlying29 size29 (by rw [bs_size, hCl]) (hK.out _ _ (hS) fun hS => ?_)) AllReadyH.nil
      try simp only [Act.put, List.getElem_toArray, List.getElem_cons_zero, List.getElem_cons_succ, List.setIfInBounds_toArray, List.set_cons_zero, List.set_cons_succ]
      refine wpAnyH_ready (rs := [10]) (by kernel_rfl) (by simp) ?_
      refine AllReadyH.cons rfl (fun K hK => ?_) AllReadyH.nil
      go_simp
      go_at_call 40
      refine (lay_at C (F k) hCl hFl k hk C' HC.out _).mono ?_
      rintro e wc ⟨rfl, hcb⟩
      refine hK.out _ _ (hS.trans (hcb.mono hS.size)) fun hS => ?_
      try simp only [Act.put, List.getElem_toArray, List.getElem_cons_zero, List.getElem_cons_succ, List.setIfInBounds_toArray, List.set_cons_zero, List.set_cons_succ]
      have q1 := r1.below hcb r1.lt
      have q0 := r0.below hcb r0.lt
      have z1 : Row (wc.setRow (w.heap.size + 1) (bs C')) (w.heap.size + 1) (bs C') 29 := q1.set _
      have z0 : Row (wc.setRow (w.heap.size + 1) (bs C')) w.heap.size (bs (zs 256)) 29 := q0.other (by omega) _
      refine wpAnyH_ready (rs := [11]) (by kernel_rfl) (by simp) ?_
      refine AllReadyH.cons rfl (fun K hK => step_store rfl 29 (.tmp 5) (.tmp 25) rfl (w.heap.size + 1) C' rfl rfl 29 _ q1 256 size29 (by rw [bs_size, hCl]) hCl' (hK.out _ _ (below_setRow hS (by omega) _) fun hS => ?_)) AllReadyH.nil
      try simp only [Act.put, List.getElem_toArray, List.getElem_cons_zero, List.getElem_cons_succ, List.setIfInBounds_toArray, List.set_cons_zero, List.set_cons_succ]
      refine wpAnyH_done (by kernel_rfl) ?_ _
      go_wp2
      go_roundw
      case rel => exact ⟨k + 1, by go_num, by omega, z0, by rw [HCC'.out]; exact z1, hS⟩
      case measure => simp [intOf]; omega
    · have e4 : k = 4 := by omega
      subst e4
      have hl4 := hbl.out 4 (by omega)
      obtain ⟨C, HCC⟩ : ∃ C, Hid (blk F 4 = C) := ⟨_, rfl⟩
      rw [HCC.out] at r1 hl4
      go_wp2_with (first
        | (refine load_row rfl 29 (.tmp 5) rfl (w.heap.size + 1) rfl 29 (bs C) r1 256 5 Try.underlying29 size29 (by rw [bs_size, hl4]) ?_)
        | (refine store_row rfl 29 (.tmp 4) (.tmp 27) rfl w.heap.size C rfl rfl 29 _ r0 256 size29 (by rw [bs_size, zs_length]) hl4 ?_))
      rw [HCC.out]
      refine bodyPost_ret (v := .agg (bs C)) ?_ rfl ⟨rfl, below_setRow rb (Nat.le_refl _) _⟩
      exact ret_row (fn := Try.f55) rfl _ _ w.heap.size 29 (bs C) 256 5 rfl (r0.set _) Try.underlying29 size29 (by rw [bs_size, hl4])
end Go.Proofs.Ytcbjjofckhohjaa
