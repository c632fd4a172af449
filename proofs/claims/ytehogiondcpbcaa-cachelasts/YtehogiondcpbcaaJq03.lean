/-
  Proved here: what disk.Sure and disk.Seen tell of a block. Plain facts on blocks and their four sectors, and on writes that lie over what was there. Proved here: what disk.Seen tells of a block: all writes over what lasts. Proved here: what disk.Read answers and leaves, what Sure and Seen tell of no block, and all of these of a disk that is not there. Proved here: what disk.New makes, and the block that the statements fill with bytes. Plain facts on pending writes as cells: a struct of a key and a sector, built, loaded whole and in its parts.
-/
import Derived.Test.YtehogiondcpbcaaJq02
import Derived.Deep.MidRow
namespace Go.Proofs.Ytehogiondcpbcaa
open Go.ChangeShapes Go.WideShapes Go.ChangeAt Go.RowKit
set_option linter.unusedVariables false
set_option linter.unusedSimpArgs false
set_option maxRecDepth 20000
def blk (f : Nat → List Int) : Nat → List Int
  | 0 => zs 256
  | k + 1 => lay (blk f k) k (f k)
theorem lay_at (C s : List Int) (hb : C.length = 256) (hs : s.length = 64) (i : Nat) (hi : i < 4) (C' : List Int) (hC : lay C i s = C') (w : World) :
    Calls Try.prog 41 #[.agg (bs C), .int .i64 i, .agg (bs s)] w fun e w' => e = .returned (.agg (bs C')) ∧ Below w.heap.size w w' := by
  subst hC; exact lay_in C s hb hs i hi w
theorem SMap.get_sec {w : World} {a n : Nat} {f : Secs} (h : SMap w a n f) {b s : Int} (hb : Wf b) (hs : Wf s) : Sec (f.get b s) := by
  unfold Secs.get
  cases e : f b s with
  | none => exact zs_sec
  | some xs => exact h.sec hb hs e
def Secs.block (f : Secs) (b : Int) : List Int := blk (fun i => f.get b i) 4
set_option maxHeartbeats 1000000 in
theorem sure_in {w : World} {g : Nat} {d : Dsk} {L : Loc} {N : Nat} (hd : DAt w g d L N) (b : Int) (hb : 0 ≤ b ∧ b < d.n) :
    Calls Try.prog 39 #[.pointer (some ⟨g, 0, none⟩), .int .i64 b] w fun e w' => e = .returned (.agg (bs (d.sure.block b))) ∧ Below w.heap.size w w' := by
  have hn := hd.small
  have wb : Wf b := wf_of (by omega) (by omega)
  have hb' : decide (0 ≤ b ∧ b < (d.n : Int)) = true := decide_eq_true hb
  clear hb
  obtain ⟨sN, hsu, _⟩ := hd.sure
  obtain ⟨F, HF⟩ : ∃ F : Nat → List Int, Hid (∀ i : Nat, d.sure.get b (i : Int) = F i) := ⟨fun i => d.sure.get b (i : Int), fun _ => rfl⟩
  have hFl : ∀ i, i < 4 → (F i).length = 64 := fun i hi => by rw [← HF.out i]; exact (hsu.get_sec wb (wf_of (by omega) (by omega))).1
  have hlk : Hid (∀ (k : Nat), k < 4 → ∀ w', Below w.heap.size w w' → (Instr.lookup 84 (.map (some L.a)) (.agg #[.int .i64 b, .int .i64 k]) false).run Try.prog w' = .ok (.agg (bs (F k))) w') := fun k hk w' hb => by
    obtain ⟨s', hs', _⟩ := (hd.below hb).sure
    rw [← HF.out k]; exact hs'.look wb (wf_of (by omega) (by omega))
  have hlk := hlk.out
  have hblk : Hid (d.sure.block b = blk F 4) := by
    show _ = _
    unfold Secs.block
    congr 1; funext i; exact HF.out i
  rw [hblk.out]
  have hz := zero41
  have a0 : Row ((w.alloc (.cells (bs (zs 256)) 41)).alloc (.cells (bs (zs 256)) 41)) w.heap.size (bs (zs 256)) 41 := (Row.new _ _ _).alloc _
  have a1 : Row ((w.alloc (.cells (bs (zs 256)) 41)).alloc (.cells (bs (zs 256)) 41)) (w.heap.size + 1) (bs (zs 256)) 41 := by have := Row.new (w.alloc (.cells (bs (zs 256)) 41)) (bs (zs 256)) 41; simpa using this
  have ab : Below w.heap.size w ((w.alloc (.cells (bs (zs 256)) 41)).alloc (.cells (bs (zs 256)) 41)) := ((Below.refl _ _).alloc (Nat.le_refl _) _).alloc (by simp) _
  have HFL : Hid (∀ i, i < 4 → (F i).length = 64) := hFl
  have hbl : Hid (∀ k, k ≤ 4 → (blk F k).length = 256) := fun k hk => by
    induction k with
    | zero => exact zs_length 256
    | succ k ih => exact lay_length _ _ _ (ih (by omega)) (HFL.out k (by omega)) (by omega)
  clear hFl hsu
  have HLK : Hid _ := hlk
  clear hlk
  go_enter Try.func39, Try.ntmps39
  go_wp2_with (go_at_call 40; refine (has_any (hd.below ab) b).mono ?_; rw [hb']; rintro e w' ⟨rfl, rfl⟩)
  generalize (w.alloc (.cells (bs (zs 256)) 41)).alloc (.cells (bs (zs 256)) 41) = w1 at a0 a1 ab ⊢
  go_loopw [12] (fun c wr => ∃ k : Nat, c = .int .i64 k ∧ k ≤ 4 ∧ Row wr w.heap.size (bs (zs 256)) 41 ∧ Row wr (w.heap.size + 1) (bs (blk F k)) 41 ∧ Below w.heap.size w wr) (fun c _ => 4 - (intOf c).toNat)
  case atStart => exact ⟨0, rfl, by omega, a0, a1, ab⟩
  case round =>
    clear a0 a1 ab
    obtain ⟨k, rfl, hk4, r0, r1, rb⟩ := hrel
    by_cases hk : k < 4
    · have hCl := hbl.out k (by omega)
      have hCl' := hbl.out (k + 1) (by omega)
      have hFl := HFL.out k hk
      have hlk := HLK.out
      obtain ⟨C, HCC⟩ : ∃ C, Hid (blk F k = C) := ⟨_, rfl⟩
      obtain ⟨C', HCC'⟩ : ∃ C', Hid (blk F (k + 1) = C') := ⟨_, rfl⟩
      have HC : Hid (lay C k (F k) = C') := by show _ = _; rw [← HCC.out, ← HCC'.out]; rfl
      rw [HCC.out] at r1 hCl
      rw [HCC'.out] at hCl'
      have r0 : Row wr.drew w.heap.size (bs (zs 256)) 41 := r0
      have r1 : Row wr.drew (w.heap.size + 1) (bs C) 41 := r1
      go_wp2
      refine wp_region_held_drew (S := Below w.heap.size w) (by kernel_rfl) rb.drew fun hS => ?_
      refine tkI (i := 1) (v := .int .i64 k) rfl (Or.inl ⟨by rfl, fun w _ => by rfl⟩) hS ?_
      try simp only [Act.put, nz]
      refine tkI (i := 2) (v := .pointer (some ⟨g, 0, none⟩)) rfl (Or.inl ⟨by rfl, fun w _ => by rfl⟩) hS ?_
      try simp only [Act.put, nz]
      refine tkI (i := 3) (v := .pointer (some ⟨g, 0, none⟩)) rfl (Or.inl ⟨by rfl, fun w _ => by go_simp⟩) hS ?_
      try simp only [Act.put, nz]
      refine tkI (i := 4) (v := .pointer (some ⟨g, 1, none⟩)) rfl (Or.inl ⟨by rfl, fun w _ => by go_simp⟩) hS ?_
      try simp only [Act.put, nz]
      refine tkI (i := 5) (v := .map (some L.a)) rfl (Or.inl ⟨by rfl, fun w h => by have c := (row_at (hd.below h).row 1 (.map (some L.a)) rfl); go_simp⟩) hS ?_
      try simp only [Act.put, nz]
      refine tkI (i := 6) (v := .int .i64 b) rfl (Or.inl ⟨by rfl, fun w _ => by rfl⟩) hS ?_
      try simp only [Act.put, nz]
      refine tkI (i := 7) (v := .int .i64 k) rfl (Or.inl ⟨by rfl, fun w _ => by rfl⟩) hS ?_
      try simp only [Act.put, nz]
      refine tkI (i := 8) (v := .agg #[.int .i64 b, .int .i64 k]) rfl (Or.inl ⟨by rfl, fun w _ => by go_simp⟩) hS ?_
      try simp only [Act.put, nz]
      refine tkI (i := 9) (v := .agg (bs (F k))) rfl (Or.inl ⟨by rfl, fun w h => by have c := hlk k hk w h; go_simp⟩) hS ?_
      try simp only [Act.put, nz]
      refine wpAnyH_ready (rs := [0]) (by kernel_rfl) (by simp) ?_
      refine AllReadyH.cons rfl (fun K hK => step_load rfl 41 (.tmp 5) rfl (w.heap.size + 1) rfl 41 (bs C) r1 256 5 Try.underlying41 size41 (by rw [bs_size, hCl]) (hK.out _ _ (hS) fun hS => ?_)) AllReadyH.nil
      try simp only [Act.put, nz]
      refine wpAnyH_ready (rs := [10]) (by kernel_rfl) (by simp) ?_
      refine AllReadyH.cons rfl (fun K hK => ?_) AllReadyH.nil
      go_simp
      go_at_call 41
      refine (lay_at C (F k) hCl hFl k hk C' HC.out _).mono ?_
      rintro e wc ⟨rfl, hcb⟩
      refine hK.out _ _ (hS.trans (hcb.mono hS.size)) fun hS => ?_
      try simp only [Act.put, nz]
      have q1 := r1.below hcb r1.lt
      have q0 := r0.below hcb r0.lt
      have z1 : Row (wc.setRow (w.heap.size + 1) (bs C')) (w.heap.size + 1) (bs C') 41 := q1.set _
      have z0 : Row (wc.setRow (w.heap.size + 1) (bs C')) w.heap.size (bs (zs 256)) 41 := q0.other (by omega) _
      refine wpAnyH_ready (rs := [11]) (by kernel_rfl) (by simp) ?_
      refine AllReadyH.cons rfl (fun K hK => step_store rfl 41 (.tmp 5) (.tmp 25) rfl (w.heap.size + 1) C' rfl rfl 41 _ q1 256 size41 (by rw [bs_size, hCl]) hCl' (hK.out _ _ (below_setRow hS (by omega) _) fun hS => ?_)) AllReadyH.nil
      try simp only [Act.put, nz]
      refine wpAnyH_done (by kernel_rfl) ?_ _
      go_wp2
      go_roundw
      case rel => exact ⟨k + 1, by go_num, by omega, z0, by rw [HCC'.out]; exact z1, hS⟩
      case measure => simp [intOf]; omega
    · have e4 : k = 4 := by omega
      subst e4
      have hl4 := hbl.out 4 (by omega)
      obtain ⟨C, HCC⟩ : ∃ C, Hid (blk F 4 = C) := ⟨_, rfl⟩
      rw [HCC.out] at r1 hl4
      go_wp2_with (first
        | (refine load_row rfl 41 (.tmp 5) rfl (w.heap.size + 1) rfl 41 (bs C) r1 256 5 Try.underlying41 size41 (by rw [bs_size, hl4]) ?_)
        | (refine store_row rfl 41 (.tmp 4) (.tmp 27) rfl w.heap.size C rfl rfl 41 _ r0 256 size41 (by rw [bs_size, zs_length]) hl4 ?_))
      rw [HCC.out]
      refine bodyPost_ret (v := .agg (bs C)) ?_ rfl ⟨rfl, below_setRow rb (Nat.le_refl _) _⟩
      exact ret_row (fn := Try.f39) rfl _ _ w.heap.size 41 (bs C) 256 5 rfl (r0.set _) Try.underlying41 size41 (by rw [bs_size, hl4])
theorem over_or (f : Secs) : ∀ (ps : List (Int × Int × List Int)) (b s : Int), over f ps b s = ((over (fun _ _ => none) ps b s).or (f b s)) := by
  suffices h : ∀ (ps : List (Int × Int × List Int)) (f g : Secs) (b s : Int), over (fun b s => (g b s).or (f b s)) ps b s = (over g ps b s).or (f b s) by
    intro ps b s
    have := h ps f (fun _ _ => none) b s
    simpa using this
  intro ps
  induction ps with
  | nil => intro f g b s; rfl
  | cons q r ih =>
    intro f g b s
    have e : Secs.put (fun b s => (g b s).or (f b s)) q.1 q.2.1 q.2.2 = fun b s => ((g.put q.1 q.2.1 q.2.2) b s).or (f b s) := by
      funext b s
      unfold Secs.put
      split <;> rfl
    show over (Secs.put (fun b s => (g b s).or (f b s)) q.1 q.2.1 q.2.2) r b s = (over (g.put q.1 q.2.1 q.2.2) r b s).or (f b s)
    rw [e]; exact ih f _ b s
theorem over_append (f : Secs) : ∀ (ps qs : List (Int × Int × List Int)), over f (ps ++ qs) = over (over f ps) qs
  | [], qs => rfl
  | q :: r, qs => over_append (f.put q.1 q.2.1 q.2.2) r qs
theorem lay_getD (B : List Int) (hB : B.length = 256) (i : Nat) (hi : i < 4) (s : List Int) (hs : s.length = 64) (j : Nat) : (lay B i s).getD j 0 = if 64 * i ≤ j ∧ j < 64 * i + 64 then s.getD (j - 64 * i) 0 else B.getD j 0 := by
  unfold lay
  rw [splice_getD _ _ _ _ (by omega), hs]
  by_cases h1 : j < 64 * i
  · rw [if_pos h1, if_neg (by omega)]
  · rw [if_neg h1]
    by_cases h2 : j < 64 * i + 64
    · rw [if_pos h2, if_pos ⟨by omega, h2⟩]
    · rw [if_neg h2, if_neg (by omega)]
theorem blk_getD (f : Nat → List Int) (hf : ∀ i, i < 4 → (f i).length = 64) : ∀ k, k ≤ 4 → (blk f k).length = 256 ∧ ∀ j, (blk f k).getD j 0 = if j < 64 * k then (f (j / 64)).getD (j % 64) 0 else 0
  | 0, _ => ⟨zs_length 256, fun j => by rw [if_neg (by omega)]; exact zs_at 256 j⟩
  | k + 1, h => by
    obtain ⟨h1, h2⟩ := blk_getD f hf k (by omega)
    refine ⟨lay_length _ _ _ h1 (hf k (by omega)) (by omega), fun j => ?_⟩
    show (lay (blk f k) k (f k)).getD j 0 = _
    rw [lay_getD _ h1 k (by omega) _ (hf k (by omega)), h2]
    by_cases e : 64 * k ≤ j ∧ j < 64 * k + 64
    · rw [if_pos e, if_pos (by omega), show j / 64 = k by omega, show j - 64 * k = j % 64 by omega]
    · rw [if_neg e]
      by_cases e2 : j < 64 * k
      · rw [if_pos e2, if_pos (by omega)]
      · rw [if_neg e2, if_neg (by omega)]
theorem list_eq (n : Nat) (l m : List Int) (hl : l.length = n) (hm : m.length = n) (h : ∀ j, j < n → l.getD j 0 = m.getD j 0) : l = m := by
  apply List.ext_getElem (by omega)
  intro j h1 h2
  have := h j (by omega)
  simpa [List.getD, h1, h2] using this
theorem blk_congr (f g : Nat → List Int) (hf : ∀ i, i < 4 → (f i).length = 64) (h : ∀ i, i < 4 → f i = g i) : blk f 4 = blk g 4 := by
  have hg : ∀ i, i < 4 → (g i).length = 64 := fun i hi => by rw [← h i hi]; exact hf i hi
  obtain ⟨a1, a2⟩ := blk_getD f hf 4 (by omega)
  obtain ⟨b1, b2⟩ := blk_getD g hg 4 (by omega)
  refine list_eq 256 _ _ a1 b1 fun j hj => ?_
  rw [a2, b2, h (j / 64) (by omega)]
theorem lay_blk (f : Nat → List Int) (hf : ∀ i, i < 4 → (f i).length = 64) (k : Nat) (hk : k < 4) (s : List Int) (hs : s.length = 64) : lay (blk f 4) k s = blk (fun i => if i = k then s else f i) 4 := by
  have hg : ∀ i, i < 4 → (if i = k then s else f i).length = 64 := fun i hi => by
    by_cases e : i = k
    · rw [if_pos e]; exact hs
    · rw [if_neg e]; exact hf i hi
  obtain ⟨a1, a2⟩ := blk_getD f hf 4 (by omega)
  obtain ⟨b1, b2⟩ := blk_getD (fun i => if i = k then s else f i) hg 4 (by omega)
  refine list_eq 256 _ _ (lay_length _ _ _ a1 hs hk) b1 fun j hj => ?_
  have h4 : j < 64 * 4 := by omega
  rw [lay_getD _ a1 k hk s hs, a2, b2]
  simp only [if_pos h4]
  by_cases e : 64 * k ≤ j ∧ j < 64 * k + 64
  · rw [if_pos e, if_pos (by omega), show j - 64 * k = j % 64 by omega]
  · rw [if_neg e, if_neg (by omega)]
theorem blk_bytes (f : Nat → List Int) (hf : ∀ i, i < 4 → Sec (f i)) : Bytes (blk f 4) := by
  obtain ⟨a1, a2⟩ := blk_getD f (fun i hi => (hf i hi).1) 4 (by omega)
  intro y hy
  obtain ⟨j, hj, rfl⟩ := List.mem_iff_getElem.1 hy
  have := a2 j
  rw [if_pos (by omega)] at this
  simp only [List.getD] at this
  rw [List.getElem?_eq_getElem hj] at this
  simp only [Option.getD_some] at this
  rw [this]
  exact (hf (j / 64) (by omega)).2.at _
theorem blk_cut (B : List Int) (hB : B.length = 256) : blk (cut B) 4 = B := by
  have hf : ∀ i, i < 4 → (cut B i).length = 64 := fun i hi => cut_length B i hB hi
  obtain ⟨a1, a2⟩ := blk_getD (cut B) hf 4 (by omega)
  refine list_eq 256 _ _ a1 hB fun j hj => ?_
  rw [a2, if_pos (by omega)]
  unfold cut
  simp only [List.getD]
  rw [List.getElem?_take, if_pos (by omega), List.getElem?_drop, show 64 * (j / 64) + j % 64 = j by omega]
def Dsk.seen (d : Dsk) (b : Int) : List Int := (over d.sure d.pend).block b
def mix (f g : Nat → List Int) (k : Nat) : List Int := blk (fun i => if i < k then f i else g i) 4
theorem mix_zero (f g : Nat → List Int) : mix f g 0 = blk g 4 := by unfold mix; congr 1
theorem mix_four (f g : Nat → List Int) (hf : ∀ i, i < 4 → (f i).length = 64) (hg : ∀ i, i < 4 → (g i).length = 64) : mix f g 4 = blk f 4 := by
  unfold mix
  refine blk_congr _ _ (fun i hi => ?_) (fun i hi => ?_)
  · simp only [if_pos hi]; exact hf i hi
  · simp only [if_pos hi]
theorem mix_len {f g : Nat → List Int} (hf : ∀ i, i < 4 → (f i).length = 64) (hg : ∀ i, i < 4 → (g i).length = 64) (k : Nat) : ∀ i, i < 4 → (if i < k then f i else g i).length = 64 := fun i hi => by
  by_cases e : i < k
  · rw [if_pos e]; exact hf i hi
  · rw [if_neg e]; exact hg i hi
theorem mix_length (f g : Nat → List Int) (hf : ∀ i, i < 4 → (f i).length = 64) (hg : ∀ i, i < 4 → (g i).length = 64) (k : Nat) : (mix f g k).length = 256 :=
  (blk_getD _ (mix_len hf hg k) 4 (by omega)).1
theorem mix_lay (f g : Nat → List Int) (hf : ∀ i, i < 4 → (f i).length = 64) (hg : ∀ i, i < 4 → (g i).length = 64) (k : Nat) (hk : k < 4) : lay (mix f g k) k (f k) = mix f g (k + 1) := by
  unfold mix
  rw [lay_blk _ (mix_len hf hg k) k hk (f k) (hf k hk)]
  refine blk_congr _ _ (fun i hi => ?_) (fun i hi => ?_)
  · by_cases e : i = k
    · rw [if_pos e]; exact hf k hk
    · rw [if_neg e]; exact mix_len hf hg k i hi
  · by_cases e : i = k
    · subst e; rw [if_pos rfl, if_pos (by omega)]
    · rw [if_neg e]
      by_cases e2 : i < k
      · rw [if_pos e2, if_pos (by omega)]
      · rw [if_neg e2, if_neg (by omega)]
theorem mix_skip (f g : Nat → List Int) (hf : ∀ i, i < 4 → (f i).length = 64) (hg : ∀ i, i < 4 → (g i).length = 64) (k : Nat) (hk : k < 4) (e : f k = g k) : mix f g k = mix f g (k + 1) := by
  unfold mix
  refine blk_congr _ _ (mix_len hf hg k) (fun i hi => ?_)
  by_cases e1 : i = k
  · subst e1; rw [if_neg (by omega), if_pos (by omega), e]
  · by_cases e2 : i < k
    · rw [if_pos e2, if_pos (by omega)]
    · rw [if_neg e2, if_neg (by omega)]
theorem sure_to {w : World} {g : Nat} {d : Dsk} {L : Loc} {N : Nat} (hd : DAt w g d L N) (b : Int) (hb : 0 ≤ b ∧ b < d.n) (C : List Int) (hC : d.sure.block b = C) :
    Calls Try.prog 39 #[.pointer (some ⟨g, 0, none⟩), .int .i64 b] w fun e w' => e = .returned (.agg (bs C)) ∧ Below w.heap.size w w' := by
  subst hC; exact sure_in hd b hb
set_option maxHeartbeats 1000000 in
theorem seen_in {w : World} {g : Nat} {d : Dsk} {L : Loc} {N : Nat} (hd : DAt w g d L N) (b : Int) (hb : 0 ≤ b ∧ b < d.n) :
    Calls Try.prog 11 #[.pointer (some ⟨g, 0, none⟩), .int .i64 b] w fun e w' => e = .returned (.agg (bs (d.seen b))) ∧ Below w.heap.size w w' := by
  have hn := hd.small
  have wb : Wf b := wf_of (by omega) (by omega)
  have hb' : decide (0 ≤ b ∧ b < (d.n : Int)) = true := decide_eq_true hb
  have HB : Hid (0 ≤ b ∧ b < (d.n : Int)) := hb
  clear hb
  obtain ⟨sN, hsu, _⟩ := hd.sure
  have wk : Hid (∀ i : Nat, i < 4 → Wf (i : Int)) := fun i hi => wf_of (by omega) (by omega)
  obtain ⟨F, HF⟩ : ∃ F : Nat → List Int, Hid (∀ i : Nat, d.sure.get b (i : Int) = F i) := ⟨fun i => d.sure.get b (i : Int), fun _ => rfl⟩
  obtain ⟨V, HV⟩ : ∃ V : Nat → List Int, Hid (∀ i : Nat, (over d.sure d.pend).get b (i : Int) = V i) := ⟨fun i => (over d.sure d.pend).get b (i : Int), fun _ => rfl⟩
  have HFL : Hid (∀ i, i < 4 → (F i).length = 64) := fun i hi => by rw [← HF.out i]; exact (hsu.get_sec wb (wk.out i hi)).1
  have HFV : Hid (∀ i : Nat, over (fun _ _ => none) d.pend b (i : Int) = none → F i = V i) := fun i e => by
    rw [← HF.out i, ← HV.out i]; unfold Secs.get; rw [over_or, e]; rfl
  have HGV : Hid (∀ i : Nat, ∀ s, over (fun _ _ => none) d.pend b (i : Int) = some s → s = V i) := fun i s e => by
    rw [← HV.out i]; unfold Secs.get; rw [over_or, e]; rfl
  have HVL : Hid (∀ i, i < 4 → (V i).length = 64) := fun i hi => by
    cases e : over (fun _ _ => none) d.pend b (i : Int) with
    | none => rw [← HFV.out i e]; exact HFL.out i hi
    | some s => rw [← HGV.out i s e]; exact (hd.fresh.sec wb (wk.out i hi) e).1
  have HS : Hid (d.sure.block b = mix V F 0) := by
    show _ = _
    rw [mix_zero]; unfold Secs.block
    congr 1; funext i; exact HF.out i
  have HE : Hid (d.seen b = mix V F 4) := by
    show _ = _
    rw [mix_four V F HVL.out HFL.out]; unfold Dsk.seen Secs.block
    congr 1; funext i; exact HV.out i
  rw [HE.out]
  have HML : Hid (∀ k, (mix V F k).length = 256) := mix_length V F HVL.out HFL.out
  have HMS : Hid (∀ k, k < 4 → lay (mix V F k) k (V k) = mix V F (k + 1)) := mix_lay V F HVL.out HFL.out
  have HMN : Hid (∀ k, k < 4 → F k = V k → mix V F k = mix V F (k + 1)) := fun k hk e => mix_skip V F HVL.out HFL.out k hk e.symm
  have hm0 := HML.out 0
  obtain ⟨C0, HC0⟩ : ∃ C0, Hid (mix V F 0 = C0) := ⟨_, rfl⟩
  rw [HC0.out] at hm0
  have HS' : Hid (d.sure.block b = C0) := by show _ = _; rw [HS.out, HC0.out]
  have hz := zero41
  have a0 : Row (w.alloc (.cells (bs (zs 256)) 41)) w.heap.size (bs (zs 256)) 41 := Row.new _ _ _
  have ab : Below w.heap.size w (w.alloc (.cells (bs (zs 256)) 41)) := (Below.refl _ _).alloc (Nat.le_refl _) _
  go_enter Try.func11, Try.ntmps11
  go_wp2_with (first
    | (go_at_call 39; refine (sure_to (hd.below ab) b HB.out C0 HS'.out).mono ?_; rintro e wz ⟨rfl, hzb⟩
       have hX : w.heap.size < wz.heap.size := Nat.lt_of_lt_of_le a0.lt hzb.size
       have q0 : Row (wz.alloc (.cells (bs (zs 256)) 41)) w.heap.size (bs (zs 256)) 41 := (a0.below hzb a0.lt).alloc _
       have q1 : Row (wz.alloc (.cells (bs (zs 256)) 41)) wz.heap.size (bs (zs 256)) 41 := Row.new _ _ _
       have z0 : Row ((wz.alloc (.cells (bs (zs 256)) 41)).setRow wz.heap.size (bs C0)) w.heap.size (bs (zs 256)) 41 := q0.other (by omega) _
       have z1 : Row ((wz.alloc (.cells (bs (zs 256)) 41)).setRow wz.heap.size (bs C0)) wz.heap.size (bs C0) 41 := q1.set _
       have zb : Below w.heap.size w ((wz.alloc (.cells (bs (zs 256)) 41)).setRow wz.heap.size (bs C0)) := below_setRow (((ab.trans (hzb.mono (Nat.le_of_lt a0.lt)))).alloc (Nat.le_of_lt hX) _) (Nat.le_of_lt hX) _)
    | (refine store_row rfl 41 (.tmp 5) (.tmp 11) rfl wz.heap.size C0 rfl rfl 41 _ q1 256 size41 (by rw [bs_size, zs_length]) hm0 ?_)
    | (go_at_call 40; refine (has_any (hd.below zb) b).mono ?_; rw [hb']; rintro e w' ⟨rfl, rfl⟩))
  clear q0 q1 a0 ab
  generalize (wz.alloc (.cells (bs (zs 256)) 41)).setRow wz.heap.size (bs C0) = w1 at z0 z1 zb ⊢
  generalize wz.heap.size = X at *
  rw [← HC0.out] at z1
  clear hzb
  go_loopw [17] (fun c wr => ∃ k : Nat, c = .int .i64 k ∧ k ≤ 4 ∧ Row wr w.heap.size (bs (zs 256)) 41 ∧ Row wr X (bs (mix V F k)) 41 ∧ Below w.heap.size w wr) (fun c _ => 4 - (intOf c).toNat)
  case atStart => exact ⟨0, rfl, by omega, z0, z1, zb⟩
  case round =>
    clear z0 z1 zb
    obtain ⟨k, rfl, hk4, r0, r1, rb⟩ := hrel
    have hml := HML.out k
    by_cases hk : k < 4
    · have hml' := HML.out (k + 1)
      have hvl := HVL.out k hk
      have dr := hd.below rb
      have hlk := dr.fresh.look_ok wb (wk.out k hk)
      have hgs := (dr.fresh.get_sec wb (wk.out k hk)).1
      have c2 := row_at dr.row 2 (.map (some L.b)) rfl
      have hz71 := zero79
      have hX' := r1.lt
      have hms := HMS.out k hk
      have hmn := HMN.out k hk
      obtain ⟨C, HC⟩ : ∃ C, Hid (mix V F k = C) := ⟨_, rfl⟩
      obtain ⟨C', HC'⟩ : ∃ C', Hid (mix V F (k + 1) = C') := ⟨_, rfl⟩
      rw [HC.out] at r1 hml hms hmn
      rw [HC'.out] at hml' hms hmn
      cases hf : over (fun _ _ => none) d.pend b (k : Int) with
      | none =>
        have hF := HFV.out k hf
        have hcc : C = C' := hmn hF
        have hget : (over (fun _ _ => none) d.pend).get b (k : Int) = zs 64 := by unfold Secs.get; rw [hf]; rfl
        rw [hget, hf] at hlk
        unfold pk at hlk
        simp only [Option.isSome_none] at hlk
        subst hcc
        clear hms hmn hF hgs hget hf
        have y0 : Row (wr.alloc (.cells (bs (zs 64)) 79)) wr.heap.size (bs (zs 64)) 79 := Row.new _ _ _
        have r0' : Row ((wr.alloc (.cells (bs (zs 64)) 79)).setRow wr.heap.size (bs (zs 64))) w.heap.size (bs (zs 256)) 41 := (r0.alloc _).other (by have := r0.lt; omega) _
        have r1' : Row ((wr.alloc (.cells (bs (zs 64)) 79)).setRow wr.heap.size (bs (zs 64))) X (bs C) 41 := (r1.alloc _).other (by omega) _
        have rb' : Below w.heap.size w ((wr.alloc (.cells (bs (zs 64)) 79)).setRow wr.heap.size (bs (zs 64))) := below_setRow (rb.alloc (Nat.le_of_lt r0.lt) _) (Nat.le_of_lt r0.lt) _
        go_wp2_with (first
          | (refine store_row rfl 79 (.tmp 7) (.tmp 29) rfl wr.heap.size (zs 64) rfl rfl 79 _ y0 64 size79 (by rw [bs_size, zs_length]) (zs_length 64) ?_))
        go_roundw
        case rel => exact ⟨k + 1, by go_num, by omega, r0', by rw [HC'.out]; exact r1', rb'⟩
        case measure => simp [intOf]; omega
      | some s =>
        have hs := HGV.out k s hf
        have hget : (over (fun _ _ => none) d.pend).get b (k : Int) = s := by unfold Secs.get; rw [hf]; rfl
        rw [hget, hf] at hlk
        unfold pk at hlk
        simp only [Option.isSome_some] at hlk
        rw [← hs] at hms hvl
        have HMS' : Hid (lay C k s = C') := hms
        clear hms hmn hs hgs hget hf
        have y0 : Row (wr.alloc (.cells (bs (zs 64)) 79)) wr.heap.size (bs (zs 64)) 79 := Row.new _ _ _
        have y1 : Row ((wr.alloc (.cells (bs (zs 64)) 79)).setRow wr.heap.size (bs s)) wr.heap.size (bs s) 79 := y0.set _
        have r0' : Row ((wr.alloc (.cells (bs (zs 64)) 79)).setRow wr.heap.size (bs s)) w.heap.size (bs (zs 256)) 41 := (r0.alloc _).other (by have := r0.lt; omega) _
        have r1' : Row ((wr.alloc (.cells (bs (zs 64)) 79)).setRow wr.heap.size (bs s)) X (bs C) 41 := (r1.alloc _).other (by omega) _
        have rb' : Below w.heap.size w ((wr.alloc (.cells (bs (zs 64)) 79)).setRow wr.heap.size (bs s)) := below_setRow (rb.alloc (Nat.le_of_lt r0.lt) _) (Nat.le_of_lt r0.lt) _
        go_wp2_with (first
          | (refine store_row rfl 79 (.tmp 7) (.tmp 29) rfl wr.heap.size s rfl rfl 79 _ y0 64 size79 (by rw [bs_size, zs_length]) hvl ?_)
          | (refine load_row rfl 41 (.tmp 5) rfl X rfl 41 (bs C) r1' 256 5 Try.underlying41 size41 (by rw [bs_size, hml]) ?_)
          | (refine load_row rfl 79 (.tmp 7) rfl wr.heap.size rfl 79 (bs s) y1 64 5 Try.underlying79 size79 (by rw [bs_size, hvl]) ?_)
          | (go_at_call 41; refine (lay_at C s hml hvl k hk C' HMS'.out _).mono ?_; rintro e wl ⟨rfl, hlb⟩
             have t0 := r0'.below hlb r0'.lt
             have t1 := r1'.below hlb r1'.lt
             have tb := rb'.trans (hlb.mono (Nat.le_of_lt r0'.lt)))
          | (refine store_row rfl 41 (.tmp 5) (.tmp 35) rfl X C' rfl rfl 41 _ t1 256 size41 (by rw [bs_size, hml]) hml' ?_))
        go_roundw
        case rel => exact ⟨k + 1, by go_num, by omega, t0.other (by omega) _, by rw [HC'.out]; exact t1.set _, below_setRow tb (by omega) _⟩
        case measure => simp [intOf]; omega
    · have e4 : k = 4 := by omega
      subst e4
      obtain ⟨C, HC⟩ : ∃ C, Hid (mix V F 4 = C) := ⟨_, rfl⟩
      rw [HC.out] at r1 hml
      go_wp2_with (first
        | (refine load_row rfl 41 (.tmp 5) rfl X rfl 41 (bs C) r1 256 5 Try.underlying41 size41 (by rw [bs_size, hml]) ?_)
        | (refine store_row rfl 41 (.tmp 4) (.tmp 37) rfl w.heap.size C rfl rfl 41 _ r0 256 size41 (by rw [bs_size, zs_length]) hml ?_))
      rw [HC.out]
      refine bodyPost_ret (v := .agg (bs C)) ?_ rfl ⟨rfl, below_setRow rb (Nat.le_refl _) _⟩
      exact ret_row (fn := Try.f11) rfl _ _ w.heap.size 41 (bs C) 256 5 rfl (r0.set _) Try.underlying41 size41 (by rw [bs_size, hml])
theorem ret_two {P : Program} {fn : Func} {p c : Tmp} {ty : TypeId} (h : fn.results = #[.cell p ty, .tmp c]) (tmps : Array Value) (w : World) (g : Nat) (t : TypeId) (cs : Array Value) (n : Nat) (e : TypeId) (y : Value)
    (hp : tmps.getD p undef = .pointer (some ⟨g, 0, none⟩)) (hc : tmps.getD c undef = y) (hg : Row w g cs t)
    (hu : P.underlying ty = some (.array n e)) (hi : (P.info? ty).map (·.size) = some n) (hn : cs.size = n) :
    (results fn tmps).run P w = .ok (.tuple #[.agg cs, y]) w := by
  have hp' : tmps[p]?.getD undef = .pointer (some ⟨g, 0, none⟩) := by simpa using hp
  have hc' : tmps[c]?.getD undef = y := by simpa using hc
  simp [results, h, hp', hc', asAddr, run_loadVar_row w g t ty cs (0, 0) _ hg hu rfl (by rw [hi, hn])]
theorem read_err (v : Value) (b E : Int) (hE : ¬ E = 0) (w : World) (F : Nat → Prop) (hF : ∀ k, F k → k < w.heap.size) (T : World → Prop) (hT : ∀ a c, T a → Below a.heap.size a c → T c) (hT2 : ∀ a j cs, T a → ¬ F j → T (a.setRow j cs))
    (hh : ∀ wa, Below w.heap.size w wa → Calls Try.prog 64 #[v, .int .i64 b] wa fun e w' => e = .returned (.int .i64 E) ∧ Off F wa w' ∧ T w') :
    Calls Try.prog 77 #[v, .int .i64 b] w fun e w' => e = .returned (.tuple #[.agg (bs (zs 256)), .int .i64 E]) ∧ Off F w w' ∧ T w' := by
  have hz := zero41
  have a0 : Row (w.alloc (.cells (bs (zs 256)) 41)) w.heap.size (bs (zs 256)) 41 := Row.new _ _ _
  have ab : Below w.heap.size w (w.alloc (.cells (bs (zs 256)) 41)) := (Below.refl _ _).alloc (Nat.le_refl _) _
  have hn0 : ¬ F w.heap.size := fun q => by have := hF _ q; omega
  go_enter Try.func77, Try.ntmps77
  go_wp2_with (first
    | (go_at_call 64; refine (hh _ ab).mono ?_; rintro e w' ⟨rfl, ho, ht⟩
       have q0 : Row w' w.heap.size (bs (zs 256)) 41 := a0.off ho hn0)
    | (refine build_none rfl 41 rfl (bs (zs 256)) built41 ?_)
    | (refine store_row rfl 41 (.tmp 4) (.tmp 12) rfl w.heap.size (zs 256) rfl rfl 41 _ q0 256 size41 (by rw [bs_size, zs_length]) (zs_length 256) ?_))
  refine bodyPost_ret (v := .tuple #[.agg (bs (zs 256)), .int .i64 E]) ?_ rfl ⟨rfl, ?_, hT2 _ _ _ ht hn0⟩
  · exact ret_two (fn := Try.f77) rfl _ _ w.heap.size 41 (bs (zs 256)) 256 5 (.int .i64 E) rfl rfl (q0.set _) Try.underlying41 size41 (by rw [bs_size, zs_length])
  · have o1 : Off F w w' := (Off.of_below (F := F) ab).trans ho (fun j hj => Or.inl hj)
    exact o1.trans (Off.of_setRow (F := (· = w.heap.size)) _ _ _ rfl) (fun j hj => Or.inr (by omega))
theorem read_ok (v : Value) (b : Int) (C : List Int) (hC : C.length = 256) (w : World) (F : Nat → Prop) (hF : ∀ k, F k → k < w.heap.size) (T : World → Prop) (hT : ∀ a c, T a → Below a.heap.size a c → T c) (hT2 : ∀ a j cs, T a → ¬ F j → T (a.setRow j cs))
    (hh : ∀ wa, Below w.heap.size w wa → Calls Try.prog 64 #[v, .int .i64 b] wa fun e w' => e = .returned (.int .i64 0) ∧ Off F wa w' ∧ T w')
    (hs : ∀ wa, T wa → Calls Try.prog 11 #[v, .int .i64 b] wa fun e w' => e = .returned (.agg (bs C)) ∧ Below wa.heap.size wa w') :
    Calls Try.prog 77 #[v, .int .i64 b] w fun e w' => e = .returned (.tuple #[.agg (bs C), .int .i64 0]) ∧ Off F w w' ∧ T w' := by
  have hz := zero41
  have a0 : Row (w.alloc (.cells (bs (zs 256)) 41)) w.heap.size (bs (zs 256)) 41 := Row.new _ _ _
  have ab : Below w.heap.size w (w.alloc (.cells (bs (zs 256)) 41)) := (Below.refl _ _).alloc (Nat.le_refl _) _
  have hn0 : ¬ F w.heap.size := fun q => by have := hF _ q; omega
  go_enter Try.func77, Try.ntmps77
  go_wp2_with (first
    | (go_at_call 64; refine (hh _ ab).mono ?_; rintro e w' ⟨rfl, ho, ht⟩
       have q0 : Row w' w.heap.size (bs (zs 256)) 41 := a0.off ho hn0)
    | (go_at_call 11; refine (hs _ ht).mono ?_; rintro e wz ⟨rfl, hzb⟩
       have z0 := q0.below hzb q0.lt
       have zt := hT _ _ ht hzb)
    | (refine store_row rfl 41 (.tmp 4) (.tmp 16) rfl w.heap.size C rfl rfl 41 _ z0 256 size41 (by rw [bs_size, zs_length]) hC ?_))
  refine bodyPost_ret (v := .tuple #[.agg (bs C), .int .i64 0]) ?_ rfl ⟨rfl, ?_, hT2 _ _ _ zt hn0⟩
  · exact ret_two (fn := Try.f77) rfl _ _ w.heap.size 41 (bs C) 256 5 (.int .i64 0) rfl rfl (z0.set _) Try.underlying41 size41 (by rw [bs_size, hC])
  · have o1 : Off F w wz := ((Off.of_below (F := F) ab).trans ho (fun j hj => Or.inl hj)).trans (Off.of_below (F := F) hzb) (fun j hj => Or.inl hj)
    exact o1.trans (Off.of_setRow (F := (· = w.heap.size)) _ _ _ rfl) (fun j hj => Or.inr (by omega))
def read (d : Dsk) (b : Int) : List Int × Int × Dsk := if (ask d b).1 = 0 then ((ask d b).2.seen b, 0, (ask d b).2) else (zs 256, (ask d b).1, (ask d b).2)
theorem count_seen (d : Dsk) (b : Int) : (count d).2.seen b = d.seen b := by unfold count; split; · rfl
                                                                             · split <;> rfl
theorem Dsk.seen_length {w : World} {g : Nat} {d : Dsk} {L : Loc} {N : Nat} (h : DAt w g d L N) (b : Int) (hb : 0 ≤ b ∧ b < d.n) : (d.seen b).length = 256 ∧ Bytes (d.seen b) := by
  have hn := h.small
  have wb : Wf b := wf_of (by omega) (by omega)
  obtain ⟨s, hs, _⟩ := h.sure
  have key : ∀ i : Nat, i < 4 → Sec ((over d.sure d.pend).get b (i : Int)) := fun i hi => by
    have wi : Wf (i : Int) := wf_of (by omega) (by omega)
    unfold Secs.get
    rw [over_or]
    cases e : over (fun _ _ => none) d.pend b (i : Int) with
    | none =>
      have := hs.get_sec wb wi
      unfold Secs.get at this
      simpa using this
    | some x => simpa using h.fresh.sec wb wi e
  exact ⟨(blk_getD _ (fun i hi => (key i hi).1) 4 (by omega)).1, blk_bytes _ key⟩
theorem ask_in {d : Dsk} {b : Int} (h : (ask d b).1 = 0) : 0 ≤ b ∧ b < (d.n : Int) ∧ ask d b = count d := by
  unfold ask at h ⊢
  split at h
  · cases h
  · rename_i h1
    split at h
    · rename_i h2
      rw [if_neg h1, if_pos h2]; exact ⟨h2.1, h2.2, rfl⟩
    · cases h
theorem count_n (d : Dsk) : (count d).2.n = d.n := by unfold count; split; · rfl
                                                      · split <;> rfl
theorem DAt.setRow {w : World} {g : Nat} {d : Dsk} {L : Loc} {N : Nat} (h : DAt w g d L N) (j : Nat) (cs : Array Value) (hj : ¬ foot g L j) : DAt (w.setRow j cs) g d L N :=
  h.off (F := (· = j)) (Off.of_setRow _ _ _ rfl) (fun k hk q => hj (q ▸ hk))
theorem read_any {w : World} {g : Nat} {d : Dsk} {L : Loc} {N : Nat} (h : DAt w g d L N) (ho : d.ops < 9223372036854775806) (b : Int) :
    Calls Try.prog 77 #[.pointer (some ⟨g, 0, none⟩), .int .i64 b] w fun e w' => e = .returned (.tuple #[.agg (bs (read d b).1), .int .i64 (read d b).2.1]) ∧ DAt w' g (read d b).2.2 L N ∧ Off (foot g L) w w' := by
  have hF : ∀ k, foot g L k → k < w.heap.size := fun k hk => h.lt hk
  have hask : ∀ wa, Below w.heap.size w wa → Calls Try.prog 64 #[.pointer (some ⟨g, 0, none⟩), .int .i64 b] wa fun e w' => e = .returned (.int .i64 (ask d b).1) ∧ Off (foot g L) wa w' ∧ DAt w' g (ask d b).2 L N := fun wa hb => by
    refine (ask_any (h.below hb) ho b).mono ?_
    rintro e w' ⟨rfl, h1, h2⟩
    exact ⟨rfl, h2.mono (fun j hj => Or.inl (Or.inl hj)), h1⟩
  by_cases e0 : (ask d b).1 = 0
  · have er : read d b = ((ask d b).2.seen b, 0, (ask d b).2) := by unfold read; rw [if_pos e0]
    rw [er]
    rw [e0] at hask
    obtain ⟨b1, b2, b3⟩ := ask_in e0
    have hlen : ((ask d b).2.seen b).length = 256 := by rw [b3, count_seen]; exact (Dsk.seen_length h b ⟨b1, b2⟩).1
    refine (read_ok _ b ((ask d b).2.seen b) hlen w (foot g L) hF (fun w' => DAt w' g (ask d b).2 L N) (fun a c ha hb => ha.below hb) (fun a j cs ha hj => ha.setRow j cs hj) hask ?_).mono ?_
    · intro wa ha
      exact seen_in ha b ⟨b1, by rw [b3, count_n]; exact b2⟩
    · rintro e w' ⟨rfl, h1, h2⟩
      exact ⟨rfl, h2, h1⟩
  · have er : read d b = (zs 256, (ask d b).1, (ask d b).2) := by unfold read; rw [if_neg e0]
    rw [er]
    refine (read_err _ b (ask d b).1 e0 w (foot g L) hF (fun w' => DAt w' g (ask d b).2 L N) (fun a c ha hb => ha.below hb) (fun a j cs ha hj => ha.setRow j cs hj) hask).mono ?_
    rintro e w' ⟨rfl, h1, h2⟩
    exact ⟨rfl, h2, h1⟩
def Dsk.new (n : Nat) : Dsk := ⟨n, fun _ _ => none, [], false, 0, 0, fun _ => false⟩
def Loc.new (k : Nat) : Loc := ⟨k, k + 1, .slice none 0 0, .map none⟩
theorem new_at (w : World) (n : Nat) (h1 : 1 ≤ n) (h2 : n ≤ 2048) : DAt (((w.alloc (.map #[] 0)).alloc (.map #[] 0)).alloc (.cells (dcells (Dsk.new n) (Loc.new w.heap.size)) 88)) (w.heap.size + 2) (Dsk.new n) (Loc.new w.heap.size) 0 where
  row := by have := Row.new ((w.alloc (.map #[] 0)).alloc (.map #[] 0)) (dcells (Dsk.new n) (Loc.new w.heap.size)) 88; simpa using this
  sure := ⟨0, ((SMap.made w).kept (Below.heap_alloc _ _ _ (by simp))).kept (Below.heap_alloc _ _ _ (by simp [Loc.new]; omega)), Nat.le_refl _⟩
  fresh := by
    have := (SMap.made (w.alloc (.map #[] 0))).kept (w' := ((w.alloc (.map #[] 0)).alloc (.map #[] 0)).alloc (.cells (dcells (Dsk.new n) (Loc.new w.heap.size)) 88)) (Below.heap_alloc _ _ _ (by simp))
    simpa [Loc.new, Dsk.new, over] using this
  ab := by simp [Loc.new]
  pend := World.ownsRow_nil _ _ _ _
  fails := FMap.none _
  fa := by simp [Loc.new]
  fb := by simp [Loc.new]
  big := by decide
  okp := fun q hq => nomatch hq
  small := ⟨h1, h2⟩
  opsn := by simp [Dsk.new]
  fusew := wf_of (by simp [Dsk.new]) (by simp [Dsk.new])
theorem new_walk (n : Nat) (h1 : 1 ≤ n) (h2 : n ≤ 2048) (w : World) :
    Calls Try.prog 34 #[.int .i64 n] w fun e w' => e = .returned (.pointer (some ⟨w.heap.size + 1 + 1, 0, none⟩)) ∧ w' = (((w.alloc (.map #[] 0)).alloc (.map #[] 0)).alloc (.cells (dcells (Dsk.new n) (Loc.new w.heap.size)) 88)) := by
  have hmm := @run_makeMap Try.prog
  have k1 : ¬ (n : Int) < 1 := by omega
  have k2 : ¬ (n : Int) > 2048 := by omega
  go_enter Try.func34, Try.ntmps34
  go_wp2
  go_ret
  exact ⟨rfl, rfl⟩
theorem new_some (n : Nat) (h1 : 1 ≤ n) (h2 : n ≤ 2048) (w : World) :
    Calls Try.prog 34 #[.int .i64 n] w fun e w' => e = .returned (.pointer (some ⟨w.heap.size + 2, 0, none⟩)) ∧ DAt w' (w.heap.size + 2) (Dsk.new n) (Loc.new w.heap.size) 0 ∧ Below w.heap.size w w' := by
  refine (new_walk n h1 h2 w).mono ?_
  rintro e w' ⟨rfl, rfl⟩
  exact ⟨rfl, new_at w n h1 h2, (((Below.refl _ _).alloc (Nat.le_refl _) _).alloc (by simp) _).alloc (by simp; omega) _⟩
theorem new_foot (k j : Nat) (h : foot (k + 2) (Loc.new k) j) : k ≤ j := by
  rcases h with rfl | rfl | rfl | e | e
  · omega
  · exact Nat.le_refl _
  · simp [Loc.new]
  · simp [Loc.new, Value.ownBlock] at e
  · simp [Loc.new] at e
def filled (b : Int) : List Int := fl 256 fun j => (b + (j / 64 : Nat)) % 256
theorem splice_set {α : Type} (L : List α) (o : Nat) (x : α) (r : List α) (h : o < L.length) : splice (L.set o x) (o + 1) r = splice L o (x :: r) := by
  unfold splice
  have e1 : (L.set o x).take (o + 1) = L.take o ++ [x] := by
    rw [List.take_add_one, List.take_set_of_le (by omega)]
    simp [h]
  have e2 : (L.set o x).drop (o + 1 + r.length) = L.drop (o + (x :: r).length) := by
    rw [List.drop_set_of_lt (by omega)]
    simp; congr 1; omega
  rw [e1, e2]; simp
theorem fold_set : ∀ (l : List Value) (n off : Nat) (cs : Array Value), off + n + l.length ≤ cs.size → (l.zipIdx n).foldl (fun cs (p : Value × Nat) => cs.setIfInBounds (off + p.2) p.1) cs = (⟨splice cs.toList (off + n) l⟩ : Array Value)
  | [], n, off, cs, h => by simp [splice]
  | x :: r, n, off, cs, h => by
    rw [List.zipIdx_cons, List.foldl_cons, fold_set r (n + 1) off _ (by simp at h ⊢; omega)]
    congr 1
    simp only [Array.toList_setIfInBounds]
    have := splice_set cs.toList (off + n) x r (by simp at h ⊢; omega)
    rw [← this]; rfl
theorem fold_arr (v : Array Value) (off : Nat) (cs : Array Value) (h : off + v.size ≤ cs.size) : v.zipIdx.foldl (fun cs (p : Value × Nat) => cs.setIfInBounds (off + p.2) p.1) cs = (⟨splice cs.toList off v.toList⟩ : Array Value) := by
  rw [← Array.foldl_toList, Array.toList_zipIdx]
  exact fold_set v.toList 0 off cs (by simpa using h)
theorem fill_step (place : Nat → Option (Nat × Nat)) (cells : Array Value) (i : Nat) (v : Value) (rest : List (Nat × Value)) (off size : Nat) (hp : place i = some (off, size)) (h1 : v.cells.size = size) (h2 : off + size ≤ cells.size) :
    Instr.fill place cells ((i, v) :: rest) = Instr.fill place ⟨splice cells.toList off v.cells.toList⟩ rest := by
  have : ¬ (decide (v.cells.size ≠ size) || decide (off + v.cells.size > cells.size)) = true := by simp [h1]; omega
  rw [Instr.fill, hp]
  simp only []
  rw [if_neg this]
  have := fold_arr v.cells off cells (by omega)
  rw [← this]
def wcells (b s : Int) (xs : List Int) : Array Value := (pcell (b, s, xs)).toArray
theorem wcells_size (b s : Int) (xs : List Int) (h : xs.length = 64) : (wcells b s xs).size = 66 := by simp [wcells, pcell, h]
theorem wcells_one (b s : Int) (xs : List Int) : (wcells b s xs).all (·.oneCell') = true := by simp [wcells, pcell, Value.oneCell']
theorem info136 : (Try.prog.info? 136).map (fun i => (i.zero, i.size, i.bytes)) = some (some (.agg (wcells 0 0 (zs 64))), 66, 80) := by kernel_rfl
theorem size90 : (Try.prog.info? 90).map (·.size) = some 2 := by kernel_rfl
theorem size136 : (Try.prog.info? 136).map (·.size) = some 66 := by kernel_rfl
theorem zero136 (w : World) : (zeroValue 136).run Try.prog w = .ok (.agg (wcells 0 0 (zs 64))) w := (zero_of_info (P := Try.prog) (t := 136) (v := .agg (wcells 0 0 (zs 64))) (n := 66) (by kernel_rfl)).1 w
theorem built136 (b s : Int) (xs : List Int) (h : xs.length = 64) : Try.prog.built 136 [(0, .agg #[.int .i64 b, .int .i64 s]), (1, .agg (bs xs))] = some (wcells b s xs) := by
  unfold Program.built
  have h81 := info136
  cases hq : Try.prog.info? 136 with
  | none => simp [hq] at h81
  | some it =>
    simp [hq] at h81
    rw [Try.underlying136]
    cases h74 : Try.prog.info? 90 with
    | none => have := size90; simp [h74] at this
    | some i74 =>
      cases h71 : Try.prog.info? 79 with
      | none => have := size79; simp [h71] at this
      | some i71 =>
        have e74 := size90; have e71 := size79
        simp [h74] at e74; simp [h71] at e71
        simp [h74, h71, h81.1, e74, e71]
        have hz : (wcells 0 0 (zs 64)).size = 66 := wcells_size _ _ _ (zs_length 64)
        have hz2 : (⟨splice (wcells 0 0 (zs 64)).toList 0 #[Value.int .i64 b, Value.int .i64 s].toList⟩ : Array Value).size = 66 := by
          simp [splice, wcells, pcell, zs]
        have hz0 : (Value.agg (wcells 0 0 (zs 64))).cells = wcells 0 0 (zs 64) := rfl
        rw [hz0, fill_step _ _ 0 _ _ 0 2 rfl rfl (by omega), fill_step _ _ 1 _ _ 2 64 rfl (by show (bs xs).size = 64; rw [bs_size, h]) (by show 2 + 64 ≤ Array.size _; exact Nat.le_of_eq hz2.symm)]
        unfold Instr.fill
        congr 1
        show (⟨splice (splice (wcells 0 0 (zs 64)).toList 0 [Value.int .i64 b, Value.int .i64 s]) 2 (bs xs).toList⟩ : Array Value) = wcells b s xs
        unfold wcells pcell bs
        simp [splice, zs, h]
theorem build_two {P : Program} {ops : Array Oper} {rest : List Oper} {o : Oper} {a : Act} {w : World} {Q : Exit → Act → World → Prop} (hg : o.guard = none) (t : TypeId) (x y : Operand) (ho : o.op = .build t #[(0, x), (1, y)]) (u v : Value) (hx : a.eval x = u) (hy : a.eval y = v) (cs : Array Value)
    (hb : P.built t [(0, u), (1, v)] = some cs) (h : wpList P ops Q rest (a.put o.dst (.agg cs)) w) : wpList P ops Q (o :: rest) a w :=
  wpList_build hg t #[(0, x), (1, y)] ho (by simp [hx, hy, hb]) (by simpa [hx, hy, hb] using h)
theorem range_key {w : World} {g : Nat} {b s : Int} {xs : List Int} {t : TypeId} (h : Row w g (wcells b s xs) t) : w.rangeAt g 0 [.int .i64 b, .int .i64 s] := by
  intro j v hv
  have : j = 0 ∨ j = 1 := by
    have := (List.getElem?_eq_some_iff.1 hv).1
    simp at this; omega
  rw [cell_of_row w g _ _ _ _ h]
  rcases this with rfl | rfl <;> simpa [wcells, pcell] using hv
theorem range_sec {w : World} {g : Nat} {b s : Int} {xs : List Int} {t : TypeId} (h : Row w g (wcells b s xs) t) : w.rangeAt g 2 (xs.map (Value.int .u8)) := by
  intro j v hv
  rw [cell_of_row w g _ _ _ _ h]
  simpa [wcells, pcell, Nat.add_comm 2 j] using hv
end Go.Proofs.Ytehogiondcpbcaa
