/-
  Proved here: what disk.Seen tells of a block: all writes over what lasts.
-/
import Derived.Test.YtcbjjofckhohjaaBlk
namespace Go.Proofs.Ytcbjjofckhohjaa
open Go.ChangeShapes Go.WideShapes Go.ChangeAt Go.RowKit
set_option linter.unusedVariables false
set_option linter.unusedSimpArgs false
set_option maxRecDepth 20000

/-- A block as a Read tells it. -/
def Dsk.seen (d : Dsk) (b : Int) : List Int := (over d.sure d.pend).block b
/-- The first k sectors by one, the others by another. -/
def mix (f g : Nat → List Int) (k : Nat) : List Int := blk (fun i => if i < k then f i else g i) 4
theorem mix_zero (f g : Nat → List Int) : mix f g 0 = blk g 4 := by unfold mix; congr 1
theorem mix_four (f g : Nat → List Int) (hf : ∀ i, i < 4 → (f i).length = 64) (hg : ∀ i, i < 4 → (g i).length = 64) : mix f g 4 = blk f 4 := by
  unfold mix
  refine blk_congr _ _ (fun i hi => ?_) (fun i hi => ?_)
  · simp only [if_pos hi]; exact hf i hi
  · simp only [if_pos hi]
theorem mix_len {f g : Nat → List Int} (hf : ∀ i, i < 4 → (f i).length = 64) (hg : ∀ i, i < 4 → (g i).length = 64) (k : Nat) : ∀ i, i < 4 → (if i < k then f i else g i).length = 64 := fun i hi => by
  by_cases e : i < k
  · rw [if_pos e]; exact hf i hi
  · rw [if_neg e]; exact hg i hi
theorem mix_length (f g : Nat → List Int) (hf : ∀ i, i < 4 → (f i).length = 64) (hg : ∀ i, i < 4 → (g i).length = 64) (k : Nat) : (mix f g k).length = 256 :=
  (blk_getD _ (mix_len hf hg k) 4 (by omega)).1
theorem mix_lay (f g : Nat → List Int) (hf : ∀ i, i < 4 → (f i).length = 64) (hg : ∀ i, i < 4 → (g i).length = 64) (k : Nat) (hk : k < 4) : lay (mix f g k) k (f k) = mix f g (k + 1) := by
  unfold mix
  rw [lay_blk _ (mix_len hf hg k) k hk (f k) (hf k hk)]
  refine blk_congr _ _ (fun i hi => ?_) (fun i hi => ?_)
  · by_cases e : i = k
    · rw [if_pos e]; exact hf k hk
    · rw [if_neg e]; exact mix_len hf hg k i hi
  · by_cases e : i = k
    · subst e; rw [if_pos rfl, if_pos (by omega)]
    · rw [if_neg e]
      by_cases e2 : i < k
      · rw [if_pos e2, if_pos (by omega)]
      · rw [if_neg e2, if_neg (by omega)]
theorem mix_skip (f g : Nat → List Int) (hf : ∀ i, i < 4 → (f i).length = 64) (hg : ∀ i, i < 4 → (g i).length = 64) (k : Nat) (hk : k < 4) (e : f k = g k) : mix f g k = mix f g (k + 1) := by
  unfold mix
  refine blk_congr _ _ (mix_len hf hg k) (fun i hi => ?_)
  by_cases e1 : i = k
  · subst e1; rw [if_neg (by omega), if_pos (by omega), e]
  · by_cases e2 : i < k
    · rw [if_pos e2, if_pos (by omega)]
    · rw [if_neg e2, if_neg (by omega)]

theorem sure_to {w : World} {g : Nat} {d : Dsk} {L : Loc} {N : Nat} (hd : DAt w g d L N) (b : Int) (hb : 0 ≤ b ∧ b < d.n) (C : List Int) (hC : d.sure.block b = C) :
    Calls Try.prog 55 #[.pointer (some ⟨g, 0, none⟩), .int .i64 b] w fun e w' => e = .returned (.agg (bs C)) ∧ Below w.heap.size w w' := by
  subst hC; exact sure_in hd b hb

set_option maxHeartbeats 1000000 in
theorem seen_in {w : World} {g : Nat} {d : Dsk} {L : Loc} {N : Nat} (hd : DAt w g d L N) (b : Int) (hb : 0 ≤ b ∧ b < d.n) :
    Calls Try.prog 49 #[.pointer (some ⟨g, 0, none⟩), .int .i64 b] w fun e w' => e = .returned (.agg (bs (d.seen b))) ∧ Below w.heap.size w w' := by
  have hn := hd.small
  have wb : Wf b := wf_of (by omega) (by omega)
  have hb' : decide (0 ≤ b ∧ b < (d.n : Int)) = true := decide_eq_true hb
  have HB : Hid (0 ≤ b ∧ b < (d.n : Int)) := hb
  clear hb
  obtain ⟨sN, hsu, _⟩ := hd.sure
  have wk : Hid (∀ i : Nat, i < 4 → Wf (i : Int)) := fun i hi => wf_of (by omega) (by omega)
  obtain ⟨F, HF⟩ : ∃ F : Nat → List Int, Hid (∀ i : Nat, d.sure.get b (i : Int) = F i) := ⟨fun i => d.sure.get b (i : Int), fun _ => rfl⟩
  obtain ⟨V, HV⟩ : ∃ V : Nat → List Int, Hid (∀ i : Nat, (over d.sure d.pend).get b (i : Int) = V i) := ⟨fun i => (over d.sure d.pend).get b (i : Int), fun _ => rfl⟩
  have HFL : Hid (∀ i, i < 4 → (F i).length = 64) := fun i hi => by rw [← HF.out i]; exact (hsu.get_sec wb (wk.out i hi)).1
  have HFV : Hid (∀ i : Nat, over (fun _ _ => none) d.pend b (i : Int) = none → F i = V i) := fun i e => by
    rw [← HF.out i, ← HV.out i]; unfold Secs.get; rw [over_or, e]; rfl
  have HGV : Hid (∀ i : Nat, ∀ s, over (fun _ _ => none) d.pend b (i : Int) = some s → s = V i) := fun i s e => by
    rw [← HV.out i]; unfold Secs.get; rw [over_or, e]; rfl
  have HVL : Hid (∀ i, i < 4 → (V i).length = 64) := fun i hi => by
    cases e : over (fun _ _ => none) d.pend b (i : Int) with
    | none => rw [← HFV.out i e]; exact HFL.out i hi
    | some s => rw [← HGV.out i s e]; exact (hd.fresh.sec wb (wk.out i hi) e).1
  have HS : Hid (d.sure.block b = mix V F 0) := by
    show _ = _
    rw [mix_zero]; unfold Secs.block
    congr 1; funext i; exact HF.out i
  have HE : Hid (d.seen b = mix V F 4) := by
    show _ = _
    rw [mix_four V F HVL.out HFL.out]; unfold Dsk.seen Secs.block
    congr 1; funext i; exact HV.out i
  rw [HE.out]
  have HML : Hid (∀ k, (mix V F k).length = 256) := mix_length V F HVL.out HFL.out
  have HMS : Hid (∀ k, k < 4 → lay (mix V F k) k (V k) = mix V F (k + 1)) := mix_lay V F HVL.out HFL.out
  have HMN : Hid (∀ k, k < 4 → F k = V k → mix V F k = mix V F (k + 1)) := fun k hk e => mix_skip V F HVL.out HFL.out k hk e.symm
  have hm0 := HML.out 0
  obtain ⟨C0, HC0⟩ : ∃ C0, Hid (mix V F 0 = C0) := ⟨_, rfl⟩
  rw [HC0.out] at hm0
  have HS' : Hid (d.sure.block b = C0) := by show _ = _; rw [HS.out, HC0.out]
  have hz := zero29
  have a0 : Row (w.alloc (.cells (bs (zs 256)) 29)) w.heap.size (bs (zs 256)) 29 := Row.new _ _ _
  have ab : Below w.heap.size w (w.alloc (.cells (bs (zs 256)) 29)) := (Below.refl _ _).alloc (Nat.le_refl _) _
  go_enter Try.func49, Try.ntmps49
  go_wp2_with (first
    | (go_at_call 55; refine (sure_to (hd.below ab) b HB.out C0 HS'.out).mono ?_; rintro e wz ⟨rfl, hzb⟩
       have hX : w.heap.size < wz.heap.size := Nat.lt_of_lt_of_le a0.lt hzb.size
       have q0 : Row (wz.alloc (.cells (bs (zs 256)) 29)) w.heap.size (bs (zs 256)) 29 := (a0.below hzb a0.lt).alloc _
       have q1 : Row (wz.alloc (.cells (bs (zs 256)) 29)) wz.heap.size (bs (zs 256)) 29 := Row.new _ _ _
       have z0 : Row ((wz.alloc (.cells (bs (zs 256)) 29)).setRow wz.heap.size (bs C0)) w.heap.size (bs (zs 256)) 29 := q0.other (by omega) _
       have z1 : Row ((wz.alloc (.cells (bs (zs 256)) 29)).setRow wz.heap.size (bs C0)) wz.heap.size (bs C0) 29 := q1.set _
       have zb : Below w.heap.size w ((wz.alloc (.cells (bs (zs 256)) 29)).setRow wz.heap.size (bs C0)) := below_setRow (((ab.trans (hzb.mono (Nat.le_of_lt a0.lt)))).alloc (Nat.le_of_lt hX) _) (Nat.le_of_lt hX) _)
    | (refine store_row rfl 29 (.tmp 5) (.tmp 11) rfl wz.heap.size C0 rfl rfl 29 _ q1 256 size29 (by rw [bs_size, zs_length]) hm0 ?_)
    | (go_at_call 46; refine (has_any (hd.below zb) b).mono ?_; rw [hb']; rintro e w' ⟨rfl, rfl⟩))
  clear q0 q1 a0 ab
  generalize (wz.alloc (.cells (bs (zs 256)) 29)).setRow wz.heap.size (bs C0) = w1 at z0 z1 zb ⊢
  generalize wz.heap.size = X at *
  rw [← HC0.out] at z1
  clear hzb
  go_loopw [17] (fun c wr => ∃ k : Nat, c = .int .i64 k ∧ k ≤ 4 ∧ Row wr w.heap.size (bs (zs 256)) 29 ∧ Row wr X (bs (mix V F k)) 29 ∧ Below w.heap.size w wr) (fun c _ => 4 - (intOf c).toNat)
  case atStart => exact ⟨0, rfl, by omega, z0, z1, zb⟩
  case round =>
    clear z0 z1 zb
    obtain ⟨k, rfl, hk4, r0, r1, rb⟩ := hrel
    have hml := HML.out k
    by_cases hk : k < 4
    · have hml' := HML.out (k + 1)
      have hvl := HVL.out k hk
      have dr := hd.below rb
      have hlk := dr.fresh.look_ok wb (wk.out k hk)
      have hgs := (dr.fresh.get_sec wb (wk.out k hk)).1
      have c2 := row_at dr.row 2 (.map (some L.b)) rfl
      have hz71 := zero81
      have hX' := r1.lt
      have hms := HMS.out k hk
      have hmn := HMN.out k hk
      obtain ⟨C, HC⟩ : ∃ C, Hid (mix V F k = C) := ⟨_, rfl⟩
      obtain ⟨C', HC'⟩ : ∃ C', Hid (mix V F (k + 1) = C') := ⟨_, rfl⟩
      rw [HC.out] at r1 hml hms hmn
      rw [HC'.out] at hml' hms hmn
      cases hf : over (fun _ _ => none) d.pend b (k : Int) with
      | none =>
        have hF := HFV.out k hf
        have hcc : C = C' := hmn hF
        have hget : (over (fun _ _ => none) d.pend).get b (k : Int) = zs 64 := by unfold Secs.get; rw [hf]; rfl
        rw [hget, hf] at hlk
        unfold pk at hlk
        simp only [Option.isSome_none] at hlk
        subst hcc
        clear hms hmn hF hgs hget hf
        have y0 : Row (wr.alloc (.cells (bs (zs 64)) 81)) wr.heap.size (bs (zs 64)) 81 := Row.new _ _ _
        have r0' : Row ((wr.alloc (.cells (bs (zs 64)) 81)).setRow wr.heap.size (bs (zs 64))) w.heap.size (bs (zs 256)) 29 := (r0.alloc _).other (by have := r0.lt; omega) _
        have r1' : Row ((wr.alloc (.cells (bs (zs 64)) 81)).setRow wr.heap.size (bs (zs 64))) X (bs C) 29 := (r1.alloc _).other (by omega) _
        have rb' : Below w.heap.size w ((wr.alloc (.cells (bs (zs 64)) 81)).setRow wr.heap.size (bs (zs 64))) := below_setRow (rb.alloc (Nat.le_of_lt r0.lt) _) (Nat.le_of_lt r0.lt) _
        go_wp2_with (first
          | (refine store_row rfl 81 (.tmp 7) (.tmp 29) rfl wr.heap.size (zs 64) rfl rfl 81 _ y0 64 size81 (by rw [bs_size, zs_length]) (zs_length 64) ?_))
        go_roundw
        case rel => exact ⟨k + 1, by go_num, by omega, r0', by rw [HC'.out]; exact r1', rb'⟩
        case measure => simp [intOf]; omega
      | some s =>
        have hs := HGV.out k s hf
        have hget : (over (fun _ _ => none) d.pend).get b (k : Int) = s := by unfold Secs.get; rw [hf]; rfl
        rw [hget, hf] at hlk
        unfold pk at hlk
        simp only [Option.isSome_some] at hlk
        rw [← hs] at hms hvl
        have HMS' : Hid (lay C k s = C') := hms
        clear hms hmn hs hgs hget hf
        have y0 : Row (wr.alloc (.cells (bs (zs 64)) 81)) wr.heap.size (bs (zs 64)) 81 := Row.new _ _ _
        have y1 : Row ((wr.alloc (.cells (bs (zs 64)) 81)).setRow wr.heap.size (bs s)) wr.heap.size (bs s) 81 := y0.set _
        have r0' : Row ((wr.alloc (.cells (bs (zs 64)) 81)).setRow wr.heap.size (bs s)) w.heap.size (bs (zs 256)) 29 := (r0.alloc _).other (by have := r0.lt; omega) _
        have r1' : Row ((wr.alloc (.cells (bs (zs 64)) 81)).setRow wr.heap.size (bs s)) X (bs C) 29 := (r1.alloc _).other (by omega) _
        have rb' : Below w.heap.size w ((wr.alloc (.cells (bs (zs 64)) 81)).setRow wr.heap.size (bs s)) := below_setRow (rb.alloc (Nat.le_of_lt r0.lt) _) (Nat.le_of_lt r0.lt) _
        go_wp2_with (first
          | (refine store_row rfl 81 (.tmp 7) (.tmp 29) rfl wr.heap.size s rfl rfl 81 _ y0 64 size81 (by rw [bs_size, zs_length]) hvl ?_)
          | (refine load_row rfl 29 (.tmp 5) rfl X rfl 29 (bs C) r1' 256 5 Try.underlying29 size29 (by rw [bs_size, hml]) ?_)
          | (refine load_row rfl 81 (.tmp 7) rfl wr.heap.size rfl 81 (bs s) y1 64 5 Try.underlying81 size81 (by rw [bs_size, hvl]) ?_)
          | (go_at_call 40; refine (lay_at C s hml hvl k hk C' HMS'.out _).mono ?_; rintro e wl ⟨rfl, hlb⟩
             have t0 := r0'.below hlb r0'.lt
             have t1 := r1'.below hlb r1'.lt
             have tb := rb'.trans (hlb.mono (Nat.le_of_lt r0'.lt)))
          | (refine store_row rfl 29 (.tmp 5) (.tmp 35) rfl X C' rfl rfl 29 _ t1 256 size29 (by rw [bs_size, hml]) hml' ?_))
        go_roundw
        case rel => exact ⟨k + 1, by go_num, by omega, t0.other (by omega) _, by rw [HC'.out]; exact t1.set _, below_setRow tb (by omega) _⟩
        case measure => simp [intOf]; omega
    · have e4 : k = 4 := by omega
      subst e4
      obtain ⟨C, HC⟩ : ∃ C, Hid (mix V F 4 = C) := ⟨_, rfl⟩
      rw [HC.out] at r1 hml
      go_wp2_with (first
        | (refine load_row rfl 29 (.tmp 5) rfl X rfl 29 (bs C) r1 256 5 Try.underlying29 size29 (by rw [bs_size, hml]) ?_)
        | (refine store_row rfl 29 (.tmp 4) (.tmp 37) rfl w.heap.size C rfl rfl 29 _ r0 256 size29 (by rw [bs_size, zs_length]) hml ?_))
      rw [HC.out]
      refine bodyPost_ret (v := .agg (bs C)) ?_ rfl ⟨rfl, below_setRow rb (Nat.le_refl _) _⟩
      exact ret_row (fn := Try.f49) rfl _ _ w.heap.size 29 (bs C) 256 5 rfl (r0.set _) Try.underlying29 size29 (by rw [bs_size, hml])
end Go.Proofs.Ytcbjjofckhohjaa
