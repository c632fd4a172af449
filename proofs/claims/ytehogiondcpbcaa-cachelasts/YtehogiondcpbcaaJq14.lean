/-
  Proved here: log.Flush, where nothing is open.
-/
import Derived.Test.YtehogiondcpbcaaJq13
namespace Go.Proofs.Ytehogiondcpbcaa
open Go.ChangeShapes Go.WideShapes Go.ChangeAt Go.RowKit
set_option linter.unusedVariables false
set_option linter.unusedSimpArgs false
set_option maxRecDepth 20000
set_option maxHeartbeats 16000000 in
theorem flush_shut (w wr : World) (gl gd : Nat) (F : Nat → Prop) (l1 : Lg) (d : Dsk) (N : Nat) (hL : LStep w gl gd F l1 d N wr) (ho : l1.open_.size = 0) (hln1 : l1.sealed.length ≤ 900) (hok1 : ∀ c ∈ l1.sealed, c.Ok) (hat1 : 0 ≤ l1.at_ ∧ l1.at_ ≤ 4294967295) (hsz1 : 1 ≤ l1.size ∧ l1.size ≤ 4294967295) (hla1 : l1.last.length ≤ 10000) (hop1 : d.ops + l1.sealed.length + 4 < 9223372036854775806) (hN1 : N + 4 * l1.sealed.length + 8 < 1000000000000) :
    Calls Try.prog 126 #[.pointer (some ⟨gl, 0, none⟩)] wr fun e w' => e = .returned (.int .i64 (flushC l1 d).1) ∧ LStep w gl gd F (flushC l1 d).2.1 (flushC l1 d).2.2 (N + 4 * (l1.sealed.length + 1)) w' := by
  have HW := fways w gl gd F l1 d N hN1
  generalize (fun (e : Ending) (w' : World) => e = .returned (.int .i64 (flushC l1 d).1) ∧ LStep w gl gd F (flushC l1 d).2.1 (flushC l1 d).2.2 (N + 4 * (l1.sealed.length + 1)) w') = PP at HW ⊢
  unfold FWays at HW
  have HRF : Hid _ := HW
  clear HW
  have ho' : l1.open_ = { data := #[] } := by
    obtain ⟨⟨x⟩⟩ : Nonempty Unit := ⟨()⟩
    exact ByteArray.ext (Array.eq_empty_of_size_eq_zero ho)
  have h6 := hL
  clear hL
  obtain ⟨vl0, vs0, L0, hD, hO, hF⟩ := h6
  have c6 : wr.cell? ⟨gl, 6, none⟩ = some (.string l1.open_) := row_at hD.row 6 _ rfl
  rw [ho'] at c6
  have h6 : LStep w gl gd F l1 d N wr := ⟨_, _, _, hD, hO, hF⟩
  clear hD hO hF ho ho'
  go_enter Try.func126, Try.ntmps126
  go_upto_region 6 with fail
  clear c6
  obtain ⟨w1, Hw1⟩ : ∃ w1, Hid (wr = w1) := ⟨_, rfl⟩
  rw [Hw1.out] at h6 ⊢
  obtain ⟨vl0, vs0, L0, hD, hO, hF⟩ := h6
  obtain ⟨ob, cb, hvs⟩ := hD.sld.form
  have c5 : w1.cell? ⟨gl, 5, none⟩ = some vs0 := row_at hD.row 5 _ rfl
  have c8 : w1.cell? ⟨gl, 8, none⟩ = some (.bool l1.fresh) := row_at hD.row 8 _ rfl
  rw [hvs] at c5
  cases hfr : l1.fresh with
  | false =>
    rw [hfr] at c8
    have HR2 : Hid _ := HRF.out.1 (fun q => by rw [hfr] at q; cases q.1)
    have h12 : LStep w gl gd F l1 d N w1 := ⟨_, _, _, hD, hO, hF⟩
    clear hD hO hF hvs HRF hfr
    go_upto_region 12 with fail
    clear c5 c8
    obtain ⟨l2, Hl2⟩ : ∃ l2, Hid (l1 = l2) := ⟨_, rfl⟩
    rw [Hl2.out] at HR2 h12 hok1 hln1 hat1 hsz1 hla1 hop1 hN1
    obtain ⟨d2, Hd2⟩ : ∃ d2, Hid (d = d2) := ⟨_, rfl⟩
    rw [Hd2.out] at HR2 h12 hop1
    obtain ⟨N2, HN2⟩ : ∃ N2, Hid (N = N2) := ⟨_, rfl⟩
    rw [HN2.out] at h12 hN1 HR2
    have hok2 := hok1
    have hln2 := hln1
    have hat2 := hat1
    have hsz2 := hsz1
    have hop2 : d2.ops + l2.sealed.length + 2 < 9223372036854775806 := by omega
    have hN2 : N2 + 4 * l2.sealed.length + 4 < 1000000000000 := by omega
    obtain ⟨vl0, vs0, L0, hD, hO, hF⟩ := h12
    obtain ⟨ob, cb, hvs⟩ := hD.sld.form
    have HLAY : Hid _ := LStep.lay (w := w) (F := F) (gl := gl) (gd := gd) ⟨vl0, vs0, L0, hD, hO, hF⟩ 0 l2.sealed.length hok2 (by omega) (Nat.le_refl _) (by omega) hat2 hsz2 (by omega) (by omega)
    obtain ⟨M, HM⟩ : ∃ M, Hid (l2.sealed.length = M) := ⟨_, rfl⟩
    have hMb : M ≤ 900 := by rw [← HM.out]; exact hln2
    rw [HM.out] at HLAY hvs HR2
    have etk : (l2.sealed.drop 0).take (M - 0) = l2.sealed.drop 0 := List.take_of_length_le (by rw [List.length_drop, HM.out]; exact Nat.le_refl _)
    rw [etk] at HLAY
    have c5 : w1.cell? ⟨gl, 5, none⟩ = some vs0 := row_at hD.row 5 _ rfl
    rw [hvs] at c5
    clear hD hO hF hvs
    have HR3 := HR2.out (layR l2.at_ l2.size (l2.sealed.drop 0) d2).1 (layR l2.at_ l2.size (l2.sealed.drop 0) d2).2 rfl
    generalize layR l2.at_ l2.size (l2.sealed.drop 0) d2 = rl at HLAY HR3
    obtain ⟨E3, d3⟩ := rl
    simp only at HLAY HR3
    have HRE : Hid _ := HR3.1
    have HR0 : Hid _ := HR3.2
    clear HR3
    by_cases hE3 : E3 = 0
    rotate_left
    · have hE3' : (E3 != 0) = true := by simp [hE3]
      have HK : Hid _ := HRE.out hE3
      clear HR0 HRE hE3
      go_wp2_with (go_at_call 127; refine Calls.mono HLAY.out ?_; clear HLAY; rintro e w13 ⟨rfl, h13⟩)
      try go_ret
      exact HK.out _ h13
    · have HK : Hid _ := HR0.out hE3
      subst hE3
      clear HR0 HRE
      go_upto_region 15 with (go_at_call 127; refine Calls.mono HLAY.out ?_; clear HLAY; rintro e w13 ⟨rfl, h13⟩)
      clear c5
      obtain ⟨vl1, vs1, L1, hD, hO, hF⟩ := h13
      obtain ⟨ob, cb, hvs⟩ := hD.sld.form
      rw [HM.out] at hvs
      subst hvs
      have c5 : w13.cell? ⟨gl, 5, none⟩ = some (.slice ob M cb) := row_at hD.row 5 _ rfl
      have HL0 : Hid (FLoop w gl gd F l2 d3 _ (.slice ob M cb) L1 0 w13) := ⟨vl1, by rw [List.take_zero, List.map_nil, List.append_nil]; exact hD, hO, hF⟩
      have HOLD : Hid (∀ wx, Ck.Own wx (gl + 1) (.slice ob M cb) l2.sealed → ∀ k, k < M → ∃ a c, ob = some a ∧ l2.sealed[k]? = some c ∧ ∀ j v, c.cells[j]? = some v → wx.cell? ((a.add (k * 4)).add j) = some v) := fun wx h k hk => by
        obtain ⟨oa', cap', hv', hcell⟩ := (Ck.Own.olds h).open
        rw [HM.out] at hv' hcell
        cases hv'
        obtain ⟨a, c, rfl, hc0, hcc⟩ := hcell k hk
        exact ⟨a, c, rfl, hc0, hcc⟩
      clear hD hO hF
      generalize N2 + 4 * (M - 0) = N3 at HK HL0
      obtain ⟨a, z, ep, la, sl, op, nx, fr, fi, du⟩ := l2
      simp only at HM HK HL0 HOLD
      go_wp2
      go_loopw [58] (fun i wr => ∃ (k : Nat), k ≤ M ∧ i = .int .i64 k ∧ FLoop w gl gd F ⟨a, z, ep, la, sl, op, nx, fr, fi, du⟩ d3 N3 (.slice ob M cb) L1 k wr) (fun i _ => M - (intOf i).toNat)
      case atStart => exact ⟨0, by omega, rfl, HL0.out⟩
      case round =>
        clear HL0 c5
        obtain ⟨k, hk, rfl, vl1, hD, hO, hF⟩ := hrel
        have hz65 := zero164
        by_cases hkm : k < M
        · have hkm' : (k : Int) < (M : Int) := by omega
          obtain ⟨pa, c, rfl, hc0, hcc⟩ := HOLD.out _ hD.sld k hkm
          have hix0 : (0 : Int) ≤ (k : Int) := by omega
          have tl : Hid (1 = 1) := rfl
          have q8 : Row (wr.alloc (.cells #[.int .u32 0, .int .u32 0, .int .u64 0, .string ByteArray.empty] 164)) wr.heap.size #[.int .u32 0, .int .u32 0, .int .u64 0, .string ByteArray.empty] 164 := Row.new _ _ _
          have hglr : gl < wr.heap.size := hD.row.lt
          go_upto_region 18 with (first
            | (have hh := tl; clear hh tl; refine load_any_g rfl 164 (.tmp 60) rfl (pa.add (k * 4)) rfl c.cells _ hcc Try.underlying164 rfl Ck.size164 ?_)
            | (refine store_cells rfl 164 (.tmp 7) (.tmp 61) rfl wr.heap.size #[.int .u32 c.ep, .int .u32 c.num, .int .u64 c.off, .string c.txt] rfl rfl 164 _ q8 4 Ck.size164 rfl rfl (by simp [Value.oneCell']) ?_))
          have s8 := q8.set #[.int .u32 c.ep, .int .u32 c.num, .int .u64 c.off, .string c.txt]
          have sb := below_setRow ((Below.refl wr.heap.size wr).alloc (Nat.le_refl _) (.cells #[.int .u32 0, .int .u32 0, .int .u64 0, .string ByteArray.empty] 164)) (Nat.le_refl _) #[.int .u32 c.ep, .int .u32 c.num, .int .u64 c.off, .string c.txt]
          clear q8 hcc
          generalize (wr.alloc (.cells #[.int .u32 0, .int .u32 0, .int .u64 0, .string ByteArray.empty] 164)).setRow wr.heap.size #[.int .u32 c.ep, .int .u32 c.num, .int .u64 c.off, .string c.txt] = w7 at s8 sb ⊢
          have hD7 := hD.below sb
          have R7 : Row w7 gl #[.pointer (some ⟨gd, 0, none⟩), .int .i64 a, .int .i64 z, .int .u32 ep, vl1, .slice (some pa) M cb, .string op, .int .u32 nx, .bool fr, .int .u64 fi, .int .u64 du] 99 := hD7.row
          have U7 : OwnU w7 (gl + 1) vl1 (la ++ (sl.take k).map (·.off)) := hD7.last
          have HD7 : Hid (LD w7 gl gd vl1 (.slice (some pa) M cb) L1 ⟨a, z, ep, la ++ (sl.take k).map (·.off), sl, op, nx, fr, fi, du⟩ d3 N3) := hD7
          have HO7 : Hid (Off F w w7) := hO.trans (Off.of_below (F := fun _ => False) sb) (fun _ q => q.elim)
          have HF7 : Hid (∀ j, lfoot gl gd vl1 (.slice (some pa) M cb) L1 j → F j ∨ w.heap.size ≤ j) := hF
          have HW7 : Hid (w.heap.size ≤ w7.heap.size) := by have h1 := hO.size; have h2 := sb.size; show w.heap.size ≤ _; omega
          have HUL : Hid (∀ j, vl1.ownBlock = some j → gl + 1 ≤ j ∧ j < w7.heap.size) := fun j q => World.ownsRow.lt U7 j q
          have hUL2 : (la ++ (sl.take k).map (·.off)).length ≤ 1000000 := by
            have : (sl.take k).length ≤ sl.length := by rw [List.length_take]; omega
            have h3 := HM.out
            rw [List.length_append, List.length_map]; omega
          have HLN : Hid ((la ++ (sl.take k).map (·.off)).length ≤ 1000000) := hUL2
          have HTK : Hid ((la ++ (sl.take k).map (·.off)) ++ [c.off] = la ++ (sl.take (k + 1)).map (·.off)) := by
            show _ = _
            rw [List.take_add_one, hc0, List.map_append, List.append_assoc]; rfl
          clear hD hD7 hO hF hUL2 hc0
          generalize la ++ (sl.take k).map (·.off) = xs at U7 HD7 HLN HTK
          refine wp_region_last (S := fun w' => Row w' gl #[.pointer (some ⟨gd, 0, none⟩), .int .i64 a, .int .i64 z, .int .u32 ep, vl1, .slice (some pa) M cb, .string op, .int .u32 nx, .bool fr, .int .u64 fi, .int .u64 du] 99 ∧ Row w' wr.heap.size #[.int .u32 c.ep, .int .u32 c.num, .int .u64 c.off, .string c.txt] 164 ∧ Off (fun j => j = gl ∨ vl1.ownBlock = some j) w7 w') 11 (by kernel_rfl) ⟨R7, s8, (Off.refl _ _).drew⟩ fun hS => ?_
          refine wpAnyL_take (i := 0) (v := .pointer (some ⟨gl, 0, none⟩)) rfl (by kernel_rfl) (by kernel_rfl) (by kernel_rfl) (by kernel_rfl) (fun _ _ _ h => h) (Or.inl ⟨by rfl, fun w _ => by rfl⟩) hS ?_
          try simp only [Act.put, nz]
          refine wpAnyL_take (i := 1) (v := .pointer (some ⟨gl, 0, none⟩)) rfl (by kernel_rfl) (by kernel_rfl) (by kernel_rfl) (by kernel_rfl) (fun _ _ _ h => h) (Or.inl ⟨by rfl, fun w _ => by rfl⟩) hS ?_
          try simp only [Act.put, nz]
          refine wpAnyL_take (i := 2) (v := .pointer (some ⟨gl, 0, none⟩)) rfl (by kernel_rfl) (by kernel_rfl) (by kernel_rfl) (by kernel_rfl) (fun _ _ _ h => h) (Or.inl ⟨by rfl, fun w _ => by go_simp⟩) hS ?_
          try simp only [Act.put, nz]
          refine wpAnyL_take (i := 3) (v := .pointer (some ⟨gl, 4, none⟩)) rfl (by kernel_rfl) (by kernel_rfl) (by kernel_rfl) (by kernel_rfl) (fun _ _ _ h => h) (Or.inl ⟨by rfl, fun w _ => by go_simp⟩) hS ?_
          try simp only [Act.put, nz]
          refine wpAnyL_take (i := 4) (v := vl1) rfl (by kernel_rfl) (by kernel_rfl) (by kernel_rfl) (by kernel_rfl) (fun _ _ _ h => h) (Or.inl ⟨by rfl, fun w h => by have c := row_at h.1 4 _ rfl; go_simp⟩) hS ?_
          try simp only [Act.put, nz]
          refine wpAnyL_take (i := 5) (v := .pointer (some ⟨wr.heap.size, 2, none⟩)) rfl (by kernel_rfl) (by kernel_rfl) (by kernel_rfl) (by kernel_rfl) (fun _ _ _ h => h) (Or.inl ⟨by rfl, fun w _ => by go_simp⟩) hS ?_
          try simp only [Act.put, nz]
          refine wpAnyL_take (i := 6) (v := .int .u64 c.off) rfl (by kernel_rfl) (by kernel_rfl) (by kernel_rfl) (by kernel_rfl) (fun _ _ _ h => h) (Or.inl ⟨by rfl, fun w h => by have c := row_at h.2.1 2 _ rfl; go_simp⟩) hS ?_
          try simp only [Act.put, nz]
          have own1 : OwnU w7.drew (gl + 1) vl1 xs := U7
          clear R7 s8 U7
          generalize w7.drew = W0 at hS own1 ⊢
          refine wpAnyL_ready (rs := [7]) (by kernel_rfl) (by simp) ?_
          refine AllReadyL.cons rfl (fun K hK => ?_) AllReadyL.nil
          have ab : Below W0.heap.size W0 (W0.alloc (.cells #[.int .u64 c.off] 37)) := (Below.refl _ _).alloc (Nat.le_refl _) _
          have rX : Row (W0.alloc (.cells #[.int .u64 c.off] 37)) W0.heap.size #[.int .u64 c.off] 37 := Row.new _ _ _
          have own2 := own1.keep ab
          have hS2 : Row (W0.alloc (.cells #[.int .u64 c.off] 37)) gl #[.pointer (some ⟨gd, 0, none⟩), .int .i64 a, .int .i64 z, .int .u32 ep, vl1, .slice (some pa) M cb, .string op, .int .u32 nx, .bool fr, .int .u64 fi, .int .u64 du] 99 ∧ Row (W0.alloc (.cells #[.int .u64 c.off] 37)) wr.heap.size #[.int .u32 c.ep, .int .u32 c.num, .int .u64 c.off, .string c.txt] 164 ∧ Off (fun j => j = gl ∨ vl1.ownBlock = some j) w7 (W0.alloc (.cells #[.int .u64 c.off] 37)) := ⟨hS.1.alloc _, hS.2.1.alloc _, hS.2.2.trans (Off.of_below (F := fun _ => False) ab) (fun _ q => q.elim)⟩
          have hrW : gl + 1 ≤ W0.heap.size := hS.1.lt
          have hab := ab.size
          have HWX : Hid (w7.heap.size ≤ W0.heap.size) := hS.2.2.size
          go_simp
          refine hK.out _ _ (fun _ => hS2) ?_
          try simp only [Act.put, nz]
          clear hS ab own1
          generalize W0.alloc (.cells #[.int .u64 c.off] 37) = W1 at rX hS2 hab own2 ⊢
          generalize W0.heap.size = X at rX hab hrW HWX ⊢
          have hS := hS2
          clear hS2
          have HRA : Hid (∀ ty, ∃ v' w', (Builtin.append_ #[96, 96] ty #[vl1, .slice (some ⟨X, 0, none⟩) 1 1]).run Try.prog W1 = .ok v' w' ∧ (OwnU w' (gl + 1) v' (xs ++ [c.off]) ∧ W1.grownBy w' vl1.ownBlock ∧ (v'.ownBlock = vl1.ownBlock ∨ v'.ownBlock = some W1.heap.size))) := fun ty => OwnU.snocQ own2 ty X c.off rX (by omega) HLN.out
          refine wpAnyL_ready (rs := [8]) (by kernel_rfl) (by simp) ?_
          refine AllReadyL.cons rfl (fun K hK => step_ofL rfl (Ck.wp_copy (.tmp 66) (.tmp 69) 96 rfl _ _ rfl rfl (fun ty => HRA.out ty) ?_)) AllReadyL.nil
          rintro v15 w15 ⟨own15, gr15, hv15⟩
          have o15 : Off (fun j => vl1.ownBlock = some j) W1 w15 := Off.of_grown gr15 (fun k hk => hk)
          have R15 : Row w15 gl #[.pointer (some ⟨gd, 0, none⟩), .int .i64 a, .int .i64 z, .int .u32 ep, vl1, .slice (some pa) M cb, .string op, .int .u32 nx, .bool fr, .int .u64 fi, .int .u64 du] 99 := hS.1.off o15 (fun q => by have := HUL.out gl q; omega)
          have C15 : Row w15 wr.heap.size #[.int .u32 c.ep, .int .u32 c.num, .int .u64 c.off, .string c.txt] 164 := hS.2.1.off o15 (fun q => own_not65 own2 q hS.2.1)
          have O15 : Off (fun j => j = gl ∨ vl1.ownBlock = some j) w7 w15 := hS.2.2.trans o15 (fun j q => Or.inl (Or.inr q))
          have HNB : Hid (∀ j, v15.ownBlock = some j → vl1.ownBlock = some j ∨ w7.heap.size ≤ j) := fun j hj => by
            rcases hv15 with q | q
            · rw [q] at hj; exact Or.inl hj
            · rw [q] at hj; cases hj; have := HWX.out; exact Or.inr (by omega)
          have hS15 : Row w15 gl #[.pointer (some ⟨gd, 0, none⟩), .int .i64 a, .int .i64 z, .int .u32 ep, vl1, .slice (some pa) M cb, .string op, .int .u32 nx, .bool fr, .int .u64 fi, .int .u64 du] 99 ∧ Row w15 wr.heap.size #[.int .u32 c.ep, .int .u32 c.num, .int .u64 c.off, .string c.txt] 164 ∧ Off (fun j => j = gl ∨ vl1.ownBlock = some j) w7 w15 := ⟨R15, C15, O15⟩
          refine hK.out _ _ (fun _ => hS15) ?_
          try simp only [Act.put, nz]
          clear hS HRA own2 gr15 o15 R15 C15 O15 rX hv15
          have hS := hS15
          clear hS15
          refine wpAnyL_ready (rs := [9]) (by kernel_rfl) (by simp) ?_
          refine AllReadyL.cons rfl (fun K hK => ?_) AllReadyL.nil
          go_simp
          refine hK.out _ _ (fun _ => hS) ?_
          try simp only [Act.put, nz]
          refine wpAnyL_ready (rs := [10]) (by kernel_rfl) (by simp) ?_
          refine AllReadyL.cons rfl (fun K hK => ?_) AllReadyL.nil
          go_simp
          refine hK.out _ _ (fun _ => hS) ?_
          try simp only [Act.put, nz]
          refine wpAnyL_ready (rs := [11]) (by kernel_rfl) (by simp) ?_
          refine AllReadyL.cons rfl (fun K hK => ?_) AllReadyL.nil
          have c9 := row_at hS.1 4 _ rfl
          have f9 := row_frozen hS.1 4
          obtain ⟨oc, cc, hf15⟩ := own15.form
          have hlen : (xs ++ [c.off]).length = xs.length + 1 := by rw [List.length_append]; rfl
          rw [hlen] at hf15
          clear hlen
          have HFL : Hid (FLoop w gl gd F ⟨a, z, ep, la, sl, op, nx, fr, fi, du⟩ d3 N3 (.slice (some pa) M cb) L1 (k + 1) (w15.setCell ⟨gl, 4, none⟩ v15)) := FLoop.step HD7.out HO7.out HF7.out hS.2.2 HNB.out own15 hS.1 HTK.out HW7.out
          subst hf15
          go_simp
          refine hK.out _ _ (fun q => absurd rfl q) ?_
          try simp only [Act.put, nz]
          clear hS c9 f9 own15 HNB HF7 HO7 HD7
          generalize w15.setCell ⟨gl, 4, none⟩ (.slice oc (xs.length + 1) cc) = w16 at HFL ⊢
          refine wpAnyL_done (by kernel_rfl) ?_ _
          go_wp2
          go_roundw
          case rel => exact ⟨k + 1, by omega, by go_num, HFL.out⟩
          case measure => simp [intOf]; omega
        · obtain rfl : M = k := by omega
          have hkk' : ¬ (M : Int) < (M : Int) := by omega
          have hD2 : LD wr gl gd vl1 (.slice ob M cb) L1 ⟨a, z, ep, la ++ sl.map (·.off), sl, op, nx, fr, fi, du⟩ d3 N3 := by
            have e1 : sl.take M = sl := List.take_of_length_le (by rw [HM.out]; exact Nat.le_refl _)
            rw [e1] at hD; exact hD
          clear hD
          have R0 : Row wr gl #[.pointer (some ⟨gd, 0, none⟩), .int .i64 a, .int .i64 z, .int .u32 ep, vl1, .slice ob M cb, .string op, .int .u32 nx, .bool fr, .int .u64 fi, .int .u64 du] 99 := hD2.row
          have f5 := row_frozen R0 5
          have R1 : Row (wr.setCell ⟨gl, 5, none⟩ (.slice none 0 0)) gl #[.pointer (some ⟨gd, 0, none⟩), .int .i64 a, .int .i64 z, .int .u32 ep, vl1, .slice none 0 0, .string op, .int .u32 nx, .bool fr, .int .u64 fi, .int .u64 du] 99 := row_set R0 5 (.slice none 0 0)
          have S1 := LStep.set (l2 := ⟨a, z, ep, la ++ sl.map (·.off), [], op, nx, fr, fi, du⟩) hD2 hO hF 5 (.slice none 0 0) (.slice none 0 0) R1 rfl (Or.inr ⟨rfl, rfl⟩)
          have HS1 : Hid _ := S1
          have c5 : wr.cell? ⟨gl, 5, none⟩ = some (.slice ob M cb) := row_at R0 5 _ rfl
          clear hD2 hO hF S1 R0
          go_upto_region 21 with fail
          generalize wr.setCell ⟨gl, 5, none⟩ (.slice none 0 0) = w20 at HS1 R1 ⊢
          clear c5 f5
          have c9 := row_at R1 9 _ rfl
          have c10 := row_at R1 10 _ rfl
          have f10 := row_frozen R1 10
          have R2 : Row (w20.setCell ⟨gl, 10, none⟩ (.int .u64 fi)) gl #[.pointer (some ⟨gd, 0, none⟩), .int .i64 a, .int .i64 z, .int .u32 ep, vl1, .slice none 0 0, .string op, .int .u32 nx, .bool fr, .int .u64 fi, .int .u64 fi] 99 := row_set R1 10 (.int .u64 fi)
          have S2 := LStep.set (l2 := ⟨a, z, ep, la ++ sl.map (·.off), [], op, nx, fr, fi, fi⟩) HS1.out.1 HS1.out.2.1 HS1.out.2.2 10 (.int .u64 fi) (.slice none 0 0) R2 rfl (Or.inl ⟨rfl, rfl⟩)
          have HK2 : Hid (PP (.returned (.int .i64 0)) (w20.setCell ⟨gl, 10, none⟩ (.int .u64 fi))) := HK.out _ ⟨_, _, _, S2.1, S2.2.1, S2.2.2⟩
          clear S2 R2 HS1 HK R1
          go_wp2
          try go_ret
          exact HK2.out
  | true =>
    rw [hfr] at c8
    by_cases hM0 : l1.sealed.length = 0
    · rw [hM0] at c5
      have HR2 : Hid _ := HRF.out.1 (fun q => q.2 (List.eq_nil_of_length_eq_zero hM0))
      have h12 : LStep w gl gd F l1 d N w1 := ⟨_, _, _, hD, hO, hF⟩
      clear hD hO hF hvs HRF hfr hM0
      go_upto_region 12 with fail
      clear c5 c8
      obtain ⟨l2, Hl2⟩ : ∃ l2, Hid (l1 = l2) := ⟨_, rfl⟩
      rw [Hl2.out] at HR2 h12 hok1 hln1 hat1 hsz1 hla1 hop1 hN1
      obtain ⟨d2, Hd2⟩ : ∃ d2, Hid (d = d2) := ⟨_, rfl⟩
      rw [Hd2.out] at HR2 h12 hop1
      obtain ⟨N2, HN2⟩ : ∃ N2, Hid (N = N2) := ⟨_, rfl⟩
      rw [HN2.out] at h12 hN1 HR2
      have hok2 := hok1
      have hln2 := hln1
      have hat2 := hat1
      have hsz2 := hsz1
      have hop2 : d2.ops + l2.sealed.length + 2 < 9223372036854775806 := by omega
      have hN2 : N2 + 4 * l2.sealed.length + 4 < 1000000000000 := by omega
      obtain ⟨vl0, vs0, L0, hD, hO, hF⟩ := h12
      obtain ⟨ob, cb, hvs⟩ := hD.sld.form
      have HLAY : Hid _ := LStep.lay (w := w) (F := F) (gl := gl) (gd := gd) ⟨vl0, vs0, L0, hD, hO, hF⟩ 0 l2.sealed.length hok2 (by omega) (Nat.le_refl _) (by omega) hat2 hsz2 (by omega) (by omega)
      obtain ⟨M, HM⟩ : ∃ M, Hid (l2.sealed.length = M) := ⟨_, rfl⟩
      have hMb : M ≤ 900 := by rw [← HM.out]; exact hln2
      rw [HM.out] at HLAY hvs HR2
      have etk : (l2.sealed.drop 0).take (M - 0) = l2.sealed.drop 0 := List.take_of_length_le (by rw [List.length_drop, HM.out]; exact Nat.le_refl _)
      rw [etk] at HLAY
      have c5 : w1.cell? ⟨gl, 5, none⟩ = some vs0 := row_at hD.row 5 _ rfl
      rw [hvs] at c5
      clear hD hO hF hvs
      have HR3 := HR2.out (layR l2.at_ l2.size (l2.sealed.drop 0) d2).1 (layR l2.at_ l2.size (l2.sealed.drop 0) d2).2 rfl
      generalize layR l2.at_ l2.size (l2.sealed.drop 0) d2 = rl at HLAY HR3
      obtain ⟨E3, d3⟩ := rl
      simp only at HLAY HR3
      have HRE : Hid _ := HR3.1
      have HR0 : Hid _ := HR3.2
      clear HR3
      by_cases hE3 : E3 = 0
      rotate_left
      · have hE3' : (E3 != 0) = true := by simp [hE3]
        have HK : Hid _ := HRE.out hE3
        clear HR0 HRE hE3
        go_wp2_with (go_at_call 127; refine Calls.mono HLAY.out ?_; clear HLAY; rintro e w13 ⟨rfl, h13⟩)
        try go_ret
        exact HK.out _ h13
      · have HK : Hid _ := HR0.out hE3
        subst hE3
        clear HR0 HRE
        go_upto_region 15 with (go_at_call 127; refine Calls.mono HLAY.out ?_; clear HLAY; rintro e w13 ⟨rfl, h13⟩)
        clear c5
        obtain ⟨vl1, vs1, L1, hD, hO, hF⟩ := h13
        obtain ⟨ob, cb, hvs⟩ := hD.sld.form
        rw [HM.out] at hvs
        subst hvs
        have c5 : w13.cell? ⟨gl, 5, none⟩ = some (.slice ob M cb) := row_at hD.row 5 _ rfl
        have HL0 : Hid (FLoop w gl gd F l2 d3 _ (.slice ob M cb) L1 0 w13) := ⟨vl1, by rw [List.take_zero, List.map_nil, List.append_nil]; exact hD, hO, hF⟩
        have HOLD : Hid (∀ wx, Ck.Own wx (gl + 1) (.slice ob M cb) l2.sealed → ∀ k, k < M → ∃ a c, ob = some a ∧ l2.sealed[k]? = some c ∧ ∀ j v, c.cells[j]? = some v → wx.cell? ((a.add (k * 4)).add j) = some v) := fun wx h k hk => by
          obtain ⟨oa', cap', hv', hcell⟩ := (Ck.Own.olds h).open
          rw [HM.out] at hv' hcell
          cases hv'
          obtain ⟨a, c, rfl, hc0, hcc⟩ := hcell k hk
          exact ⟨a, c, rfl, hc0, hcc⟩
        clear hD hO hF
        generalize N2 + 4 * (M - 0) = N3 at HK HL0
        obtain ⟨a, z, ep, la, sl, op, nx, fr, fi, du⟩ := l2
        simp only at HM HK HL0 HOLD
        go_wp2
        go_loopw [58] (fun i wr => ∃ (k : Nat), k ≤ M ∧ i = .int .i64 k ∧ FLoop w gl gd F ⟨a, z, ep, la, sl, op, nx, fr, fi, du⟩ d3 N3 (.slice ob M cb) L1 k wr) (fun i _ => M - (intOf i).toNat)
        case atStart => exact ⟨0, by omega, rfl, HL0.out⟩
        case round =>
          clear HL0 c5
          obtain ⟨k, hk, rfl, vl1, hD, hO, hF⟩ := hrel
          have hz65 := zero164
          by_cases hkm : k < M
          · have hkm' : (k : Int) < (M : Int) := by omega
            obtain ⟨pa, c, rfl, hc0, hcc⟩ := HOLD.out _ hD.sld k hkm
            have hix0 : (0 : Int) ≤ (k : Int) := by omega
            have tl : Hid (1 = 1) := rfl
            have q8 : Row (wr.alloc (.cells #[.int .u32 0, .int .u32 0, .int .u64 0, .string ByteArray.empty] 164)) wr.heap.size #[.int .u32 0, .int .u32 0, .int .u64 0, .string ByteArray.empty] 164 := Row.new _ _ _
            have hglr : gl < wr.heap.size := hD.row.lt
            go_upto_region 18 with (first
              | (have hh := tl; clear hh tl; refine load_any_g rfl 164 (.tmp 60) rfl (pa.add (k * 4)) rfl c.cells _ hcc Try.underlying164 rfl Ck.size164 ?_)
              | (refine store_cells rfl 164 (.tmp 7) (.tmp 61) rfl wr.heap.size #[.int .u32 c.ep, .int .u32 c.num, .int .u64 c.off, .string c.txt] rfl rfl 164 _ q8 4 Ck.size164 rfl rfl (by simp [Value.oneCell']) ?_))
            have s8 := q8.set #[.int .u32 c.ep, .int .u32 c.num, .int .u64 c.off, .string c.txt]
            have sb := below_setRow ((Below.refl wr.heap.size wr).alloc (Nat.le_refl _) (.cells #[.int .u32 0, .int .u32 0, .int .u64 0, .string ByteArray.empty] 164)) (Nat.le_refl _) #[.int .u32 c.ep, .int .u32 c.num, .int .u64 c.off, .string c.txt]
            clear q8 hcc
            generalize (wr.alloc (.cells #[.int .u32 0, .int .u32 0, .int .u64 0, .string ByteArray.empty] 164)).setRow wr.heap.size #[.int .u32 c.ep, .int .u32 c.num, .int .u64 c.off, .string c.txt] = w7 at s8 sb ⊢
            have hD7 := hD.below sb
            have R7 : Row w7 gl #[.pointer (some ⟨gd, 0, none⟩), .int .i64 a, .int .i64 z, .int .u32 ep, vl1, .slice (some pa) M cb, .string op, .int .u32 nx, .bool fr, .int .u64 fi, .int .u64 du] 99 := hD7.row
            have U7 : OwnU w7 (gl + 1) vl1 (la ++ (sl.take k).map (·.off)) := hD7.last
            have HD7 : Hid (LD w7 gl gd vl1 (.slice (some pa) M cb) L1 ⟨a, z, ep, la ++ (sl.take k).map (·.off), sl, op, nx, fr, fi, du⟩ d3 N3) := hD7
            have HO7 : Hid (Off F w w7) := hO.trans (Off.of_below (F := fun _ => False) sb) (fun _ q => q.elim)
            have HF7 : Hid (∀ j, lfoot gl gd vl1 (.slice (some pa) M cb) L1 j → F j ∨ w.heap.size ≤ j) := hF
            have HW7 : Hid (w.heap.size ≤ w7.heap.size) := by have h1 := hO.size; have h2 := sb.size; show w.heap.size ≤ _; omega
            have HUL : Hid (∀ j, vl1.ownBlock = some j → gl + 1 ≤ j ∧ j < w7.heap.size) := fun j q => World.ownsRow.lt U7 j q
            have hUL2 : (la ++ (sl.take k).map (·.off)).length ≤ 1000000 := by
              have : (sl.take k).length ≤ sl.length := by rw [List.length_take]; omega
              have h3 := HM.out
              rw [List.length_append, List.length_map]; omega
            have HLN : Hid ((la ++ (sl.take k).map (·.off)).length ≤ 1000000) := hUL2
            have HTK : Hid ((la ++ (sl.take k).map (·.off)) ++ [c.off] = la ++ (sl.take (k + 1)).map (·.off)) := by
              show _ = _
              rw [List.take_add_one, hc0, List.map_append, List.append_assoc]; rfl
            clear hD hD7 hO hF hUL2 hc0
            generalize la ++ (sl.take k).map (·.off) = xs at U7 HD7 HLN HTK
            refine wp_region_last (S := fun w' => Row w' gl #[.pointer (some ⟨gd, 0, none⟩), .int .i64 a, .int .i64 z, .int .u32 ep, vl1, .slice (some pa) M cb, .string op, .int .u32 nx, .bool fr, .int .u64 fi, .int .u64 du] 99 ∧ Row w' wr.heap.size #[.int .u32 c.ep, .int .u32 c.num, .int .u64 c.off, .string c.txt] 164 ∧ Off (fun j => j = gl ∨ vl1.ownBlock = some j) w7 w') 11 (by kernel_rfl) ⟨R7, s8, (Off.refl _ _).drew⟩ fun hS => ?_
            refine wpAnyL_take (i := 0) (v := .pointer (some ⟨gl, 0, none⟩)) rfl (by kernel_rfl) (by kernel_rfl) (by kernel_rfl) (by kernel_rfl) (fun _ _ _ h => h) (Or.inl ⟨by rfl, fun w _ => by rfl⟩) hS ?_
            try simp only [Act.put, nz]
            refine wpAnyL_take (i := 1) (v := .pointer (some ⟨gl, 0, none⟩)) rfl (by kernel_rfl) (by kernel_rfl) (by kernel_rfl) (by kernel_rfl) (fun _ _ _ h => h) (Or.inl ⟨by rfl, fun w _ => by rfl⟩) hS ?_
            try simp only [Act.put, nz]
            refine wpAnyL_take (i := 2) (v := .pointer (some ⟨gl, 0, none⟩)) rfl (by kernel_rfl) (by kernel_rfl) (by kernel_rfl) (by kernel_rfl) (fun _ _ _ h => h) (Or.inl ⟨by rfl, fun w _ => by go_simp⟩) hS ?_
            try simp only [Act.put, nz]
            refine wpAnyL_take (i := 3) (v := .pointer (some ⟨gl, 4, none⟩)) rfl (by kernel_rfl) (by kernel_rfl) (by kernel_rfl) (by kernel_rfl) (fun _ _ _ h => h) (Or.inl ⟨by rfl, fun w _ => by go_simp⟩) hS ?_
            try simp only [Act.put, nz]
            refine wpAnyL_take (i := 4) (v := vl1) rfl (by kernel_rfl) (by kernel_rfl) (by kernel_rfl) (by kernel_rfl) (fun _ _ _ h => h) (Or.inl ⟨by rfl, fun w h => by have c := row_at h.1 4 _ rfl; go_simp⟩) hS ?_
            try simp only [Act.put, nz]
            refine wpAnyL_take (i := 5) (v := .pointer (some ⟨wr.heap.size, 2, none⟩)) rfl (by kernel_rfl) (by kernel_rfl) (by kernel_rfl) (by kernel_rfl) (fun _ _ _ h => h) (Or.inl ⟨by rfl, fun w _ => by go_simp⟩) hS ?_
            try simp only [Act.put, nz]
            refine wpAnyL_take (i := 6) (v := .int .u64 c.off) rfl (by kernel_rfl) (by kernel_rfl) (by kernel_rfl) (by kernel_rfl) (fun _ _ _ h => h) (Or.inl ⟨by rfl, fun w h => by have c := row_at h.2.1 2 _ rfl; go_simp⟩) hS ?_
            try simp only [Act.put, nz]
            have own1 : OwnU w7.drew (gl + 1) vl1 xs := U7
            clear R7 s8 U7
            generalize w7.drew = W0 at hS own1 ⊢
            refine wpAnyL_ready (rs := [7]) (by kernel_rfl) (by simp) ?_
            refine AllReadyL.cons rfl (fun K hK => ?_) AllReadyL.nil
            have ab : Below W0.heap.size W0 (W0.alloc (.cells #[.int .u64 c.off] 37)) := (Below.refl _ _).alloc (Nat.le_refl _) _
            have rX : Row (W0.alloc (.cells #[.int .u64 c.off] 37)) W0.heap.size #[.int .u64 c.off] 37 := Row.new _ _ _
            have own2 := own1.keep ab
            have hS2 : Row (W0.alloc (.cells #[.int .u64 c.off] 37)) gl #[.pointer (some ⟨gd, 0, none⟩), .int .i64 a, .int .i64 z, .int .u32 ep, vl1, .slice (some pa) M cb, .string op, .int .u32 nx, .bool fr, .int .u64 fi, .int .u64 du] 99 ∧ Row (W0.alloc (.cells #[.int .u64 c.off] 37)) wr.heap.size #[.int .u32 c.ep, .int .u32 c.num, .int .u64 c.off, .string c.txt] 164 ∧ Off (fun j => j = gl ∨ vl1.ownBlock = some j) w7 (W0.alloc (.cells #[.int .u64 c.off] 37)) := ⟨hS.1.alloc _, hS.2.1.alloc _, hS.2.2.trans (Off.of_below (F := fun _ => False) ab) (fun _ q => q.elim)⟩
            have hrW : gl + 1 ≤ W0.heap.size := hS.1.lt
            have hab := ab.size
            have HWX : Hid (w7.heap.size ≤ W0.heap.size) := hS.2.2.size
            go_simp
            refine hK.out _ _ (fun _ => hS2) ?_
            try simp only [Act.put, nz]
            clear hS ab own1
            generalize W0.alloc (.cells #[.int .u64 c.off] 37) = W1 at rX hS2 hab own2 ⊢
            generalize W0.heap.size = X at rX hab hrW HWX ⊢
            have hS := hS2
            clear hS2
            have HRA : Hid (∀ ty, ∃ v' w', (Builtin.append_ #[96, 96] ty #[vl1, .slice (some ⟨X, 0, none⟩) 1 1]).run Try.prog W1 = .ok v' w' ∧ (OwnU w' (gl + 1) v' (xs ++ [c.off]) ∧ W1.grownBy w' vl1.ownBlock ∧ (v'.ownBlock = vl1.ownBlock ∨ v'.ownBlock = some W1.heap.size))) := fun ty => OwnU.snocQ own2 ty X c.off rX (by omega) HLN.out
            refine wpAnyL_ready (rs := [8]) (by kernel_rfl) (by simp) ?_
            refine AllReadyL.cons rfl (fun K hK => step_ofL rfl (Ck.wp_copy (.tmp 66) (.tmp 69) 96 rfl _ _ rfl rfl (fun ty => HRA.out ty) ?_)) AllReadyL.nil
            rintro v15 w15 ⟨own15, gr15, hv15⟩
            have o15 : Off (fun j => vl1.ownBlock = some j) W1 w15 := Off.of_grown gr15 (fun k hk => hk)
            have R15 : Row w15 gl #[.pointer (some ⟨gd, 0, none⟩), .int .i64 a, .int .i64 z, .int .u32 ep, vl1, .slice (some pa) M cb, .string op, .int .u32 nx, .bool fr, .int .u64 fi, .int .u64 du] 99 := hS.1.off o15 (fun q => by have := HUL.out gl q; omega)
            have C15 : Row w15 wr.heap.size #[.int .u32 c.ep, .int .u32 c.num, .int .u64 c.off, .string c.txt] 164 := hS.2.1.off o15 (fun q => own_not65 own2 q hS.2.1)
            have O15 : Off (fun j => j = gl ∨ vl1.ownBlock = some j) w7 w15 := hS.2.2.trans o15 (fun j q => Or.inl (Or.inr q))
            have HNB : Hid (∀ j, v15.ownBlock = some j → vl1.ownBlock = some j ∨ w7.heap.size ≤ j) := fun j hj => by
              rcases hv15 with q | q
              · rw [q] at hj; exact Or.inl hj
              · rw [q] at hj; cases hj; have := HWX.out; exact Or.inr (by omega)
            have hS15 : Row w15 gl #[.pointer (some ⟨gd, 0, none⟩), .int .i64 a, .int .i64 z, .int .u32 ep, vl1, .slice (some pa) M cb, .string op, .int .u32 nx, .bool fr, .int .u64 fi, .int .u64 du] 99 ∧ Row w15 wr.heap.size #[.int .u32 c.ep, .int .u32 c.num, .int .u64 c.off, .string c.txt] 164 ∧ Off (fun j => j = gl ∨ vl1.ownBlock = some j) w7 w15 := ⟨R15, C15, O15⟩
            refine hK.out _ _ (fun _ => hS15) ?_
            try simp only [Act.put, nz]
            clear hS HRA own2 gr15 o15 R15 C15 O15 rX hv15
            have hS := hS15
            clear hS15
            refine wpAnyL_ready (rs := [9]) (by kernel_rfl) (by simp) ?_
            refine AllReadyL.cons rfl (fun K hK => ?_) AllReadyL.nil
            go_simp
            refine hK.out _ _ (fun _ => hS) ?_
            try simp only [Act.put, nz]
            refine wpAnyL_ready (rs := [10]) (by kernel_rfl) (by simp) ?_
            refine AllReadyL.cons rfl (fun K hK => ?_) AllReadyL.nil
            go_simp
            refine hK.out _ _ (fun _ => hS) ?_
            try simp only [Act.put, nz]
            refine wpAnyL_ready (rs := [11]) (by kernel_rfl) (by simp) ?_
            refine AllReadyL.cons rfl (fun K hK => ?_) AllReadyL.nil
            have c9 := row_at hS.1 4 _ rfl
            have f9 := row_frozen hS.1 4
            obtain ⟨oc, cc, hf15⟩ := own15.form
            have hlen : (xs ++ [c.off]).length = xs.length + 1 := by rw [List.length_append]; rfl
            rw [hlen] at hf15
            clear hlen
            have HFL : Hid (FLoop w gl gd F ⟨a, z, ep, la, sl, op, nx, fr, fi, du⟩ d3 N3 (.slice (some pa) M cb) L1 (k + 1) (w15.setCell ⟨gl, 4, none⟩ v15)) := FLoop.step HD7.out HO7.out HF7.out hS.2.2 HNB.out own15 hS.1 HTK.out HW7.out
            subst hf15
            go_simp
            refine hK.out _ _ (fun q => absurd rfl q) ?_
            try simp only [Act.put, nz]
            clear hS c9 f9 own15 HNB HF7 HO7 HD7
            generalize w15.setCell ⟨gl, 4, none⟩ (.slice oc (xs.length + 1) cc) = w16 at HFL ⊢
            refine wpAnyL_done (by kernel_rfl) ?_ _
            go_wp2
            go_roundw
            case rel => exact ⟨k + 1, by omega, by go_num, HFL.out⟩
            case measure => simp [intOf]; omega
          · obtain rfl : M = k := by omega
            have hkk' : ¬ (M : Int) < (M : Int) := by omega
            have hD2 : LD wr gl gd vl1 (.slice ob M cb) L1 ⟨a, z, ep, la ++ sl.map (·.off), sl, op, nx, fr, fi, du⟩ d3 N3 := by
              have e1 : sl.take M = sl := List.take_of_length_le (by rw [HM.out]; exact Nat.le_refl _)
              rw [e1] at hD; exact hD
            clear hD
            have R0 : Row wr gl #[.pointer (some ⟨gd, 0, none⟩), .int .i64 a, .int .i64 z, .int .u32 ep, vl1, .slice ob M cb, .string op, .int .u32 nx, .bool fr, .int .u64 fi, .int .u64 du] 99 := hD2.row
            have f5 := row_frozen R0 5
            have R1 : Row (wr.setCell ⟨gl, 5, none⟩ (.slice none 0 0)) gl #[.pointer (some ⟨gd, 0, none⟩), .int .i64 a, .int .i64 z, .int .u32 ep, vl1, .slice none 0 0, .string op, .int .u32 nx, .bool fr, .int .u64 fi, .int .u64 du] 99 := row_set R0 5 (.slice none 0 0)
            have S1 := LStep.set (l2 := ⟨a, z, ep, la ++ sl.map (·.off), [], op, nx, fr, fi, du⟩) hD2 hO hF 5 (.slice none 0 0) (.slice none 0 0) R1 rfl (Or.inr ⟨rfl, rfl⟩)
            have HS1 : Hid _ := S1
            have c5 : wr.cell? ⟨gl, 5, none⟩ = some (.slice ob M cb) := row_at R0 5 _ rfl
            clear hD2 hO hF S1 R0
            go_upto_region 21 with fail
            generalize wr.setCell ⟨gl, 5, none⟩ (.slice none 0 0) = w20 at HS1 R1 ⊢
            clear c5 f5
            have c9 := row_at R1 9 _ rfl
            have c10 := row_at R1 10 _ rfl
            have f10 := row_frozen R1 10
            have R2 : Row (w20.setCell ⟨gl, 10, none⟩ (.int .u64 fi)) gl #[.pointer (some ⟨gd, 0, none⟩), .int .i64 a, .int .i64 z, .int .u32 ep, vl1, .slice none 0 0, .string op, .int .u32 nx, .bool fr, .int .u64 fi, .int .u64 fi] 99 := row_set R1 10 (.int .u64 fi)
            have S2 := LStep.set (l2 := ⟨a, z, ep, la ++ sl.map (·.off), [], op, nx, fr, fi, fi⟩) HS1.out.1 HS1.out.2.1 HS1.out.2.2 10 (.int .u64 fi) (.slice none 0 0) R2 rfl (Or.inl ⟨rfl, rfl⟩)
            have HK2 : Hid (PP (.returned (.int .i64 0)) (w20.setCell ⟨gl, 10, none⟩ (.int .u64 fi))) := HK.out _ ⟨_, _, _, S2.1, S2.2.1, S2.2.2⟩
            clear S2 R2 HS1 HK R1
            go_wp2
            try go_ret
            exact HK2.out
    · have hM1 : (0 : Int) < (l1.sealed.length : Int) := by omega
      have HLY : Hid _ := LStep.lay (w := w) (F := F) (gl := gl) (gd := gd) ⟨vl0, vs0, L0, hD, hO, hF⟩ 0 1 hok1 (by omega) (by omega) (by omega) hat1 hsz1 (by omega) (by omega)
      have et1 : (l1.sealed.drop 0).take (1 - 0) = l1.sealed.take 1 := by rw [List.drop_zero]
      rw [et1] at HLY
      have HR1 := HRF.out.2 ⟨hfr, fun q => hM0 (by rw [q]; rfl)⟩ (layR l1.at_ l1.size (l1.sealed.take 1) d).1 (layR l1.at_ l1.size (l1.sealed.take 1) d).2 rfl
      have hlo := layR_ops l1.at_ l1.size (l1.sealed.take 1) d
      have hlt : (l1.sealed.take 1).length ≤ 1 := by rw [List.length_take]; omega
      clear hD hO hF hvs HRF et1
      generalize layR l1.at_ l1.size (l1.sealed.take 1) d = rl at HLY HR1 hlo
      obtain ⟨E1, d2⟩ := rl
      simp only at HLY HR1 hlo
      have HRE : Hid _ := HR1.1
      have HR2 : Hid _ := HR1.2
      clear HR1
      by_cases hE1 : E1 = 0
      rotate_left
      · have hE1' : (E1 != 0) = true := by simp [hE1]
        have HK : Hid _ := HRE.out hE1
        clear HRE HR2 hE1 hfr
        go_wp2_with (go_at_call 127; refine Calls.mono HLY.out ?_; clear HLY; rintro e w8 ⟨rfl, h8⟩)
        try go_ret
        exact HK.out _ h8
      · have HR2b : Hid _ := HR2.out hE1
        clear HRE HR2
        subst hE1
        have HR2 := HR2b
        clear HR2b
        go_upto_region 10 with (go_at_call 127; refine Calls.mono HLY.out ?_; clear HLY; rintro e w8 ⟨rfl, h8⟩)
        clear c5 c8
        obtain ⟨vl0, vs0, L0, hD, hO, hF⟩ := h8
        obtain ⟨a, z, ep, la, sl, op, nx, fr, fi, du⟩ := l1
        simp only at hok1 hln1 hat1 hsz1 hla1 hop1 hN1 hlo hlt hM0 hM1
        have hsl1 : 1 ≤ sl.length := by omega
        clear hM0 hM1
        have R0 := hD.row
        unfold lcells at R0
        simp only at R0
        have c8 := row_at R0 8 _ rfl
        have f8 := row_frozen R0 8
        have R1 : Row (w8.setCell ⟨gl, 8, none⟩ (.bool false)) gl #[.pointer (some ⟨gd, 0, none⟩), .int .i64 a, .int .i64 z, .int .u32 ep, vl0, vs0, .string op, .int .u32 nx, .bool false, .int .u64 fi, .int .u64 du] 99 := row_set R0 8 (.bool false)
        have S1 := LStep.set (l2 := ⟨a, z, ep, la, sl, op, nx, false, fi, du⟩) hD hO hF 8 (.bool false) vs0 R1 rfl (Or.inl ⟨rfl, rfl⟩)
        have h12 : LStep w gl gd F ⟨a, z, ep, la, sl, op, nx, false, fi, du⟩ d2 (N + 4 * (1 - 0)) (w8.setCell ⟨gl, 8, none⟩ (.bool false)) := ⟨_, _, _, S1.1, S1.2.1, S1.2.2⟩
        clear hD hO hF S1 R1 R0
        go_upto_region 12 with fail
        generalize w8.setCell ⟨gl, 8, none⟩ (.bool false) = w9 at h12 ⊢
        clear c8 f8
        obtain ⟨l2, Hl2⟩ : ∃ l2, Hid ((⟨a, z, ep, la, sl, op, nx, false, fi, du⟩ : Lg) = l2) := ⟨_, rfl⟩
        have hok2 : ∀ c ∈ l2.sealed, c.Ok := by rw [← Hl2.out]; exact hok1
        have hln2 : l2.sealed.length ≤ 900 := by rw [← Hl2.out]; exact hln1
        have hlq : l2.sealed.length = sl.length := by rw [← Hl2.out]
        have hat2 : 0 ≤ l2.at_ ∧ l2.at_ ≤ 4294967295 := by rw [← Hl2.out]; exact hat1
        have hsz2 : 1 ≤ l2.size ∧ l2.size ≤ 4294967295 := by rw [← Hl2.out]; exact hsz1
        have hla1 : l2.last.length ≤ 10000 := by rw [← Hl2.out]; exact hla1
        have HR2 : Hid (∀ E3 d3, layR l2.at_ l2.size (l2.sealed.drop 1) d2 = (E3, d3) → (E3 ≠ 0 → ∀ w', LStep w gl gd F l2 d3 (N + 4 * (1 - 0) + 4 * (l2.sealed.length - 1)) w' → PP (.returned (.int .i64 E3)) w') ∧ (E3 = 0 → ∀ w', LStep w gl gd F l2.flushed d3 (N + 4 * (1 - 0) + 4 * (l2.sealed.length - 1)) w' → PP (.returned (.int .i64 0)) w')) := by rw [← Hl2.out]; exact HR2.out
        have hl21 : 1 ≤ l2.sealed.length := by rw [hlq]; exact hsl1
        rw [Hl2.out] at h12
        obtain ⟨N2, HN2⟩ : ∃ N2, Hid (N + 4 * (1 - 0) = N2) := ⟨_, rfl⟩
        have HNQ : N + 4 = N2 := by have := HN2.out; omega
        rw [HN2.out] at h12 HR2
        have hop2 : d2.ops + l2.sealed.length + 2 < 9223372036854775806 := by rw [hlq]; omega
        have hN2 : N2 + 4 * l2.sealed.length + 4 < 1000000000000 := by rw [hlq]; omega
        clear hlq HNQ hsl1 hlo hlt hop1 hN1 hln1
        obtain ⟨vl0, vs0, L0, hD, hO, hF⟩ := h12
        obtain ⟨ob, cb, hvs⟩ := hD.sld.form
        have HLAY : Hid _ := LStep.lay (w := w) (F := F) (gl := gl) (gd := gd) ⟨vl0, vs0, L0, hD, hO, hF⟩ 1 l2.sealed.length hok2 (by omega) (Nat.le_refl _) (by omega) hat2 hsz2 (by omega) (by omega)
        obtain ⟨M, HM⟩ : ∃ M, Hid (l2.sealed.length = M) := ⟨_, rfl⟩
        have hMb : M ≤ 900 := by rw [← HM.out]; exact hln2
        rw [HM.out] at HLAY hvs HR2
        have etk : (l2.sealed.drop 1).take (M - 1) = l2.sealed.drop 1 := List.take_of_length_le (by rw [List.length_drop, HM.out]; exact Nat.le_refl _)
        rw [etk] at HLAY
        have c5 : w9.cell? ⟨gl, 5, none⟩ = some vs0 := row_at hD.row 5 _ rfl
        rw [hvs] at c5
        clear hD hO hF hvs
        have HR3 := HR2.out (layR l2.at_ l2.size (l2.sealed.drop 1) d2).1 (layR l2.at_ l2.size (l2.sealed.drop 1) d2).2 rfl
        generalize layR l2.at_ l2.size (l2.sealed.drop 1) d2 = rl at HLAY HR3
        obtain ⟨E3, d3⟩ := rl
        simp only at HLAY HR3
        have HRE : Hid _ := HR3.1
        have HR0 : Hid _ := HR3.2
        clear HR3
        by_cases hE3 : E3 = 0
        rotate_left
        · have hE3' : (E3 != 0) = true := by simp [hE3]
          have HK : Hid _ := HRE.out hE3
          clear HR0 HRE hE3
          go_wp2_with (go_at_call 127; refine Calls.mono HLAY.out ?_; clear HLAY; rintro e w13 ⟨rfl, h13⟩)
          try go_ret
          exact HK.out _ h13
        · have HK : Hid _ := HR0.out hE3
          subst hE3
          clear HR0 HRE
          go_upto_region 15 with (go_at_call 127; refine Calls.mono HLAY.out ?_; clear HLAY; rintro e w13 ⟨rfl, h13⟩)
          clear c5
          obtain ⟨vl1, vs1, L1, hD, hO, hF⟩ := h13
          obtain ⟨ob, cb, hvs⟩ := hD.sld.form
          rw [HM.out] at hvs
          subst hvs
          have c5 : w13.cell? ⟨gl, 5, none⟩ = some (.slice ob M cb) := row_at hD.row 5 _ rfl
          have HL0 : Hid (FLoop w gl gd F l2 d3 _ (.slice ob M cb) L1 0 w13) := ⟨vl1, by rw [List.take_zero, List.map_nil, List.append_nil]; exact hD, hO, hF⟩
          have HOLD : Hid (∀ wx, Ck.Own wx (gl + 1) (.slice ob M cb) l2.sealed → ∀ k, k < M → ∃ a c, ob = some a ∧ l2.sealed[k]? = some c ∧ ∀ j v, c.cells[j]? = some v → wx.cell? ((a.add (k * 4)).add j) = some v) := fun wx h k hk => by
            obtain ⟨oa', cap', hv', hcell⟩ := (Ck.Own.olds h).open
            rw [HM.out] at hv' hcell
            cases hv'
            obtain ⟨a, c, rfl, hc0, hcc⟩ := hcell k hk
            exact ⟨a, c, rfl, hc0, hcc⟩
          clear hD hO hF
          generalize N2 + 4 * (M - 1) = N3 at HK HL0
          obtain ⟨a, z, ep, la, sl, op, nx, fr, fi, du⟩ := l2
          simp only at HM HK HL0 HOLD
          go_wp2
          go_loopw [58] (fun i wr => ∃ (k : Nat), k ≤ M ∧ i = .int .i64 k ∧ FLoop w gl gd F ⟨a, z, ep, la, sl, op, nx, fr, fi, du⟩ d3 N3 (.slice ob M cb) L1 k wr) (fun i _ => M - (intOf i).toNat)
          case atStart => exact ⟨0, by omega, rfl, HL0.out⟩
          case round =>
            clear HL0 c5
            obtain ⟨k, hk, rfl, vl1, hD, hO, hF⟩ := hrel
            have hz65 := zero164
            by_cases hkm : k < M
            · have hkm' : (k : Int) < (M : Int) := by omega
              obtain ⟨pa, c, rfl, hc0, hcc⟩ := HOLD.out _ hD.sld k hkm
              have hix0 : (0 : Int) ≤ (k : Int) := by omega
              have tl : Hid (1 = 1) := rfl
              have q8 : Row (wr.alloc (.cells #[.int .u32 0, .int .u32 0, .int .u64 0, .string ByteArray.empty] 164)) wr.heap.size #[.int .u32 0, .int .u32 0, .int .u64 0, .string ByteArray.empty] 164 := Row.new _ _ _
              have hglr : gl < wr.heap.size := hD.row.lt
              go_upto_region 18 with (first
                | (have hh := tl; clear hh tl; refine load_any_g rfl 164 (.tmp 60) rfl (pa.add (k * 4)) rfl c.cells _ hcc Try.underlying164 rfl Ck.size164 ?_)
                | (refine store_cells rfl 164 (.tmp 7) (.tmp 61) rfl wr.heap.size #[.int .u32 c.ep, .int .u32 c.num, .int .u64 c.off, .string c.txt] rfl rfl 164 _ q8 4 Ck.size164 rfl rfl (by simp [Value.oneCell']) ?_))
              have s8 := q8.set #[.int .u32 c.ep, .int .u32 c.num, .int .u64 c.off, .string c.txt]
              have sb := below_setRow ((Below.refl wr.heap.size wr).alloc (Nat.le_refl _) (.cells #[.int .u32 0, .int .u32 0, .int .u64 0, .string ByteArray.empty] 164)) (Nat.le_refl _) #[.int .u32 c.ep, .int .u32 c.num, .int .u64 c.off, .string c.txt]
              clear q8 hcc
              generalize (wr.alloc (.cells #[.int .u32 0, .int .u32 0, .int .u64 0, .string ByteArray.empty] 164)).setRow wr.heap.size #[.int .u32 c.ep, .int .u32 c.num, .int .u64 c.off, .string c.txt] = w7 at s8 sb ⊢
              have hD7 := hD.below sb
              have R7 : Row w7 gl #[.pointer (some ⟨gd, 0, none⟩), .int .i64 a, .int .i64 z, .int .u32 ep, vl1, .slice (some pa) M cb, .string op, .int .u32 nx, .bool fr, .int .u64 fi, .int .u64 du] 99 := hD7.row
              have U7 : OwnU w7 (gl + 1) vl1 (la ++ (sl.take k).map (·.off)) := hD7.last
              have HD7 : Hid (LD w7 gl gd vl1 (.slice (some pa) M cb) L1 ⟨a, z, ep, la ++ (sl.take k).map (·.off), sl, op, nx, fr, fi, du⟩ d3 N3) := hD7
              have HO7 : Hid (Off F w w7) := hO.trans (Off.of_below (F := fun _ => False) sb) (fun _ q => q.elim)
              have HF7 : Hid (∀ j, lfoot gl gd vl1 (.slice (some pa) M cb) L1 j → F j ∨ w.heap.size ≤ j) := hF
              have HW7 : Hid (w.heap.size ≤ w7.heap.size) := by have h1 := hO.size; have h2 := sb.size; show w.heap.size ≤ _; omega
              have HUL : Hid (∀ j, vl1.ownBlock = some j → gl + 1 ≤ j ∧ j < w7.heap.size) := fun j q => World.ownsRow.lt U7 j q
              have hUL2 : (la ++ (sl.take k).map (·.off)).length ≤ 1000000 := by
                have : (sl.take k).length ≤ sl.length := by rw [List.length_take]; omega
                have h3 := HM.out
                rw [List.length_append, List.length_map]; omega
              have HLN : Hid ((la ++ (sl.take k).map (·.off)).length ≤ 1000000) := hUL2
              have HTK : Hid ((la ++ (sl.take k).map (·.off)) ++ [c.off] = la ++ (sl.take (k + 1)).map (·.off)) := by
                show _ = _
                rw [List.take_add_one, hc0, List.map_append, List.append_assoc]; rfl
              clear hD hD7 hO hF hUL2 hc0
              generalize la ++ (sl.take k).map (·.off) = xs at U7 HD7 HLN HTK
              refine wp_region_last (S := fun w' => Row w' gl #[.pointer (some ⟨gd, 0, none⟩), .int .i64 a, .int .i64 z, .int .u32 ep, vl1, .slice (some pa) M cb, .string op, .int .u32 nx, .bool fr, .int .u64 fi, .int .u64 du] 99 ∧ Row w' wr.heap.size #[.int .u32 c.ep, .int .u32 c.num, .int .u64 c.off, .string c.txt] 164 ∧ Off (fun j => j = gl ∨ vl1.ownBlock = some j) w7 w') 11 (by kernel_rfl) ⟨R7, s8, (Off.refl _ _).drew⟩ fun hS => ?_
              refine wpAnyL_take (i := 0) (v := .pointer (some ⟨gl, 0, none⟩)) rfl (by kernel_rfl) (by kernel_rfl) (by kernel_rfl) (by kernel_rfl) (fun _ _ _ h => h) (Or.inl ⟨by rfl, fun w _ => by rfl⟩) hS ?_
              try simp only [Act.put, nz]
              refine wpAnyL_take (i := 1) (v := .pointer (some ⟨gl, 0, none⟩)) rfl (by kernel_rfl) (by kernel_rfl) (by kernel_rfl) (by kernel_rfl) (fun _ _ _ h => h) (Or.inl ⟨by rfl, fun w _ => by rfl⟩) hS ?_
              try simp only [Act.put, nz]
              refine wpAnyL_take (i := 2) (v := .pointer (some ⟨gl, 0, none⟩)) rfl (by kernel_rfl) (by kernel_rfl) (by kernel_rfl) (by kernel_rfl) (fun _ _ _ h => h) (Or.inl ⟨by rfl, fun w _ => by go_simp⟩) hS ?_
              try simp only [Act.put, nz]
              refine wpAnyL_take (i := 3) (v := .pointer (some ⟨gl, 4, none⟩)) rfl (by kernel_rfl) (by kernel_rfl) (by kernel_rfl) (by kernel_rfl) (fun _ _ _ h => h) (Or.inl ⟨by rfl, fun w _ => by go_simp⟩) hS ?_
              try simp only [Act.put, nz]
              refine wpAnyL_take (i := 4) (v := vl1) rfl (by kernel_rfl) (by kernel_rfl) (by kernel_rfl) (by kernel_rfl) (fun _ _ _ h => h) (Or.inl ⟨by rfl, fun w h => by have c := row_at h.1 4 _ rfl; go_simp⟩) hS ?_
              try simp only [Act.put, nz]
              refine wpAnyL_take (i := 5) (v := .pointer (some ⟨wr.heap.size, 2, none⟩)) rfl (by kernel_rfl) (by kernel_rfl) (by kernel_rfl) (by kernel_rfl) (fun _ _ _ h => h) (Or.inl ⟨by rfl, fun w _ => by go_simp⟩) hS ?_
              try simp only [Act.put, nz]
              refine wpAnyL_take (i := 6) (v := .int .u64 c.off) rfl (by kernel_rfl) (by kernel_rfl) (by kernel_rfl) (by kernel_rfl) (fun _ _ _ h => h) (Or.inl ⟨by rfl, fun w h => by have c := row_at h.2.1 2 _ rfl; go_simp⟩) hS ?_
              try simp only [Act.put, nz]
              have own1 : OwnU w7.drew (gl + 1) vl1 xs := U7
              clear R7 s8 U7
              generalize w7.drew = W0 at hS own1 ⊢
              refine wpAnyL_ready (rs := [7]) (by kernel_rfl) (by simp) ?_
              refine AllReadyL.cons rfl (fun K hK => ?_) AllReadyL.nil
              have ab : Below W0.heap.size W0 (W0.alloc (.cells #[.int .u64 c.off] 37)) := (Below.refl _ _).alloc (Nat.le_refl _) _
              have rX : Row (W0.alloc (.cells #[.int .u64 c.off] 37)) W0.heap.size #[.int .u64 c.off] 37 := Row.new _ _ _
              have own2 := own1.keep ab
              have hS2 : Row (W0.alloc (.cells #[.int .u64 c.off] 37)) gl #[.pointer (some ⟨gd, 0, none⟩), .int .i64 a, .int .i64 z, .int .u32 ep, vl1, .slice (some pa) M cb, .string op, .int .u32 nx, .bool fr, .int .u64 fi, .int .u64 du] 99 ∧ Row (W0.alloc (.cells #[.int .u64 c.off] 37)) wr.heap.size #[.int .u32 c.ep, .int .u32 c.num, .int .u64 c.off, .string c.txt] 164 ∧ Off (fun j => j = gl ∨ vl1.ownBlock = some j) w7 (W0.alloc (.cells #[.int .u64 c.off] 37)) := ⟨hS.1.alloc _, hS.2.1.alloc _, hS.2.2.trans (Off.of_below (F := fun _ => False) ab) (fun _ q => q.elim)⟩
              have hrW : gl + 1 ≤ W0.heap.size := hS.1.lt
              have hab := ab.size
              have HWX : Hid (w7.heap.size ≤ W0.heap.size) := hS.2.2.size
              go_simp
              refine hK.out _ _ (fun _ => hS2) ?_
              try simp only [Act.put, nz]
              clear hS ab own1
              generalize W0.alloc (.cells #[.int .u64 c.off] 37) = W1 at rX hS2 hab own2 ⊢
              generalize W0.heap.size = X at rX hab hrW HWX ⊢
              have hS := hS2
              clear hS2
              have HRA : Hid (∀ ty, ∃ v' w', (Builtin.append_ #[96, 96] ty #[vl1, .slice (some ⟨X, 0, none⟩) 1 1]).run Try.prog W1 = .ok v' w' ∧ (OwnU w' (gl + 1) v' (xs ++ [c.off]) ∧ W1.grownBy w' vl1.ownBlock ∧ (v'.ownBlock = vl1.ownBlock ∨ v'.ownBlock = some W1.heap.size))) := fun ty => OwnU.snocQ own2 ty X c.off rX (by omega) HLN.out
              refine wpAnyL_ready (rs := [8]) (by kernel_rfl) (by simp) ?_
              refine AllReadyL.cons rfl (fun K hK => step_ofL rfl (Ck.wp_copy (.tmp 66) (.tmp 69) 96 rfl _ _ rfl rfl (fun ty => HRA.out ty) ?_)) AllReadyL.nil
              rintro v15 w15 ⟨own15, gr15, hv15⟩
              have o15 : Off (fun j => vl1.ownBlock = some j) W1 w15 := Off.of_grown gr15 (fun k hk => hk)
              have R15 : Row w15 gl #[.pointer (some ⟨gd, 0, none⟩), .int .i64 a, .int .i64 z, .int .u32 ep, vl1, .slice (some pa) M cb, .string op, .int .u32 nx, .bool fr, .int .u64 fi, .int .u64 du] 99 := hS.1.off o15 (fun q => by have := HUL.out gl q; omega)
              have C15 : Row w15 wr.heap.size #[.int .u32 c.ep, .int .u32 c.num, .int .u64 c.off, .string c.txt] 164 := hS.2.1.off o15 (fun q => own_not65 own2 q hS.2.1)
              have O15 : Off (fun j => j = gl ∨ vl1.ownBlock = some j) w7 w15 := hS.2.2.trans o15 (fun j q => Or.inl (Or.inr q))
              have HNB : Hid (∀ j, v15.ownBlock = some j → vl1.ownBlock = some j ∨ w7.heap.size ≤ j) := fun j hj => by
                rcases hv15 with q | q
                · rw [q] at hj; exact Or.inl hj
                · rw [q] at hj; cases hj; have := HWX.out; exact Or.inr (by omega)
              have hS15 : Row w15 gl #[.pointer (some ⟨gd, 0, none⟩), .int .i64 a, .int .i64 z, .int .u32 ep, vl1, .slice (some pa) M cb, .string op, .int .u32 nx, .bool fr, .int .u64 fi, .int .u64 du] 99 ∧ Row w15 wr.heap.size #[.int .u32 c.ep, .int .u32 c.num, .int .u64 c.off, .string c.txt] 164 ∧ Off (fun j => j = gl ∨ vl1.ownBlock = some j) w7 w15 := ⟨R15, C15, O15⟩
              refine hK.out _ _ (fun _ => hS15) ?_
              try simp only [Act.put, nz]
              clear hS HRA own2 gr15 o15 R15 C15 O15 rX hv15
              have hS := hS15
              clear hS15
              refine wpAnyL_ready (rs := [9]) (by kernel_rfl) (by simp) ?_
              refine AllReadyL.cons rfl (fun K hK => ?_) AllReadyL.nil
              go_simp
              refine hK.out _ _ (fun _ => hS) ?_
              try simp only [Act.put, nz]
              refine wpAnyL_ready (rs := [10]) (by kernel_rfl) (by simp) ?_
              refine AllReadyL.cons rfl (fun K hK => ?_) AllReadyL.nil
              go_simp
              refine hK.out _ _ (fun _ => hS) ?_
              try simp only [Act.put, nz]
              refine wpAnyL_ready (rs := [11]) (by kernel_rfl) (by simp) ?_
              refine AllReadyL.cons rfl (fun K hK => ?_) AllReadyL.nil
              have c9 := row_at hS.1 4 _ rfl
              have f9 := row_frozen hS.1 4
              obtain ⟨oc, cc, hf15⟩ := own15.form
              have hlen : (xs ++ [c.off]).length = xs.length + 1 := by rw [List.length_append]; rfl
              rw [hlen] at hf15
              clear hlen
              have HFL : Hid (FLoop w gl gd F ⟨a, z, ep, la, sl, op, nx, fr, fi, du⟩ d3 N3 (.slice (some pa) M cb) L1 (k + 1) (w15.setCell ⟨gl, 4, none⟩ v15)) := FLoop.step HD7.out HO7.out HF7.out hS.2.2 HNB.out own15 hS.1 HTK.out HW7.out
              subst hf15
              go_simp
              refine hK.out _ _ (fun q => absurd rfl q) ?_
              try simp only [Act.put, nz]
              clear hS c9 f9 own15 HNB HF7 HO7 HD7
              generalize w15.setCell ⟨gl, 4, none⟩ (.slice oc (xs.length + 1) cc) = w16 at HFL ⊢
              refine wpAnyL_done (by kernel_rfl) ?_ _
              go_wp2
              go_roundw
              case rel => exact ⟨k + 1, by omega, by go_num, HFL.out⟩
              case measure => simp [intOf]; omega
            · obtain rfl : M = k := by omega
              have hkk' : ¬ (M : Int) < (M : Int) := by omega
              have hD2 : LD wr gl gd vl1 (.slice ob M cb) L1 ⟨a, z, ep, la ++ sl.map (·.off), sl, op, nx, fr, fi, du⟩ d3 N3 := by
                have e1 : sl.take M = sl := List.take_of_length_le (by rw [HM.out]; exact Nat.le_refl _)
                rw [e1] at hD; exact hD
              clear hD
              have R0 : Row wr gl #[.pointer (some ⟨gd, 0, none⟩), .int .i64 a, .int .i64 z, .int .u32 ep, vl1, .slice ob M cb, .string op, .int .u32 nx, .bool fr, .int .u64 fi, .int .u64 du] 99 := hD2.row
              have f5 := row_frozen R0 5
              have R1 : Row (wr.setCell ⟨gl, 5, none⟩ (.slice none 0 0)) gl #[.pointer (some ⟨gd, 0, none⟩), .int .i64 a, .int .i64 z, .int .u32 ep, vl1, .slice none 0 0, .string op, .int .u32 nx, .bool fr, .int .u64 fi, .int .u64 du] 99 := row_set R0 5 (.slice none 0 0)
              have S1 := LStep.set (l2 := ⟨a, z, ep, la ++ sl.map (·.off), [], op, nx, fr, fi, du⟩) hD2 hO hF 5 (.slice none 0 0) (.slice none 0 0) R1 rfl (Or.inr ⟨rfl, rfl⟩)
              have HS1 : Hid _ := S1
              have c5 : wr.cell? ⟨gl, 5, none⟩ = some (.slice ob M cb) := row_at R0 5 _ rfl
              clear hD2 hO hF S1 R0
              go_upto_region 21 with fail
              generalize wr.setCell ⟨gl, 5, none⟩ (.slice none 0 0) = w20 at HS1 R1 ⊢
              clear c5 f5
              have c9 := row_at R1 9 _ rfl
              have c10 := row_at R1 10 _ rfl
              have f10 := row_frozen R1 10
              have R2 : Row (w20.setCell ⟨gl, 10, none⟩ (.int .u64 fi)) gl #[.pointer (some ⟨gd, 0, none⟩), .int .i64 a, .int .i64 z, .int .u32 ep, vl1, .slice none 0 0, .string op, .int .u32 nx, .bool fr, .int .u64 fi, .int .u64 fi] 99 := row_set R1 10 (.int .u64 fi)
              have S2 := LStep.set (l2 := ⟨a, z, ep, la ++ sl.map (·.off), [], op, nx, fr, fi, fi⟩) HS1.out.1 HS1.out.2.1 HS1.out.2.2 10 (.int .u64 fi) (.slice none 0 0) R2 rfl (Or.inl ⟨rfl, rfl⟩)
              have HK2 : Hid (PP (.returned (.int .i64 0)) (w20.setCell ⟨gl, 10, none⟩ (.int .u64 fi))) := HK.out _ ⟨_, _, _, S2.1, S2.2.1, S2.2.2⟩
              clear S2 R2 HS1 HK R1
              go_wp2
              try go_ret
              exact HK2.out
end Go.Proofs.Ytehogiondcpbcaa
