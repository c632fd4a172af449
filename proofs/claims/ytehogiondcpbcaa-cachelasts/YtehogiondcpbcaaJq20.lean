/-
  Proved here: cache.writeBack. Proved here: cache.vacate: a frame that is free, or made free.
-/
import Derived.Test.YtehogiondcpbcaaJq19
namespace Go.Proofs.Ytehogiondcpbcaa
open Go.ChangeShapes Go.WideShapes Go.ChangeAt Go.RowKit
set_option linter.unusedVariables false
set_option linter.unusedSimpArgs false
set_option maxRecDepth 20000
def lsnP (p : List Int) : Int := getN (strOfNums p) 7 8
def flushIf (l : Lg) (d : Dsk) (x : Int) : Int × Lg × Dsk := if l.dur ≤ x then flushR l d else (0, l, d)
def wrD (s : Cs) (f : Fm) (d : Dsk) : Int × Dsk := writ d (placeC s.pages f.un f.no) (Sl.sealN (lsnP f.p) f.p 4)
def wbR (s : Cs) (l : Lg) (d : Dsk) (f : Fm) : Int × Lg × Dsk :=
  let a := flushIf l d (lsnP f.p)
  if a.1 ≠ 0 then a else
  let b := wrD s f a.2.2
  if b.1 ≠ 0 then (b.1, a.2.1, b.2) else ((sync b.2).1, a.2.1, (sync b.2).2)
def cleanF (s : Cs) (i : Nat) (f : Fm) : Cs := { s with fs := s.fs.set i { f with dirty := false } }
set_option maxHeartbeats 4000000 in
theorem wb_any {w : World} {F : Nat → Prop} {gc gd gl gk ak : Nat} {s : Cs} {l : Lg} {d : Dsk} {M : Int} {N : Nat} (c : CL w F gc gd gl gk ak s l d M N) (i : Nat) (f : Fm) (hf : s.fs[i]? = some f) (hd : f.dirty = true) (hi : l.Inv) (hfi : l.fin ≤ 18446744073709551615) (hop : d.ops + 2000 < 9223372036854775806) (hopF : (flushR l d).2.2.ops ≤ d.ops + 1000) (hN : N + 20000 < 1000000000000) :
    Calls Try.prog 59 #[.pointer (some ⟨gc, 0, none⟩), .int .i64 i] w fun e w' => e = .returned (.int .i64 (wbR s l d f).1) ∧ CStep w F gc gd gl gk ak (if (wbR s l d f).1 = 0 then cleanF s i f else s) (wbR s l d f).2.1 (wbR s l d f).2.2 M (N + 4004) w' := by
  obtain ⟨PP, HPP⟩ : ∃ PP : Ending → World → Prop, Hid (PP = fun e w' => e = .returned (.int .i64 (wbR s l d f).1) ∧ CStep w F gc gd gl gk ak (if (wbR s l d f).1 = 0 then cleanF s i f else s) (wbR s l d f).2.1 (wbR s l d f).2.2 M (N + 4004) w') := ⟨_, rfl⟩
  rw [← HPP.out]
  obtain ⟨fv, m, n, vl, vs, L, cA, lD, hdis, hF⟩ := c.ex
  have ok := c.ok
  obtain ⟨oa, cap, rfl, hcap, hel⟩ := cA.form ok.fs
  obtain ⟨a, rfl, hcell⟩ := hel i f hf
  have fok := ok.fs f (List.mem_of_getElem? hf)
  obtain ⟨xa, hxa⟩ := cA.frame
  have hfoot : ∀ p, (p = gc ∨ p = a) → cfoot gc gk ak (.slice (some ⟨a, 0, none⟩) s.fs.length cap) m p := fun p q => q.elim Or.inl fun y => Or.inr (Or.inl (by rw [y]; rfl))
  obtain ⟨FL, HFL⟩ : ∃ FL : Nat → Prop, Hid (FL = fun j => lfoot gl gd vl vs L j) := ⟨_, rfl⟩
  have hst0 : LStep w gl gd FL l d N w := by rw [HFL.out]; exact LStep.refl lD
  have HNG : Hid (¬ FL gc ∧ ¬ FL a) := by rw [HFL.out]; exact ⟨fun q => hdis _ q (hfoot gc (Or.inl rfl)), fun q => hdis _ q (hfoot a (Or.inr rfl))⟩
  have hfew : s.fs.length ≤ 32 := by have := ok.few; have := ok.most.2; omega
  have hil := (List.getElem?_eq_some_iff.1 hf).1
  have hil2 : (i : Int) < (s.fs.length : Int) := by omega
  have HC0 : Hid (∀ W, Off FL w W → W.cell? ⟨gc, 0, none⟩ = some (.pointer (some ⟨gd, 0, none⟩))) := fun W o => cell_offF (row_at cA.row 0 _ rfl) o HNG.out.1
  have HC1 : Hid (∀ W, Off FL w W → W.cell? ⟨gc, 1, none⟩ = some (.iface 24 (.pointer (some ⟨gl, 0, none⟩)))) := fun W o => cell_offF (row_at cA.row 1 _ rfl) o HNG.out.1
  have HC3 : Hid (∀ W, Off FL w W → W.cell? ⟨gc, 3, none⟩ = some (.int .i64 s.pages)) := fun W o => cell_offF (row_at cA.row 3 _ rfl) o HNG.out.1
  have HCI : Hid (∀ W, Off FL w W → ∀ j u, ([.bool f.un, .int .u16 f.no] : List Value)[j]? = some u → W.cell? ((⟨a, i * 229, none⟩ : Addr).add j) = some u) := fun W o j u h => by
    rw [Addr.add_mid]
    refine cell_offF (hcell j u ?_) o HNG.out.2
    have hj : j < 2 := (List.getElem?_eq_some_iff.1 h).1
    show (([.bool f.un, .int .u16 f.no] : List Value) ++ (f.p.map (Value.int .u8) ++ _))[j]? = some u
    rw [List.getElem?_append_left (by simpa using hj)]
    exact h
  have HCP : Hid (∀ W, Off FL w W → ∀ j u, (f.p.map (Value.int .u8))[j]? = some u → W.cell? ((⟨a, i * 229 + 2, none⟩ : Addr).add j) = some u) := fun W o j u h => by
    rw [Addr.add_mid, Nat.add_assoc]
    refine cell_offF (hcell (2 + j) u ?_) o HNG.out.2
    have hj : j < 224 := by have := (List.getElem?_eq_some_iff.1 h).1; rw [List.length_map, fok.len] at this; exact this
    show (([.bool f.un, .int .u16 f.no] : List Value) ++ (f.p.map (Value.int .u8) ++ _))[2 + j]? = some u
    rw [List.getElem?_append_right (by simp), List.getElem?_append_left (by simp [fok.len]; omega)]
    simpa using h
  have HCD0 : Hid (∀ W, Off FL w W → W.cell? ⟨a, i * 229 + 227, none⟩ = some (.bool f.dirty)) := fun W o => cell_offF (hcell 227 (.bool f.dirty) (by rw [f.cells_pre, List.getElem?_append_right (by rw [Fm.pre_length fok.len]; omega), Fm.pre_length fok.len]; rfl)) o HNG.out.2
  have HPL : Hid ((f.p.map (Value.int .u8)).length = 224) := by show _ = _; rw [List.length_map]; exact fok.len
  have hpa : (f.p.map (Value.int .u8)).toArray = bs f.p := rfl
  have HPN : Hid (f.p.length = 224) := fok.len
  have HPB : Hid (Bytes f.p) := fok.by_
  have HNO : Hid (WfU f.no) := fok.no
  have HPG : Hid (0 ≤ (s.pages : Int) ∧ (s.pages : Int) ≤ 1000) := by have := ok.pages; show _ ∧ _; omega
  have HLO : Hid (0 ≤ lsnP f.p ∧ lsnP f.p ≤ 18446744073709551615) := by have := getN_fits (strOfNums f.p) 7 8; unfold lsnP; show _ ∧ _; omega
  have HCU : Hid (∀ (W : World) (s' : Cs) (l' : Lg) (d' : Dsk) (N' : Nat), LStep w gl gd FL l' d' N' W → N' ≤ N + 4004 → s' = s → CStep w F gc gd gl gk ak s' l' d' M (N + 4004) W) := fun W s' l' d' N' h hN' e => by
    subst e
    have h2 := h.grow hN' (by omega)
    rw [HFL.out] at h2
    exact CStep.logd hdis hF (fun j q => cA.lt q) (h2.off.mono fun j q => Or.inl (hF j (Or.inl q))) h2 (cA.off h2.off fun k q q2 => hdis k q2 q) ok
  have HCW : Hid (∀ (W : World) (l' : Lg) (d' : Dsk) (N' : Nat), LStep w gl gd FL l' d' N' W → N' ≤ N + 4004 → CStep w F gc gd gl gk ak (cleanF s i f) l' d' M (N + 4004) (W.setCell ⟨a, i * 229 + 227, none⟩ (.bool false))) := fun W l' d' N' h hN' => by
    have h2 := h.grow hN' (by omega)
    rw [HFL.out] at h2
    obtain ⟨vl', vs', L', k1, k2, k3⟩ := h2
    have O : Off (· = a) W (W.setCell ⟨a, i * 229 + 227, none⟩ (.bool false)) := Off.of_setCell _ _ _ rfl
    have cW := cA.off k2 fun k q q2 => hdis k q2 q
    have cT := cW.turn ok.fs hf (o := 227) (by omega) (.bool false) (cells_dirty fok.len false) rfl rfl
    have halt := cA.lt (hfoot a (Or.inr rfl))
    have k1' := k1.off O (fun j q e => by
      rcases k3 j q with y | y
      · exact hdis j y (hfoot j (Or.inr e))
      · omega)
    refine ⟨(k2.mono (F' := F) fun j q => Or.inl (hF j (Or.inl q))).trans O (fun j q => Or.inl (by rw [q]; exact hF a (Or.inr (hfoot a (Or.inr rfl))))), fun j => lfoot gl gd vl' vs' L' j ∨ cfoot gc gk ak (.slice (some ⟨a, 0, none⟩) s.fs.length cap) m j, ⟨⟨_, m, n, vl', vs', L', cT, k1', fun j q q2 => ?_, fun j q => q⟩, ok.turn hf ⟨fok.len, fok.by_, fok.no, fok.first⟩ rfl rfl, fun j q => ?_⟩, fun j hj q => ?_⟩
    · rcases k3 j q with y | y
      · exact hdis j y q2
      · have := cA.lt q2; omega
    · rcases q with q | q
      · exact k1'.lt q
      · exact Nat.lt_of_lt_of_le (cA.lt q) (Nat.le_trans k2.size O.size)
    · rcases q with q | q
      · rcases k3 j q with y | y
        · exact hF j (Or.inl y)
        · omega
      · exact hF j (Or.inr q)
  clear hcell hel
  have c6 : w.cell? ⟨gc, 6, none⟩ = some (.slice (some ⟨a, 0, none⟩) s.fs.length cap) := row_at cA.row 6 _ rfl
  have c227 := HCD0.out w (Off.refl _ _)
  rw [hd] at c227
  have HCD : Hid (∀ W, Off FL w W → W.cell? ⟨a, i * 229 + 227, none⟩ = some (.bool true)) := by have := HCD0.out; rw [hd] at this; exact this
  have HFZ : Hid (∀ W, Off FL w W → W.frozen? ⟨a, i * 229 + 227, none⟩ = false) := fun W o => by
    have := (cA.off (F := fun j => FL j) o fun k q q2 => hdis k (by rw [HFL.out] at q2; exact q2) q).own
    exact this.frozenAt _
  have hpc := HCP.out w (Off.refl _ _)
  have hls : ∀ W, Calls Try.prog 12 #[.agg (bs f.p)] W fun e w' => e = .returned (.int .u64 (lsnP f.p)) ∧ Below W.heap.size W w' := fun W => lsn_any f.p W HPN.out
  have hm1 := meth_dur (.pointer (some ⟨gl, 0, none⟩))
  have hm2 := meth_flush (.pointer (some ⟨gl, 0, none⟩))
  have tl : Hid (1 = 1) := rfl
  clear HCD0 hdis hF lD cA hxa hfoot hd c ok fok hfew
  have HIN : Hid l.Inv := hi
  have HFI : Hid (l.fin ≤ 18446744073709551615) := hfi
  have HOP0 : Hid (d.ops + 2000 < 9223372036854775806) := hop
  have HOPF : Hid ((flushR l d).2.2.ops ≤ d.ops + 1000) := hopF
  have HNN0 : Hid (N + 20000 < 1000000000000) := hN
  clear hi hfi hop hopF hN
  obtain ⟨fe, HFE⟩ : ∃ fe, Hid ((flushR l d).1 = fe) := ⟨_, rfl⟩
  by_cases hdl : l.dur ≤ lsnP f.p
  · by_cases hf0 : fe = 0
    · have k7 : (fe != 0) = false := by simpa using hf0
      have HWB0 : Hid (wbR s l d f = if (writ (flushR l d).2.2 (placeC s.pages f.un f.no) (Sl.sealN (lsnP f.p) f.p 4)).1 ≠ 0 then ((writ (flushR l d).2.2 (placeC s.pages f.un f.no) (Sl.sealN (lsnP f.p) f.p 4)).1, (flushR l d).2.1, (writ (flushR l d).2.2 (placeC s.pages f.un f.no) (Sl.sealN (lsnP f.p) f.p 4)).2) else ((sync (writ (flushR l d).2.2 (placeC s.pages f.un f.no) (Sl.sealN (lsnP f.p) f.p 4)).2).1, (flushR l d).2.1, (sync (writ (flushR l d).2.2 (placeC s.pages f.un f.no) (Sl.sealN (lsnP f.p) f.p 4)).2).2)) := by
        show wbR s l d f = _
        unfold wbR flushIf wrD
        rw [if_pos hdl]
        simp only [HFE.out, hf0, ne_eq, not_true_eq_false, if_false]
      clear hf0
      go_enter Try.func59, Try.ntmps59
      go_upto_region 9 with (first
        | (have hh := tl; clear hh tl; refine wpList_load_any rfl 34 (.tmp 23) rfl _ rfl (f.p.map (Value.int .u8)) _ hpc Try.underlying34 rfl (by rw [size34, HPL.out]) ?_; rw [hpa])
        | (have hh := hls; clear hh; go_at_call 12; refine Calls.mono (hls _) ?_; clear hls; rintro e W1 ⟨he, hb⟩; obtain rfl := he; have hst1 := hst0.below hb; have c1 := HC1.out W1 hst1.off; have hdu := hst1.dur)
        | (have hh := hdu; clear hh; go_at_call 13; refine Calls.mono hdu ?_; clear hdu; rintro e W2 ⟨he, hst2⟩; obtain rfl := he; have c1 := HC1.out W2 hst2.off; have hfl := hst2.flush HIN.out HFI.out (by have := HOP0.out; omega) (by have := HNN0.out; omega); rw [HFE.out] at hfl)
        | (have hh := hfl; clear hh; go_at_call 126; refine Calls.mono hfl ?_; clear hfl; rintro e W3 ⟨he, hst3⟩; obtain rfl := he))
      have HOP : Hid ((flushR l d).2.2.ops < 9223372036854775806) := by have := HOP0.out; have := HOPF.out; show _ < _; omega
      have HNN : Hid ((N + 4000) + 4 < 1000000000000) := by have := HNN0.out; show _ < _; omega
      obtain ⟨we, HWE⟩ : ∃ we, Hid ((writ (flushR l d).2.2 (placeC s.pages f.un f.no) (Sl.sealN (lsnP f.p) f.p 4)).1 = we) := ⟨_, rfl⟩
      have HOS : Hid ((writ (flushR l d).2.2 (placeC s.pages f.un f.no) (Sl.sealN (lsnP f.p) f.p 4)).2.ops < 9223372036854775806) := by have := writ_ops1 (flushR l d).2.2 (placeC s.pages f.un f.no) (Sl.sealN (lsnP f.p) f.p 4); have := HOP0.out; have := HOPF.out; show _ < _; omega
      obtain ⟨sy, HSY⟩ : ∃ sy, Hid ((sync (writ (flushR l d).2.2 (placeC s.pages f.un f.no) (Sl.sealN (lsnP f.p) f.p 4)).2).1 = sy) := ⟨_, rfl⟩
      clear c1 c6 c227 hpc hm1 hm2
      have hstT := hst3
      clear hst3
      generalize W3 = WT at hstT ⊢
      have hstD := hstT.below (Below.refl _ _).drew
      refine wp_region_held_drew (S := fun W => Off FL w W) (by kernel_rfl) hstT.off.drew fun hS => ?_
      clear hstT
      generalize WT.drew = WU at hS hstD ⊢
      refine tkI (i := 0) (v := .pointer (some ⟨gc, 0, none⟩)) rfl (Or.inl ⟨by rfl, fun w _ => by rfl⟩) hS ?_
      try simp only [Act.put, nz]
      refine tkI (i := 1) (v := .pointer (some ⟨gc, 0, none⟩)) rfl (Or.inl ⟨by rfl, fun w _ => by go_simp⟩) hS ?_
      try simp only [Act.put, nz]
      refine tkI (i := 2) (v := .pointer (some ⟨gc, 0, none⟩)) rfl (Or.inl ⟨by rfl, fun w _ => by go_simp⟩) hS ?_
      try simp only [Act.put, nz]
      refine tkI (i := 3) (v := .pointer (some ⟨gd, 0, none⟩)) rfl (Or.inl ⟨by rfl, fun W h => by have c := HC0.out W h; go_simp⟩) hS ?_
      try simp only [Act.put, nz]
      refine tkI (i := 4) (v := .pointer (some ⟨gc, 0, none⟩)) rfl (Or.inl ⟨by rfl, fun w _ => by rfl⟩) hS ?_
      try simp only [Act.put, nz]
      refine tkI (i := 5) (v := .pointer (some ⟨gc, 0, none⟩)) rfl (Or.inl ⟨by rfl, fun w _ => by go_simp⟩) hS ?_
      try simp only [Act.put, nz]
      refine tkI (i := 6) (v := .pointer (some ⟨gc, 3, none⟩)) rfl (Or.inl ⟨by rfl, fun w _ => by go_simp⟩) hS ?_
      try simp only [Act.put, nz]
      refine tkI (i := 7) (v := .int .i64 s.pages) rfl (Or.inl ⟨by rfl, fun W h => by have c := HC3.out W h; go_simp⟩) hS ?_
      try simp only [Act.put, nz]
      refine tkI (i := 8) (v := .pointer (some ⟨a, i * 229, none⟩)) rfl (Or.inl ⟨by rfl, fun w _ => by rfl⟩) hS ?_
      try simp only [Act.put, nz]
      refine tkI (i := 9) (v := .pointer (some ⟨a, i * 229, none⟩)) rfl (Or.inl ⟨by rfl, fun w _ => by go_simp⟩) hS ?_
      try simp only [Act.put, nz]
      refine tkI (i := 10) (v := .pointer (some ⟨a, i * 229, none⟩)) rfl (Or.inl ⟨by rfl, fun w _ => by go_simp⟩) hS ?_
      try simp only [Act.put, nz]
      refine tkI (i := 11) (v := .agg #[.bool f.un, .int .u16 f.no]) rfl (yields_any (by rfl) 31 (.tmp 51) rfl ⟨a, i * 229, none⟩ rfl [.bool f.un, .int .u16 f.no] _ HCI.out Try.underlying31 rfl (by rw [size31]; rfl)) hS ?_
      try simp only [Act.put, nz]
      refine tkI (i := 13) (v := .int .u64 (lsnP f.p)) rfl (Or.inl ⟨by rfl, fun w _ => by rfl⟩) hS ?_
      try simp only [Act.put, nz]
      refine tkI (i := 14) (v := .pointer (some ⟨a, i * 229, none⟩)) rfl (Or.inl ⟨by rfl, fun w _ => by rfl⟩) hS ?_
      try simp only [Act.put, nz]
      refine tkI (i := 15) (v := .pointer (some ⟨a, i * 229, none⟩)) rfl (Or.inl ⟨by rfl, fun w _ => by go_simp⟩) hS ?_
      try simp only [Act.put, nz]
      refine tkI (i := 16) (v := .pointer (some ⟨a, i * 229 + 2, none⟩)) rfl (Or.inl ⟨by rfl, fun w _ => by go_simp⟩) hS ?_
      try simp only [Act.put, nz]
      refine tkI (i := 17) (v := .agg (bs f.p)) rfl (yields_any (by rfl) 34 (.tmp 57) rfl ⟨a, i * 229 + 2, none⟩ rfl (f.p.map (Value.int .u8)) _ HCP.out Try.underlying34 rfl (by rw [size34, HPL.out])) hS ?_
      try simp only [Act.put, nz]
      have hpl := cplace_any (s.pages : Int) HPG.out f.un f.no HNO.out WU
      unfold idv at hpl
      refine wpAnyH_ready (rs := [12]) (by kernel_rfl) (by simp) ?_
      refine AllReadyH.cons rfl (fun K hK => ?_) AllReadyH.nil
      go_simp
      go_at_call 29
      refine Calls.mono hpl ?_
      clear hpl
      rintro e WV ⟨he, hb⟩
      obtain rfl := he
      have hstV := hstD.below hb
      refine hK.out _ _ (hS.trans (Off.of_below (F := fun _ => False) hb) (fun _ q => q.elim)) fun hS => ?_
      try simp only [Act.put, nz]
      have hse := Sl.seal_any (lsnP f.p) f.p HPN.out WV HLO.out.1 HLO.out.2
      refine wpAnyH_ready (rs := [18]) (by kernel_rfl) (by simp) ?_
      refine AllReadyH.cons rfl (fun K hK => ?_) AllReadyH.nil
      go_simp
      go_at_call 88
      refine Calls.mono hse ?_
      clear hse
      rintro e WX ⟨he, hb2⟩
      obtain rfl := he
      have hstX := hstV.below hb2
      refine hK.out _ _ (hS.trans (Off.of_below (F := fun _ => False) hb2) (fun _ q => q.elim)) fun hS => ?_
      try simp only [Act.put, nz]
      have hwr := hstX.write HOP.out (placeC s.pages f.un f.no) (Sl.sealN (lsnP f.p) f.p 4) (Sl.sealN_length _ _ 4 (by omega)) (Sl.sealN_bytes _ _ HPB.out) HNN.out
      refine wpAnyH_ready (rs := [19]) (by kernel_rfl) (by simp) ?_
      refine AllReadyH.cons rfl (fun K hK => ?_) AllReadyH.nil
      rw [HWE.out] at hwr
      go_simp
      go_at_call 30
      refine Calls.mono hwr ?_
      clear hwr
      rintro e WY ⟨he, hstY⟩
      obtain rfl := he
      refine hK.out _ _ hstY.off fun hS => ?_
      try simp only [Act.put, nz]
      refine wpAnyH_ready (rs := [20]) (by kernel_rfl) (by simp) ?_
      refine AllReadyH.cons rfl (fun K hK => ?_) AllReadyH.nil
      go_simp
      refine hK.out _ _ hS fun hS => ?_
      try simp only [Act.put, nz]
      refine wpAnyH_done (by kernel_rfl) ?_ _
      clear hS hstD hstV hstX hb hb2
      by_cases hw : we = 0
      · have k8 : (we != 0) = false := by simpa using hw
        have c0 := HC0.out WY hstY.off
        have hsy := hstY.sync HOS.out
        rw [HSY.out] at hsy
        by_cases h0 : sy = 0
        · have k9 : (sy != 0) = false := by simpa using h0
          have HWB : Hid (wbR s l d f = (0, (flushR l d).2.1, (sync (writ (flushR l d).2.2 (placeC s.pages f.un f.no) (Sl.sealN (lsnP f.p) f.p 4)).2).2)) := by show wbR s l d f = _; rw [HWB0.out, HWE.out, HSY.out, if_neg (fun q => q hw), h0]
          clear hw h0
          go_upto_region 15 with (first
            | (go_at_call 89; refine Calls.mono hsy ?_; clear hsy; rintro e WZ ⟨he, hstZ⟩; obtain rfl := he))
          have cD := HCD.out WZ hstZ.off
          have fD := HFZ.out WZ hstZ.off
          have hfin := HCW.out WZ _ _ _ hstZ (by omega)
          clear hstZ c0
          go_wp2
          rw [HPP.out, HWB.out]
          exact ⟨rfl, hfin⟩
        · have k9 : (sy != 0) = true := by simpa using h0
          have HWB : Hid (wbR s l d f = (sy, (flushR l d).2.1, (sync (writ (flushR l d).2.2 (placeC s.pages f.un f.no) (Sl.sealN (lsnP f.p) f.p 4)).2).2)) := by show wbR s l d f = _; rw [HWB0.out, HWE.out, HSY.out, if_neg (fun q => q hw)]
          have HS0 : Hid (¬ sy = 0) := h0
          clear hw h0
          go_wp2_with (first
            | (go_at_call 89; refine Calls.mono hsy ?_; clear hsy; rintro e WZ ⟨he, hstZ⟩; obtain rfl := he))
          rw [HPP.out, HWB.out]
          exact ⟨rfl, HCU.out WZ _ _ _ _ hstZ (by omega) (if_neg HS0.out)⟩
      · have k8 : (we != 0) = true := by simpa using hw
        have HWB : Hid (wbR s l d f = (we, (flushR l d).2.1, (writ (flushR l d).2.2 (placeC s.pages f.un f.no) (Sl.sealN (lsnP f.p) f.p 4)).2)) := by show wbR s l d f = _; rw [HWB0.out, HWE.out, if_pos hw]
        have HS0 : Hid (¬ we = 0) := hw
        clear hw
        go_wp2
        rw [HPP.out, HWB.out]
        exact ⟨rfl, HCU.out WY _ _ _ _ hstY (by omega) (if_neg HS0.out)⟩
    · have k7 : (fe != 0) = true := by simpa using hf0
      have HWB : Hid (wbR s l d f = (fe, (flushR l d).2.1, (flushR l d).2.2)) := by
        show wbR s l d f = _
        unfold wbR flushIf
        rw [if_pos hdl]
        simp only [HFE.out, hf0, ne_eq, not_false_eq_true, if_true]
        rw [← HFE.out]
      have HS0 : Hid (¬ fe = 0) := hf0
      clear hf0
      go_enter Try.func59, Try.ntmps59
      go_wp2_with (first
        | (have hh := tl; clear hh tl; refine wpList_load_any rfl 34 (.tmp 23) rfl _ rfl (f.p.map (Value.int .u8)) _ hpc Try.underlying34 rfl (by rw [size34, HPL.out]) ?_; rw [hpa])
        | (have hh := hls; clear hh; go_at_call 12; refine Calls.mono (hls _) ?_; clear hls; rintro e W1 ⟨he, hb⟩; obtain rfl := he; have hst1 := hst0.below hb; have c1 := HC1.out W1 hst1.off; have hdu := hst1.dur)
        | (have hh := hdu; clear hh; go_at_call 13; refine Calls.mono hdu ?_; clear hdu; rintro e W2 ⟨he, hst2⟩; obtain rfl := he; have c1 := HC1.out W2 hst2.off; have hfl := hst2.flush HIN.out HFI.out (by have := HOP0.out; omega) (by have := HNN0.out; omega); rw [HFE.out] at hfl)
        | (have hh := hfl; clear hh; go_at_call 126; refine Calls.mono hfl ?_; clear hfl; rintro e W3 ⟨he, hst3⟩; obtain rfl := he))
      rw [HPP.out, HWB.out]
      exact ⟨rfl, HCU.out W3 _ _ _ _ hst3 (by omega) (if_neg HS0.out)⟩
  · have HWB0 : Hid (wbR s l d f = if (writ d (placeC s.pages f.un f.no) (Sl.sealN (lsnP f.p) f.p 4)).1 ≠ 0 then ((writ d (placeC s.pages f.un f.no) (Sl.sealN (lsnP f.p) f.p 4)).1, l, (writ d (placeC s.pages f.un f.no) (Sl.sealN (lsnP f.p) f.p 4)).2) else ((sync (writ d (placeC s.pages f.un f.no) (Sl.sealN (lsnP f.p) f.p 4)).2).1, l, (sync (writ d (placeC s.pages f.un f.no) (Sl.sealN (lsnP f.p) f.p 4)).2).2)) := by
      show wbR s l d f = _
      unfold wbR flushIf wrD
      rw [if_neg hdl]
      simp only [ne_eq, not_true_eq_false, if_false]
    go_enter Try.func59, Try.ntmps59
    go_upto_region 9 with (first
      | (have hh := tl; clear hh tl; refine wpList_load_any rfl 34 (.tmp 23) rfl _ rfl (f.p.map (Value.int .u8)) _ hpc Try.underlying34 rfl (by rw [size34, HPL.out]) ?_; rw [hpa])
      | (have hh := hls; clear hh; go_at_call 12; refine Calls.mono (hls _) ?_; clear hls; rintro e W1 ⟨he, hb⟩; obtain rfl := he; have hst1 := hst0.below hb; have c1 := HC1.out W1 hst1.off; have hdu := hst1.dur)
      | (have hh := hdu; clear hh; go_at_call 13; refine Calls.mono hdu ?_; clear hdu; rintro e W2 ⟨he, hst2⟩; obtain rfl := he; have c1 := HC1.out W2 hst2.off; skip))
    have HOP : Hid (d.ops < 9223372036854775806) := by have := HOP0.out; have := HOPF.out; show _ < _; omega
    have HNN : Hid (N + 4 < 1000000000000) := by have := HNN0.out; show _ < _; omega
    obtain ⟨we, HWE⟩ : ∃ we, Hid ((writ d (placeC s.pages f.un f.no) (Sl.sealN (lsnP f.p) f.p 4)).1 = we) := ⟨_, rfl⟩
    have HOS : Hid ((writ d (placeC s.pages f.un f.no) (Sl.sealN (lsnP f.p) f.p 4)).2.ops < 9223372036854775806) := by have := writ_ops1 d (placeC s.pages f.un f.no) (Sl.sealN (lsnP f.p) f.p 4); have := HOP0.out; have := HOPF.out; show _ < _; omega
    obtain ⟨sy, HSY⟩ : ∃ sy, Hid ((sync (writ d (placeC s.pages f.un f.no) (Sl.sealN (lsnP f.p) f.p 4)).2).1 = sy) := ⟨_, rfl⟩
    clear c1 c6 c227 hpc hm1 hm2
    have hstT := hst2
    clear hst2
    generalize W2 = WT at hstT ⊢
    have hstD := hstT.below (Below.refl _ _).drew
    refine wp_region_held_drew (S := fun W => Off FL w W) (by kernel_rfl) hstT.off.drew fun hS => ?_
    clear hstT
    generalize WT.drew = WU at hS hstD ⊢
    refine tkI (i := 0) (v := .pointer (some ⟨gc, 0, none⟩)) rfl (Or.inl ⟨by rfl, fun w _ => by rfl⟩) hS ?_
    try simp only [Act.put, nz]
    refine tkI (i := 1) (v := .pointer (some ⟨gc, 0, none⟩)) rfl (Or.inl ⟨by rfl, fun w _ => by go_simp⟩) hS ?_
    try simp only [Act.put, nz]
    refine tkI (i := 2) (v := .pointer (some ⟨gc, 0, none⟩)) rfl (Or.inl ⟨by rfl, fun w _ => by go_simp⟩) hS ?_
    try simp only [Act.put, nz]
    refine tkI (i := 3) (v := .pointer (some ⟨gd, 0, none⟩)) rfl (Or.inl ⟨by rfl, fun W h => by have c := HC0.out W h; go_simp⟩) hS ?_
    try simp only [Act.put, nz]
    refine tkI (i := 4) (v := .pointer (some ⟨gc, 0, none⟩)) rfl (Or.inl ⟨by rfl, fun w _ => by rfl⟩) hS ?_
    try simp only [Act.put, nz]
    refine tkI (i := 5) (v := .pointer (some ⟨gc, 0, none⟩)) rfl (Or.inl ⟨by rfl, fun w _ => by go_simp⟩) hS ?_
    try simp only [Act.put, nz]
    refine tkI (i := 6) (v := .pointer (some ⟨gc, 3, none⟩)) rfl (Or.inl ⟨by rfl, fun w _ => by go_simp⟩) hS ?_
    try simp only [Act.put, nz]
    refine tkI (i := 7) (v := .int .i64 s.pages) rfl (Or.inl ⟨by rfl, fun W h => by have c := HC3.out W h; go_simp⟩) hS ?_
    try simp only [Act.put, nz]
    refine tkI (i := 8) (v := .pointer (some ⟨a, i * 229, none⟩)) rfl (Or.inl ⟨by rfl, fun w _ => by rfl⟩) hS ?_
    try simp only [Act.put, nz]
    refine tkI (i := 9) (v := .pointer (some ⟨a, i * 229, none⟩)) rfl (Or.inl ⟨by rfl, fun w _ => by go_simp⟩) hS ?_
    try simp only [Act.put, nz]
    refine tkI (i := 10) (v := .pointer (some ⟨a, i * 229, none⟩)) rfl (Or.inl ⟨by rfl, fun w _ => by go_simp⟩) hS ?_
    try simp only [Act.put, nz]
    refine tkI (i := 11) (v := .agg #[.bool f.un, .int .u16 f.no]) rfl (yields_any (by rfl) 31 (.tmp 51) rfl ⟨a, i * 229, none⟩ rfl [.bool f.un, .int .u16 f.no] _ HCI.out Try.underlying31 rfl (by rw [size31]; rfl)) hS ?_
    try simp only [Act.put, nz]
    refine tkI (i := 13) (v := .int .u64 (lsnP f.p)) rfl (Or.inl ⟨by rfl, fun w _ => by rfl⟩) hS ?_
    try simp only [Act.put, nz]
    refine tkI (i := 14) (v := .pointer (some ⟨a, i * 229, none⟩)) rfl (Or.inl ⟨by rfl, fun w _ => by rfl⟩) hS ?_
    try simp only [Act.put, nz]
    refine tkI (i := 15) (v := .pointer (some ⟨a, i * 229, none⟩)) rfl (Or.inl ⟨by rfl, fun w _ => by go_simp⟩) hS ?_
    try simp only [Act.put, nz]
    refine tkI (i := 16) (v := .pointer (some ⟨a, i * 229 + 2, none⟩)) rfl (Or.inl ⟨by rfl, fun w _ => by go_simp⟩) hS ?_
    try simp only [Act.put, nz]
    refine tkI (i := 17) (v := .agg (bs f.p)) rfl (yields_any (by rfl) 34 (.tmp 57) rfl ⟨a, i * 229 + 2, none⟩ rfl (f.p.map (Value.int .u8)) _ HCP.out Try.underlying34 rfl (by rw [size34, HPL.out])) hS ?_
    try simp only [Act.put, nz]
    have hpl := cplace_any (s.pages : Int) HPG.out f.un f.no HNO.out WU
    unfold idv at hpl
    refine wpAnyH_ready (rs := [12]) (by kernel_rfl) (by simp) ?_
    refine AllReadyH.cons rfl (fun K hK => ?_) AllReadyH.nil
    go_simp
    go_at_call 29
    refine Calls.mono hpl ?_
    clear hpl
    rintro e WV ⟨he, hb⟩
    obtain rfl := he
    have hstV := hstD.below hb
    refine hK.out _ _ (hS.trans (Off.of_below (F := fun _ => False) hb) (fun _ q => q.elim)) fun hS => ?_
    try simp only [Act.put, nz]
    have hse := Sl.seal_any (lsnP f.p) f.p HPN.out WV HLO.out.1 HLO.out.2
    refine wpAnyH_ready (rs := [18]) (by kernel_rfl) (by simp) ?_
    refine AllReadyH.cons rfl (fun K hK => ?_) AllReadyH.nil
    go_simp
    go_at_call 88
    refine Calls.mono hse ?_
    clear hse
    rintro e WX ⟨he, hb2⟩
    obtain rfl := he
    have hstX := hstV.below hb2
    refine hK.out _ _ (hS.trans (Off.of_below (F := fun _ => False) hb2) (fun _ q => q.elim)) fun hS => ?_
    try simp only [Act.put, nz]
    have hwr := hstX.write HOP.out (placeC s.pages f.un f.no) (Sl.sealN (lsnP f.p) f.p 4) (Sl.sealN_length _ _ 4 (by omega)) (Sl.sealN_bytes _ _ HPB.out) HNN.out
    refine wpAnyH_ready (rs := [19]) (by kernel_rfl) (by simp) ?_
    refine AllReadyH.cons rfl (fun K hK => ?_) AllReadyH.nil
    rw [HWE.out] at hwr
    go_simp
    go_at_call 30
    refine Calls.mono hwr ?_
    clear hwr
    rintro e WY ⟨he, hstY⟩
    obtain rfl := he
    refine hK.out _ _ hstY.off fun hS => ?_
    try simp only [Act.put, nz]
    refine wpAnyH_ready (rs := [20]) (by kernel_rfl) (by simp) ?_
    refine AllReadyH.cons rfl (fun K hK => ?_) AllReadyH.nil
    go_simp
    refine hK.out _ _ hS fun hS => ?_
    try simp only [Act.put, nz]
    refine wpAnyH_done (by kernel_rfl) ?_ _
    clear hS hstD hstV hstX hb hb2
    by_cases hw : we = 0
    · have k8 : (we != 0) = false := by simpa using hw
      have c0 := HC0.out WY hstY.off
      have hsy := hstY.sync HOS.out
      rw [HSY.out] at hsy
      by_cases h0 : sy = 0
      · have k9 : (sy != 0) = false := by simpa using h0
        have HWB : Hid (wbR s l d f = (0, l, (sync (writ d (placeC s.pages f.un f.no) (Sl.sealN (lsnP f.p) f.p 4)).2).2)) := by show wbR s l d f = _; rw [HWB0.out, HWE.out, HSY.out, if_neg (fun q => q hw), h0]
        clear hw h0
        go_upto_region 15 with (first
          | (go_at_call 89; refine Calls.mono hsy ?_; clear hsy; rintro e WZ ⟨he, hstZ⟩; obtain rfl := he))
        have cD := HCD.out WZ hstZ.off
        have fD := HFZ.out WZ hstZ.off
        have hfin := HCW.out WZ _ _ _ hstZ (by omega)
        clear hstZ c0
        go_wp2
        rw [HPP.out, HWB.out]
        exact ⟨rfl, hfin⟩
      · have k9 : (sy != 0) = true := by simpa using h0
        have HWB : Hid (wbR s l d f = (sy, l, (sync (writ d (placeC s.pages f.un f.no) (Sl.sealN (lsnP f.p) f.p 4)).2).2)) := by show wbR s l d f = _; rw [HWB0.out, HWE.out, HSY.out, if_neg (fun q => q hw)]
        have HS0 : Hid (¬ sy = 0) := h0
        clear hw h0
        go_wp2_with (first
          | (go_at_call 89; refine Calls.mono hsy ?_; clear hsy; rintro e WZ ⟨he, hstZ⟩; obtain rfl := he))
        rw [HPP.out, HWB.out]
        exact ⟨rfl, HCU.out WZ _ _ _ _ hstZ (by omega) (if_neg HS0.out)⟩
    · have k8 : (we != 0) = true := by simpa using hw
      have HWB : Hid (wbR s l d f = (we, l, (writ d (placeC s.pages f.un f.no) (Sl.sealN (lsnP f.p) f.p 4)).2)) := by show wbR s l d f = _; rw [HWB0.out, HWE.out, if_pos hw]
      have HS0 : Hid (¬ we = 0) := hw
      clear hw
      go_wp2
      rw [HPP.out, HWB.out]
      exact ⟨rfl, HCU.out WY _ _ _ _ hstY (by omega) (if_neg HS0.out)⟩
theorem wb_clean {w : World} {F : Nat → Prop} {gc gd gl gk ak : Nat} {s : Cs} {l : Lg} {d : Dsk} {M : Int} {N : Nat} (c : CL w F gc gd gl gk ak s l d M N) (i : Nat) (f : Fm) (hf : s.fs[i]? = some f) (hd : f.dirty = false) : Calls Try.prog 59 #[.pointer (some ⟨gc, 0, none⟩), .int .i64 i] w fun e w' => e = .returned (.int .i64 0) ∧ w' = w := by
  obtain ⟨fv, m, n, vl, vs, L, cA, lD, hdis, hF⟩ := c.ex
  have ok := c.ok
  obtain ⟨oa, cap, rfl, hcap, hel⟩ := cA.form ok.fs
  obtain ⟨a, rfl, hcell⟩ := hel i f hf
  have fok := ok.fs f (List.mem_of_getElem? hf)
  have hfew : s.fs.length ≤ 32 := by have := ok.few; have := ok.most.2; omega
  have hil := (List.getElem?_eq_some_iff.1 hf).1
  have hil2 : (i : Int) < (s.fs.length : Int) := by omega
  have c227 : w.cell? ⟨a, i * 229 + 227, none⟩ = some (.bool false) := hcell 227 (.bool false) (by rw [f.cells_pre, List.getElem?_append_right (by rw [Fm.pre_length fok.len]; omega), Fm.pre_length fok.len, ← hd]; rfl)
  have c6 : w.cell? ⟨gc, 6, none⟩ = some (.slice (some ⟨a, 0, none⟩) s.fs.length cap) := row_at cA.row 6 _ rfl
  clear hcell hel cA lD hdis hF
  go_enter Try.func59, Try.ntmps59
  go_wp2
  go_ret
  exact ⟨rfl, rfl⟩
theorem CL.clock {w : World} {F : Nat → Prop} {gc gd gl gk ak : Nat} {s : Cs} {l : Lg} {d : Dsk} {M : Int} {N : Nat} (c : CL w F gc gd gl gk ak s l d M N) {W : World} {ck' : List Cl.Fr} {h' : Nat} {M' : Int} (hc : Cl.CAt W gk ak ck' h' M') (ho : Off (Cl.two gk ak) w W) (hl : ck'.length = s.ck.length) : CStep w F gc gd gl gk ak { s with ck := ck', hand := h' } l d M' N W := by
  obtain ⟨fv, m, n, vl, vs, L, cA, lD, hdis, hF⟩ := c.ex
  have hn : ∀ j, (j = gc ∨ fv.ownBlock = some j ∨ j = m) → ¬ Cl.two gk ak j := fun j q q2 => by
    have k1 := cA.clk.row
    have k2 := cA.clk.arr
    rcases q with rfl | q | rfl
    · rcases q2 with e | e
      · exact ne_cellsC cA.row k1 (by decide) e
      · exact ne_cellsC cA.row k2 (by decide) e
    · rcases cA.own.2 with ⟨e, _⟩ | ⟨g, cap', cur, e, _, hcc, _⟩
      · rw [e] at q; cases q
      · rw [e] at q; cases q
        rcases q2 with e2 | e2
        · exact ne_cellsC hcc k1 (by decide) e2
        · exact ne_cellsC hcc k2 (by decide) e2
    · rcases q2 with e | e
      · exact ne_mapC k1 cA.map.is e.symm
      · exact ne_mapC k2 cA.map.is e.symm
  have oF : Off F w W := ho.mono fun j q => Or.inl (hF j (Or.inr (Or.inr (Or.inr (Or.inr q)))))
  refine ⟨oF, F, ⟨⟨fv, m, n, vl, vs, L, ⟨cA.row.off ho (hn gc (Or.inl rfl)), ownsRow_off cA.own ho (fun k q => hn k (Or.inr (Or.inl q))), cA.map.off ho (hn m (Or.inr (Or.inr rfl))), hc, cA.n_lt⟩, lD.off ho (fun j q q2 => hdis j q (Or.inr (Or.inr (Or.inr q2)))), hdis, hF⟩, ⟨c.ok.pages, c.ok.undo, c.ok.most, c.ok.fs, c.ok.few, c.ok.one, by show ck'.length = _; rw [hl]; exact c.ok.ck, c.ok.page⟩, fun j q => Nat.lt_of_lt_of_le (c.lt j q) oF.size⟩, fun k _ q => q⟩
theorem CStep.behind2 {w : World} {F : Nat → Prop} {gc gd gl gk ak : Nat} {s : Cs} {l : Lg} {d : Dsk} {M : Int} {N : Nat} {W W2 : World} (o : Off F w W) {F1 : Nat → Prop} (hF1 : ∀ k, k < w.heap.size → F1 k → F k) (h : CStep W F1 gc gd gl gk ak s l d M N W2) : CStep w F gc gd gl gk ak s l d M N W2 := by
  obtain ⟨o2, F2, c2, k2⟩ := h
  refine ⟨o.trans o2 (fun j q => ?_), F2, c2, fun j hj q => hF1 j hj (k2 j (Nat.lt_of_lt_of_le hj o.size) q)⟩
  rcases Nat.lt_or_ge j w.heap.size with y | y
  · exact Or.inl (hF1 j y q)
  · exact Or.inr y
theorem CStep.ahead {w : World} {F : Nat → Prop} {gc gd gl gk ak : Nat} {s : Cs} {l : Lg} {d : Dsk} {M : Int} {N : Nat} {W W2 : World} (hb : Below w.heap.size w W) (h : CStep W F gc gd gl gk ak s l d M N W2) : CStep w F gc gd gl gk ak s l d M N W2 := by
  obtain ⟨o, F', c, k⟩ := h
  exact ⟨(Off.of_below (F := F) hb).trans o (fun j q => Or.inl q), F', c, fun j hj q => k j (Nat.lt_of_lt_of_le hj hb.size) q⟩
theorem Vict_lt {R : List Cl.Fr} {v : Nat} {S : List Cl.Fr} (h : Cl.Vict R v true S) : ∃ x ∈ R, v = x.no := by
  rcases h with ⟨A, x, B, e, _, _, hv, _⟩ | ⟨_, _, hv, _⟩ | ⟨_, _, e, _⟩
  · exact ⟨x, by rw [e]; simp, hv⟩
  · have : ∀ {R : List Cl.Fr} {v : Nat} {S : List Cl.Fr}, Cl.Vic R v S → ∃ x ∈ R, v = x.no := by
      intro R v S q
      induction q with
      | hit x T _ => exact ⟨x, List.mem_cons_self .., rfl⟩
      | pass x T v S _ _ ih =>
        obtain ⟨y, hy, e⟩ := ih
        rcases List.mem_append.1 hy with m | m
        · exact ⟨y, List.mem_cons_of_mem _ m, e⟩
        · simp at m; subst m
          exact ⟨x, List.mem_cons_self .., by rw [e, Cl.pass_no]⟩
    exact this hv
  · cases e
def Vacd (w : World) (F : Nat → Prop) (gc gd gl gk ak : Nat) (s : Cs) (l : Lg) (d : Dsk) (M : Int) (N : Nat) (e : Ending) (w' : World) : Prop :=
  (s.fs.length < s.most ∧ e = .returned (.tuple #[.int .i64 s.fs.length, .int .i64 0]) ∧ CStep w F gc gd gl gk ak s l d M N w') ∨
  (s.fs.length = s.most ∧ ∃ (v : Nat) (b : Bool) (ck' : List Cl.Fr) (h' : Nat), Cl.Vict (Cl.ring s.ck s.hand) v b (Cl.ring ck' h') ∧ Cl.Same s.ck ck' ∧
    ((b = false ∧ e = .returned (.tuple #[.int .i64 0, .int .i64 6]) ∧ CStep w F gc gd gl gk ak { s with ck := ck', hand := h' } l d M N w') ∨
     (b = true ∧ ∃ f, s.fs[v]? = some f ∧ ((f.dirty = false ∧ e = .returned (.tuple #[.int .i64 v, .int .i64 0]) ∧ CStep w F gc gd gl gk ak { s with ck := ck', hand := h' } l d M N w') ∨
       (f.dirty = true ∧ e = .returned (.tuple #[.int .i64 v, .int .i64 (wbR s l d f).1]) ∧ CStep w F gc gd gl gk ak (if (wbR s l d f).1 = 0 then cleanF { s with ck := ck', hand := h' } v f else { s with ck := ck', hand := h' }) (wbR s l d f).2.1 (wbR s l d f).2.2 M (N + 4004) w')))))
theorem wbR_ck (s : Cs) (l : Lg) (d : Dsk) (f : Fm) (ck' : List Cl.Fr) (h' : Nat) : wbR { s with ck := ck', hand := h' } l d f = wbR s l d f := rfl
set_option maxHeartbeats 2000000 in
theorem vacate_any {w : World} {F : Nat → Prop} {gc gd gl gk ak : Nat} {s : Cs} {l : Lg} {d : Dsk} {M : Int} {N : Nat} (c : CL w F gc gd gl gk ak s l d M N) (hi : l.Inv) (hfi : l.fin ≤ 18446744073709551615) (hop : d.ops + 2000 < 9223372036854775806) (hopF : (flushR l d).2.2.ops ≤ d.ops + 1000) (hN : N + 20000 < 1000000000000) :
    Calls Try.prog 76 #[.pointer (some ⟨gc, 0, none⟩)] w fun e w' => Vacd w F gc gd gl gk ak s l d M N e w' := by
  have HPO : Hid (∀ e w', ((s.fs.length < s.most ∧ e = .returned (.tuple #[.int .i64 s.fs.length, .int .i64 0]) ∧ CStep w F gc gd gl gk ak s l d M N w') ∨ (s.fs.length = s.most ∧ ∃ (v : Nat) (b : Bool) (ck' : List Cl.Fr) (h' : Nat), Cl.Vict (Cl.ring s.ck s.hand) v b (Cl.ring ck' h') ∧ Cl.Same s.ck ck' ∧
    ((b = false ∧ e = .returned (.tuple #[.int .i64 0, .int .i64 6]) ∧ CStep w F gc gd gl gk ak { s with ck := ck', hand := h' } l d M N w') ∨
     (b = true ∧ ∃ f, s.fs[v]? = some f ∧ ((f.dirty = false ∧ e = .returned (.tuple #[.int .i64 v, .int .i64 0]) ∧ CStep w F gc gd gl gk ak { s with ck := ck', hand := h' } l d M N w') ∨
       (f.dirty = true ∧ e = .returned (.tuple #[.int .i64 v, .int .i64 (wbR s l d f).1]) ∧ CStep w F gc gd gl gk ak (if (wbR s l d f).1 = 0 then cleanF { s with ck := ck', hand := h' } v f else { s with ck := ck', hand := h' }) (wbR s l d f).2.1 (wbR s l d f).2.2 M (N + 4004) w')))))) → Vacd w F gc gd gl gk ak s l d M N e w') := fun e w' q => q
  obtain ⟨PP, HPP⟩ : ∃ PP : Ending → World → Prop, Hid (PP = fun e w' => Vacd w F gc gd gl gk ak s l d M N e w') := ⟨_, rfl⟩
  have HC : Hid (CL w F gc gd gl gk ak s l d M N) := c
  obtain ⟨fv, m, n, vl, vs, L, cA, lD, hdis, hF⟩ := c.ex
  have ok := c.ok
  obtain ⟨oa, cap, rfl, hcap, hel⟩ := cA.form ok.fs
  have HCK : Hid (s.ck.length = s.most) := ok.ck
  have hfew := ok.few
  have c2 : w.cell? ⟨gc, 2, none⟩ = some (.pointer (some ⟨gk, 0, none⟩)) := row_at cA.row 2 _ rfl
  have c6 : w.cell? ⟨gc, 6, none⟩ = some (.slice oa s.fs.length cap) := row_at cA.row 6 _ rfl
  have hvi := Cl.victim_any (cA.clk)
  have HNO : Hid (∀ x ∈ s.ck, x.no < s.ck.length) := fun x hx => by
    obtain ⟨j, hj, e⟩ := List.mem_iff_getElem.1 hx
    rw [cA.clk.nos j x (by rw [← e]; exact List.getElem?_eq_getElem hj)]; exact hj
  have HRW : Hid (Row w gc #[.pointer (some ⟨gd, 0, none⟩), .iface 24 (.pointer (some ⟨gl, 0, none⟩)), .pointer (some ⟨gk, 0, none⟩), .int .i64 s.pages, .int .i64 s.undo, .int .i64 s.most, .slice oa s.fs.length cap, .map (some m)] 117) := cA.row
  have hsm : s.most ≤ 32 := ok.most.2
  rw [← HPP.out]
  clear hel lD hdis hF cA
  by_cases hlt : (s.fs.length : Int) < (s.most : Int)
  · have kk : (s.fs.length : Int) < (s.most : Int) := hlt
    go_enter Try.func76, Try.ntmps76
    go_upto_region 1 with fail
    refine wp_region_held_drew (S := fun W => Row W gc #[.pointer (some ⟨gd, 0, none⟩), .iface 24 (.pointer (some ⟨gl, 0, none⟩)), .pointer (some ⟨gk, 0, none⟩), .int .i64 s.pages, .int .i64 s.undo, .int .i64 s.most, .slice oa s.fs.length cap, .map (some m)] 117 ∧ Below w.heap.size w W) (by kernel_rfl) ⟨HRW.out, (Below.refl _ _).drew⟩ fun hS => ?_
    clear c2 c6
    refine tkI (i := 0) (v := .pointer (some ⟨gc, 0, none⟩)) rfl (Or.inl ⟨by rfl, fun w _ => by rfl⟩) hS ?_
    try simp only [Act.put, nz]
    refine tkI (i := 1) (v := .pointer (some ⟨gc, 0, none⟩)) rfl (Or.inl ⟨by rfl, fun w _ => by go_simp⟩) hS ?_
    try simp only [Act.put, nz]
    refine tkI (i := 2) (v := .pointer (some ⟨gc, 6, none⟩)) rfl (Or.inl ⟨by rfl, fun w _ => by go_simp⟩) hS ?_
    try simp only [Act.put, nz]
    refine tkI (i := 3) (v := .slice oa s.fs.length cap) rfl (Or.inl ⟨by rfl, fun w h => by have c := row_at h.1 6 _ rfl; go_simp⟩) hS ?_
    try simp only [Act.put, nz]
    refine tkI (i := 4) (v := .int .i64 s.fs.length) rfl (Or.inl ⟨by rfl, fun w _ => by go_simp⟩) hS ?_
    try simp only [Act.put, nz]
    refine tkI (i := 5) (v := .pointer (some ⟨gc, 0, none⟩)) rfl (Or.inl ⟨by rfl, fun w _ => by rfl⟩) hS ?_
    try simp only [Act.put, nz]
    refine tkI (i := 6) (v := .pointer (some ⟨gc, 0, none⟩)) rfl (Or.inl ⟨by rfl, fun w _ => by go_simp⟩) hS ?_
    try simp only [Act.put, nz]
    refine tkI (i := 7) (v := .pointer (some ⟨gc, 5, none⟩)) rfl (Or.inl ⟨by rfl, fun w _ => by go_simp⟩) hS ?_
    try simp only [Act.put, nz]
    refine tkI (i := 8) (v := .int .i64 s.most) rfl (Or.inl ⟨by rfl, fun w h => by have c := row_at h.1 5 _ rfl; go_simp⟩) hS ?_
    try simp only [Act.put, nz]
    refine tkI (i := 9) (v := .bool true) rfl (Or.inl ⟨by rfl, fun w _ => by go_simp⟩) hS ?_
    try simp only [Act.put, nz]
    refine wpAnyH_done (by kernel_rfl) ?_ _
    have c6 : w.drew.cell? ⟨gc, 6, none⟩ = some (.slice oa s.fs.length cap) := row_at hS.1 6 _ rfl
    have hb : Below w.heap.size w w.drew := hS.2
    generalize w.drew = W at c6 hb ⊢
    clear hS
    go_wp2
    rw [HPP.out]
    exact HPO.out _ _ (Or.inl ⟨by omega, rfl, CStep.same HC.out hb⟩)
  · have kk : ¬ (s.fs.length : Int) < (s.most : Int) := hlt
    have hEQ : s.fs.length = s.most := by omega
    go_enter Try.func76, Try.ntmps76
    go_upto_region 1 with fail
    refine wp_region_held_drew (S := fun W => Row W gc #[.pointer (some ⟨gd, 0, none⟩), .iface 24 (.pointer (some ⟨gl, 0, none⟩)), .pointer (some ⟨gk, 0, none⟩), .int .i64 s.pages, .int .i64 s.undo, .int .i64 s.most, .slice oa s.fs.length cap, .map (some m)] 117 ∧ Below w.heap.size w W) (by kernel_rfl) ⟨HRW.out, (Below.refl _ _).drew⟩ fun hS => ?_
    clear c2 c6 hvi
    refine tkI (i := 0) (v := .pointer (some ⟨gc, 0, none⟩)) rfl (Or.inl ⟨by rfl, fun w _ => by rfl⟩) hS ?_
    try simp only [Act.put, nz]
    refine tkI (i := 1) (v := .pointer (some ⟨gc, 0, none⟩)) rfl (Or.inl ⟨by rfl, fun w _ => by go_simp⟩) hS ?_
    try simp only [Act.put, nz]
    refine tkI (i := 2) (v := .pointer (some ⟨gc, 6, none⟩)) rfl (Or.inl ⟨by rfl, fun w _ => by go_simp⟩) hS ?_
    try simp only [Act.put, nz]
    refine tkI (i := 3) (v := .slice oa s.fs.length cap) rfl (Or.inl ⟨by rfl, fun w h => by have c := row_at h.1 6 _ rfl; go_simp⟩) hS ?_
    try simp only [Act.put, nz]
    refine tkI (i := 4) (v := .int .i64 s.fs.length) rfl (Or.inl ⟨by rfl, fun w _ => by go_simp⟩) hS ?_
    try simp only [Act.put, nz]
    refine tkI (i := 5) (v := .pointer (some ⟨gc, 0, none⟩)) rfl (Or.inl ⟨by rfl, fun w _ => by rfl⟩) hS ?_
    try simp only [Act.put, nz]
    refine tkI (i := 6) (v := .pointer (some ⟨gc, 0, none⟩)) rfl (Or.inl ⟨by rfl, fun w _ => by go_simp⟩) hS ?_
    try simp only [Act.put, nz]
    refine tkI (i := 7) (v := .pointer (some ⟨gc, 5, none⟩)) rfl (Or.inl ⟨by rfl, fun w _ => by go_simp⟩) hS ?_
    try simp only [Act.put, nz]
    refine tkI (i := 8) (v := .int .i64 s.most) rfl (Or.inl ⟨by rfl, fun w h => by have c := row_at h.1 5 _ rfl; go_simp⟩) hS ?_
    try simp only [Act.put, nz]
    refine tkI (i := 9) (v := .bool false) rfl (Or.inl ⟨by rfl, fun w _ => by go_simp⟩) hS ?_
    try simp only [Act.put, nz]
    refine wpAnyH_done (by kernel_rfl) ?_ _
    have hb : Below w.heap.size w w.drew := hS.2
    have hC1 : CL w.drew F gc gd gl gk ak s l d M N := HC.out.below hb
    clear hS
    generalize w.drew = W at hb hC1 ⊢
    obtain ⟨fv1, m1, n1, vl1, vs1, L1, cA1, _, _, _⟩ := hC1.ex
    have c2 : W.cell? ⟨gc, 2, none⟩ = some (.pointer (some ⟨gk, 0, none⟩)) := row_at cA1.row 2 _ rfl
    have hvi := Cl.victim_any cA1.clk
    clear cA1
    go_upto_region 4 with (first
      | (go_at_call 95; refine Calls.mono hvi ?_; clear hvi; rintro e W2 hv; obtain ⟨v, b, ck', h', rfl, hvc, hsm2, hck, ho⟩ := hv))
    have hC2 := CStep.ahead hb (hC1.clock hck ho hsm2.1)
    clear hC1 hck ho c2 hb
    cases b with
    | false =>
      go_wp2
      rw [HPP.out]
      exact HPO.out _ _ (Or.inr ⟨hEQ, v, false, ck', h', hvc, hsm2, Or.inl ⟨rfl, rfl, hC2⟩⟩)
    | true =>
      obtain ⟨x, hx, hvx⟩ := Vict_lt hvc
      have hvl : v < s.fs.length := by rw [hEQ, ← HCK.out, hvx]; exact HNO.out x (Cl.mem_ring.1 hx)
      obtain ⟨f, hf⟩ : ∃ f, s.fs[v]? = some f := ⟨_, List.getElem?_eq_getElem hvl⟩
      obtain ⟨o2, F2, hC3, hF3⟩ := hC2
      clear hx hvx hvl
      by_cases hd : f.dirty = true
      · have hwb := wb_any hC3 v f hf hd hi hfi hop hopF hN
        rw [wbR_ck] at hwb
        have HD : Hid (f.dirty = true) := hd
        have HF2 : Hid (s.fs[v]? = some f) := hf
        clear hd hf hi hfi hop hopF hN
        go_wp2_with (first
          | (go_at_call 59; refine Calls.mono hwb ?_; clear hwb; rintro e W3 ⟨he, hst⟩; obtain rfl := he))
        rw [HPP.out]
        exact HPO.out _ _ (Or.inr ⟨hEQ, v, true, ck', h', hvc, hsm2, Or.inr ⟨rfl, f, HF2.out, Or.inr ⟨HD.out, rfl, CStep.behind2 o2 hF3 hst⟩⟩⟩)
      · have hd2 : f.dirty = false := by simpa using hd
        have hwb := wb_clean hC3 v f hf hd2
        have HD : Hid (f.dirty = false) := hd2
        have HF2 : Hid (s.fs[v]? = some f) := hf
        clear hd hd2 hf hi hfi hop hopF hN
        go_wp2_with (first
          | (go_at_call 59; refine Calls.mono hwb ?_; clear hwb; rintro e W3 ⟨he, hww⟩; rw [hww]; clear hww W3; obtain rfl := he))
        rw [HPP.out]
        exact HPO.out _ _ (Or.inr ⟨hEQ, v, true, ck', h', hvc, hsm2, Or.inr ⟨rfl, f, HF2.out, Or.inl ⟨HD.out, rfl, o2, F2, hC3, hF3⟩⟩⟩)
end Go.Proofs.Ytehogiondcpbcaa
