/-
  Proved here: findVersions.
-/
import Derived.Test.YtdlllnkcjfpajaaJq05
namespace Go.Proofs.Ytdlllnkcjfpajaa
open Go.ChangeShapes Go.WideShapes Go.ChangeAt Go.RowKit
set_option linter.unusedVariables false
set_option linter.unusedSimpArgs false
set_option maxRecDepth 20000
theorem built46 (p t : Int) : Try.prog.built 46 [(0, .int .u16 p), (1, .int .u32 t)] = some #[.int .u16 p, .int .u32 t] := by kernel_rfl
def two (a b : Nat) (k : Nat) : Prop := k = a ∨ k = b
def Versions (w : World) (hs : List Hm) (mw mc : Nat) (w' : World) : Prop :=
  ∃ nw f nc F G, KMap E46 w' mw nw f ∧ Fn hs f ∧ nw ≤ 2000000 ∧ VAt w' mc nc F G ∧ (∀ p, E44.ok p → (G p).Pairwise (· < ·) ∧ ∀ t, t ∈ G p ↔ ∃ j, WrI hs j (p, t)) ∧ Off (two mw mc) w w'
set_option maxHeartbeats 4000000 in
theorem versions_any {w : World} {g mw mc md mp : Nat} {lv : Value} {hs : List Hm} (rg : Row w g #[lv, .map (some mw), .map (some mc), .map (some md), .map (some mp)] 96) (hh : Helds w lv hs) (hn : hs.length ≤ 12) (hu : Uni hs)
    (hw : KMap E46 w mw 0 (fun _ => none)) (hc : KMap E44 w mc 0 (fun _ => none)) (hne : mw ≠ mc) :
    Calls Try.prog 43 #[.pointer (some ⟨g, 0, none⟩)] w fun e w' => e = .returned (.tuple #[]) ∧ Versions w hs mw mc w' := by
  have hz39 := Pa.zero39
  have hmg : mw ≠ g := hw.ne_row rg
  have hcg : mc ≠ g := hc.ne_row rg
  obtain ⟨oa, cap, rfl, hcs⟩ := hh.hold
  obtain ⟨lv, HLV⟩ : ∃ lv, Hid (Value.slice oa hs.length cap = lv) := ⟨_, rfl⟩
  have HCS : Hid _ := hcs
  have HH : Hid _ := hh
  have HU : Hid _ := hu
  have HMC : Hid (∀ wr, Off (· = mw) w wr → KMap E44 wr mc 0 (fun _ => none)) := fun wr o => hc.off o (fun e => hne e.symm)
  have HMCL : Hid (mc < w.heap.size) := hc.lt
  have HRG : Hid (∀ wr, Off (· = mw) w wr → Row wr g #[lv, .map (some mw), .map (some mc), .map (some md), .map (some mp)] 96) := fun wr o => by rw [← HLV.out]; exact rg.off o hmg.symm
  have HMW : Hid (∀ b, b = mw → ∃ es cl, w.heap[b]? = some (.map es cl)) := fun b e => by rw [e]; exact hw.is
  have HRG2 : Hid (∀ wr, Off (two mw mc) w wr → Row wr g #[lv, .map (some mw), .map (some mc), .map (some md), .map (some mp)] 96) := fun wr o => by rw [← HLV.out]; exact rg.off o (fun q => Or.elim q (fun e => hmg e.symm) (fun e => hcg e.symm))
  clear hcs hh hu hc
  obtain ⟨PP, HPP⟩ : ∃ PP : World → Prop, Hid (∀ w', Versions w hs mw mc w' → PP w') := ⟨fun w' => Versions w hs mw mc w', fun _ h => h⟩
  suffices hsu : Calls Try.prog 43 #[.pointer (some ⟨g, 0, none⟩)] w fun e w' => e = .returned (.tuple #[]) ∧ Versions w hs mw mc w' from hsu
  obtain ⟨n, HN⟩ : ∃ n, Hid (hs.length = n) := ⟨_, rfl⟩
  rw [HN.out] at hn HCS HLV rg
  have c0 := row_at rg 0 _ rfl
  have hP : Hid (∀ e w', e = Ending.returned (.tuple #[]) ∧ Versions w hs mw mc w' ↔ e = Ending.returned (.tuple #[]) ∧ Versions w hs mw mc w') := fun _ _ => Iff.rfl
  go_enter Try.func43, Try.ntmps43
  go_upto_region 1 with fail
  go_loopw [14] (fun i wr => ∃ (k : Nat) (nn : Nat) (f : Int × Int → Option Value), k ≤ n ∧ i = .int .i64 k ∧ KMap E46 wr mw nn f ∧ FnU hs f k 0 ∧ nn ≤ 1000 * k ∧ Off (· = mw) w wr) (fun i _ => n - (intOf i).toNat)
  case atStart => exact ⟨0, 0, _, by omega, rfl, hw, FnU.none hs, by omega, Off.refl _ _⟩
  case round =>
    clear hw rg c0
    obtain ⟨i, nn, f, hi, rfl, hm, hf, hnn, ho⟩ := hrel
    by_cases hin : i < n
    · have hin' : (i : Int) < (n : Int) := by omega
      obtain ⟨a, h, rfl, he, hcell⟩ := HCS.out i hin
      have hcw : ∀ q x, h.o.cells[q]? = some x → wr.cell? ((a.add (i * 5)).add q) = some x := fun q x hq => cell_maps HMW.out ho (hcell q x hq)
      have hmem : h ∈ hs := List.mem_of_getElem? he
      have h1 := HH.out.each h hmem
      have hfit := HH.out.fit h hmem
      clear hcell hmem
      obtain ⟨P, ⟨ra, rn, rc⟩, ⟨wa, wn, wc⟩⟩ := h
      have hwn : wn = P.ws.length := h1.wn
      have hfl := hfit.wl
      have hok : ∀ x ∈ P.ws, seenok (x, P.co) := fun x hx => ⟨WalkArith.wf_u16 (hfit.ws x hx), WalkArith.wf_u32 hfit.co⟩
      have H1 : Hid _ := h1
      have HOK : Hid _ := hok
      have HWN : Hid _ := hwn
      have HE : Hid _ := he
      have hwl : wn ≤ 1000 := by rw [hwn]; exact hfl
      have tl : Hid (1 = 1) := rfl
      have q1 : Row (wr.alloc (.cells Pa.O.zero.arr 39)) wr.heap.size Pa.O.zero.arr 39 := Row.new _ _ _
      obtain ⟨k1, k2⟩ := copied wr (⟨P.st, P.co, P.dn, ⟨ra, rn, rc⟩, ⟨wa, wn, wc⟩⟩ : Pa.O)
      clear h1 hok hwn he hfit
      go_upto_region 3 with (first
        | (have hh := tl; clear hh tl; refine wpList_load_any rfl 39 (.tmp 17) rfl (a.add (i * 5)) rfl (Pa.O.cells ⟨P.st, P.co, P.dn, ⟨ra, rn, rc⟩, ⟨wa, wn, wc⟩⟩) _ hcw Try.underlying39 rfl Pa.size39 ?_)
        | (refine store_cells rfl 39 (.tmp 3) (.tmp 18) rfl wr.heap.size (Pa.O.arr ⟨P.st, P.co, P.dn, ⟨ra, rn, rc⟩, ⟨wa, wn, wc⟩⟩) rfl rfl 39 _ q1 5 Pa.size39 rfl rfl (Pa.O.arr_one _) ?_))
      clear q1 hcw
      generalize (wr.alloc (.cells Pa.O.zero.arr 39)).setRow wr.heap.size (Pa.O.arr ⟨P.st, P.co, P.dn, ⟨ra, rn, rc⟩, ⟨wa, wn, wc⟩⟩) = w5 at k1 k2 ⊢
      have k1 : Row w5 wr.heap.size #[.int .u32 P.st, .int .u32 P.co, .bool P.dn, .slice ra rn rc, .slice wa wn wc] 39 := k1
      have o5 : Off (· = mw) w w5 := ho.trans (Off.of_below (F := fun _ => False) k2) (fun j q => q.elim)
      have m5 : KMap E46 w5 mw nn f := hm.below k2
      have hXm : mw ≠ wr.heap.size := fun q => by have := hm.lt; omega
      have f4 : w5.cell? ⟨wr.heap.size, 4, none⟩ = some (.slice wa wn wc) := row_at k1 4 _ rfl
      generalize wr.heap.size = X at k1 hXm f4 ⊢
      clear k2 ho hm
      go_upto_region 4 with fail
      clear f4
      go_loopw [22] (fun c wr2 => ∃ (k : Nat) (nn : Nat) (f : Int × Int → Option Value), k ≤ wn ∧ c = .int .i64 k ∧ KMap E46 wr2 mw nn f ∧ FnU hs f i k ∧ nn ≤ 1000 * i + k ∧ Off (· = mw) w wr2 ∧ Row wr2 X #[.int .u32 P.st, .int .u32 P.co, .bool P.dn, .slice ra rn rc, .slice wa wn wc] 39) (fun c _ => wn - (intOf c).toNat)
      case atStart => exact ⟨0, nn, f, by omega, rfl, m5, hf, by omega, o5, k1⟩
      case round =>
        clear m5 hf hnn o5 k1
        obtain ⟨k, nn, f, hk, rfl, hm, hf, hnn, ho, k1⟩ := hrel
        by_cases hkn : k < wn
        · have hkn' : (k : Int) < (wn : Int) := by omega
          obtain ⟨b, p, rfl, hp, hpc⟩ := H1.out.wat k hkn
          have hpw : wr.cell? (b.add k) = some (.int .u16 p) := cell_maps HMW.out ho hpc
          have rg := HRG.out _ ho
          have HF2 : Hid _ := FnU.step HU.out HE.out hp hf
          obtain ⟨w8, hst0, hm8, hg8, hs8⟩ := KMap.store (w := wr.drew) Try.underlying92 hm (by unfold maxLen; omega) (HOK.out p (List.mem_of_getElem? hp)) (.int .i64 i)
          have hg8' : wr.grownBy w8 (some mw) := ⟨hg8.os, hg8.tape, hg8.output, hg8.size, hg8.block⟩
          have o8 : Off (· = mw) wr w8 := Off.of_grown hg8' (fun k hk => by cases hk; rfl)
          have rg8 := rg.off o8 (fun e => hmg e.symm)
          have k8 := k1.off o8 (fun e => hXm e.symm)
          have hst : (Instr.mapUpdate 92 (.map (some mw)) (.agg #[.int .u16 p, .int .u32 P.co]) (.int .i64 i)).run Try.prog wr.drew = .ok () w8 := hst0
          have o9 : Off (· = mw) w w8 := ho.trans o8 (fun j e => Or.inl e)
          clear hst0 hg8 hg8' hs8 hpc hm ho hf hp
          go_upto_region 6 with fail
          refine wp_region_held_drew (S := fun w' => Row w' g #[lv, .map (some mw), .map (some mc), .map (some md), .map (some mp)] 96 ∧ Row w' X #[.int .u32 P.st, .int .u32 P.co, .bool P.dn, .slice ra rn rc, .slice (some b) wn wc] 39) (by kernel_rfl) ⟨rg, k1⟩ fun hS => ?_
          refine tkH (i := 0) (v := .pointer (some ⟨g, 0, none⟩)) rfl (by kernel_rfl) (fun _ _ _ h => h) (Or.inl ⟨by rfl, fun w _ => by go_simp⟩) hS ?_
          try simp only [Act.put, nz0, nz1, nz2, nz3, nz4, nz5]
          refine tkH (i := 1) (v := .pointer (some ⟨g, 0, none⟩)) rfl (by kernel_rfl) (fun _ _ _ h => h) (Or.inl ⟨by rfl, fun w _ => by go_simp⟩) hS ?_
          try simp only [Act.put, nz0, nz1, nz2, nz3, nz4, nz5]
          refine tkH (i := 2) (v := .pointer (some ⟨g, 1, none⟩)) rfl (by kernel_rfl) (fun _ _ _ h => h) (Or.inl ⟨by rfl, fun w _ => by go_simp⟩) hS ?_
          try simp only [Act.put, nz0, nz1, nz2, nz3, nz4, nz5]
          refine tkH (i := 3) (v := .map (some mw)) rfl (by kernel_rfl) (fun _ _ _ h => h) (Or.inl ⟨by rfl, fun w h => by have c := row_at h.1 1 _ rfl; go_simp⟩) hS ?_
          try simp only [Act.put, nz0, nz1, nz2, nz3, nz4, nz5]
          refine tkH (i := 4) (v := .int .u16 p) rfl (by kernel_rfl) (fun _ _ _ h => h) (Or.inl ⟨by rfl, fun w _ => by go_simp⟩) hS ?_
          try simp only [Act.put, nz0, nz1, nz2, nz3, nz4, nz5]
          refine tkH (i := 5) (v := .pointer (some ⟨X, 1, none⟩)) rfl (by kernel_rfl) (fun _ _ _ h => h) (Or.inl ⟨by rfl, fun w _ => by go_simp⟩) hS ?_
          try simp only [Act.put, nz0, nz1, nz2, nz3, nz4, nz5]
          refine tkH (i := 6) (v := .int .u32 P.co) rfl (by kernel_rfl) (fun _ _ _ h => h) (Or.inl ⟨by rfl, fun w h => by have c := row_at h.2 1 _ rfl; go_simp⟩) hS ?_
          try simp only [Act.put, nz0, nz1, nz2, nz3, nz4, nz5]
          refine tkH (i := 7) (v := .agg #[.int .u16 p, .int .u32 P.co]) rfl (by kernel_rfl) (fun _ _ _ h => h) (yields_build (by rfl) 46 #[(0, .tmp 30), (1, .tmp 32)] rfl [(0, .int .u16 p), (1, .int .u32 P.co)] (by rfl) _ (built46 _ _)) hS ?_
          try simp only [Act.put, nz0, nz1, nz2, nz3, nz4, nz5]
          refine tkH (i := 8) (v := .int .i64 (i : Int)) rfl (by kernel_rfl) (fun _ _ _ h => h) (Or.inl ⟨by rfl, fun w _ => by go_simp⟩) hS ?_
          try simp only [Act.put, nz0, nz1, nz2, nz3, nz4, nz5]
          refine wpAnyH_ready (rs := [9]) (by kernel_rfl) (by simp) ?_
          refine AllReadyH.cons rfl (fun K hK => step_of rfl (wp_update 92 (.tmp 29) (.tmp 33) (.tmp 34) rfl _ _ _ rfl rfl rfl w8 hst (hK.out _ _ ⟨rg8, k8⟩ fun hS => ?_))) AllReadyH.nil
          try simp only [Act.put, nz0, nz1, nz2, nz3, nz4, nz5]
          refine wpAnyH_done (by kernel_rfl) ?_ _
          go_wp2
          go_roundw
          case rel => exact ⟨k + 1, nn + 1, _, by omega, by go_num, hm8, HF2.out, by omega, o9, k8⟩
          case measure => simp [intOf]; omega
        · have hkn' : ¬ (k : Int) < (wn : Int) := by omega
          obtain rfl : k = wn := by omega
          have hf2 : FnU hs f (i + 1) 0 := FnU.next HE.out (by rw [← HWN.out]; exact hf)
          go_wp2
          go_roundw
          case rel => exact ⟨i + 1, nn, f, by omega, by go_num, hm, hf2, by omega, ho⟩
          case measure => simp [intOf]; omega
    · have hin' : ¬ (i : Int) < (n : Int) := by omega
      have hfn : Hid (Fn hs f) := FnU.whole (by rw [HN.out]; omega) hf
      have hmc := HMC.out wr ho
      have rgw := HRG.out wr ho
      have c1 := row_at rgw 1 _ rfl
      obtain ⟨w0, cnt0, hrun0, R0, hcn0, gi, si⟩ := KMap.range Try.underlying92 hm
      have O0 : Off (two mw mc) w w0 := (ho.mono (F' := two mw mc) (fun j e => Or.inl (Or.inl e))).trans (Off.of_grown (F := fun _ => False) gi (fun k hk => by cases hk)) (fun j q => q.elim)
      have G0 : GU.GAt w0 w.heap.size mc 0 (fun _ => none) (fun _ => []) := ⟨hmc.kept (gi.block _ hmc.lt (by simp)), HMCL.out, fun x _ => ⟨fun _ => rfl, fun u h => by cases h⟩, fun x y u v _ _ _ h => by cases h⟩
      have T0 := Told.start hs f
      have HRW : Hid (w.heap.size ≤ wr.heap.size) := ho.size
      generalize hr : wr.heap.size = r at R0 hrun0 HRW ⊢
      have hnn2 : nn ≤ 1000000 := by omega
      obtain ⟨B, HB⟩ : ∃ B, Hid (w.heap.size = B) := ⟨_, rfl⟩
      rw [HB.out] at G0
      go_upto_region 10 with fail
      clear hrun0 c1 rgw hmc gi si hm hf ho hr
      go_loopw [42] (fun _ wr => ∃ (left : Int × Int → Bool) (cnt n3 : Nat) (F : Int → Option Value) (G : Int → List Int), KRng E46 wr mw r nn f left cnt ∧ GU.GAt wr B mc n3 F G ∧ Told hs f left G ∧ n3 + cnt ≤ nn ∧ Off (two mw mc) w wr) (fun _ wr => wr.rangeLeft mw r)
      case atStart => exact ⟨_, cnt0, 0, _, _, R0, G0, T0, by omega, O0⟩
      case round =>
        clear R0 G0 T0 O0 hcn0
        obtain ⟨left, cnt, n3, F, G, Rk, Gk, Tk, hn3, Ok⟩ := hrel
        have hle := Rk.left_eq
        rcases Rk.next with ⟨c0, hl0, hnx⟩ | ⟨x, v, w2, cnt', hx, hlf, hfx, hnx, Rk', hlt, gk, sk', hen⟩
        · have HALL : Hid (∀ p, E44.ok p → (∀ t, t ∈ G p ↔ ∃ j, WrI hs j (p, t)) ∧ (G p).length ≤ 12 ∧ (G p).Nodup) := fun p hp =>
            have q := Tk.all hfn.out HH.out.fit hl0 p hp
            ⟨q.1, by have := q.2; rw [HN.out] at this; omega, Tk.nod p hp⟩
          have rg2 := HRG2.out _ Ok
          have c2 := row_at rg2 2 _ rfl
          obtain ⟨w0, cnt0, hrun0, R0, hcn0, gi, si⟩ := KMap.range Try.underlying93 Gk.1
          have Oi : Off (fun _ => False) wr w0 := Off.of_grown gi (fun k hk => by cases hk)
          have M0 : KMap E46 w0 mw nn f := Rk.map.off Oi (fun q => q)
          have O0 : Off (two mw mc) w w0 := Ok.trans Oi (fun j q => q.elim)
          have S0 : ∀ p, E44.ok p → ∀ u, F p = some u → ∃ ys, ys.Perm (G p) ∧ ((F p).isSome = false → ys.Pairwise (· ≤ ·)) ∧ UR w0 u ys := fun p hp u hu =>
            have q := (Gk.2.2.1 p hp).2 u hu
            ⟨G p, List.Perm.refl _, (fun e => by rw [hu] at e; cases e), (q.1.off Oi (fun _ _ e => e)).ur q.2⟩
          have HUB : Hid (∀ p, E44.ok p → ∀ u, F p = some u → ∃ b, u.ownBlock = some b ∧ B ≤ b) := fun p hp u hu => by
            have q := (Gk.2.2.1 p hp).2 u hu
            obtain ⟨b, cap, cur, e, _⟩ := q.1.ur q.2
            exact ⟨b, by rw [e]; rfl, (q.1.lt b (by rw [e]; rfl)).1⟩
          have HNO : Hid (∀ p, E44.ok p → F p = none → G p = []) := fun p hp => (Gk.2.2.1 p hp).1
          have HAPT : Hid _ := Gk.2.2.2
          generalize hr2 : wr.heap.size = r2 at R0 hrun0 ⊢
          have HR2 : Hid (w.heap.size ≤ r2) := by show _ ≤ _; rw [← hr2]; exact Ok.size
          go_upto_region 14 with fail
          clear hrun0 c2 rg2 gi si Oi hr2 Gk Tk Rk hnx hl0 Ok hle
          go_loopw [68] (fun _ wr => ∃ (left : Int → Bool) (cnt : Nat), KRng E44 wr mc r2 n3 F left cnt ∧ (∀ p, E44.ok p → ∀ u, F p = some u → ∃ ys, ys.Perm (G p) ∧ (left p = false → ys.Pairwise (· ≤ ·)) ∧ UR wr u ys) ∧ KMap E46 wr mw nn f ∧ Off (two mw mc) w wr) (fun _ wr => wr.rangeLeft mc r2)
          case atStart => exact ⟨_, cnt0, R0, S0, M0, O0⟩
          case round =>
            clear R0 S0 M0 O0 hcn0
            obtain ⟨left, cnt, Rk, Sk, Mk, Ok⟩ := hrel
            have hle := Rk.left_eq
            rcases Rk.next with ⟨c0, hl0, hnx⟩ | ⟨p, u, w2, cnt', hp, hlf, hFp, hnx, Rk', hlt, gk, sk', hen⟩
            · have hver : Versions w hs mw mc wr := by
                have hch : ∀ p, ∃ ys : List Int, E44.ok p → (F p = none → ys = []) ∧ (∀ u, F p = some u → UR wr u ys) ∧ ys.Perm (G p) ∧ ys.Pairwise (· ≤ ·) := fun p => by
                  by_cases hp : E44.ok p
                  · cases hF : F p with
                    | none => exact ⟨[], fun _ => ⟨fun _ => rfl, (fun u q => by cases q), (by rw [HNO.out p hp hF]), List.Pairwise.nil⟩⟩
                    | some u =>
                      obtain ⟨ys, h1, h2, h3⟩ := Sk p hp u hF
                      exact ⟨ys, fun _ => ⟨(fun q => by cases q), (fun u' q => by cases q; exact h3), h1, h2 (hl0 p hp)⟩⟩
                  · exact ⟨[], fun q => absurd q hp⟩
                refine ⟨nn, f, n3, F, fun p => Classical.choose (hch p), Mk, hfn.out, by omega, ⟨Rk.map, fun p hp => ?_⟩, fun p hp => ?_, Ok⟩
                · have q := Classical.choose_spec (hch p) hp
                  exact ⟨q.1, q.2.1⟩
                · have q := Classical.choose_spec (hch p) hp
                  have a := HALL.out p hp
                  exact ⟨strict_of q.2.2.2 (q.2.2.1.nodup_iff.2 a.2.2), fun t => by rw [q.2.2.1.mem_iff]; exact a.1 t⟩
              clear Sk Mk Ok Rk hl0 hle
              go_wp2
              go_end0
              exact ⟨rfl, hver⟩
            · replace hnx : ∀ ty, (Instr.next (.pointer (some ⟨r2, 0, none⟩)) false ty).run Try.prog wr = .ok (.tuple #[.bool true, .int .u16 p, u]) w2 := hnx
              replace hen : (Instr.entry (.pointer (some ⟨r2, 0, none⟩))).run Try.prog w2 = .ok (.tuple #[.int .u16 p, u]) w2 := hen
              obtain ⟨or1, hor1, hor2, hor3⟩ := Rk.range_is
              have Ork : Off (· = r2) wr w2 := Off.of_grown gk (fun q hq => by cases hq; rfl)
              obtain ⟨ys, hy1, hy2, hy3⟩ := Sk p hp u hFp
              have hur : UR w2 u ys := hy3.off Ork (fun b hb e => by obtain ⟨cs, hc⟩ := hy3.cells b hb; rw [e, hor1] at hc; exact hor2 _ _ _ (Option.some.inj hc))
              have Sk2 : ∀ p, E44.ok p → ∀ u, F p = some u → ∃ ys, ys.Perm (G p) ∧ (left p = false → ys.Pairwise (· ≤ ·)) ∧ UR w2 u ys := fun p hp u hu => by
                obtain ⟨ys, h1, h2, h3⟩ := Sk p hp u hu
                exact ⟨ys, h1, h2, h3.off Ork (fun b hb e => by obtain ⟨cs, hc⟩ := h3.cells b hb; rw [e, hor1] at hc; exact hor2 _ _ _ (Option.some.inj hc))⟩
              have hmr : r2 ≠ mw := fun q => by
                obtain ⟨es, cl, hb⟩ := Mk.is
                rw [← q, hor1] at hb
                exact hor3 _ _ (Option.some.inj hb)
              have Mk2 : KMap E46 w2 mw nn f := Mk.off Ork (fun e => hmr e.symm)
              have O2 : Off (two mw mc) w w2 := Ok.trans Ork (fun jj e => Or.inr (by rw [e]; exact HR2.out))
              obtain ⟨b, hub, hBb⟩ := HUB.out p hp u hFp
              have HUB' : Hid (u.ownBlock = some b) := hub
              obtain ⟨b', cap', cur, hue, hU⟩ := hur
              obtain rfl : b = b' := by rw [hue] at hub; simp [Value.ownBlock] at hub; exact hub.symm
              have hyl : ys.length ≤ 12 := by rw [hy1.length_eq]; exact (HALL.out p hp).2.1
              have hsort := U4.sort_any (cap := cap') hU ys.length rfl hyl
              have HSO : Hid (∀ e w', U4.Sorted w2 b ys e w' → e = .returned (.tuple #[]) ∧ ∃ zs cur', zs.Perm ys ∧ zs.Pairwise (· ≤ ·) ∧ U4.UAt w' b cur' zs ∧ Off (· = b) w2 w') := fun e w' h => h
              have HUE : Hid (u = .slice (some ⟨b, 0, none⟩) ys.length cap') := hue
              have HY1 : Hid _ := hy1
              rw [hue] at hnx hen
              clear sk' hub hy1 hy2 hy3 hU hyl Sk Mk Ok Rk gk hue hor1 hor2 hor3 Ork
              obtain ⟨yl, HYL⟩ : ∃ yl, Hid (ys.length = yl) := ⟨_, rfl⟩
              rw [HYL.out] at hnx hen hsort HUE
              generalize hSS : U4.Sorted w2 b ys = SS at hsort HSO
              clear hSS
              go_wp2_with (first
                | (go_at_call 61; refine hsort.mono ?_; clear hsort; intro e w3 hq; obtain ⟨he, hq2⟩ := HSO.out _ _ hq; obtain rfl := he; clear hq; have HQ2 := show Hid _ from hq2; clear hq2))
              have hK2 : Hid (∀ wq, Off (· = b) w2 wq → KRng E44 wq mc r2 n3 F (fun y => left y && !decide (y = p)) cnt' ∧ KMap E46 wq mw nn f ∧ Off (two mw mc) w wq) := fun wq oq =>
                have hnb : ∀ cs, w2.heap[b]? = some (.cells cs 35 (0, 0)) → ∀ j, j = b → ∃ cs, w2.heap[j]? = some (.cells cs 35 (0, 0)) := fun cs h j e => ⟨cs, by rw [e]; exact h⟩
                have hbc : ∃ cs, w2.heap[b]? = some (.cells cs 35 (0, 0)) := by
                  obtain ⟨ys', _, _, h3⟩ := Sk2 p hp u hFp
                  exact h3.cells b HUB'.out
                have hb1 : mc ≠ b := fun e => by obtain ⟨cs, hc⟩ := hbc; obtain ⟨es, cl, hm⟩ := Rk'.map.is; rw [← e, hm] at hc; cases hc
                have hb2 : mw ≠ b := fun e => by obtain ⟨cs, hc⟩ := hbc; obtain ⟨es, cl, hm⟩ := Mk2.is; rw [← e, hm] at hc; cases hc
                have hb3 : r2 ≠ b := fun e => by obtain ⟨cs, hc⟩ := hbc; obtain ⟨o1, ho1, ho2, _⟩ := Rk'.range_is; rw [← e, ho1] at hc; exact ho2 _ _ _ (Option.some.inj hc)
                ⟨Rk'.off oq hb1 hb3, Mk2.off oq hb2, O2.trans oq (fun j e => Or.inr (by rw [e, HB.out]; exact hBb))⟩
              obtain ⟨zs, cur', hz1, hz2, hz3, hz4⟩ := HQ2.out
              obtain ⟨Rk3, Mk3, O3⟩ := hK2.out _ hz4
              have hle3 := Rk3.left_eq
              have Sk3 : ∀ p', E44.ok p' → ∀ u', F p' = some u' → ∃ ys, ys.Perm (G p') ∧ ((left p' && !decide (p' = p)) = false → ys.Pairwise (· ≤ ·)) ∧ UR w3 u' ys := fun p' hp' u' hu' => by
                by_cases e : p' = p
                · subst e
                  rw [hFp] at hu'
                  cases hu'
                  refine ⟨zs, hz1.trans HY1.out, fun _ => hz2, b, cap', cur', ?_, hz3⟩
                  rw [HUE.out, hz1.length_eq, HYL.out]
                · obtain ⟨ys', h1, h2, h3⟩ := Sk2 p' hp' u' hu'
                  refine ⟨ys', h1, fun q => h2 (by simpa [e] using q), h3.off hz4 (fun b' hb' e' => ?_)⟩
                  have q := HAPT.out p' p u' u hp' hp e hu' hFp
                  rw [hb', HUB'.out, e'] at q
                  rcases q with q | q
                  · cases q
                  · exact q rfl
              clear Sk2 Mk2 O2 Rk' hK2 hz3 hz4 hnx hen
              go_roundw
              case rel => exact ⟨_, cnt', Rk3, Sk3, Mk3, O3⟩
              case measure => rw [hle3, hle]; exact hlt
        · obtain ⟨p, ts⟩ := x
          obtain ⟨j, rfl, hj⟩ := (hfn.out _ _).1 hfx
          replace hnx : ∀ ty, (Instr.next (.pointer (some ⟨r, 0, none⟩)) false ty).run Try.prog wr = .ok (.tuple #[.bool true, .agg #[.int .u16 p, .int .u32 ts], .int .i64 j]) w2 := hnx
          replace hen : (Instr.entry (.pointer (some ⟨r, 0, none⟩))).run Try.prog w2 = .ok (.tuple #[.agg #[.int .u16 p, .int .u32 ts], .int .i64 j]) w2 := hen
          clear sk'
          go_upto_region 12 with fail
          have rX : Row (w2.alloc (.cells #[.int .u16 p, .int .u32 ts] 46)) w2.heap.size #[.int .u16 p, .int .u32 ts] 46 := Row.new _ _ _
          have b3 : Below w2.heap.size w2 (w2.alloc (.cells #[.int .u16 p, .int .u32 ts] 46)) := (Below.refl _ _).alloc (Nat.le_refl _) _
          obtain ⟨or1, hor1, hor2, hor3⟩ := Rk.range_is
          have hrm : r ≠ mc := fun q => by
            obtain ⟨es, cl, hb⟩ := Gk.1.is
            rw [← q, hor1] at hb
            exact hor3 _ _ (Option.some.inj hb)
          have Ork : Off (· = r) wr w2 := Off.of_grown gk (fun q hq => by cases hq; rfl)
          have Gk2 : GU.GAt w2 B mc n3 F G := Gk.apart Ork (fun e => hrm e.symm) (fun jj cs t xx e h1 => by rw [e, hor1] at h1; exact hor2 _ _ _ (Option.some.inj h1))
          have Gk3 := Gk2.below b3
          have Rk3 := Rk'.off (Off.of_below (F := fun _ => False) b3) (fun q => q) (fun q => q)
          have O3 : Off (two mw mc) w (w2.alloc (.cells #[.int .u16 p, .int .u32 ts] 46)) := (Ok.trans Ork (fun jj e => Or.inr (by rw [e]; exact HRW.out))).trans (Off.of_below (F := fun _ => False) b3) (fun jj q => q.elim)
          have rg3 : Row (w2.alloc (.cells #[.int .u16 p, .int .u32 ts] 46)) g #[lv, .map (some mw), .map (some mc), .map (some md), .map (some mp)] 96 := HRG2.out _ O3
          have HOK : Hid (E44.ok p) := hx.1
          have HTS : Hid _ := Tk.small hfn.out p hx.1
          have HT' : Hid _ := Tk.step hx hlf hfx
          obtain ⟨u, HU0⟩ : ∃ u, Hid ((F p).getD (.slice none 0 0) = u) := ⟨_, rfl⟩
          have hX2 : Hid (w2.heap.size < (w2.alloc (.cells #[.int .u16 p, .int .u32 ts] 46)).heap.size) := by show _ < _; simp
          have hXB : Hid (∀ b v xs, GU.Nums w2 B v xs → v.ownBlock = some b → b ≠ w2.heap.size) := fun b v xs hnn hb => by have := (hnn.lt b hb).2; omega
          have HNU : Hid (GU.Nums w2 B u (G p)) := by
            obtain ⟨u', h1, h2, _⟩ := Gk2.look (by unfold maxLen; omega) HOK.out
            have h3 := KMap.look Try.underlying93 (zero124 w2) Gk2.1 HOK.out
            have e : u' = u := by
              rw [h3] at h1
              rw [← HU0.out]
              injection h1 with e _; exact e.symm
            rw [← e]; exact h2
          generalize w2.alloc (.cells #[.int .u16 p, .int .u32 ts] 46) = w3 at rX b3 Gk3 Rk3 O3 rg3 hX2 ⊢
          generalize w2.heap.size = X at rX hX2 hXB ⊢
          clear b3 Gk2 Ork Ok Rk' Gk Tk hnx hen gk hor1 hor2 hor3 hlf hfx hj
          refine wp_region_last (S := fun w' => Row w' g #[lv, .map (some mw), .map (some mc), .map (some md), .map (some mp)] 96 ∧ Row w' X #[.int .u16 p, .int .u32 ts] 46 ∧ KMap E44 w' mc n3 F) 17 (by kernel_rfl) ⟨rg3, rX, Gk3.1⟩ fun hS => ?_
          refine wpAnyL_take (i := 0) (v := .pointer (some ⟨g, 0, none⟩)) rfl (by kernel_rfl) (by kernel_rfl) (by kernel_rfl) (by kernel_rfl) (fun _ _ _ h => h) (Or.inl ⟨by rfl, fun w _ => by go_simp⟩) hS ?_
          try simp only [Act.put, nz0, nz1, nz2, nz3, nz4, nz5]
          refine wpAnyL_take (i := 1) (v := .pointer (some ⟨g, 0, none⟩)) rfl (by kernel_rfl) (by kernel_rfl) (by kernel_rfl) (by kernel_rfl) (fun _ _ _ h => h) (Or.inl ⟨by rfl, fun w _ => by go_simp⟩) hS ?_
          try simp only [Act.put, nz0, nz1, nz2, nz3, nz4, nz5]
          refine wpAnyL_take (i := 2) (v := .pointer (some ⟨g, 2, none⟩)) rfl (by kernel_rfl) (by kernel_rfl) (by kernel_rfl) (by kernel_rfl) (fun _ _ _ h => h) (Or.inl ⟨by rfl, fun w _ => by go_simp⟩) hS ?_
          try simp only [Act.put, nz0, nz1, nz2, nz3, nz4, nz5]
          refine wpAnyL_take (i := 3) (v := .map (some mc)) rfl (by kernel_rfl) (by kernel_rfl) (by kernel_rfl) (by kernel_rfl) (fun _ _ _ h => h) (Or.inl ⟨by rfl, fun w h => by have c := row_at h.1 2 _ rfl; go_simp⟩) hS ?_
          try simp only [Act.put, nz0, nz1, nz2, nz3, nz4, nz5]
          refine wpAnyL_take (i := 4) (v := .pointer (some ⟨X, 0, none⟩)) rfl (by kernel_rfl) (by kernel_rfl) (by kernel_rfl) (by kernel_rfl) (fun _ _ _ h => h) (Or.inl ⟨by rfl, fun w _ => by go_simp⟩) hS ?_
          try simp only [Act.put, nz0, nz1, nz2, nz3, nz4, nz5]
          refine wpAnyL_take (i := 5) (v := .int .u16 p) rfl (by kernel_rfl) (by kernel_rfl) (by kernel_rfl) (by kernel_rfl) (fun _ _ _ h => h) (Or.inl ⟨by rfl, fun w h => by have c := row_at h.2.1 0 _ rfl; go_simp⟩) hS ?_
          try simp only [Act.put, nz0, nz1, nz2, nz3, nz4, nz5]
          refine wpAnyL_take (i := 6) (v := .pointer (some ⟨g, 0, none⟩)) rfl (by kernel_rfl) (by kernel_rfl) (by kernel_rfl) (by kernel_rfl) (fun _ _ _ h => h) (Or.inl ⟨by rfl, fun w _ => by go_simp⟩) hS ?_
          try simp only [Act.put, nz0, nz1, nz2, nz3, nz4, nz5]
          refine wpAnyL_take (i := 7) (v := .pointer (some ⟨g, 0, none⟩)) rfl (by kernel_rfl) (by kernel_rfl) (by kernel_rfl) (by kernel_rfl) (fun _ _ _ h => h) (Or.inl ⟨by rfl, fun w _ => by go_simp⟩) hS ?_
          try simp only [Act.put, nz0, nz1, nz2, nz3, nz4, nz5]
          refine wpAnyL_take (i := 8) (v := .pointer (some ⟨g, 2, none⟩)) rfl (by kernel_rfl) (by kernel_rfl) (by kernel_rfl) (by kernel_rfl) (fun _ _ _ h => h) (Or.inl ⟨by rfl, fun w _ => by go_simp⟩) hS ?_
          try simp only [Act.put, nz0, nz1, nz2, nz3, nz4, nz5]
          refine wpAnyL_take (i := 9) (v := .map (some mc)) rfl (by kernel_rfl) (by kernel_rfl) (by kernel_rfl) (by kernel_rfl) (fun _ _ _ h => h) (Or.inl ⟨by rfl, fun w h => by have c := row_at h.1 2 _ rfl; go_simp⟩) hS ?_
          try simp only [Act.put, nz0, nz1, nz2, nz3, nz4, nz5]
          refine wpAnyL_take (i := 10) (v := .pointer (some ⟨X, 0, none⟩)) rfl (by kernel_rfl) (by kernel_rfl) (by kernel_rfl) (by kernel_rfl) (fun _ _ _ h => h) (Or.inl ⟨by rfl, fun w _ => by go_simp⟩) hS ?_
          try simp only [Act.put, nz0, nz1, nz2, nz3, nz4, nz5]
          refine wpAnyL_take (i := 11) (v := .int .u16 p) rfl (by kernel_rfl) (by kernel_rfl) (by kernel_rfl) (by kernel_rfl) (fun _ _ _ h => h) (Or.inl ⟨by rfl, fun w h => by have c := row_at h.2.1 0 _ rfl; go_simp⟩) hS ?_
          try simp only [Act.put, nz0, nz1, nz2, nz3, nz4, nz5]
          refine wpAnyL_take (i := 12) (v := u) rfl (by kernel_rfl) (by kernel_rfl) (by kernel_rfl) (by kernel_rfl) (fun _ _ _ h => h) (yields_lookup (by rfl) 93 (.tmp 55) (.tmp 57) false rfl _ _ _ rfl rfl (fun w h => by have q := KMap.look Try.underlying93 (zero124 w) h.2.2 HOK.out; rw [HU0.out] at q; exact q)) hS ?_
          try simp only [Act.put, nz0, nz1, nz2, nz3, nz4, nz5]
          refine wpAnyL_take (i := 13) (v := .pointer (some ⟨X, 1, none⟩)) rfl (by kernel_rfl) (by kernel_rfl) (by kernel_rfl) (by kernel_rfl) (fun _ _ _ h => h) (Or.inl ⟨by rfl, fun w _ => by go_simp⟩) hS ?_
          try simp only [Act.put, nz0, nz1, nz2, nz3, nz4, nz5]
          refine wpAnyL_take (i := 14) (v := .int .u32 ts) rfl (by kernel_rfl) (by kernel_rfl) (by kernel_rfl) (by kernel_rfl) (fun _ _ _ h => h) (Or.inl ⟨by rfl, fun w h => by have c := row_at h.2.1 1 _ rfl; go_simp⟩) hS ?_
          try simp only [Act.put, nz0, nz1, nz2, nz3, nz4, nz5]
          refine wpAnyL_ready (rs := [15]) (by kernel_rfl) (by simp) ?_
          refine AllReadyL.cons rfl (fun K hK => ?_) AllReadyL.nil
          have rZ : Row (w3.alloc (.cells #[.int .u32 ts] 35)).drew w3.heap.size #[.int .u32 ts] 35 := Row.new w3 _ _
          have b4 : Below w3.heap.size w3 (w3.alloc (.cells #[.int .u32 ts] 35)).drew := ((Below.refl _ _).alloc (Nat.le_refl _) _).drew
          have hS4 := (show Row (w3.alloc (.cells #[.int .u32 ts] 35)).drew g #[lv, .map (some mw), .map (some mc), .map (some md), .map (some mp)] 96 ∧ Row (w3.alloc (.cells #[.int .u32 ts] 35)).drew X #[.int .u16 p, .int .u32 ts] 46 ∧ KMap E44 (w3.alloc (.cells #[.int .u32 ts] 35)).drew mc n3 F from ⟨rg3.below b4 rg3.lt, rX.below b4 rX.lt, (Gk3.below b4).1⟩)
          have Gk4 := Gk3.below b4
          have Rk4 := Rk3.off (Off.of_below (F := fun _ => False) b4) (fun q => q) (fun q => q)
          have O4 := O3.trans (Off.of_below (F := fun _ => False) b4) (fun jj q => q.elim)
          have hB4 : B ≤ (w3.alloc (.cells #[.int .u32 ts] 35)).drew.heap.size := by rw [← HB.out]; exact O4.size
          go_simp
          refine hK.out _ _ (fun _ => hS4) ?_
          try simp only [Act.put, nz0, nz1, nz2, nz3, nz4, nz5]
          generalize hZ : w3.heap.size = Z at rZ ⊢
          have hZ3 : Hid (w3.heap.size = Z) := hZ
          clear hZ
          generalize (w3.alloc (.cells #[.int .u32 ts] 35)).drew = w4 at rZ b4 hS4 Gk4 Rk4 O4 hB4 ⊢
          obtain ⟨u', hl1, hnu, hback⟩ := Gk4.look (by unfold maxLen; omega) HOK.out
          obtain rfl : u = u' := by
            have h3 := KMap.look Try.underlying93 (zero124 w4) Gk4.1 HOK.out
            rw [h3, HU0.out] at hl1
            injection hl1
          have HAP : Hid _ := fun ty => hnu.snoc ty Z ts rZ hB4 (by have := HTS.out; rw [HN.out] at this; omega)
          have HBK : Hid _ := hback
          have hubX : ∀ b, u.ownBlock = some b → b ≠ X := fun b hb => hXB.out b u _ HNU.out hb
          have hubB : ∀ b, u.ownBlock = some b → B ≤ b := fun b hb => (hnu.lt b hb).1
          have hubC : ∀ b, u.ownBlock = some b → ∃ cs, w4.heap[b]? = some (.cells cs 35 (0, 0)) := hnu.cells
          clear hl1 hback Gk3 Rk3 O3 rg3 rX b4
          refine wpAnyL_ready (rs := [16]) (by kernel_rfl) (by simp) ?_
          refine AllReadyL.cons rfl (fun K hK => step_of rfl (Us.wp_copy (.tmp 58) (.tmp 61) 124 rfl _ _ rfl rfl (T := fun v' w' => GU.Nums w' B v' (G p ++ [ts]) ∧ w4.grownBy w' u.ownBlock ∧ (v'.ownBlock = u.ownBlock ∨ v'.ownBlock = some w4.heap.size)) (fun ty => HAP.out ty) ?_)) AllReadyL.nil
          intro v5 w5 hT
          obtain ⟨hn5, hg5, hl5⟩ := hT
          have Ou : Off (fun k => u.ownBlock = some k) w4 w5 := Off.of_grown hg5 (fun k e => e)
          have hS5 := (show Row w5 g #[lv, .map (some mw), .map (some mc), .map (some md), .map (some mp)] 96 ∧ Row w5 X #[.int .u16 p, .int .u32 ts] 46 ∧ KMap E44 w5 mc n3 F from
            ⟨hS4.1.off Ou (fun e => by obtain ⟨cs, hc⟩ := hubC _ e; have := hS4.1; unfold Row at this; rw [this] at hc; cases hc),
             hS4.2.1.off Ou (fun e => hubX _ e rfl),
             hS4.2.2.off Ou (fun e => by obtain ⟨cs, hc⟩ := hubC _ e; obtain ⟨es, cl, hb⟩ := hS4.2.2.is; rw [hb] at hc; cases hc)⟩)
          have Rk5 := Rk4.off Ou (fun e => by obtain ⟨cs, hc⟩ := hubC _ e; obtain ⟨es, cl, hb⟩ := Rk4.map.is; rw [hb] at hc; cases hc) (fun e => by obtain ⟨cs, hc⟩ := hubC _ e; obtain ⟨o1, ho1, ho2, _⟩ := Rk4.range_is; rw [ho1] at hc; exact ho2 _ _ _ (Option.some.inj hc))
          have O5 : Off (two mw mc) w w5 := O4.trans Ou (fun k e => Or.inr (by rw [HB.out]; exact hubB k e))
          obtain ⟨w6, F6, hst, G6, hg6⟩ := HBK.out w5 v5 _ hg5 hn5 (by simp) (by rcases hl5 with q | q; exact Or.inl q; exact Or.inr ⟨_, q, Nat.le_refl _⟩)
          have Om : Off (· = mc) w5 w6 := Off.of_grown hg6 (fun k e => by cases e; rfl)
          have hrm5 : r ≠ mc := fun q => by
            obtain ⟨o1, ho1, _, ho3⟩ := Rk5.range_is
            obtain ⟨es, cl, hb⟩ := hS5.2.2.is
            rw [← q, ho1] at hb
            exact ho3 _ _ (Option.some.inj hb)
          have Rk6 := Rk5.off Om hne hrm5
          have O6 : Off (two mw mc) w w6 := O5.trans Om (fun k e => Or.inl (Or.inr e))
          have hle6 := Rk6.left_eq
          have hst' : (Instr.mapUpdate 93 (.map (some mc)) (.int .u16 p) v5).run Try.prog w5 = .ok () w6 := hst
          refine hK.out _ _ (fun _ => hS5) ?_
          try simp only [Act.put, nz0, nz1, nz2, nz3, nz4, nz5]
          refine wpAnyL_ready (rs := [17]) (by kernel_rfl) (by simp) ?_
          refine AllReadyL.cons rfl (fun K hK => step_of rfl (wp_update 93 (.tmp 49) (.tmp 51) (.tmp 62) rfl _ _ _ rfl rfl rfl w6 hst' (hK.out _ _ (fun q => absurd rfl q) ?_))) AllReadyL.nil
          try simp only [Act.put, nz0, nz1, nz2, nz3, nz4, nz5]
          refine wpAnyL_done (by kernel_rfl) ?_ _
          clear hst hst' HAP HBK hubX hubB hubC hn5 hg5 hl5 Ou hS5 Rk5 O5 hg6 Om hS4 Gk4 Rk4 O4 hB4 hnu rZ
          go_wp2
          go_roundw
          case rel => exact ⟨_, cnt', n3 + 1, F6, _, Rk6, G6, HT'.out, by omega, O6⟩
          case measure => rw [hle6, hle]; exact hlt
end Go.Proofs.Ytdlllnkcjfpajaa
