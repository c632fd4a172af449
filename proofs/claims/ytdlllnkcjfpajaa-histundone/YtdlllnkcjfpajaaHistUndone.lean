/-
  HistUndone: transactions that were not committed show nothing, and change nothing of what others show. No conditions.
-/
import Derived.Test.YtdlllnkcjfpajaaJq16
namespace Go.Proofs.Ytdlllnkcjfpajaa.histUndone
open Go.ChangeShapes Go.WideShapes Go.ChangeAt Go.RowKit
open Go.Deep
set_option linter.unusedVariables false
set_option linter.unusedSimpArgs false
theorem own : ownKnob Try.prog.godebug = none := by kernel_rfl
set_option maxRecDepth 20000 in
set_option maxHeartbeats 8000000 in
theorem walk (w : World) (v0 : Value) (a0 : List Hm) (v1 : Value) (a1 : List Hm) (p0 : Pasts w v0 a0) (p1 : Pasts w v1 a1) :
    Calls Try.prog 9 #[v0, v1] w fun e w' => e = .returned (.bool true) ∧ Below w.heap.size w w' := by
  have hz39 := Pa.zero39
  have hf0 := p0.copied
  have P1 : Hid (Pasts w v1 a1) := p1
  have HFO : Hid (∀ w', Below w.heap.size w w' → (fun e w' => e = Ending.returned (.bool true) ∧ Below w.heap.size w w') (.returned (.bool true)) w') := fun w' h => ⟨rfl, h⟩
  generalize (fun e w' => e = Ending.returned (.bool true) ∧ Below w.heap.size w w') = PP at HFO ⊢
  have HF0 : Hid (∀ e w', Fewed w a0 e w' → ∃ v qs, e = .returned v ∧ Helds w' v qs ∧ qs.map Hm.p = (a0.take 9).map (fun h => cutP h.p) ∧ Below w.heap.size w w' ∧ Pa.Own w' w.heap.size v (qs.map Hm.o) ∧ ∀ h ∈ qs, Own1 w' w.heap.size h) := fun e w' q => q
  generalize Fewed w a0 = F0 at hf0 HF0
  clear p0 p1
  obtain ⟨B, HB⟩ : ∃ B, Hid (w.heap.size = B) := ⟨_, rfl⟩
  go_enter Try.func9, Try.ntmps9
  go_upto_region 2 with (go_at_call 10; refine hf0.mono ?_; clear hf0; intro e w1 hq; obtain ⟨v2, qs, he, hh, hp, hb, hown, heach⟩ := HF0.out _ _ hq; obtain rfl := he; clear hq; have HH : Hid (Helds w1 v2 qs) := hh; have HB1 : Hid (Below w.heap.size w w1) := hb; have HE : Hid (∀ h ∈ qs, Own1 w1 w.heap.size h) := heach; have HP : Hid (qs.map Hm.p = (a0.take 9).map (fun h => cutP h.p)) := hp; clear hh hp hb hown heach)
  have hq9 : qs.length ≤ 9 := by
    have := congrArg List.length HP.out
    simp at this
    omega
  have hc1 := check_any HH.out (by omega) (Nat.le_trans (List.length_filter_le _ _) (by omega))
  have HC : Hid (∀ (ps : List Hm) (w0 : World) e w', Checked w0 ps e w' → ∃ x er, e = .returned (.tuple #[.int .u8 x, .int .i64 er]) ∧ ResH ps x er ∧ Below w0.heap.size w0 w') := fun ps w0 e w' q => q.res
  obtain ⟨C1, HC1⟩ : ∃ C1, Hid (Checked w1 qs = C1) := ⟨_, rfl⟩
  rw [HC1.out] at hc1
  go_upto_region 3 with (go_at_call 11; refine hc1.mono ?_; clear hc1; intro e w2 hq; rw [← HC1.out] at hq; obtain ⟨x, er, he, hr, hb⟩ := HC.out _ _ _ _ hq; obtain rfl := he; clear hq; have HR : Hid (ResH qs x er) := hr; have HB2 : Hid (Below w1.heap.size w1 w2) := hb; clear hr hb)
  have HAP : Hid (∀ ty, ∃ v' w', (Builtin.append_ #[22, 22] ty #[.slice (some ⟨w2.heap.size, 0, none⟩) 0 0, v2]).run Try.prog (w2.alloc (.cells #[] 39)) = .ok v' w' ∧ Pa.Own w' w2.heap.size v' (qs.map Hm.o) ∧ Below w2.heap.size w2 w') := fun ty => Pa.run_copy w2 ty v2 _ (HH.out.keep HB2.out).row (by rw [List.length_map]; omega)
  have HB02 : Hid (Below w.heap.size w w2) := below_trans HB1.out HB2.out
  go_upto_region 4 with (
    refine Pa.wpList_copy rfl (.tmp 19) (.tmp 20) 22 rfl (.slice (some ⟨w2.heap.size, 0, none⟩) 0 0) v2 rfl rfl HAP.out ?_
    clear HAP
    rintro v3 w3 ⟨hn3, hb3⟩
    have HN3 : Hid (Pa.Own w3 w2.heap.size v3 (qs.map Hm.o)) := hn3
    have HB3 : Hid (Below w2.heap.size w2 w3) := hb3
    clear hn3 hb3)
  have HB03 : Hid (Below w.heap.size w w3) := below_trans HB02.out HB3.out
  have hf1 := (P1.out.keep HB03.out).copied
  have HF1 : Hid (∀ e w', Fewed w3 a1 e w' → ∃ v qs, e = .returned v ∧ Helds w' v qs ∧ qs.map Hm.p = (a1.take 9).map (fun h => cutP h.p) ∧ Below w3.heap.size w3 w' ∧ Pa.Own w' w3.heap.size v (qs.map Hm.o) ∧ ∀ h ∈ qs, Own1 w' w3.heap.size h) := fun e w' q => q
  generalize Fewed w3 a1 = F1 at hf1 HF1
  go_upto_region 5 with (
    go_at_call 10; refine hf1.mono ?_; clear hf1; intro e w4 hq; obtain ⟨v4, ms, he, hh, hp, hb, hown, heach⟩ := HF1.out _ _ hq; obtain rfl := he; clear hq
    have HH4 : Hid (Helds w4 v4 ms) := hh
    have HB4 : Hid (Below w3.heap.size w3 w4) := hb
    have HE4 : Hid (∀ h ∈ ms, Own1 w4 w3.heap.size h) := heach
    have HP4 : Hid (ms.map Hm.p = (a1.take 9).map (fun h => cutP h.p)) := hp
    have HO4 : Hid (Pa.Own w4 w3.heap.size v4 (ms.map Hm.o)) := hown
    clear hh hp hb hown heach
    obtain ⟨oa4, cap4, hv4, hcs4⟩ := Pa.Own.holdP HO4.out
    obtain ⟨n4, HN4⟩ : ∃ n4, Hid (ms.length = n4) := ⟨_, rfl⟩
    rw [HN4.out] at hv4 hcs4
    subst hv4)
  have hm9 : n4 ≤ 9 := by
    have h1 := congrArg List.length HP4.out
    have := HN4.out
    simp at h1
    omega
  obtain ⟨S3, HS3⟩ : ∃ S3, Hid (w3.heap.size = S3) := ⟨_, rfl⟩
  have HB04 : Hid (Below w.heap.size w w4) := below_trans HB03.out HB4.out
  have HS34 : Hid (B ≤ S3 ∧ S3 ≤ w4.heap.size) := by
    refine ⟨?_, ?_⟩
    · rw [← HB.out, ← HS3.out]; exact HB03.out.size
    · rw [← HS3.out]; exact HB4.out.size
  have A0 : AllS w4 B v3 qs := ⟨((HN3.out.base (by rw [← HB.out]; exact HB02.out.size)).keep HB4.out), fun h hh => by
    have := HE.out h hh
    rw [HB.out] at this
    exact ((this.keep HB2.out).keep HB3.out).keep HB4.out, HH.out.fit⟩
  have M0 : qs.map Hm.p = qs.map Hm.p ++ (ms.take 0).map (fun h => undoneP h.p) := by simp
  have V0 : ∀ g, v3.ownBlock = some g → g < S3 ∨ w4.heap.size ≤ g := fun g hg => by have := (World.ownsRow.lt HN3.out g hg).2; rw [HS3.out] at this; exact Or.inl this
  have O0 : Off (fun k => B ≤ k ∧ k < S3) w4 w4 := Off.refl _ _
  have HCS : Hid (∀ i, i < n4 → ∃ (a : Addr) (x : Hm), oa4 = some a ∧ ms[i]? = some x ∧ ∀ j u, x.o.cells[j]? = some u → w4.cell? ((a.add (i * 5)).add j) = some u) := hcs4
  have HO4 : Hid (Pa.Own w4 S3 (.slice oa4 n4 cap4) (ms.map Hm.o)) := by rw [← HS3.out]; exact HO4.out
  have HE4 : Hid (∀ h ∈ ms, Own1 w4 S3 h) := by rw [← HS3.out]; exact HE4.out
  clear hcs4
  go_loopw [7, 25] (fun p q wr => ∃ (v' : Value) (k : Nat) (al : List Hm), v' = p ∧ q = .int .i64 (k : Int) ∧ k ≤ n4 ∧ AllS wr B v' al ∧ al.map Hm.p = qs.map Hm.p ++ (ms.take k).map (fun h => undoneP h.p) ∧ (∀ g, v'.ownBlock = some g → g < S3 ∨ w4.heap.size ≤ g) ∧ Off (fun k => B ≤ k ∧ k < S3) w4 wr) (fun p q _ => 10 - (intOf q).toNat)
  case atStart => exact ⟨v3, 0, qs, rfl, rfl, Nat.zero_le _, A0, M0, V0, O0⟩
  case round =>
    clear A0 M0 V0 O0
    obtain ⟨v', k, al, rfl, rfl, hk, hA, hM, hV, hO⟩ := hrel
    have HM : Hid (al.map Hm.p = qs.map Hm.p ++ (ms.take k).map (fun h => undoneP h.p)) := hM
    have HA : Hid (AllS wr B v' al) := hA
    have HV : Hid (∀ g, v'.ownBlock = some g → g < S3 ∨ w4.heap.size ≤ g) := hV
    have HOF : Hid (Off (fun k => B ≤ k ∧ k < S3) w4 wr) := hO
    have hal : al.length ≤ 100 := by
      have := congrArg List.length hM
      simp at this
      omega
    clear hM hA hV hO
    by_cases hlt : k < n4
    · have hlt' : (k : Int) < (n4 : Int) := by omega
      have k3 : (0 : Int) ≤ (k : Int) := by omega
      obtain ⟨a, x, rfl, hx, hcell⟩ := HCS.out k hlt
      obtain ⟨P, ⟨ra, rn, rc⟩, ⟨wa, wn, wc⟩⟩ := x
      have HX : Hid (ms[k]? = some ⟨P, ⟨ra, rn, rc⟩, ⟨wa, wn, wc⟩⟩) := hx
      have hnF : ∀ k, S3 ≤ k → k < w4.heap.size → ¬ (B ≤ k ∧ k < S3) := fun k h1 _ h3 => by omega
      have hcw : ∀ q u, (Pa.O.cells ⟨P.st, P.co, P.dn, ⟨ra, rn, rc⟩, ⟨wa, wn, wc⟩⟩)[q]? = some u → wr.cell? ((a.add (k * 5)).add q) = some u := fun q u hq => HO4.out.cell_off HOF.out hnF (hcell q u hq)
      have HZ : Hid (Own1 wr B ⟨undoneP P, ⟨ra, rn, rc⟩, ⟨wa, wn, wc⟩⟩) := by
        have h1 := ((HE4.out _ (List.mem_of_getElem? hx)).off HOF.out hnF).base HS34.out.1
        exact ⟨h1.rs, h1.ws⟩
      have HZF : Hid ((undoneP P).Fit) := by
        have h1 := HH4.out.fit _ (List.mem_of_getElem? hx)
        exact ⟨h1.st, h1.co, h1.rs, h1.ws, h1.rl, h1.wl⟩
      have tl : Hid (1 = 1) := rfl
      have q1 : Row (wr.alloc (.cells Pa.O.zero.arr 39)) wr.heap.size Pa.O.zero.arr 39 := Row.new _ _ _
      obtain ⟨k1, k2⟩ := copied wr (⟨P.st, P.co, P.dn, ⟨ra, rn, rc⟩, ⟨wa, wn, wc⟩⟩ : Pa.O)
      have hvT : ∀ g, v'.ownBlock = some g → g ≠ wr.heap.size := fun g hg => by have := (World.ownsRow.lt HA.out.own g hg).2; omega
      have hBT : w4.heap.size ≤ wr.heap.size := HOF.out.size
      have HVT : Hid (∀ g, v'.ownBlock = some g → g ≠ wr.heap.size) := hvT
      clear hcell hx hnF hvT
      go_upto_region 7 with (first
        | (have hh := tl; clear hh tl; refine wpList_load_any rfl 39 (.tmp 27) rfl (a.add (k * 5)) rfl (Pa.O.cells ⟨P.st, P.co, P.dn, ⟨ra, rn, rc⟩, ⟨wa, wn, wc⟩⟩) _ hcw Try.underlying39 rfl Pa.size39 ?_)
        | (refine store_cells rfl 39 (.tmp 9) (.tmp 28) rfl wr.heap.size (Pa.O.arr ⟨P.st, P.co, P.dn, ⟨ra, rn, rc⟩, ⟨wa, wn, wc⟩⟩) rfl rfl 39 _ q1 5 Pa.size39 rfl rfl (Pa.O.arr_one _) ?_))
      clear q1 hcw
      generalize (wr.alloc (.cells Pa.O.zero.arr 39)).setRow wr.heap.size (Pa.O.arr ⟨P.st, P.co, P.dn, ⟨ra, rn, rc⟩, ⟨wa, wn, wc⟩⟩) = w5 at k1 k2 ⊢
      have k1 : Row w5 wr.heap.size #[.int .u32 P.st, .int .u32 P.co, .bool P.dn, .slice ra rn rc, .slice wa wn wc] 39 := k1
      have HA5 : Hid (AllS w5 B v' al) := HA.out.below k2
      have HZ5 : Hid (Own1 w5 B ⟨undoneP P, ⟨ra, rn, rc⟩, ⟨wa, wn, wc⟩⟩) := HZ.out.keep k2
      have HO5 : Hid (Off (fun k => B ≤ k ∧ k < S3) w4 w5) := HOF.out.trans (Off.of_below (F := fun _ => False) k2) (fun _ q => q.elim)
      generalize wr.heap.size = T at k1 HVT hBT ⊢
      clear k2
      have f2 : w5.cell? ⟨T, 2, none⟩ = some (.bool P.dn) := row_at k1 2 _ rfl
      have fz2 : w5.frozen? ⟨T, 2, none⟩ = false := row_frozen k1 2
      have o6 : Off (· = T) w5 (w5.setCell ⟨T, 2, none⟩ (.bool false)) := Off.of_setCell _ _ _ rfl
      have k6 : Row (w5.setCell ⟨T, 2, none⟩ (.bool false)) T (Pa.O.arr ⟨P.st, P.co, false, ⟨ra, rn, rc⟩, ⟨wa, wn, wc⟩⟩) 39 := row_set k1 2 (.bool false)
      have HA6 : Hid (AllS (w5.setCell ⟨T, 2, none⟩ (.bool false)) B v' al) := HA5.out.offT o6 k1 HVT.out
      have HZ6 : Hid (Own1 (w5.setCell ⟨T, 2, none⟩ (.bool false)) B ⟨undoneP P, ⟨ra, rn, rc⟩, ⟨wa, wn, wc⟩⟩) := HZ5.out.apart o6 (fun k e => by subst e; exact ⟨_, k1⟩)
      have HO6 : Hid (Off (fun k => B ≤ k ∧ k < S3) w4 (w5.setCell ⟨T, 2, none⟩ (.bool false))) := HO5.out.trans o6 (fun k e => Or.inr (by rw [e]; exact hBT))
      clear k1 o6 HA5 HZ5 HO5
      go_upto_region 8 with fail
      clear f2 fz2
      generalize w5.setCell ⟨T, 2, none⟩ (.bool false) = w6 at k6 HA6 HZ6 HO6 ⊢
      have hcT := Pa.O.row_cells k6
      have rZ : Row (w6.alloc (.cells (Pa.O.arr ⟨P.st, P.co, false, ⟨ra, rn, rc⟩, ⟨wa, wn, wc⟩⟩) 39)) w6.heap.size (Pa.O.arr ⟨P.st, P.co, false, ⟨ra, rn, rc⟩, ⟨wa, wn, wc⟩⟩) 39 := Row.new _ _ _
      have b7 : Below w6.heap.size w6 (w6.alloc (.cells (Pa.O.arr ⟨P.st, P.co, false, ⟨ra, rn, rc⟩, ⟨wa, wn, wc⟩⟩) 39)) := (Below.refl _ _).alloc (Nat.le_refl _) _
      have HA7 : Hid (AllS (w6.alloc (.cells (Pa.O.arr ⟨P.st, P.co, false, ⟨ra, rn, rc⟩, ⟨wa, wn, wc⟩⟩) 39)) B v' al) := HA6.out.below b7
      have HO7 : Hid (Off (fun k => B ≤ k ∧ k < S3) w4 (w6.alloc (.cells (Pa.O.arr ⟨P.st, P.co, false, ⟨ra, rn, rc⟩, ⟨wa, wn, wc⟩⟩) 39))) := HO6.out.trans (Off.of_below (F := fun _ => False) b7) (fun _ q => q.elim)
      have HAP : Hid (∀ ty, ∃ v'' w'', (Builtin.append_ #[22, 22] ty #[v', .slice (some ⟨w6.heap.size, 0, none⟩) 1 1]).run Try.prog (w6.alloc (.cells (Pa.O.arr ⟨P.st, P.co, false, ⟨ra, rn, rc⟩, ⟨wa, wn, wc⟩⟩) 39)) = .ok v'' w'' ∧ AllS w'' B v'' (al ++ [⟨undoneP P, ⟨ra, rn, rc⟩, ⟨wa, wn, wc⟩⟩]) ∧ Off (fun g => v'.ownBlock = some g) (w6.alloc (.cells (Pa.O.arr ⟨P.st, P.co, false, ⟨ra, rn, rc⟩, ⟨wa, wn, wc⟩⟩) 39)) w'' ∧ (v''.ownBlock = v'.ownBlock ∨ ∃ g, v''.ownBlock = some g ∧ (w6.alloc (.cells (Pa.O.arr ⟨P.st, P.co, false, ⟨ra, rn, rc⟩, ⟨wa, wn, wc⟩⟩) 39)).heap.size ≤ g)) := fun ty => HA7.out.snoc (HZ6.out.keep b7) HZF.out (by omega) (Nat.le_trans (Nat.le_trans HS34.out.1 HS34.out.2) HO7.out.size) ty _ rZ
      clear rZ b7 k6 HA6 HZ6 HO6
      go_wp2_with (first
        | (refine wpList_load_any rfl 39 (.tmp 9) rfl ⟨T, 0, none⟩ rfl (Pa.O.cells ⟨P.st, P.co, false, ⟨ra, rn, rc⟩, ⟨wa, wn, wc⟩⟩) _ hcT Try.underlying39 rfl Pa.size39 ?_; clear hcT)
        | (refine wpList_one rfl (.tmp 31) rfl ⟨P.st, P.co, false, ⟨ra, rn, rc⟩, ⟨wa, wn, wc⟩⟩ rfl ?_)
        | (refine Pa.wpList_copy rfl (.tmp 30) (.tmp 32) 22 rfl v' (.slice (some ⟨w6.heap.size, 0, none⟩) 1 1) rfl rfl HAP.out ?_
           clear HAP
           generalize w6.alloc (.cells (Pa.O.arr ⟨P.st, P.co, false, ⟨ra, rn, rc⟩, ⟨wa, wn, wc⟩⟩) 39) = w7 at HA7 HO7
           rintro v8 w8 ⟨hA8, hO8, hv8⟩
           have HA8 : Hid (AllS w8 B v8 (al ++ [⟨undoneP P, ⟨ra, rn, rc⟩, ⟨wa, wn, wc⟩⟩])) := hA8
           have HO8 : Hid (Off (fun k => B ≤ k ∧ k < S3) w4 w8) := HO7.out.trans hO8 (fun g hg => by
             have h1 := (World.ownsRow.lt HA7.out.own g hg).1
             rcases HV.out g hg with q | q
             · exact Or.inl ⟨h1, q⟩
             · exact Or.inr q)
           have HV8 : Hid (∀ g, v8.ownBlock = some g → g < S3 ∨ w4.heap.size ≤ g) := fun g hg => by
             rcases hv8 with q | ⟨g', q, hg'⟩
             · exact HV.out g (by rw [← q]; exact hg)
             · rw [q] at hg; cases hg; exact Or.inr (Nat.le_trans HO7.out.size hg')
           clear hA8 hO8 hv8 HA7 HO7))
      go_roundw
      case rel => exact ⟨v8, k + 1, _, rfl, by go_num, by omega, HA8.out, by
        have h1 : ms.take (k + 1) = ms.take k ++ [⟨P, ⟨ra, rn, rc⟩, ⟨wa, wn, wc⟩⟩] := by
          obtain ⟨q1, q2⟩ := List.getElem?_eq_some_iff.1 HX.out
          rw [List.take_succ_eq_append_getElem q1, q2]
        rw [List.map_append, HM.out, h1, List.map_append, List.append_assoc]; rfl, HV8.out, HO8.out⟩
      case measure => simp [intOf]; omega
    · have hlt' : ¬ (k : Int) < (n4 : Int) := by omega
      obtain rfl : k = n4 := by omega
      have hMM : al.map Hm.p = qs.map Hm.p ++ ms.map (fun h => undoneP h.p) := by rw [HM.out, List.take_of_length_le (by rw [HN4.out]; omega)]
      have HIS : Hid (isHF (qs.map Hm.p) [] = isHF (al.map Hm.p) []) := by
        show _ = _
        rw [hMM, isHF_app _ _ (fun p hp => by obtain ⟨h, _, rfl⟩ := List.mem_map.1 hp; exact undone_com h.p)]
      have HPR : Hid (((qs.filter fun h => h.p.dn).map Hm.p).Perm ((al.filter fun h => h.p.dn).map Hm.p)) := by
        show List.Perm _ _
        rw [filt_p, filt_p, hMM, List.filter_append]
        have : (ms.map fun h => undoneP h.p).filter (fun p => p.dn) = [] := by
          rw [List.filter_eq_nil_iff]
          intro p hp
          obtain ⟨h, _, rfl⟩ := List.mem_map.1 hp
          simp [undoneP]
        rw [this, List.append_nil]
      have HBR : Hid (Below w.heap.size w wr) := below_off HB04.out HOF.out (fun g hg => by rw [HB.out]; exact hg.1)
      have hqf : (al.filter fun h => h.p.dn).length ≤ 12 := by
        have h1 := HPR.out.length_eq
        rw [List.length_map, List.length_map] at h1
        have h2 := List.length_filter_le (fun h : Hm => h.p.dn) qs
        omega
      have hc2 := check_any HA.out.helds (by omega) hqf
      have HAW : Hid (∀ w', Calls Try.prog 14 #[] w' fun e w'' => e = .returned (.bool true) ∧ Below w'.heap.size w' w'') := fun w' => awake_any w'
      obtain ⟨C2, HC2⟩ : ∃ C2, Hid (Checked wr al = C2) := ⟨_, rfl⟩
      rw [HC2.out] at hc2
      clear hMM hqf
      go_wp2_with (first
        | (go_at_call 11; refine hc2.mono ?_; clear hc2; intro e w9 hq; rw [← HC2.out] at hq; obtain ⟨y, fr, he, hr2, hb9⟩ := HC.out _ _ _ _ hq; obtain rfl := he; clear hq; obtain ⟨e1, e2⟩ := HR.out.det hr2 HIS.out HPR.out; subst e1 e2; have HB9 : Hid (Below w.heap.size w w9) := below_trans HBR.out hb9; have haw := HAW.out w9; clear hr2 hb9)
        | (go_at_call 14; refine haw.mono ?_; clear haw; rintro e w10 ⟨he, hb10⟩; obtain rfl := he; have hfin := HFO.out w10 (below_trans HB9.out hb10); clear hb10))
      exact hfin
set_option maxRecDepth 100000 in
theorem lifted (os : Os) (started : os.Started) (H : Type) (enc : TypeId × Value → H) :
    ReturnsInHanded {} Try.checked os 9 .any (Rows.histUndoneSpec.pre6 enc Try.prog Try.f9 Rows.histUndoneRow.domain false) (Rows.histUndoneSpec.post enc Try.prog Try.f9 false true false false) := by
  refine returnsInHanded_of_change_sized (C := Try.checked) own started (by kernel_rfl) Try.func9
    (ChangeSpec.witness6 (enc := enc) (C := Try.checked) false ⟨#[], #[.slice none 0 0, .slice none 0 0], []⟩ 8 (by kernel_rfl) (by kernel_rfl) (by kernel_rfl) (by kernel_rfl)) ?_
  intro W base args ds gs before hval0 hW hcnd hsz0 _
  have hval : ∀ (j : Nat) t v, Try.f9.params[j]? = some t → args[j]? = some v → Value.okWide Try.prog W .any base t v := hval0
  have hW' := hW
  obtain ⟨p, q, hA0, hV, rfl, hfz, hnd⟩ := hW
  have hA : DataW.TrodAll enc Try.prog W 0 (fun _ => true) true Try.f9.params.toList args.toList ds p := hA0
  have hsz : (DataW.weightsEach Try.prog (Try.f9.params.toList ++ []) (ds ++ gs)).all (· ≤ reachBytes) = true := hsz0
  rw [Try.params9] at hA hval hsz
  obtain ⟨v0, vs0, d0, ds0, p0, q0, hargs, rfl, rfl, h0, r0⟩ := trodAll_cons hA
  obtain ⟨v1, vs1, d1, ds1, p1, q1, rfl, rfl, rfl, h1, r1⟩ := trodAll_cons r0
  obtain ⟨rfl, rfl, rfl⟩ := trodAll_nil r1
  obtain rfl : args = #[v0, v1] := by cases args; simp_all
  obtain ⟨rfl, rfl⟩ := trodVars_none hV
  simp only [List.append_nil] at hsz
  have hlt : ∀ x ∈ (p0 ++ (p1 ++ [])), x.block < W.heap.size := fun x hx => hW'.lt x (by simpa using hx)
  have hw0 : (d0.weights Try.prog 22).all (· ≤ reachBytes) = true := List.all_eq_true.2 fun m hm => List.all_eq_true.1 hsz m (by simp [DataW.weightsEach, hm])
  have hw1 : (d1.weights Try.prog 22).all (· ≤ reachBytes) = true := List.all_eq_true.2 fun m hm => List.all_eq_true.1 hsz m (by simp [DataW.weightsEach, hm])
  have k0 := h0
  have k1 := h1
  obtain ⟨a0, w0⟩ := open_pasts (hval 0 22 v0 rfl rfl) h0 hw0
  obtain ⟨a1, w1⟩ := open_pasts (hval 1 22 v1 rfl rfl) h1 hw1
  clear hA0 hval0
  simp only [List.append_nil] at hW'
  refine (walk W v0 a0 v1 a1 w0 w1).mono fun e W' ⟨he, hg⟩ => ?_
  subst he
  exact ⟨_, rfl, ⟨_, _, _, [], (p0 ++ (p1 ++ [])), [], hW', (trodAll_cons_mk (shut_bool Try.underlying4 _) trodAll_mk0), (trodAll_cons_mk (Below.trod laidD (by kernel_rfl) (of_decide_eq_true (by kernel_rfl)) k0 hg (fun x hx => hlt x (by simp [hx]))) (trodAll_cons_mk (Below.trod laidD (by kernel_rfl) (of_decide_eq_true (by kernel_rfl)) k1 hg (fun x hx => hlt x (by simp [hx]))) trodAll_mk0)), rfl,
    hg.frame _, fun h => by cases h⟩⟩
theorem over : Rows.histUndoneRow.holds Try.pinned (OpenSpec.ofChange Rows.histUndoneSpec) :=
  OpenClaim.holds_of_wide 9 Try.f9 rfl rfl rfl rfl rfl rfl rfl ⟨rfl, rfl, rfl, rfl, rfl⟩ rfl rfl rfl rfl rfl (by kernel_rfl) Try.func9 (by kernel_rfl)
    (of_decide_eq_true (by kernel_rfl)) (by unfold Func.isWrapper; first | (rw [if_pos (by decide +kernel)]; kernel_rfl) | (rw [if_neg (by decide +kernel)]; exact ⟨rfl, rfl⟩))
    (fun os started H enc _ => lifted os started H enc)
theorem proved : Rows.HistUndoneSaid :=
  over
#print axioms proved
end Go.Proofs.Ytdlllnkcjfpajaa.histUndone
