/-
  LogFails: a flush that fails loses nothing: done again, it is as if it had not failed. No conditions.
-/
import Derived.Test.YtgnedbagelhcbaaJg
namespace Go.Proofs.Ytgnedbagelhcbaa.logFails
open Go.ChangeShapes Go.WideShapes Go.ChangeAt Go.RowKit
open Go.Deep
set_option linter.unusedVariables false
set_option linter.unusedSimpArgs false

theorem own : ownKnob Try.prog.godebug = none := by kernel_rfl

set_option maxRecDepth 20000

/-- Behind so many texts. -/
def FLp (w wr : World) (gl G k : Nat) (v : Value) : Prop := ∃ ts l all d M, ts.length ≤ k ∧ M ≤ 4000 * k ∧ FI l all ts d ∧ Fz d 64 (200 * k : Nat) ∧ FS w wr gl G l d M v ∧ OwnS wr w.heap.size v ts
set_option maxHeartbeats 16000000 in
theorem walk (w : World) (v : Value) (xs : List ByteArray) (zv : Value) (zl : List Int) (hX : Strs w v xs) (hZ : Cel w zv (zl.map (.int .i64)) ∧ (∀ z ∈ zl, Wf z) ∧ zl.length * 8 ≤ 140737488355328) :
    Calls Try.prog 6 #[v, zv] w fun e w' => e = .returned (.bool true) ∧ Below w.heap.size w w' := by
  obtain ⟨hZc, hZw, hZl⟩ := hZ
  have HA : Hid _ := awake_any
  have HND : Hid _ := new_some 64 (by decide) (by decide) w
  have HLN : Hid (∀ w1 gd L, DAt w1 gd (Dsk.new 64) L 0 → Calls Try.prog 11 #[.pointer (some ⟨gd, 0, none⟩), .int .i64 0, .int .i64 64, .int .u32 1, .slice none 0 0, .int .u32 0, .int .u64 1] w1 fun e w' => Made w1 (some ⟨gd, 0, none⟩) 0 64 1 0 1 true e w') := fun w1 gd L hD => by
    have := lnew_nil (some ⟨gd, 0, none⟩) 0 64 1 0 1 64 w1 (by decide) (by decide) (fun wa hb => size_any (hD.below hb))
    have e : okR 0 64 64 = true := by decide
    rw [e] at this; exact this
  obtain ⟨oa, cap, rfl, hcell⟩ := hX
  have HC : Hid (∀ i, i < xs.length → ∃ (a : Addr) (s : ByteArray), oa = some a ∧ (∀ wr, Below w.heap.size w wr → wr.cell? (a.add i) = some (.string s)) ∧ s.size ≤ maxLen) := fun i hi => by
    obtain ⟨a, s, e, _, h1, h2⟩ := hcell i hi
    exact ⟨a, s, e, fun wr hb => Ck.cell_keep h1 hb, h2⟩
  clear hcell
  obtain ⟨X, HX⟩ : ∃ X, Hid (xs.length = X) := ⟨_, rfl⟩
  rw [HX.out] at HC
  rw [HX.out]
  have HZC : Hid (∀ wr, Below w.heap.size w wr → Cel wr zv (zl.map (.int .i64))) := fun wr hb => by
    rcases hZc with q | ⟨a2, c2, q2, q3⟩
    · exact Or.inl q
    · exact Or.inr ⟨a2, c2, q2, fun j u hj => Ck.cell_keep (q3 j u hj) hb⟩
  go_enter Try.func6, Try.ntmps6
  go_upto_region 7 with (first
    | (go_at_call 9; refine Calls.mono HND.out ?_; clear HND; rintro e w1 ⟨rfl, D1, B1⟩)
    | (go_at_call 11; refine Calls.mono (HLN.out _ _ _ D1) ?_; clear HLN; rintro e w2 ⟨B2, -, hm⟩
       obtain ⟨gl, hgl, he, hr⟩ := hm rfl
       obtain rfl := he))
  have hS2 := LStep.fresh D1 B2 hgl hr (fun _ => False) (Off.of_below B1) (fun j q => Or.inr (foot_new q))
  clear D1 B1 B2 hr hgl hm
  have hFS2 : FS w w2 gl (w.heap.size + 2) ⟨0, 64, 1, [], [], ByteArray.empty, 0, true, 1, 1⟩ (Dsk.new 64) 0 (.slice none 0 0) := by
    obtain ⟨vl, vs, L, k1, k2, k3⟩ := hS2
    exact ⟨vl, vs, L, k1, k2.below (Nat.le_refl _) (fun _ q => q.elim), fun j q => ⟨(k3 j q).elim (fun q => q.elim) id, fun q => by cases q⟩⟩
  have hB2 : Below w.heap.size w w2 := by obtain ⟨_, _, _, _, k2, _⟩ := hFS2; exact k2
  clear hS2
  have hG2 : w.heap.size + 2 < w2.heap.size := by obtain ⟨_, _, _, k1, _, _⟩ := hFS2; exact k1.dsk.glt
  have HRC : Hid (∀ ty, ∃ v' w', (Builtin.append_ #[30, 30] ty #[.slice (some ⟨w2.heap.size, 0, none⟩) 0 0, zv]).run Try.prog (w2.alloc (.cells #[] 3)) = .ok v' w' ∧ (Cel w' v' (zl.map (.int .i64)) ∧ High w2.heap.size v' ∧ Below w2.heap.size w2 w')) := fun ty => by
    obtain ⟨i, hi, hz0, hs, hby⟩ := Ck.info_parts info3
    exact run_copy w2 30 ty 3 i _ 8 Try.underlying30 hi hz0 hs hby rfl zv _ (HZC.out w2 hB2) (fun u hu => by obtain ⟨x, _, rfl⟩ := List.mem_map.1 hu; rfl) (by rw [List.length_map]; exact hZl) (by decide)
  have HPN : Hid (∀ wx k, Below w2.heap.size w2 wx → Cel wx k (zl.map (.int .i64)) → High w2.heap.size k → Calls Try.prog 21 #[.pointer (some ⟨w.heap.size + 2, 0, none⟩), k, .int .i64 0] wx fun e w' => e = .returned (.tuple #[]) ∧ FS w w' gl (w.heap.size + 2) ⟨0, 64, 1, [], [], ByteArray.empty, 0, true, 1, 1⟩ ((Dsk.new 64).plan zl 0) 0 (.slice none 0 0)) := fun wx k hb hc hh => by
    have h9 := (hFS2.below hb).call (OwnS.nil wx w.heap.size) (fun F hL => LStep.plan hL k zl hc (fun a n c q => by have := hh a n c q; omega) hZw hZl)
    exact h9.mono (fun e w' h => ⟨h.1, h.2.1⟩)
  clear hFS2 hG2 hB2
  generalize w.heap.size + 2 = G at HPN ⊢
  go_upto_region 8 with (first
    | (at_builtin; refine wpList_copy rfl (.tmp 23) (.tmp 24) 30 rfl _ _ rfl rfl (fun ty => HRC.out ty) ?_
       rintro kv w3 ⟨hkc, hkh, hkb⟩)
    | (go_at_call 21; refine Calls.mono (HPN.out _ _ hkb hkc hkh) ?_; clear HPN; rintro e w4 ⟨rfl, f4⟩))
  have HI0 : Hid (FLp w w4 gl G 0 (.slice none 0 0)) := ⟨[], _, [], (Dsk.new 64).plan zl 0, 0, Nat.le_refl _, Nat.le_refl _, ⟨FI.new.a, FI.new.inv, rfl, rfl, FI.new.ok, FI.new.pb, FI.new.la, FI.new.pe⟩, ⟨rfl, rfl, rfl, by show (0 : Int) ≤ 0; omega, by show (0 : Int) ≤ _; omega⟩, f4, OwnS.nil _ _⟩
  clear hkc hkh hkb HRC f4 HZC
  clear hZc
  go_wp2
  go_loopw [7, 8] (fun vv i wr => ∃ (k : Nat), k ≤ 12 ∧ i = .int .i64 k ∧ FLp w wr gl G k vv) (fun _ i _ => 12 - (intOf i).toNat)
  case atStart => exact ⟨0, by omega, rfl, HI0.out⟩
  case round =>
    clear HI0
    obtain ⟨k, hk12, rfl, ts, l, all, d, M, htl, hMb, hFI, hfz, hFS, own⟩ := hrel
    have hbw : Below w.heap.size w wr := by obtain ⟨_, _, _, _, k2, _⟩ := hFS; exact k2
    by_cases hkX : k < X
    · have hkX' : (k : Int) < (X : Int) := by omega
      by_cases hk2 : k < 12
      · have hk2' : (k : Int) < 12 := by omega
        have hk0 : (0 : Int) ≤ (k : Int) := by omega
        have hwk : IntKind.i64.wrap ((k : Int) + 1) = (k : Int) + 1 := by rw [IntKind.wrap_i64]; omega
        obtain ⟨pa, s, rfl, hcs0, hss⟩ := HC.out k hkX
        have hcs := hcs0 wr hbw
        have HAP : Hid (Calls Try.prog 13 #[.pointer (some ⟨gl, 0, none⟩), .string s] wr fun e w' => e = .returned (.tuple #[.int .u64 (appA l s), .int .i64 (appE l s)]) ∧ FS w w' gl G (appL l s) d M u7 ∧ OwnS w' w.heap.size u7 ts) := hFS.call own (fun F hL => LStep.app hL s hss (by have := hFI.inv.few; omega) (by have := hFI.inv.few; omega) (by have := hFI.inv.op; omega) ⟨hFI.inv.fin, by rw [hFI.a.fin, nums_length]; have := cat_small _ hFI.ok; omega⟩ hFI.inv.next)
        generalize appA l s = AA at HAP
        cases hka : okA l s with
        | true =>
          have e2 : appE l s = 0 := by
            have h8 := hka
            unfold okA at h8
            simp at h8
            unfold appE; rw [h8.1, h8.2]; rfl
          obtain ⟨all1, hFI1⟩ := hFI.app (by omega) s hka
          rw [e2] at HAP
          clear hFS own hFI e2 hka
          generalize appL l s = l1 at HAP hFI1
          go_upto_region 14 with (go_at_call 13; refine Calls.mono HAP.out ?_; clear HAP; rintro e w3 ⟨rfl, f3, o3⟩)
          have hb3 : Below w.heap.size w w3 := by obtain ⟨_, _, _, _, k2, _⟩ := f3; exact k2
          clear hcs
          have hcs := hcs0 w3 hb3
          have hws := hb3.size
          have ab : Below w3.heap.size w3 (w3.alloc (.cells #[.string s] 9)) := (Below.refl _ _).alloc (Nat.le_refl _) _
          have rX : Row (w3.alloc (.cells #[.string s] 9)) w3.heap.size #[.string s] 9 := Row.new _ _ _
          have oA := o3.keep ab
          have fA := f3.below ab
          have hab := ab.size
          have HLW : Hid (∀ j, u7.ownBlock = some j → w.heap.size ≤ j) := fun j q => (World.ownsRow.lt oA j q).1
          have HR : Hid (∀ ty, ∃ v' w', (Builtin.append_ #[73, 73] ty #[u7, .slice (some ⟨w3.heap.size, 0, none⟩) 1 1]).run Try.prog (w3.alloc (.cells #[.string s] 9)) = .ok v' w' ∧ (OwnS w' w.heap.size v' (ts ++ [s]) ∧ (w3.alloc (.cells #[.string s] 9)).grownBy w' u7.ownBlock ∧ (v'.ownBlock = u7.ownBlock ∨ v'.ownBlock = some (w3.alloc (.cells #[.string s] 9)).heap.size))) := fun ty => OwnS.snoc oA ty w3.heap.size s rX (by omega) (by omega)
          clear f3 o3 oA rX ab
          go_upto_region 15 with (at_builtin; refine wpList_copy rfl (.tmp 48) (.tmp 53) 73 rfl _ _ rfl rfl (fun ty => HR.out ty) ?_
                                  rintro v5 w5 ⟨own5, gr5, hv5⟩)
          have f5 := fA.grown (Nat.le_refl _) HLW.out gr5 hv5
          clear fA gr5 hv5 HR HLW hab hws hb3 hcs
          have hts1 : (ts ++ [s]).length ≤ k + 1 := by rw [List.length_append]; show ts.length + 1 ≤ _; omega
          clear htl
          obtain ⟨ts1, Ht⟩ : ∃ ts1, Hid (ts ++ [s] = ts1) := ⟨_, rfl⟩
          rw [Ht.out] at hFI1 own5 hts1
          clear Ht
          have hFI := hFI1
          have hFS := f5
          have own := own5
          clear hFI1 f5 own5
          by_cases hk3 : k % 3 = 0
          · have hk3' : ((k : Int)).tmod 3 = 0 := by rw [Int.tmod_eq_emod_of_nonneg (by omega)]; omega
            have hcl := closed_len hFI.inv
            obtain ⟨hk1, hk2, _⟩ := closed_at l1
            obtain ⟨E2, l2, d2, hfl, hfo⟩ := flush_fz (n := 64) l1 d _ hfz (fun c hc => by rw [hFI.at_, hFI.sz]; exact place_in 0 64 64 c.num (by decide)) hk1 hk2
            obtain ⟨all2, hFI2, _⟩ := hFI.flush (by omega) hfo
            have hfin : l1.fin ≤ 18446744073709551615 := by rw [hFI.a.fin, nums_length]; have := cat_small _ hFI.ok; omega
            have HFH : Hid (Calls Try.prog 15 #[.pointer (some ⟨gl, 0, none⟩)] w5 fun e w' => e = .returned (.int .i64 E2) ∧ FS w w' gl G l2 d2 (M + 4000) v5 ∧ OwnS w' w.heap.size v5 ts1) := hFS.call own (fun F hL => by
              have h9 := LStep.flush hL hFI.inv hfin (by have := hfz.hi; omega) (by omega)
              rw [hfl] at h9; exact h9)
            have HFZ : Hid (Fz d2 64 (200 * (k + 1) : Nat)) := hfo.fz.mono (by have h1 := hcl.2.1; have h2 := hFI.few; have h3 := hFI.a.len; omega)
            have HF2 : Hid (FI l2 all2 ts1 d2) := hFI2
            clear hcl hk1 hk2 hfl hfo hFI2 hfin hFS own hfz hFI
            go_wp2_with (go_at_call 15; refine Calls.mono HFH.out ?_; clear HFH; rintro e w8 ⟨rfl, hFS8, own8⟩)
            go_roundw
            case rel => exact ⟨k + 1, by omega, by go_num, ts1, l2, all2, d2, M + 4000, by omega, by omega, HF2.out, HFZ.out, hFS8, own8⟩
            case measure => simp [intOf]; omega
          · have hk3' : ¬ ((k : Int)).tmod 3 = 0 := by rw [Int.tmod_eq_emod_of_nonneg (by omega)]; omega
            have HFZ : Hid (Fz d 64 (200 * (k + 1) : Nat)) := hfz.mono (by omega)
            have HF2 : Hid (FI l1 all1 ts1 d) := hFI
            have HFS : Hid (FS w w5 gl G l1 d M v5) := hFS
            have HOW : Hid (OwnS w5 w.heap.size v5 ts1) := own
            clear hFS own hfz hFI
            go_wp2
            go_roundw
            case rel => exact ⟨k + 1, by omega, by go_num, ts1, l1, all1, d, M, by omega, by omega, HF2.out, HFZ.out, HFS.out, HOW.out⟩
            case measure => simp [intOf]; omega
        | false =>
          have e1 : appL l s = l := by unfold appL; rw [hka]; rfl
          have e2 : ¬ appE l s = 0 := fun q => by
            unfold appE at q
            unfold okA at hka
            cases h1 : okF s with
            | false => rw [h1] at q; simp at q
            | true =>
              cases h2 : fullA l (frS s) with
              | false => rw [h1, h2] at hka; simp at hka
              | true => rw [h1, h2] at q; simp at q
          rw [e1] at HAP
          clear hFS own e1 hka
          generalize appE l s = AE at HAP e2
          go_upto_region 15 with (go_at_call 13; refine Calls.mono HAP.out ?_; clear HAP; rintro e w3 ⟨rfl, hFS, own⟩)
          clear hcs e2
          obtain ⟨ts1, Ht⟩ : ∃ ts1, Hid (ts = ts1) := ⟨_, rfl⟩
          obtain ⟨l1, Hl⟩ : ∃ l1, Hid (l = l1) := ⟨_, rfl⟩
          obtain ⟨all1, Ha⟩ : ∃ all1, Hid (all = all1) := ⟨_, rfl⟩
          rw [Ht.out] at hFI own htl
          rw [Hl.out] at hFI hFS
          rw [Ha.out] at hFI
          have hts1 : ts1.length ≤ k + 1 := by omega
          by_cases hk3 : k % 3 = 0
          · have hk3' : ((k : Int)).tmod 3 = 0 := by rw [Int.tmod_eq_emod_of_nonneg (by omega)]; omega
            have hcl := closed_len hFI.inv
            obtain ⟨hk1, hk2, _⟩ := closed_at l1
            obtain ⟨E2, l2, d2, hfl, hfo⟩ := flush_fz (n := 64) l1 d _ hfz (fun c hc => by rw [hFI.at_, hFI.sz]; exact place_in 0 64 64 c.num (by decide)) hk1 hk2
            obtain ⟨all2, hFI2, _⟩ := hFI.flush (by omega) hfo
            have hfin : l1.fin ≤ 18446744073709551615 := by rw [hFI.a.fin, nums_length]; have := cat_small _ hFI.ok; omega
            have HFH : Hid (Calls Try.prog 15 #[.pointer (some ⟨gl, 0, none⟩)] w3 fun e w' => e = .returned (.int .i64 E2) ∧ FS w w' gl G l2 d2 (M + 4000) u7 ∧ OwnS w' w.heap.size u7 ts1) := hFS.call own (fun F hL => by
              have h9 := LStep.flush hL hFI.inv hfin (by have := hfz.hi; omega) (by omega)
              rw [hfl] at h9; exact h9)
            have HFZ : Hid (Fz d2 64 (200 * (k + 1) : Nat)) := hfo.fz.mono (by have h1 := hcl.2.1; have h2 := hFI.few; have h3 := hFI.a.len; omega)
            have HF2 : Hid (FI l2 all2 ts1 d2) := hFI2
            clear hcl hk1 hk2 hfl hfo hFI2 hfin hFS own hfz hFI
            go_wp2_with (go_at_call 15; refine Calls.mono HFH.out ?_; clear HFH; rintro e w8 ⟨rfl, hFS8, own8⟩)
            go_roundw
            case rel => exact ⟨k + 1, by omega, by go_num, ts1, l2, all2, d2, M + 4000, by omega, by omega, HF2.out, HFZ.out, hFS8, own8⟩
            case measure => simp [intOf]; omega
          · have hk3' : ¬ ((k : Int)).tmod 3 = 0 := by rw [Int.tmod_eq_emod_of_nonneg (by omega)]; omega
            have HFZ : Hid (Fz d 64 (200 * (k + 1) : Nat)) := hfz.mono (by omega)
            have HF2 : Hid (FI l1 all1 ts1 d) := hFI
            have HFS : Hid (FS w w3 gl G l1 d M u7) := hFS
            have HOW : Hid (OwnS w3 w.heap.size u7 ts1) := own
            clear hFS own hfz hFI
            go_wp2
            go_roundw
            case rel => exact ⟨k + 1, by omega, by go_num, ts1, l1, all1, d, M, by omega, by omega, HF2.out, HFZ.out, HFS.out, HOW.out⟩
            case measure => simp [intOf]; omega
      · have hk2' : ¬ (k : Int) < 12 := by omega
        have hts12 : ts.length ≤ 12 := by omega
        have hFIp : FI l all ts (d.plan [] 0) := ⟨hFI.a, hFI.inv, hFI.at_, hFI.sz, hFI.ok, hFI.pb, hFI.la, hFI.pe⟩
        have hfzp : Fz (d.plan [] 0) 64 0 := ⟨hfz.size, rfl, hfz.on, by show (0 : Int) ≤ 0; omega, by show (0 : Int) ≤ 0; omega⟩
        have hwl : Well (d.plan [] 0) 64 0 := ⟨hfz.size, rfl, hfz.on, fun i => by show decide (i ∈ ([] : List Int)) = false; simp, by show (0 : Int) ≤ 0; omega, by show (0 : Int) ≤ 0; omega⟩
        have HPN : Hid (Calls Try.prog 21 #[.pointer (some ⟨G, 0, none⟩), .slice none 0 0, .int .i64 0] wr fun e w' => e = .returned (.tuple #[]) ∧ FS w w' gl G l (d.plan [] 0) M u7 ∧ OwnS w' w.heap.size u7 ts) := hFS.call own (fun F hL => LStep.plan hL (.slice none 0 0) [] (Or.inl ⟨rfl, rfl⟩) (fun a n c q => by cases q) (fun z hz => by cases hz) (by decide))
        obtain ⟨hk1, hk2, _⟩ := closed_at l
        have hpl : ∀ c ∈ l.closed.sealed, 0 ≤ placeV l.at_ l.size c.num ∧ placeV l.at_ l.size c.num < ((64 : Nat) : Int) := fun c hc => by rw [hFI.at_, hFI.sz]; exact place_in 0 64 64 c.num (by decide)
        obtain ⟨E2, l2, d2, hfl, hfo⟩ := flush_fz (n := 64) l (d.plan [] 0) 0 hfzp hpl hk1 hk2
        obtain ⟨dw, hfw, _⟩ := flush_well (n := 64) l (d.plan [] 0) 0 hwl hpl hk1 hk2
        have hE2 : E2 = 0 := by rw [hfw] at hfl; exact (congrArg (·.1) hfl).symm
        obtain ⟨all2, hFI2, hdone⟩ := hFIp.flush (by omega) hfo
        obtain ⟨z1, z2, z3, z4⟩ := hdone hE2
        have hd2n : d2.n = 64 := hfo.fz.size
        obtain ⟨jj, hsc, hal, hfit, htot, hst, hsz, hob, hep, hit⟩ := hFI2.opened (by omega) z1 z2 z3 hd2n
        have hfin : l.fin ≤ 18446744073709551615 := by rw [hFI.a.fin, nums_length]; have := cat_small _ hFI.ok; omega
        rw [hE2] at hfl
        have HFH : Hid (∀ wx, FS w wx gl G l (d.plan [] 0) M u7 → OwnS wx w.heap.size u7 ts → Calls Try.prog 15 #[.pointer (some ⟨gl, 0, none⟩)] wx fun e w' => e = .returned (.int .i64 0) ∧ FS w w' gl G l2 d2 (M + 4000) u7 ∧ OwnS w' w.heap.size u7 ts) := fun wx h o => h.call o (fun F hL => by
          have h9 := LStep.flush hL hFI.inv hfin (by show (0 : Int) + 1000 < _; omega) (by omega)
          rw [hfl] at h9; exact h9)
        have HDU : Hid (∀ wx, FS w wx gl G l2 d2 (M + 4000) u7 → OwnS wx w.heap.size u7 ts → Calls Try.prog 24 #[.pointer (some ⟨gl, 0, none⟩)] wx fun e w' => e = .returned (.int .u64 l2.fin) ∧ FS w w' gl G l2 d2 (M + 4000) u7 ∧ OwnS w' w.heap.size u7 ts) := fun wx h o => h.call o (fun F hL => by
          have h9 := LStep.dur hL
          rw [z4] at h9; exact h9)
        have HFN : Hid (∀ wx, FS w wx gl G l2 d2 (M + 4000) u7 → OwnS wx w.heap.size u7 ts → Calls Try.prog 23 #[.pointer (some ⟨gl, 0, none⟩)] wx fun e w' => e = .returned (.int .u64 l2.fin) ∧ FS w w' gl G l2 d2 (M + 4000) u7 ∧ OwnS w' w.heap.size u7 ts) := fun wx h o => h.call o (fun F hL => LStep.fin hL)
        have HCR : Hid (∀ wx, FS w wx gl G l2 d2 (M + 4000) u7 → OwnS wx w.heap.size u7 ts → Calls Try.prog 38 #[.pointer (some ⟨G, 0, none⟩), .slice none 0 0] wx fun e w' => e = .returned (.tuple #[]) ∧ FS w w' gl G l2 (d2.crash []) (M + 4000) u7 ∧ OwnS w' w.heap.size u7 ts) := fun wx h o => h.call o (fun F hL => LStep.crash hL)
        have HOP : Hid (∀ wx, FS w wx gl G l2 (d2.crash []) (M + 4000) u7 → OwnS wx w.heap.size u7 ts → Calls Try.prog 36 #[.pointer (some ⟨G, 0, none⟩), .int .i64 64, .int .u32 2] wx fun e w' => ∃ p iv, e = .returned (.tuple #[.pointer p, iv, .bool true]) ∧ It.Own w' wx.heap.size iv (lsns 1 ts) ∧ OwnS w' w.heap.size u7 ts ∧ Below w.heap.size w w') := fun wx h o => by
          obtain ⟨vl, vs, L, k1, k2, k3⟩ := h
          have h9 := opened_any wx G (d2.crash []) ((d2.crash []).tick jj) L (M + 4000) 64 2 all2 k1.dsk hsc rfl (by decide) (by show (0 : Int) + 3000 < _; omega) (by omega) hfit htot hst hsz hob hep
          refine h9.mono ?_
          rintro e w' ⟨p, iv, rfl, m1, m2, m3, _⟩
          rw [hit] at m1
          rw [decide_eq_true hob, decide_eq_true hep]
          exact ⟨p, iv, rfl, m1, o.off m3 (fun j q q2 => (k3 j (Or.inr (Or.inr (Or.inr q2)))).2 q), k2.trans (m3.below k2.size (fun j q => (k3 j (Or.inr (Or.inr (Or.inr q)))).1))⟩
        clear hFIp hfzp hwl hk1 hk2 hpl hfl hfo hfw hE2 hFI2 hdone z1 z2 z3 z4 hd2n hsc hal hfit htot hst hsz hob hep hit hfin hFS own hfz hFI
        generalize d.plan [] 0 = dp at HPN HFH
        generalize d2.crash [] = dc at HCR HOP
        go_upto_region 22 with (first
          | (go_at_call 21; refine Calls.mono HPN.out ?_; clear HPN; rintro e w3 ⟨rfl, f3, o3⟩)
          | (go_at_call 15; refine Calls.mono (HFH.out _ f3 o3) ?_; clear HFH f3 o3; rintro e w4 ⟨rfl, f4, o4⟩)
          | (go_at_call 24; refine Calls.mono (HDU.out _ f4 o4) ?_; clear HDU f4 o4; rintro e w5 ⟨rfl, f5, o5⟩)
          | (go_at_call 23; refine Calls.mono (HFN.out _ f5 o5) ?_; clear HFN f5 o5; rintro e w6 ⟨rfl, f6, o6⟩)
          | (go_at_call 38; refine Calls.mono (HCR.out _ f6 o6) ?_; clear HCR f6 o6; rintro e w7 ⟨rfl, f7, o7⟩)
          | (go_at_call 36; refine Calls.mono (HOP.out _ f7 o7) ?_; clear HOP f7 o7; rintro e w9 ⟨pp, iv, he, ownI, own9, b9⟩; obtain rfl := he))
        obtain ⟨io, ic, hiv⟩ := ownI.form
        obtain ⟨lo, lc, hvv⟩ := own9.form
        rw [lsns_length] at hiv
        subst hiv
        subst hvv
        obtain ⟨K, HK⟩ : ∃ K, Hid (ts.length = K) := ⟨_, rfl⟩
        have hK12 : K ≤ 12 := by rw [← HK.out]; omega
        have HAT : Hid (∀ q, q < K → ∃ (pa pb : Addr) (t : ByteArray), io = some pa ∧ lo = some pb ∧ (∀ wx, Below w9.heap.size w9 wx → wx.cell? ⟨(pa.add (q * 2)).block, (pa.add (q * 2)).off + 1, none⟩ = some (.string t)) ∧ (∀ wx, Below w9.heap.size w9 wx → wx.cell? (pb.add q) = some (.string t))) := fun q hq => by
          have hql : q < ts.length := by rw [HK.out]; exact hq
          have e1 : ts[q]? = some ts[q] := List.getElem?_eq_getElem hql
          obtain ⟨pa, c1, i1, i2⟩ := It.Own.at ownI q _ (lsns_at 1 ts q _ e1)
          obtain ⟨pb, c2, j1, j2⟩ := own9.at q _ e1
          rw [lsns_length] at i1
          cases i1
          cases j1
          exact ⟨pa, pb, ts[q], rfl, rfl, fun wx hb => Ck.cell_keep i2 hb, fun wx hb => Ck.cell_keep j2 hb⟩
        rw [HK.out]
        clear ownI own9
        go_upto_region 24 with fail
        go_wp2
        go_loopw [91] (fun i wq => ∃ (q : Nat), q ≤ K ∧ i = .int .i64 q ∧ Below w9.heap.size w9 wq) (fun i _ => K - (intOf i).toNat)
        case atStart => exact ⟨0, by omega, rfl, Below.refl _ _⟩
        case round =>
          rename World => wq
          obtain ⟨q, hq, rfl, hbq⟩ := hrel
          by_cases hqk : q < K
          · have hqk' : (q : Int) < (K : Int) := by omega
            have hq0 : (0 : Int) ≤ (q : Int) := by omega
            obtain ⟨pa, pb, t, rfl, rfl, h1, h2⟩ := HAT.out q hqk
            go_upto_region 27 with fail
            refine wp_region_held_drew (S := fun w' => Below w9.heap.size w9 w') (by kernel_rfl) hbq.drew fun hS => ?_
            refine wpAnyH_take (i := 0) (v := .slice (some pa) K ic) rfl (by kernel_rfl) (by kernel_rfl) (by kernel_rfl) (fun _ _ _ h => h) (Or.inl ⟨by rfl, fun w _ => by go_simp⟩) hS ?_
            try simp only [Act.put, List.getElem_toArray, List.getElem_cons_zero, List.getElem_cons_succ, List.setIfInBounds_toArray, List.set_cons_zero, List.set_cons_succ]
            refine wpAnyH_take (i := 1) (v := .int .i64 q) rfl (by kernel_rfl) (by kernel_rfl) (by kernel_rfl) (fun _ _ _ h => h) (Or.inl ⟨by rfl, fun w _ => by go_simp⟩) hS ?_
            try simp only [Act.put, List.getElem_toArray, List.getElem_cons_zero, List.getElem_cons_succ, List.setIfInBounds_toArray, List.set_cons_zero, List.set_cons_succ]
            refine wpAnyH_take (i := 2) (v := .pointer (some (pa.add (q * 2)))) rfl (by kernel_rfl) (by kernel_rfl) (by kernel_rfl) (fun _ _ _ h => h) (Or.inl ⟨by rfl, fun w _ => by go_simp⟩) hS ?_
            try simp only [Act.put, List.getElem_toArray, List.getElem_cons_zero, List.getElem_cons_succ, List.setIfInBounds_toArray, List.set_cons_zero, List.set_cons_succ]
            refine wpAnyH_take (i := 3) (v := .pointer (some ⟨(pa.add (q * 2)).block, (pa.add (q * 2)).off + 1, none⟩)) rfl (by kernel_rfl) (by kernel_rfl) (by kernel_rfl) (fun _ _ _ h => h) (Or.inl ⟨by rfl, fun w _ => by go_simp⟩) hS ?_
            try simp only [Act.put, List.getElem_toArray, List.getElem_cons_zero, List.getElem_cons_succ, List.setIfInBounds_toArray, List.set_cons_zero, List.set_cons_succ]
            refine wpAnyH_take (i := 4) (v := .string t) rfl (by kernel_rfl) (by kernel_rfl) (by kernel_rfl) (fun _ _ _ h => h) (Or.inl ⟨by rfl, fun w h => by have c := h1 w h; go_simp⟩) hS ?_
            try simp only [Act.put, List.getElem_toArray, List.getElem_cons_zero, List.getElem_cons_succ, List.setIfInBounds_toArray, List.set_cons_zero, List.set_cons_succ]
            refine wpAnyH_take (i := 5) (v := .slice (some pb) K lc) rfl (by kernel_rfl) (by kernel_rfl) (by kernel_rfl) (fun _ _ _ h => h) (Or.inl ⟨by rfl, fun w _ => by go_simp⟩) hS ?_
            try simp only [Act.put, List.getElem_toArray, List.getElem_cons_zero, List.getElem_cons_succ, List.setIfInBounds_toArray, List.set_cons_zero, List.set_cons_succ]
            refine wpAnyH_take (i := 6) (v := .int .i64 q) rfl (by kernel_rfl) (by kernel_rfl) (by kernel_rfl) (fun _ _ _ h => h) (Or.inl ⟨by rfl, fun w _ => by go_simp⟩) hS ?_
            try simp only [Act.put, List.getElem_toArray, List.getElem_cons_zero, List.getElem_cons_succ, List.setIfInBounds_toArray, List.set_cons_zero, List.set_cons_succ]
            refine wpAnyH_take (i := 7) (v := .pointer (some (pb.add q))) rfl (by kernel_rfl) (by kernel_rfl) (by kernel_rfl) (fun _ _ _ h => h) (Or.inl ⟨by rfl, fun w _ => by go_simp⟩) hS ?_
            try simp only [Act.put, List.getElem_toArray, List.getElem_cons_zero, List.getElem_cons_succ, List.setIfInBounds_toArray, List.set_cons_zero, List.set_cons_succ]
            refine wpAnyH_take (i := 8) (v := .string t) rfl (by kernel_rfl) (by kernel_rfl) (by kernel_rfl) (fun _ _ _ h => h) (Or.inl ⟨by rfl, fun w h => by have c := h2 w h; go_simp⟩) hS ?_
            try simp only [Act.put, List.getElem_toArray, List.getElem_cons_zero, List.getElem_cons_succ, List.setIfInBounds_toArray, List.set_cons_zero, List.set_cons_succ]
            refine wpAnyH_take (i := 9) (v := .bool false) rfl (by kernel_rfl) (by kernel_rfl) (by kernel_rfl) (fun _ _ _ h => h) (Or.inl ⟨by rfl, fun w _ => by go_simp⟩) hS ?_
            try simp only [Act.put, List.getElem_toArray, List.getElem_cons_zero, List.getElem_cons_succ, List.setIfInBounds_toArray, List.set_cons_zero, List.set_cons_succ]
            refine wpAnyH_done (by kernel_rfl) ?_ _
            go_wp2
            go_roundw
            case rel => exact ⟨q + 1, by omega, by go_num, hS⟩
            case measure => simp [intOf]; omega
          · obtain rfl : K = q := by omega
            have hqk' : ¬ (K : Int) < (K : Int) := by omega
            go_wp2_with (go_at_call 10; refine Calls.mono (HA.out _) ?_; clear HA; rintro ex wz ⟨rfl, hz⟩)
            go_ret
            have b5 := b9.trans (hbq.mono b9.size)
            exact ⟨rfl, b5.trans (hz.mono b5.size)⟩
    · have hkX' : ¬ (k : Int) < (X : Int) := by omega
      have hts12 : ts.length ≤ 12 := by omega
      have hFIp : FI l all ts (d.plan [] 0) := ⟨hFI.a, hFI.inv, hFI.at_, hFI.sz, hFI.ok, hFI.pb, hFI.la, hFI.pe⟩
      have hfzp : Fz (d.plan [] 0) 64 0 := ⟨hfz.size, rfl, hfz.on, by show (0 : Int) ≤ 0; omega, by show (0 : Int) ≤ 0; omega⟩
      have hwl : Well (d.plan [] 0) 64 0 := ⟨hfz.size, rfl, hfz.on, fun i => by show decide (i ∈ ([] : List Int)) = false; simp, by show (0 : Int) ≤ 0; omega, by show (0 : Int) ≤ 0; omega⟩
      have HPN : Hid (Calls Try.prog 21 #[.pointer (some ⟨G, 0, none⟩), .slice none 0 0, .int .i64 0] wr fun e w' => e = .returned (.tuple #[]) ∧ FS w w' gl G l (d.plan [] 0) M u7 ∧ OwnS w' w.heap.size u7 ts) := hFS.call own (fun F hL => LStep.plan hL (.slice none 0 0) [] (Or.inl ⟨rfl, rfl⟩) (fun a n c q => by cases q) (fun z hz => by cases hz) (by decide))
      obtain ⟨hk1, hk2, _⟩ := closed_at l
      have hpl : ∀ c ∈ l.closed.sealed, 0 ≤ placeV l.at_ l.size c.num ∧ placeV l.at_ l.size c.num < ((64 : Nat) : Int) := fun c hc => by rw [hFI.at_, hFI.sz]; exact place_in 0 64 64 c.num (by decide)
      obtain ⟨E2, l2, d2, hfl, hfo⟩ := flush_fz (n := 64) l (d.plan [] 0) 0 hfzp hpl hk1 hk2
      obtain ⟨dw, hfw, _⟩ := flush_well (n := 64) l (d.plan [] 0) 0 hwl hpl hk1 hk2
      have hE2 : E2 = 0 := by rw [hfw] at hfl; exact (congrArg (·.1) hfl).symm
      obtain ⟨all2, hFI2, hdone⟩ := hFIp.flush (by omega) hfo
      obtain ⟨z1, z2, z3, z4⟩ := hdone hE2
      have hd2n : d2.n = 64 := hfo.fz.size
      obtain ⟨jj, hsc, hal, hfit, htot, hst, hsz, hob, hep, hit⟩ := hFI2.opened (by omega) z1 z2 z3 hd2n
      have hfin : l.fin ≤ 18446744073709551615 := by rw [hFI.a.fin, nums_length]; have := cat_small _ hFI.ok; omega
      rw [hE2] at hfl
      have HFH : Hid (∀ wx, FS w wx gl G l (d.plan [] 0) M u7 → OwnS wx w.heap.size u7 ts → Calls Try.prog 15 #[.pointer (some ⟨gl, 0, none⟩)] wx fun e w' => e = .returned (.int .i64 0) ∧ FS w w' gl G l2 d2 (M + 4000) u7 ∧ OwnS w' w.heap.size u7 ts) := fun wx h o => h.call o (fun F hL => by
        have h9 := LStep.flush hL hFI.inv hfin (by show (0 : Int) + 1000 < _; omega) (by omega)
        rw [hfl] at h9; exact h9)
      have HDU : Hid (∀ wx, FS w wx gl G l2 d2 (M + 4000) u7 → OwnS wx w.heap.size u7 ts → Calls Try.prog 24 #[.pointer (some ⟨gl, 0, none⟩)] wx fun e w' => e = .returned (.int .u64 l2.fin) ∧ FS w w' gl G l2 d2 (M + 4000) u7 ∧ OwnS w' w.heap.size u7 ts) := fun wx h o => h.call o (fun F hL => by
        have h9 := LStep.dur hL
        rw [z4] at h9; exact h9)
      have HFN : Hid (∀ wx, FS w wx gl G l2 d2 (M + 4000) u7 → OwnS wx w.heap.size u7 ts → Calls Try.prog 23 #[.pointer (some ⟨gl, 0, none⟩)] wx fun e w' => e = .returned (.int .u64 l2.fin) ∧ FS w w' gl G l2 d2 (M + 4000) u7 ∧ OwnS w' w.heap.size u7 ts) := fun wx h o => h.call o (fun F hL => LStep.fin hL)
      have HCR : Hid (∀ wx, FS w wx gl G l2 d2 (M + 4000) u7 → OwnS wx w.heap.size u7 ts → Calls Try.prog 38 #[.pointer (some ⟨G, 0, none⟩), .slice none 0 0] wx fun e w' => e = .returned (.tuple #[]) ∧ FS w w' gl G l2 (d2.crash []) (M + 4000) u7 ∧ OwnS w' w.heap.size u7 ts) := fun wx h o => h.call o (fun F hL => LStep.crash hL)
      have HOP : Hid (∀ wx, FS w wx gl G l2 (d2.crash []) (M + 4000) u7 → OwnS wx w.heap.size u7 ts → Calls Try.prog 36 #[.pointer (some ⟨G, 0, none⟩), .int .i64 64, .int .u32 2] wx fun e w' => ∃ p iv, e = .returned (.tuple #[.pointer p, iv, .bool true]) ∧ It.Own w' wx.heap.size iv (lsns 1 ts) ∧ OwnS w' w.heap.size u7 ts ∧ Below w.heap.size w w') := fun wx h o => by
        obtain ⟨vl, vs, L, k1, k2, k3⟩ := h
        have h9 := opened_any wx G (d2.crash []) ((d2.crash []).tick jj) L (M + 4000) 64 2 all2 k1.dsk hsc rfl (by decide) (by show (0 : Int) + 3000 < _; omega) (by omega) hfit htot hst hsz hob hep
        refine h9.mono ?_
        rintro e w' ⟨p, iv, rfl, m1, m2, m3, _⟩
        rw [hit] at m1
        rw [decide_eq_true hob, decide_eq_true hep]
        exact ⟨p, iv, rfl, m1, o.off m3 (fun j q q2 => (k3 j (Or.inr (Or.inr (Or.inr q2)))).2 q), k2.trans (m3.below k2.size (fun j q => (k3 j (Or.inr (Or.inr (Or.inr q)))).1))⟩
      clear hFIp hfzp hwl hk1 hk2 hpl hfl hfo hfw hE2 hFI2 hdone z1 z2 z3 z4 hd2n hsc hal hfit htot hst hsz hob hep hit hfin hFS own hfz hFI
      generalize d.plan [] 0 = dp at HPN HFH
      generalize d2.crash [] = dc at HCR HOP
      go_upto_region 22 with (first
        | (go_at_call 21; refine Calls.mono HPN.out ?_; clear HPN; rintro e w3 ⟨rfl, f3, o3⟩)
        | (go_at_call 15; refine Calls.mono (HFH.out _ f3 o3) ?_; clear HFH f3 o3; rintro e w4 ⟨rfl, f4, o4⟩)
        | (go_at_call 24; refine Calls.mono (HDU.out _ f4 o4) ?_; clear HDU f4 o4; rintro e w5 ⟨rfl, f5, o5⟩)
        | (go_at_call 23; refine Calls.mono (HFN.out _ f5 o5) ?_; clear HFN f5 o5; rintro e w6 ⟨rfl, f6, o6⟩)
        | (go_at_call 38; refine Calls.mono (HCR.out _ f6 o6) ?_; clear HCR f6 o6; rintro e w7 ⟨rfl, f7, o7⟩)
        | (go_at_call 36; refine Calls.mono (HOP.out _ f7 o7) ?_; clear HOP f7 o7; rintro e w9 ⟨pp, iv, he, ownI, own9, b9⟩; obtain rfl := he))
      obtain ⟨io, ic, hiv⟩ := ownI.form
      obtain ⟨lo, lc, hvv⟩ := own9.form
      rw [lsns_length] at hiv
      subst hiv
      subst hvv
      obtain ⟨K, HK⟩ : ∃ K, Hid (ts.length = K) := ⟨_, rfl⟩
      have hK12 : K ≤ 12 := by rw [← HK.out]; omega
      have HAT : Hid (∀ q, q < K → ∃ (pa pb : Addr) (t : ByteArray), io = some pa ∧ lo = some pb ∧ (∀ wx, Below w9.heap.size w9 wx → wx.cell? ⟨(pa.add (q * 2)).block, (pa.add (q * 2)).off + 1, none⟩ = some (.string t)) ∧ (∀ wx, Below w9.heap.size w9 wx → wx.cell? (pb.add q) = some (.string t))) := fun q hq => by
        have hql : q < ts.length := by rw [HK.out]; exact hq
        have e1 : ts[q]? = some ts[q] := List.getElem?_eq_getElem hql
        obtain ⟨pa, c1, i1, i2⟩ := It.Own.at ownI q _ (lsns_at 1 ts q _ e1)
        obtain ⟨pb, c2, j1, j2⟩ := own9.at q _ e1
        rw [lsns_length] at i1
        cases i1
        cases j1
        exact ⟨pa, pb, ts[q], rfl, rfl, fun wx hb => Ck.cell_keep i2 hb, fun wx hb => Ck.cell_keep j2 hb⟩
      rw [HK.out]
      clear ownI own9
      go_upto_region 24 with fail
      go_wp2
      go_loopw [91] (fun i wq => ∃ (q : Nat), q ≤ K ∧ i = .int .i64 q ∧ Below w9.heap.size w9 wq) (fun i _ => K - (intOf i).toNat)
      case atStart => exact ⟨0, by omega, rfl, Below.refl _ _⟩
      case round =>
        rename World => wq
        obtain ⟨q, hq, rfl, hbq⟩ := hrel
        by_cases hqk : q < K
        · have hqk' : (q : Int) < (K : Int) := by omega
          have hq0 : (0 : Int) ≤ (q : Int) := by omega
          obtain ⟨pa, pb, t, rfl, rfl, h1, h2⟩ := HAT.out q hqk
          go_upto_region 27 with fail
          refine wp_region_held_drew (S := fun w' => Below w9.heap.size w9 w') (by kernel_rfl) hbq.drew fun hS => ?_
          refine wpAnyH_take (i := 0) (v := .slice (some pa) K ic) rfl (by kernel_rfl) (by kernel_rfl) (by kernel_rfl) (fun _ _ _ h => h) (Or.inl ⟨by rfl, fun w _ => by go_simp⟩) hS ?_
          try simp only [Act.put, List.getElem_toArray, List.getElem_cons_zero, List.getElem_cons_succ, List.setIfInBounds_toArray, List.set_cons_zero, List.set_cons_succ]
          refine wpAnyH_take (i := 1) (v := .int .i64 q) rfl (by kernel_rfl) (by kernel_rfl) (by kernel_rfl) (fun _ _ _ h => h) (Or.inl ⟨by rfl, fun w _ => by go_simp⟩) hS ?_
          try simp only [Act.put, List.getElem_toArray, List.getElem_cons_zero, List.getElem_cons_succ, List.setIfInBounds_toArray, List.set_cons_zero, List.set_cons_succ]
          refine wpAnyH_take (i := 2) (v := .pointer (some (pa.add (q * 2)))) rfl (by kernel_rfl) (by kernel_rfl) (by kernel_rfl) (fun _ _ _ h => h) (Or.inl ⟨by rfl, fun w _ => by go_simp⟩) hS ?_
          try simp only [Act.put, List.getElem_toArray, List.getElem_cons_zero, List.getElem_cons_succ, List.setIfInBounds_toArray, List.set_cons_zero, List.set_cons_succ]
          refine wpAnyH_take (i := 3) (v := .pointer (some ⟨(pa.add (q * 2)).block, (pa.add (q * 2)).off + 1, none⟩)) rfl (by kernel_rfl) (by kernel_rfl) (by kernel_rfl) (fun _ _ _ h => h) (Or.inl ⟨by rfl, fun w _ => by go_simp⟩) hS ?_
          try simp only [Act.put, List.getElem_toArray, List.getElem_cons_zero, List.getElem_cons_succ, List.setIfInBounds_toArray, List.set_cons_zero, List.set_cons_succ]
          refine wpAnyH_take (i := 4) (v := .string t) rfl (by kernel_rfl) (by kernel_rfl) (by kernel_rfl) (fun _ _ _ h => h) (Or.inl ⟨by rfl, fun w h => by have c := h1 w h; go_simp⟩) hS ?_
          try simp only [Act.put, List.getElem_toArray, List.getElem_cons_zero, List.getElem_cons_succ, List.setIfInBounds_toArray, List.set_cons_zero, List.set_cons_succ]
          refine wpAnyH_take (i := 5) (v := .slice (some pb) K lc) rfl (by kernel_rfl) (by kernel_rfl) (by kernel_rfl) (fun _ _ _ h => h) (Or.inl ⟨by rfl, fun w _ => by go_simp⟩) hS ?_
          try simp only [Act.put, List.getElem_toArray, List.getElem_cons_zero, List.getElem_cons_succ, List.setIfInBounds_toArray, List.set_cons_zero, List.set_cons_succ]
          refine wpAnyH_take (i := 6) (v := .int .i64 q) rfl (by kernel_rfl) (by kernel_rfl) (by kernel_rfl) (fun _ _ _ h => h) (Or.inl ⟨by rfl, fun w _ => by go_simp⟩) hS ?_
          try simp only [Act.put, List.getElem_toArray, List.getElem_cons_zero, List.getElem_cons_succ, List.setIfInBounds_toArray, List.set_cons_zero, List.set_cons_succ]
          refine wpAnyH_take (i := 7) (v := .pointer (some (pb.add q))) rfl (by kernel_rfl) (by kernel_rfl) (by kernel_rfl) (fun _ _ _ h => h) (Or.inl ⟨by rfl, fun w _ => by go_simp⟩) hS ?_
          try simp only [Act.put, List.getElem_toArray, List.getElem_cons_zero, List.getElem_cons_succ, List.setIfInBounds_toArray, List.set_cons_zero, List.set_cons_succ]
          refine wpAnyH_take (i := 8) (v := .string t) rfl (by kernel_rfl) (by kernel_rfl) (by kernel_rfl) (fun _ _ _ h => h) (Or.inl ⟨by rfl, fun w h => by have c := h2 w h; go_simp⟩) hS ?_
          try simp only [Act.put, List.getElem_toArray, List.getElem_cons_zero, List.getElem_cons_succ, List.setIfInBounds_toArray, List.set_cons_zero, List.set_cons_succ]
          refine wpAnyH_take (i := 9) (v := .bool false) rfl (by kernel_rfl) (by kernel_rfl) (by kernel_rfl) (fun _ _ _ h => h) (Or.inl ⟨by rfl, fun w _ => by go_simp⟩) hS ?_
          try simp only [Act.put, List.getElem_toArray, List.getElem_cons_zero, List.getElem_cons_succ, List.setIfInBounds_toArray, List.set_cons_zero, List.set_cons_succ]
          refine wpAnyH_done (by kernel_rfl) ?_ _
          go_wp2
          go_roundw
          case rel => exact ⟨q + 1, by omega, by go_num, hS⟩
          case measure => simp [intOf]; omega
        · obtain rfl : K = q := by omega
          have hqk' : ¬ (K : Int) < (K : Int) := by omega
          go_wp2_with (go_at_call 10; refine Calls.mono (HA.out _) ?_; clear HA; rintro ex wz ⟨rfl, hz⟩)
          go_ret
          have b5 := b9.trans (hbq.mono b9.size)
          exact ⟨rfl, b5.trans (hz.mono b5.size)⟩

set_option maxRecDepth 100000 in
theorem lifted (os : Os) (started : os.Started) (H : Type) (enc : TypeId × Value → H) :
    ReturnsInHanded {} Try.checked os 6 .any (Rows.logFailsSpec.pre6 enc Try.prog Try.f6 Rows.logFailsRow.domain false) (Rows.logFailsSpec.post enc Try.prog Try.f6 false true false false) := by
  refine returnsInHanded_of_change_sized (C := Try.checked) own started (by kernel_rfl) Try.func6
    (ChangeSpec.witness6 (enc := enc) (C := Try.checked) false ⟨#[], #[.slice none 0 0, .slice none 0 0], []⟩ 8 (by kernel_rfl) (by kernel_rfl) (by kernel_rfl) (by kernel_rfl)) ?_
  intro W base args ds gs before hval0 hW hcnd hsz0 _
  have hval : ∀ (j : Nat) t v, Try.f6.params[j]? = some t → args[j]? = some v → Value.okWide Try.prog W .any base t v := hval0
  have hW' := hW
  obtain ⟨p, q, hA0, hV, rfl, hfz, hnd⟩ := hW
  have hA : DataW.TrodAll enc Try.prog W 0 (fun _ => true) true Try.f6.params.toList args.toList ds p := hA0
  have hsz : (DataW.weightsEach Try.prog (Try.f6.params.toList ++ []) (ds ++ gs)).all (· ≤ reachBytes) = true := hsz0
  rw [Try.params6] at hA hval hsz
  obtain ⟨v0, vs0, d0, ds0, p0, q0, hargs, rfl, rfl, h0, r0⟩ := trodAll_cons hA
  obtain ⟨v1, vs1, d1, ds1, p1, q1, rfl, rfl, rfl, h1, r1⟩ := trodAll_cons r0
  obtain ⟨rfl, rfl, rfl⟩ := trodAll_nil r1
  obtain rfl : args = #[v0, v1] := by cases args; simp_all
  obtain ⟨rfl, rfl⟩ := trodVars_none hV
  simp only [List.append_nil] at hsz
  have hlt : ∀ x ∈ (p0 ++ (p1 ++ [])), x.block < W.heap.size := fun x hx => hW'.lt x (by simpa using hx)
  have hw0 : (d0.weights Try.prog 73).all (· ≤ reachBytes) = true := List.all_eq_true.2 fun m hm => List.all_eq_true.1 hsz m (by simp [DataW.weightsEach, hm])
  have hw1 : (d1.weights Try.prog 30).all (· ≤ reachBytes) = true := List.all_eq_true.2 fun m hm => List.all_eq_true.1 hsz m (by simp [DataW.weightsEach, hm])
  have k0 := h0
  have k1 := h1
  obtain ⟨a0, w0⟩ := open_strsv (hval 0 73 v0 rfl rfl) h0
  obtain ⟨a1, w1⟩ := open_intsv (hval 1 30 v1 rfl rfl) h1 hw1
  clear hA0 hval0
  simp only [List.append_nil] at hW'
  refine (walk W v0 a0 v1 a1 w0 w1).mono fun e W' ⟨he, hg⟩ => ?_
  subst he
  exact ⟨_, rfl, ⟨_, _, _, [], (p0 ++ (p1 ++ [])), [], hW', (trodAll_cons_mk (shut_bool Try.underlying4 _) trodAll_mk0), (trodAll_cons_mk (Below.trod laidOut (by kernel_rfl) (of_decide_eq_true (by kernel_rfl)) k0 hg (fun x hx => hlt x (by simp [hx]))) (trodAll_cons_mk (Below.trod laidOut (by kernel_rfl) (of_decide_eq_true (by kernel_rfl)) k1 hg (fun x hx => hlt x (by simp [hx]))) trodAll_mk0)), rfl,
    hg.frame _, fun h => by cases h⟩⟩

theorem over : Rows.logFailsRow.holds Try.pinned (OpenSpec.ofChange Rows.logFailsSpec) :=
  OpenClaim.holds_of_wide 6 Try.f6 rfl rfl rfl rfl rfl rfl rfl ⟨rfl, rfl, rfl, rfl, rfl⟩ rfl rfl rfl rfl rfl (by kernel_rfl) Try.func6 (by kernel_rfl)
    (of_decide_eq_true (by kernel_rfl)) (by unfold Func.isWrapper; first | (rw [if_pos (by decide +kernel)]; kernel_rfl) | (rw [if_neg (by decide +kernel)]; exact ⟨rfl, rfl⟩))
    (fun os started H enc _ => lifted os started H enc)

/-- The statement. -/
theorem proved : Rows.LogFailsSaid :=
  over
#print axioms proved
end Go.Proofs.Ytgnedbagelhcbaa.logFails
