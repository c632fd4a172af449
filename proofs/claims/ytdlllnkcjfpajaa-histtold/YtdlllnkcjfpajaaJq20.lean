/-
  Proved here: the document's Of.
-/
import Derived.Test.YtdlllnkcjfpajaaJq17
import Derived.Test.YtdlllnkcjfpajaaJq16
namespace Go.Proofs.Ytdlllnkcjfpajaa
open Go.ChangeShapes Go.WideShapes Go.ChangeAt Go.RowKit
set_option linter.unusedVariables false
set_option linter.unusedSimpArgs false
set_option maxRecDepth 20000
theorem size60 : (Try.prog.info? 60).map (·.size) = some 77 := by kernel_rfl
def zero60A : Array Value := #[.int .i64 0, .int .u8 0, .int .u64 0, .int .u16 0, .int .i64 0, .string ByteArray.empty, .int .i64 0, .int .i64 0, .int .i64 0, .bool false, .int .i64 0, .int .u64 0, .int .u32 0, .int .u8 0, .int .u8 0, .int .u8 0, .int .u8 0, .int .u8 0, .int .u8 0, .int .u8 0, .int .u8 0, .int .u8 0, .int .u8 0, .int .u8 0, .int .u8 0, .int .u8 0, .int .u8 0, .int .u8 0, .int .u8 0, .int .u8 0, .int .u8 0, .int .u8 0, .int .u8 0, .int .u8 0, .int .u8 0, .int .u8 0, .int .u8 0, .int .u8 0, .int .u8 0, .int .u8 0, .int .u8 0, .int .u8 0, .int .u8 0, .int .u8 0, .int .u8 0, .int .u8 0, .int .u8 0, .int .u8 0, .int .u8 0, .int .u8 0, .int .u8 0, .int .u8 0, .int .u8 0, .int .u8 0, .int .u8 0, .int .u8 0, .int .u8 0, .int .u8 0, .int .u8 0, .int .u8 0, .int .u8 0, .int .u8 0, .int .u8 0, .int .u8 0, .int .u8 0, .int .u8 0, .int .u8 0, .int .u8 0, .int .u8 0, .int .u8 0, .int .u8 0, .int .u8 0, .int .u8 0, .int .u8 0, .int .u8 0, .int .u8 0, .int .u8 0]
theorem zero60' (w : World) : (zeroValue 60).run Try.prog w = .ok (.agg zero60A) w := by kernel_rfl
theorem zero60 : ∃ z : Array Value, z.size = 77 ∧ ∀ w : World, (zeroValue 60).run Try.prog w = .ok (.agg z) w := ⟨zero60A, rfl, zero60'⟩
theorem Tl.one (t : Tl) (h : t.Ok) : t.cs.toArray.all (·.oneCell') = true := by
  rw [Array.all_eq_true_iff_forall_mem]
  intro u hu
  exact h.one u (by simpa using hu)
theorem Tl.size (t : Tl) : t.cs.toArray.size = 77 := by simp [Tl.cs_len]
theorem copied60 (w : World) (z : Array Value) (t : Tl) : Row ((w.alloc (.cells z 60)).setRow w.heap.size t.cs.toArray) w.heap.size t.cs.toArray 60 ∧ Below w.heap.size w ((w.alloc (.cells z 60)).setRow w.heap.size t.cs.toArray) := by
  have q1 : Row (w.alloc (.cells z 60)) w.heap.size z 60 := Row.new _ _ _
  have b1 : Below w.heap.size w (w.alloc (.cells z 60)) := (Below.refl _ _).alloc (Nat.le_refl _) _
  exact ⟨q1.set _, below_off b1 (Off.of_setRow (F := (· = w.heap.size)) _ _ _ rfl) (fun j e => by rw [e]; exact Nat.le_refl _)⟩
theorem row_tcells {w : World} {g : Nat} {t : Tl} (h : Row w g t.cs.toArray 60) : ∀ j v, t.cs[j]? = some v → w.cell? ((⟨g, 0, none⟩ : Addr).add j) = some v := fun j v hj => by
  rw [Addr.add_mid, Nat.zero_add, cell_of_row _ _ _ _ _ _ h, List.getElem?_toArray]; exact hj
theorem fold_dead (b : Tl) (p : Pt) : ∀ l : List Tl, l.foldl (stepR b) (p, false) = (p, false)
  | [] => rfl
  | t :: r => by rw [List.foldl_cons]; exact fold_dead b p r
theorem built39t (s : Int) : Try.prog.built 39 [(0, .int .u32 s)] = some #[.int .u32 s, .int .u32 0, .bool false, .slice none 0 0, .slice none 0 0] := by kernel_rfl
def From (w : World) (oa : Option Addr) (ts : List Tl) : Prop := ∀ (i : Nat) t, ts[i]? = some t → ∃ a, oa = some a ∧ ∀ j u, t.cs[j]? = some u → w.cell? ((a.add (i * 77)).add j) = some u
theorem From.drop {w : World} {a : Addr} {ts : List Tl} (h : From w (some a) ts) (k : Nat) : From w (some (a.add (k * 77))) (ts.drop k) := fun i t hi => by
  rw [List.getElem?_drop] at hi
  obtain ⟨a', e, hc⟩ := h _ t hi
  cases e
  refine ⟨_, rfl, fun j u hj => ?_⟩
  rw [Sn.add_add a (k * 77) (i * 77), show k * 77 + i * 77 = (k + i) * 77 by omega]
  exact hc j u hj
def OfD (w : World) (ts : List Tl) (e : Ending) (w' : World) : Prop := ∃ v qs, e = .returned v ∧ AllS w' w.heap.size v qs ∧ qs.map Hm.p = ofR ts ∧ qs.length ≤ ts.length ∧ Below w.heap.size w w'
set_option maxHeartbeats 16000000 in
theorem rof_any {w : World} {v : Value} {ts : List Tl} (hh : Tolds w v ts) (hn : ts.length ≤ 200) :
    Calls Try.prog 16 #[v] w fun e w' => OfD w ts e w' := by
  have hz39 := Pa.zero39
  obtain ⟨z60, hz0, hz60⟩ := zero60
  have HZ : Hid (z60.size = 77) := hz0
  clear hz0
  have HFO : Hid (∀ v qs w', AllS w' w.heap.size v qs → qs.map Hm.p = ofR ts → qs.length ≤ ts.length → Below w.heap.size w w' → OfD w ts (.returned v) w') := fun v qs w' h1 h2 h3 h4 => ⟨v, qs, rfl, h1, h2, h3, h4⟩
  generalize OfD w ts = PP at HFO ⊢
  obtain ⟨⟨⟨oa, cap, rfl, hcap, hnone, hel⟩, _⟩, hok⟩ := hh
  have HEL : Hid (From w oa ts) := hel
  have HOK : Hid (∀ t ∈ ts, t.Ok) := hok
  obtain ⟨n, HN⟩ : ∃ n, Hid (ts.length = n) := ⟨_, rfl⟩
  rw [HN.out] at hn hcap ⊢
  clear hel hok hnone
  obtain ⟨B, HB⟩ : ∃ B, Hid (w.heap.size = B) := ⟨_, rfl⟩
  have A0 : AllS w B (.slice none 0 0) [] := ⟨⟨rfl, Or.inl ⟨rfl, rfl⟩⟩, (fun h hm => by cases hm), (fun h hm => by cases hm)⟩
  have E0 : ([] : List Hm).map Hm.p ++ ofR (ts.drop 0) = ofR ts := by simp
  have b0 : Below w.heap.size w w := Below.refl _ _
  go_enter Try.func16, Try.ntmps16
  go_upto_region 3 with fail
  go_loopw [3, 12] (fun p q wr => ∃ (i : Nat) (al : List Hm), q = .int .i64 (i : Int) ∧ i ≤ n ∧ AllS wr B p al ∧ al.map Hm.p ++ ofR (ts.drop i) = ofR ts ∧ al.length ≤ i ∧ Below w.heap.size w wr) (fun _ q _ => 1001 - (intOf q).toNat)
  case atStart => exact ⟨0, [], rfl, Nat.zero_le _, A0, E0, Nat.le_refl _, b0⟩
  case round =>
    clear A0 E0 b0
    rename World => wr
    obtain ⟨i, al, rfl, hi, hA, hE, hal, hb⟩ := hrel
    have HA : Hid (AllS wr B u3 al) := hA
    have HE : Hid (al.map Hm.p ++ ofR (ts.drop i) = ofR ts) := hE
    have HAL : Hid (al.length ≤ i) := hal
    clear hA hE hal
    by_cases hin : i < n
    · have hin' : (i : Int) < (n : Int) := by omega
      have hi0 : (0 : Int) ≤ (i : Int) := by omega
      obtain ⟨b, hbi⟩ : ∃ b, ts[i]? = some b := ⟨_, List.getElem?_eq_getElem (by rw [HN.out]; exact hin)⟩
      obtain ⟨a, rfl, hcell⟩ := HEL.out i b hbi
      have hcw : ∀ q u, b.cs[q]? = some u → wr.cell? ((a.add (i * 77)).add q) = some u := fun q u hq => cell_keep (hcell q u hq) hb
      have HOB : Hid b.Ok := HOK.out b (List.mem_of_getElem? hbi)
      have HD : Hid (ts.drop i = b :: ts.drop (i + 1)) := by
        obtain ⟨q1, q2⟩ := List.getElem?_eq_some_iff.1 hbi
        show _ = _
        rw [List.drop_eq_getElem_cons q1, q2]
      have tl : Hid (1 = 1) := rfl
      have q1 : Row (wr.alloc (.cells z60 60)) wr.heap.size z60 60 := Row.new _ _ _
      obtain ⟨k1, k2⟩ := copied60 wr z60 b
      have HBW : Hid (Below w.heap.size w wr) := hb
      clear hb hbi hcell
      go_upto_region 5 with (first
        | (have hh := tl; clear hh tl; refine wpList_load_any rfl 60 (.tmp 15) rfl (a.add (i * 77)) rfl b.cs _ hcw Try.underlying60 rfl (by rw [size60, Tl.cs_len]) ?_)
        | (refine store_cells rfl 60 (.tmp 5) (.tmp 16) rfl wr.heap.size b.cs.toArray rfl rfl 60 _ q1 77 size60 HZ.out b.size (b.one HOB.out) ?_))
      clear q1 hcw
      generalize (wr.alloc (.cells z60 60)).setRow wr.heap.size b.cs.toArray = w5 at k1 k2 ⊢
      have HB5 : Hid (Below w.heap.size w w5) := below_trans HBW.out k2
      have HA5 : Hid (AllS w5 B u3 al) := HA.out.below k2
      have HS5 : Hid (B ≤ wr.heap.size) := by rw [← HB.out]; exact HBW.out.size
      generalize wr.heap.size = Y at k1 HS5 ⊢
      have HK5 : Hid (Row w5 Y b.cs.toArray 60) := k1
      have hc0 := counts_any b HOB.out w5
      obtain ⟨kb, HKB⟩ : ∃ kb, Hid (b.kind = kb) := ⟨_, rfl⟩
      have HK6 : Hid (∀ w6, Below w5.heap.size w5 w6 → Row w6 Y b.cs.toArray 60 ∧ AllS w6 B u3 al ∧ Below w.heap.size w w6) := fun w6 hb6 => ⟨k1.below hb6 k1.lt, HA5.out.below hb6, below_trans HB5.out hb6⟩
      have tl0 : Hid (1 = 1) := rfl
      clear k2 HA HBW
      have HNB : Hid (b.beg = false → al.map Hm.p ++ ofR (ts.drop (i + 1)) = ofR ts) := fun q => by
        have := HE.out
        rw [HD.out, ofR, q] at this
        exact this
      obtain ⟨cb, HCB⟩ : ∃ cb, Hid (b.cnt = cb) := ⟨_, rfl⟩
      rw [HCB.out] at hc0
      cases cb with
      | false =>
        have HE2 : Hid (al.map Hm.p ++ ofR (ts.drop (i + 1)) = ofR ts) := HNB.out (by simp [Tl.beg, HCB.out])
        go_wp2_with (first
          | (have hh := tl0; clear hh tl0; refine wpList_load_any rfl 60 (.tmp 5) rfl ⟨Y, 0, none⟩ rfl b.cs _ (row_tcells k1) Try.underlying60 rfl (by rw [size60, Tl.cs_len]) ?_)
          | (go_at_call 33; refine hc0.mono ?_; clear hc0; rintro e w6 ⟨he, hb6⟩; obtain rfl := he; obtain ⟨z1, z2, z3⟩ := HK6.out _ hb6))
        go_roundw
        case rel => exact ⟨i + 1, al, by go_num, by omega, z2, HE2.out, by have := HAL.out; omega, z3⟩
        case measure => simp [intOf]; omega
      | true =>
        by_cases hkb : kb = 0
        · have HBG : Hid (b.beg = true) := by show _ = _; simp [Tl.beg, HCB.out, HKB.out, hkb]
          subst hkb
          have hb39 := built39t b.rts
          go_upto_region 7 with (first
            | (have hh := tl0; clear hh tl0; refine wpList_load_any rfl 60 (.tmp 5) rfl ⟨Y, 0, none⟩ rfl b.cs _ (row_tcells k1) Try.underlying60 rfl (by rw [size60, Tl.cs_len]) ?_)
            | (go_at_call 33; refine hc0.mono ?_; clear hc0; rintro e w6 ⟨he, hb6⟩; obtain rfl := he; obtain ⟨z1, z2, z3⟩ := HK6.out _ hb6; have f1 : w6.cell? ⟨Y, 1, none⟩ = some (.int .u8 0) := row_at z1 1 _ (by rw [List.getElem?_toArray, ← HKB.out]; exact HOB.out.c1); have f12 : w6.cell? ⟨Y, 12, none⟩ = some (.int .u32 b.rts) := row_at z1 12 _ (by rw [List.getElem?_toArray]; exact HOB.out.c12))
            | (refine store_cells rfl 39 (.tmp 6) (.tmp 29) rfl w6.heap.size (Pa.O.arr ⟨b.rts, 0, false, ⟨none, 0, 0⟩, ⟨none, 0, 0⟩⟩) rfl rfl 39 _ (Row.new w6 _ _) 5 Pa.size39 rfl rfl (Pa.O.arr_one _) ?_))
          clear f1 f12 hb39
          obtain ⟨k1', k2'⟩ := copied w6 (⟨b.rts, 0, false, ⟨none, 0, 0⟩, ⟨none, 0, 0⟩⟩ : Pa.O)
          generalize (w6.alloc (.cells Pa.O.zero.arr 39)).setRow w6.heap.size (Pa.O.arr ⟨b.rts, 0, false, ⟨none, 0, 0⟩, ⟨none, 0, 0⟩⟩) = w7 at k1' k2' ⊢
          have HZ1 : Hid (Row w6 Y b.cs.toArray 60) := z1
          have HA6 : Hid (AllS w6 B u3 al) := z2
          have HB6 : Hid (Below w.heap.size w w6) := z3
          have HYT : Hid (Y < w6.heap.size ∧ B ≤ w6.heap.size) := ⟨z1.lt, by rw [← HB.out]; exact z3.size⟩
          obtain ⟨T, HT⟩ : ∃ T, Hid (w6.heap.size = T) := ⟨_, rfl⟩
          rw [HT.out] at k1' k2' HYT ⊢
          have HQ7 : Hid (QAt w7 T (startP b)) := ⟨⟨none, 0, 0⟩, ⟨none, 0, 0⟩, k1', ⟨⟨rfl, Or.inl ⟨rfl, rfl⟩⟩, ⟨rfl, Or.inl ⟨rfl, rfl⟩⟩⟩⟩
          have HB7 : Hid (Below T w6 w7) := k2'
          obtain ⟨F, HF⟩ : ∃ F, Hid (((ts.drop (i + 1)).foldl (stepR b) (startP b, true)).1 = F) := ⟨_, rfl⟩
          have HNE : Hid (al.map Hm.p ++ F :: ofR (ts.drop (i + 1)) = ofR ts) := by
            have := HE.out
            rw [HD.out, ofR, HBG.out, if_pos rfl, HF.out] at this
            exact this
          clear z1 z2 z3 k1' k2' k1 hb6 HNB HK6 HK5 HE HD
          have hwi : IntKind.i64.wrap ((i : Int) + 1) = ((i + 1 : Nat) : Int) := by rw [IntKind.wrap_i64]; omega
          have e1 : ((i + 1 : Nat) : Int) ≤ (n : Int) := by omega
          have e2 : (n : Int) ≤ (cap : Int) := by omega
          have e3 : (0 : Int) ≤ ((i + 1 : Nat) : Int) := by omega
          have e4 : (i + 1 : Nat) ≤ n := by omega
          obtain ⟨m, HM⟩ : ∃ m, Hid (n - (i + 1) = m) := ⟨_, rfl⟩
          have HFR : Hid (From w (some a) ts) := HEL.out
          try simp only [Act.put, nz0, nz1, nz2, nz3, nz4, nz5]
          go_cut [33, 34, 35] from 30 to 32 (fun s l z wx => ∃ (oa' : Option Addr) (cap' : Nat), s = .slice oa' m cap' ∧ l = .int .i64 (m : Int) ∧ z = .int .i64 0 ∧ Hid (wx = w7) ∧ From w oa' (ts.drop (i + 1)))
          case first =>
            repeat (rename ∀ (a : Act) (w : World), Code.wp Try.prog _ _ a w → _ => h0; clear h0)
            by_cases hc1 : cap = i + 1
            · have HF1 : Hid (From w (some a) (ts.drop (i + 1))) := fun k t hk => by
                rw [List.drop_of_length_le (by rw [HN.out]; omega)] at hk; simp at hk
              have hm0 : m = 0 := by have := HM.out; omega
              have hni : n = i + 1 := by omega
              subst hc1 hm0 hni
              go_wp2_with fail
              go_meet
              case rel => exact ⟨_, _, rfl, rfl, rfl, by first | exact rfl | exact trivial, HF1.out⟩
            · have HF1 : Hid (From w (some (a.add ((i + 1) * 77))) (ts.drop (i + 1))) := HFR.out.drop (i + 1)
              have hmn : ((n - (i + 1) : Nat) : Int) = (m : Int) := by rw [HM.out]
              go_wp2_with fail
              go_meet
              case rel => exact ⟨_, _, by rw [HM.out], by first | rfl | exact congrArg _ hmn, rfl, by first | exact rfl | exact trivial, HF1.out⟩
          case rest =>
            obtain ⟨oa', cap', rfl, rfl, rfl, hww, hfr⟩ := hcut
            obtain rfl := hww.out
            have HFR' : Hid (From w oa' (ts.drop (i + 1))) := hfr
            have HML : Hid ((ts.drop (i + 1)).length = m) := by show _ = _; rw [List.length_drop, HN.out, HM.out]
            have hm9 : m ≤ 200 := by have := HM.out; omega
            clear hww hfr hwi e1 e2 e3
            go_upto_block 2 with fail
            go_cut [] from 35 to 123 (fun wx => QAt wx T F ∧ PFit F 200 ∧ Below T w6 wx)
            case first =>
              repeat (rename ∀ (a : Act) (w : World), Code.wp Try.prog _ _ a w → _ => h0; clear h0)
              go_wp2_with fail
              go_loopw [35] (fun q wz => ∃ (j : Nat) (P : Pt), q = .int .i64 (j : Int) ∧ j ≤ m ∧ QAt wz T P ∧ PFit P j ∧ (((ts.drop (i + 1)).drop j).foldl (stepR b) (P, true)).1 = F ∧ Below T w6 wz) (fun q _ => 1001 - (intOf q).toNat)
              case atStart => exact ⟨0, startP b, rfl, Nat.zero_le _, HQ7.out, PFit.start HOB.out, HF.out, HB7.out⟩
              case round =>
                clear HQ7 HB7 HF
                rename World => wz
                obtain ⟨j, P, rfl, hj, hQ, hPF, hFL, hb⟩ := hrel
                have HPF : Hid (PFit P j) := hPF
                have HFL : Hid ((((ts.drop (i + 1)).drop j).foldl (stepR b) (P, true)).1 = F) := hFL
                have HQ : Hid (QAt wz T P) := hQ
                clear hPF hFL hQ
                by_cases hjn : j < m
                · have hjn' : (j : Int) < (m : Int) := by omega
                  have hj0 : (0 : Int) ≤ (j : Int) := by omega
                  obtain ⟨t, hti⟩ : ∃ t, (ts.drop (i + 1))[j]? = some t := ⟨_, List.getElem?_eq_getElem (by rw [HML.out]; exact hjn)⟩
                  obtain ⟨a2, rfl, hcell⟩ := HFR'.out j t hti
                  have hb' : Below w6.heap.size w6 wz := by rw [HT.out]; exact hb
                  have hcw : ∀ q u, t.cs[q]? = some u → wz.cell? ((a2.add (j * 77)).add q) = some u := fun q u hq => cell_keep (cell_keep (hcell q u hq) HB6.out) hb'
                  have HOT : Hid t.Ok := HOK.out t (List.mem_of_mem_drop (List.mem_of_getElem? hti))
                  have HDJ : Hid ((ts.drop (i + 1)).drop j = t :: (ts.drop (i + 1)).drop (j + 1)) := by
                    obtain ⟨q1, q2⟩ := List.getElem?_eq_some_iff.1 hti
                    show _ = _
                    rw [List.drop_eq_getElem_cons q1, q2]
                  have tl : Hid (1 = 1) := rfl
                  have q1 : Row (wz.alloc (.cells z60 60)) wz.heap.size z60 60 := Row.new _ _ _
                  obtain ⟨k1, k2⟩ := copied60 wz z60 t
                  have HBZ : Hid (Below T w6 wz) := hb
                  clear hb hb' hti hcell
                  go_upto_region 10 with (first
                    | (have hh := tl; clear hh tl; refine wpList_load_any rfl 60 (.tmp 37) rfl (a2.add (j * 77)) rfl t.cs _ hcw Try.underlying60 rfl (by rw [size60, Tl.cs_len]) ?_)
                    | (refine store_cells rfl 60 (.tmp 8) (.tmp 38) rfl wz.heap.size t.cs.toArray rfl rfl 60 _ q1 77 size60 HZ.out t.size (t.one HOT.out) ?_))
                  clear q1 hcw
                  generalize (wz.alloc (.cells z60 60)).setRow wz.heap.size t.cs.toArray = w8 at k1 k2 ⊢
                  have HB8 : Hid (Below T w6 w8) := by
                    have := HBZ.out; rw [← HT.out] at this
                    have := below_trans this k2
                    rw [HT.out] at this; exact this
                  have HQ8 : Hid (QAt w8 T P) := HQ.out.below k2
                  generalize wz.heap.size = X at k1 ⊢
                  have HX8 : Hid (Row w8 X t.cs.toArray 60) := k1
                  have HK9 : Hid (∀ w9, Below w8.heap.size w8 w9 → Row w9 X t.cs.toArray 60 ∧ Row w9 Y b.cs.toArray 60 ∧ QAt w9 T P ∧ Below T w6 w9) := fun w9 hb9 => by
                    have h1 := HB8.out
                    rw [← HT.out] at h1
                    have h2 := below_trans h1 hb9
                    have h3 := HZ1.out.below h2 HZ1.out.lt
                    rw [HT.out] at h2
                    exact ⟨HX8.out.below hb9 HX8.out.lt, h3, HQ8.out.below hb9, h2⟩
                  clear k1 k2 HQ HBZ HQ8
                  have hct := counts_any t HOT.out w8
                  obtain ⟨kt, HKT⟩ : ∃ kt, Hid (t.kind = kt) := ⟨_, rfl⟩
                  obtain ⟨xt, HXT⟩ : ∃ kt, Hid (t.txn = kt) := ⟨_, rfl⟩
                  obtain ⟨pt, HPT⟩ : ∃ kt, Hid (t.page = kt) := ⟨_, rfl⟩
                  obtain ⟨lt, HLT⟩ : ∃ kt, Hid (t.life = kt) := ⟨_, rfl⟩
                  obtain ⟨rt, HRT⟩ : ∃ kt, Hid (t.rtxn = kt) := ⟨_, rfl⟩
                  obtain ⟨st, HST⟩ : ∃ kt, Hid (t.rts = kt) := ⟨_, rfl⟩
                  obtain ⟨lb, HLB⟩ : ∃ kt, Hid (b.life = kt) := ⟨_, rfl⟩
                  obtain ⟨rb, HRB⟩ : ∃ kt, Hid (b.rtxn = kt) := ⟨_, rfl⟩
                  obtain ⟨ct, HCT⟩ : ∃ ct, Hid (t.cnt = ct) := ⟨_, rfl⟩
                  rw [HCT.out] at hct
                  have tl1 : Hid (1 = 1) := rfl
                  cases ct with
                  | false =>
                    have HSK : Hid (stepR b (P, true) t = (P, true)) := by show _ = _; simp [stepR, HCT.out]
                    go_wp2_with (first | (have hh := tl1; clear hh tl1; refine wpList_load_any rfl 60 (.tmp 8) rfl ⟨X, 0, none⟩ rfl t.cs _ (row_tcells HX8.out) Try.underlying60 rfl (by rw [size60, Tl.cs_len]) ?_) | (go_at_call 33; refine hct.mono ?_; clear hct; rintro e w9 ⟨he, hb9⟩; obtain rfl := he; obtain ⟨g1, g2, g3, g4⟩ := HK9.out w9 hb9))
                    go_roundw
                    case rel => exact ⟨j + 1, P, by go_num, by omega, g3, HPF.out.mono (Nat.le_succ j), by have := HFL.out; rw [HDJ.out, List.foldl_cons, HSK.out] at this; exact this, g4⟩
                    case measure => simp [intOf]; omega
                  | true =>
                    by_cases hl : lt = lb
                    · subst hl
                      have hl2 : t.life = b.life := by rw [HLT.out, HLB.out]
                      have HLL : Hid (t.life = b.life) := hl2
                      clear hl2
                      by_cases hk : kt = 0
                      · subst hk
                        by_cases hr : rt = rb
                        · subst hr
                          have HDEAD : Hid (stepR b (P, true) t = (P, false)) := by show _ = _; simp [stepR, HCT.out, HLL.out, HKT.out, HRT.out, HRB.out]
                          have HFP : Hid (P = F) := by
                            have := HFL.out
                            rw [HDJ.out, List.foldl_cons, HDEAD.out, fold_dead] at this
                            exact this
                          go_wp2_with (first | (have hh := tl1; clear hh tl1; refine wpList_load_any rfl 60 (.tmp 8) rfl ⟨X, 0, none⟩ rfl t.cs _ (row_tcells HX8.out) Try.underlying60 rfl (by rw [size60, Tl.cs_len]) ?_) | (go_at_call 33; refine hct.mono ?_; clear hct; rintro e w9 ⟨he, hb9⟩; obtain rfl := he; obtain ⟨g1, g2, g3, g4⟩ := HK9.out w9 hb9; have d1 : w9.cell? ⟨X, 1, none⟩ = some (.int .u8 0) := row_at g1 1 _ (by rw [List.getElem?_toArray, ← HKT.out]; exact HOT.out.c1); have d6 : w9.cell? ⟨X, 6, none⟩ = some (.int .i64 lt) := row_at g1 6 _ (by rw [List.getElem?_toArray, ← HLT.out]; exact HOT.out.c6); have d11 : w9.cell? ⟨X, 11, none⟩ = some (.int .u64 rt) := row_at g1 11 _ (by rw [List.getElem?_toArray, ← HRT.out]; exact HOT.out.c11); have e6 : w9.cell? ⟨Y, 6, none⟩ = some (.int .i64 lt) := row_at g2 6 _ (by rw [List.getElem?_toArray, ← HLB.out]; exact HOB.out.c6); have e11 : w9.cell? ⟨Y, 11, none⟩ = some (.int .u64 rt) := row_at g2 11 _ (by rw [List.getElem?_toArray, ← HRB.out]; exact HOB.out.c11)))
                          go_meet
                          case rel => exact ⟨by rw [← HFP.out]; exact g3, by rw [← HFP.out]; exact HPF.out.mono (by omega), g4⟩
                        · have hbr : (rt == rb) = false := by simp [hr]
                          have HSK : Hid (stepR b (P, true) t = (P, true)) := by show _ = _; simp [stepR, HCT.out, HLL.out, HKT.out, HRT.out, HRB.out, hr]
                          go_wp2_with (first | (have hh := tl1; clear hh tl1; refine wpList_load_any rfl 60 (.tmp 8) rfl ⟨X, 0, none⟩ rfl t.cs _ (row_tcells HX8.out) Try.underlying60 rfl (by rw [size60, Tl.cs_len]) ?_) | (go_at_call 33; refine hct.mono ?_; clear hct; rintro e w9 ⟨he, hb9⟩; obtain rfl := he; obtain ⟨g1, g2, g3, g4⟩ := HK9.out w9 hb9; have d1 : w9.cell? ⟨X, 1, none⟩ = some (.int .u8 0) := row_at g1 1 _ (by rw [List.getElem?_toArray, ← HKT.out]; exact HOT.out.c1); have d6 : w9.cell? ⟨X, 6, none⟩ = some (.int .i64 lt) := row_at g1 6 _ (by rw [List.getElem?_toArray, ← HLT.out]; exact HOT.out.c6); have d11 : w9.cell? ⟨X, 11, none⟩ = some (.int .u64 rt) := row_at g1 11 _ (by rw [List.getElem?_toArray, ← HRT.out]; exact HOT.out.c11); have e6 : w9.cell? ⟨Y, 6, none⟩ = some (.int .i64 lt) := row_at g2 6 _ (by rw [List.getElem?_toArray, ← HLB.out]; exact HOB.out.c6); have e11 : w9.cell? ⟨Y, 11, none⟩ = some (.int .u64 rb) := row_at g2 11 _ (by rw [List.getElem?_toArray, ← HRB.out]; exact HOB.out.c11)))
                          go_roundw
                          case rel => exact ⟨j + 1, P, by go_num, by omega, g3, HPF.out.mono (Nat.le_succ j), by have := HFL.out; rw [HDJ.out, List.foldl_cons, HSK.out] at this; exact this, g4⟩
                          case measure => simp [intOf]; omega
                      · have hk0 : (kt == 0) = false := by simp [hk]
                        by_cases hx : xt = rb
                        · subst hx
                          have HSN : Hid (stepR b (P, true) t = (noteP P t, true)) := by show _ = _; simp [stepR, HCT.out, HLL.out, HKT.out, HXT.out, HRB.out, hk]
                          go_upto_region 13 with (first | (have hh := tl1; clear hh tl1; refine wpList_load_any rfl 60 (.tmp 8) rfl ⟨X, 0, none⟩ rfl t.cs _ (row_tcells HX8.out) Try.underlying60 rfl (by rw [size60, Tl.cs_len]) ?_) | (go_at_call 33; refine hct.mono ?_; clear hct; rintro e w9 ⟨he, hb9⟩; obtain rfl := he; obtain ⟨g1, g2, g3, g4⟩ := HK9.out w9 hb9; have d1 : w9.cell? ⟨X, 1, none⟩ = some (.int .u8 kt) := row_at g1 1 _ (by rw [List.getElem?_toArray, ← HKT.out]; exact HOT.out.c1); have d2 : w9.cell? ⟨X, 2, none⟩ = some (.int .u64 xt) := row_at g1 2 _ (by rw [List.getElem?_toArray, ← HXT.out]; exact HOT.out.c2); have d3 : w9.cell? ⟨X, 3, none⟩ = some (.int .u16 pt) := row_at g1 3 _ (by rw [List.getElem?_toArray, ← HPT.out]; exact HOT.out.c3); have d6 : w9.cell? ⟨X, 6, none⟩ = some (.int .i64 lt) := row_at g1 6 _ (by rw [List.getElem?_toArray, ← HLT.out]; exact HOT.out.c6); have e6 : w9.cell? ⟨Y, 6, none⟩ = some (.int .i64 lt) := row_at g2 6 _ (by rw [List.getElem?_toArray, ← HLB.out]; exact HOB.out.c6); have e11 : w9.cell? ⟨Y, 11, none⟩ = some (.int .u64 xt) := row_at g2 11 _ (by rw [List.getElem?_toArray, ← HRB.out]; exact HOB.out.c11)))
                          clear d1 d2 d6 e6 e11
                          obtain ⟨⟨ra, rn, rc⟩, ⟨sa, sn, sc⟩, row, own⟩ := g3
                          have c4 : w9.cell? ⟨T, 4, none⟩ = some (.slice sa sn sc) := row_at row 4 _ rfl
                          have hh := has_any (s := ⟨sa, sn, sc⟩) own.ws.olds (Nat.le_trans HPF.out.wl (by omega)) pt
                          have HK10 : Hid (∀ w10, Below w9.heap.size w9 w10 → Row w10 X t.cs.toArray 60 ∧ Row w10 T (Pa.O.arr ⟨P.st, P.co, P.dn, ⟨ra, rn, rc⟩, ⟨sa, sn, sc⟩⟩) 39 ∧ Own1 w10 T ⟨P, ⟨ra, rn, rc⟩, ⟨sa, sn, sc⟩⟩ ∧ Below T w6 w10) := fun w10 hb10 => by
                            have h1 := g4
                            rw [← HT.out] at h1
                            have h2 := below_trans h1 hb10
                            rw [HT.out] at h2
                            exact ⟨g1.below hb10 g1.lt, row.below hb10 row.lt, own.keep hb10, h2⟩
                          obtain ⟨bm, HBM⟩ : ∃ bm, Hid (bm = true ↔ pt ∈ P.ws) := by
                            by_cases q : pt ∈ P.ws
                            · exact ⟨true, ⟨fun _ => q, fun _ => rfl⟩⟩
                            · exact ⟨false, ⟨(fun q' => by cases q'), fun q' => absurd q' q⟩⟩
                          have hh2 : Calls Try.prog 34 #[.slice sa sn sc, .int .u16 pt] w9 fun e w' => e = .returned (.bool bm) ∧ Below w9.heap.size w9 w' := by
                            cases bm with
                            | true => exact Says.calls_yes hh (HBM.out.1 rfl)
                            | false => exact Says.calls_no hh (fun q => by have := HBM.out.2 q; cases this)
                          clear hh HK9 hb9
                          go_upto_region 14 with (go_at_call 34; refine hh2.mono ?_; clear hh2; rintro e w10 ⟨he, hb10⟩; obtain rfl := he; obtain ⟨x10, row10, own10, hb10'⟩ := HK10.out _ hb10)
                          clear c4 d3
                          have d1 : w10.cell? ⟨X, 1, none⟩ = some (.int .u8 kt) := row_at x10 1 _ (by rw [List.getElem?_toArray, ← HKT.out]; exact HOT.out.c1)
                          have d3 : w10.cell? ⟨X, 3, none⟩ = some (.int .u16 pt) := row_at x10 3 _ (by rw [List.getElem?_toArray, ← HPT.out]; exact HOT.out.c3)
                          have d12 : w10.cell? ⟨X, 12, none⟩ = some (.int .u32 st) := row_at x10 12 _ (by rw [List.getElem?_toArray, ← HST.out]; exact HOT.out.c12)
                          have HQ10 : Hid (QAt w10 T P) := ⟨_, _, row10, own10⟩
                          have HB10 : Hid (Below T w6 w10) := hb10'
                          have HX10 : Hid (Row w10 X t.cs.toArray 60) := x10
                          have HSZ : Hid (T ≤ w6.heap.size) := Nat.le_of_eq HT.out.symm
                          clear hb10 hb10' x10 g1 g2 g4 HK10
                          by_cases h1 : kt = 1
                          · subst h1
                            cases bm with
                            | true =>
                              have hmine : pt ∈ P.ws := HBM.out.1 rfl
                              have HM2 : Hid (pt ∈ P.ws) := hmine
                              clear hmine HBM
                              have HN1 : Hid (noteP P t = P) := by show _ = _; simp [noteP, HKT.out, HPT.out, HM2.out]
                              have HQE : Hid (QAt w10 T (noteP P t)) := by show QAt _ _ _; rw [HN1.out]; exact HQ10.out
                              clear row10 own10 row own
                              go_wp2
                              go_roundw
                              case rel => exact ⟨j + 1, noteP P t, by go_num, by omega, HQE.out, HPF.out.note HOT.out, by have := HFL.out; rw [HDJ.out, List.foldl_cons, HSN.out] at this; exact this, HB10.out⟩
                              case measure => simp [intOf]; omega
                            | false =>
                              have HM2 : Hid (¬ pt ∈ P.ws) := fun q => by have := HBM.out.2 q; cases this
                              clear HBM
                              have c3 : w10.cell? ⟨T, 3, none⟩ = some (.slice ra rn rc) := row_at row10 3 _ rfl
                              have hb46 := built46p pt st
                              have b11 : Below w10.heap.size w10 (w10.alloc (.cells #[.int .u16 pt, .int .u32 st] 46)) := (Below.refl _ _).alloc (Nat.le_refl _) _
                              have HB11 : Hid (Below T w6 (w10.alloc (.cells #[.int .u16 pt, .int .u32 st] 46))) := by
                                have h1 := HB10.out
                                rw [← HT.out] at h1
                                have h2 := below_trans h1 b11
                                rw [HT.out] at h2; exact h2
                              have HAP : Hid (∀ ty, ∃ v' w', (Builtin.append_ #[36, 36] ty #[.slice ra rn rc, .slice (some ⟨w10.heap.size, 0, none⟩) 1 1]).run Try.prog (w10.alloc (.cells #[.int .u16 pt, .int .u32 st] 46)) = .ok v' w' ∧ ∃ a n c, v' = .slice a n c ∧ Row w' T (Pa.O.arr ⟨P.st, P.co, P.dn, ⟨ra, rn, rc⟩, ⟨sa, sn, sc⟩⟩) 39 ∧ Off (fun k => (Value.slice ra rn rc).ownBlock = some k) (w10.alloc (.cells #[.int .u16 pt, .int .u32 st] 46)) w' ∧ (∀ k, (Value.slice ra rn rc).ownBlock = some k → T ≤ k) ∧ QAt (w'.setCell ⟨T, 3, none⟩ (.slice a n c)) T { P with rs := P.rs ++ [(pt, st)] }) := fun ty => q_read (r := ⟨ra, rn, rc⟩) (s := ⟨sa, sn, sc⟩) (row10.below b11 row10.lt) (own10.keep b11) pt st (Row.new w10 _ _) (Nat.le_trans HPF.out.rl (by omega)) ty
                              have HN1 : Hid (noteP P t = { P with rs := P.rs ++ [(pt, st)] }) := by show _ = _; simp [noteP, HKT.out, HPT.out, HST.out, HM2.out]
                              clear b11 row10 own10 row own
                              go_wp2_with (first
                                | (refine wpList_seen rfl (.tmp 96) rfl pt st rfl ?_)
                                | (refine Sn.wpList_copy rfl (.tmp 89) (.tmp 97) 36 rfl (.slice ra rn rc) (.slice (some ⟨w10.heap.size, 0, none⟩) 1 1) rfl rfl HAP.out ?_
                                   clear HAP c3
                                   rintro _ w12 ⟨a5, n5, c5, rfl, row12, Ou, hge, hQ12⟩
                                   have fz : w12.frozen? ⟨T, 3, none⟩ = false := row_frozen row12 3
                                   have c3 : w12.cell? ⟨T, 3, none⟩ = some (.slice ra rn rc) := row_at row12 3 _ rfl
                                   have HQE : Hid (QAt (w12.setCell ⟨T, 3, none⟩ (.slice a5 n5 c5)) T (noteP P t)) := by show QAt _ _ _; rw [HN1.out]; exact hQ12
                                   have HBE : Hid (Below T w6 (w12.setCell ⟨T, 3, none⟩ (.slice a5 n5 c5))) := (below_offN HB11.out Ou hge HSZ.out).setCell (p := ⟨T, 3, none⟩) (Nat.le_refl _) _
                                   clear row12 Ou hge hQ12))
                              go_roundw
                              case rel => exact ⟨j + 1, noteP P t, by go_num, by omega, HQE.out, HPF.out.note HOT.out, by have := HFL.out; rw [HDJ.out, List.foldl_cons, HSN.out] at this; exact this, HBE.out⟩
                              case measure => simp [intOf]; omega
                          · have k1' : (kt == 1) = false := by simp [h1]
                            by_cases h2 : kt = 2
                            · subst h2
                              cases bm with
                              | true =>
                                have hmine : pt ∈ P.ws := HBM.out.1 rfl
                                have HM2 : Hid (pt ∈ P.ws) := hmine
                                clear hmine HBM
                                have HN1 : Hid (noteP P t = P) := by show _ = _; simp [noteP, HKT.out, HPT.out, HM2.out]
                                have HQE : Hid (QAt w10 T (noteP P t)) := by show QAt _ _ _; rw [HN1.out]; exact HQ10.out
                                clear row10 own10 row own
                                go_wp2
                                go_roundw
                                case rel => exact ⟨j + 1, noteP P t, by go_num, by omega, HQE.out, HPF.out.note HOT.out, by have := HFL.out; rw [HDJ.out, List.foldl_cons, HSN.out] at this; exact this, HB10.out⟩
                                case measure => simp [intOf]; omega
                              | false =>
                                have HM2 : Hid (¬ pt ∈ P.ws) := fun q => by have := HBM.out.2 q; cases this
                                clear HBM
                                have c4 : w10.cell? ⟨T, 4, none⟩ = some (.slice sa sn sc) := row_at row10 4 _ rfl
                                have b11 : Below w10.heap.size w10 (w10.alloc (.cells #[.int .u16 pt] 44)) := (Below.refl _ _).alloc (Nat.le_refl _) _
                                have HB11 : Hid (Below T w6 (w10.alloc (.cells #[.int .u16 pt] 44))) := by
                                  have h1 := HB10.out
                                  rw [← HT.out] at h1
                                  have h2 := below_trans h1 b11
                                  rw [HT.out] at h2; exact h2
                                have HAP : Hid (∀ ty, ∃ v' w', (Builtin.append_ #[37, 37] ty #[.slice sa sn sc, .slice (some ⟨w10.heap.size, 0, none⟩) 1 1]).run Try.prog (w10.alloc (.cells #[.int .u16 pt] 44)) = .ok v' w' ∧ ∃ a n c, v' = .slice a n c ∧ Row w' T (Pa.O.arr ⟨P.st, P.co, P.dn, ⟨ra, rn, rc⟩, ⟨sa, sn, sc⟩⟩) 39 ∧ Off (fun k => (Value.slice sa sn sc).ownBlock = some k) (w10.alloc (.cells #[.int .u16 pt] 44)) w' ∧ (∀ k, (Value.slice sa sn sc).ownBlock = some k → T ≤ k) ∧ QAt (w'.setCell ⟨T, 4, none⟩ (.slice a n c)) T { P with ws := P.ws ++ [pt] }) := fun ty => q_write (r := ⟨ra, rn, rc⟩) (s := ⟨sa, sn, sc⟩) (row10.below b11 row10.lt) (own10.keep b11) pt (Row.new w10 _ _) (Nat.le_trans HPF.out.wl (by omega)) ty
                                have HN1 : Hid (noteP P t = { P with ws := P.ws ++ [pt] }) := by show _ = _; simp [noteP, HKT.out, HPT.out, HST.out, HM2.out]
                                clear b11 row10 own10 row own
                                go_wp2_with (first
                                  | (refine Pg.wpList_copy rfl (.tmp 105) (.tmp 109) 37 rfl (.slice sa sn sc) (.slice (some ⟨w10.heap.size, 0, none⟩) 1 1) rfl rfl HAP.out ?_
                                     clear HAP c4
                                     rintro _ w12 ⟨a5, n5, c5, rfl, row12, Ou, hge, hQ12⟩
                                     have fz : w12.frozen? ⟨T, 4, none⟩ = false := row_frozen row12 4
                                     have c4 : w12.cell? ⟨T, 4, none⟩ = some (.slice sa sn sc) := row_at row12 4 _ rfl
                                     have HQE : Hid (QAt (w12.setCell ⟨T, 4, none⟩ (.slice a5 n5 c5)) T (noteP P t)) := by show QAt _ _ _; rw [HN1.out]; exact hQ12
                                     have HBE : Hid (Below T w6 (w12.setCell ⟨T, 4, none⟩ (.slice a5 n5 c5))) := (below_offN HB11.out Ou hge HSZ.out).setCell (p := ⟨T, 4, none⟩) (Nat.le_refl _) _
                                     clear row12 Ou hge hQ12))
                                go_roundw
                                case rel => exact ⟨j + 1, noteP P t, by go_num, by omega, HQE.out, HPF.out.note HOT.out, by have := HFL.out; rw [HDJ.out, List.foldl_cons, HSN.out] at this; exact this, HBE.out⟩
                                case measure => simp [intOf]; omega
                            · have k2' : (kt == 2) = false := by simp [h2]
                              by_cases h3 : kt = 3
                              · subst h3
                                have hsn : sn = P.ws.length := (own_page own10.ws).1
                                have HSN2 : Hid (sn = P.ws.length) := hsn
                                have fz2 : w10.frozen? ⟨T, 2, none⟩ = false := row_frozen row10 2
                                have c2 : w10.cell? ⟨T, 2, none⟩ = some (.bool P.dn) := row_at row10 2 _ rfl
                                obtain ⟨row11, own11⟩ := q_set (p' := { P with dn := true }) row10 own10 2 (.bool true) rfl rfl rfl
                                have hb11 : Below T w6 (w10.setCell ⟨T, 2, none⟩ (.bool true)) := HB10.out.setCell (p := ⟨T, 2, none⟩) (Nat.le_refl _) _
                                have HR11 : Hid (Row (w10.setCell ⟨T, 2, none⟩ (.bool true)) T (Pa.O.arr ⟨P.st, P.co, true, ⟨ra, rn, rc⟩, ⟨sa, sn, sc⟩⟩) 39) := row11
                                have HO11 : Hid (Own1 (w10.setCell ⟨T, 2, none⟩ (.bool true)) T ⟨{ P with dn := true }, ⟨ra, rn, rc⟩, ⟨sa, sn, sc⟩⟩) := own11
                                have HB11 : Hid (Below T w6 (w10.setCell ⟨T, 2, none⟩ (.bool true))) := hb11
                                have HX11 : Hid (X ≠ T → Row (w10.setCell ⟨T, 2, none⟩ (.bool true)) X t.cs.toArray 60) := fun hne => HX10.out.off (F := (· = T)) (Off.of_setCell _ _ _ rfl) hne
                                have HXT2 : Hid (X ≠ T) := fun e => by
                                  have h1 := HX10.out
                                  have h2 := row10
                                  unfold Row at h1 h2
                                  rw [e, h2] at h1
                                  injection h1 with h1
                                  injection h1 with _ h3 _
                                  exact absurd h3 (by decide)
                                clear row10 own10 row own hb11 row11 own11 HBM hsn
                                go_upto_region 23 with fail
                                clear c2 fz2 d1 d3 d12
                                generalize w10.setCell ⟨T, 2, none⟩ (.bool true) = w11 at HR11 HO11 HB11 HX11 ⊢
                                have c4 : w11.cell? ⟨T, 4, none⟩ = some (.slice sa sn sc) := row_at HR11.out 4 _ rfl
                                have c1 : w11.cell? ⟨T, 1, none⟩ = some (.int .u32 P.co) := row_at HR11.out 1 _ rfl
                                have fz1 : w11.frozen? ⟨T, 1, none⟩ = false := row_frozen HR11.out 1
                                have d12 : w11.cell? ⟨X, 12, none⟩ = some (.int .u32 st) := row_at (HX11.out HXT2.out) 12 _ (by rw [List.getElem?_toArray, ← HST.out]; exact HOT.out.c12)
                                by_cases hs0 : sn = 0
                                · subst hs0
                                  have HW0 : Hid (P.ws = []) := List.eq_nil_of_length_eq_zero HSN2.out.symm
                                  have HN1 : Hid (noteP P t = { P with dn := true }) := by show _ = _; simp [noteP, HKT.out, HW0.out]
                                  have HQE : Hid (QAt w11 T (noteP P t)) := by show QAt _ _ _; rw [HN1.out]; exact ⟨_, _, HR11.out, HO11.out⟩
                                  go_wp2
                                  go_roundw
                                  case rel => exact ⟨j + 1, noteP P t, by go_num, by omega, HQE.out, HPF.out.note HOT.out, by have := HFL.out; rw [HDJ.out, List.foldl_cons, HSN.out] at this; exact this, HB11.out⟩
                                  case measure => simp [intOf]; omega
                                · have hsp : (0 : Int) < (sn : Int) := by omega
                                  have HW0 : Hid (P.ws ≠ []) := fun e => by have := HSN2.out; rw [e] at this; simp at this; exact hs0 this
                                  have HN1 : Hid (noteP P t = { P with dn := true, co := st }) := by show _ = _; simp [noteP, HKT.out, HW0.out, HST.out]
                                  obtain ⟨row12, own12⟩ := q_set (p := { P with dn := true }) (p' := { P with dn := true, co := st }) HR11.out HO11.out 1 (.int .u32 st) rfl rfl rfl
                                  have HQE : Hid (QAt (w11.setCell ⟨T, 1, none⟩ (.int .u32 st)) T (noteP P t)) := by show QAt _ _ _; rw [HN1.out]; exact ⟨_, _, row12, own12⟩
                                  have HBE : Hid (Below T w6 (w11.setCell ⟨T, 1, none⟩ (.int .u32 st))) := HB11.out.setCell (p := ⟨T, 1, none⟩) (Nat.le_refl _) _
                                  clear row12 own12
                                  go_wp2
                                  go_roundw
                                  case rel => exact ⟨j + 1, noteP P t, by go_num, by omega, HQE.out, HPF.out.note HOT.out, by have := HFL.out; rw [HDJ.out, List.foldl_cons, HSN.out] at this; exact this, HBE.out⟩
                                  case measure => simp [intOf]; omega
                              · have k3' : (kt == 3) = false := by simp [h3]
                                have HN1 : Hid (noteP P t = P) := by show _ = _; simp [noteP, HKT.out, HPT.out, h1, h2, h3]
                                have HQE : Hid (QAt w10 T (noteP P t)) := by show QAt _ _ _; rw [HN1.out]; exact HQ10.out
                                clear row10 own10 row own
                                clear HBM
                                go_wp2
                                go_roundw
                                case rel => exact ⟨j + 1, noteP P t, by go_num, by omega, HQE.out, HPF.out.note HOT.out, by have := HFL.out; rw [HDJ.out, List.foldl_cons, HSN.out] at this; exact this, HB10.out⟩
                                case measure => simp [intOf]; omega
                        · have hbx : (xt != rb) = true := by simp [hx]
                          have HSK : Hid (stepR b (P, true) t = (P, true)) := by show _ = _; simp [stepR, HCT.out, HLL.out, HKT.out, HXT.out, HRB.out, hk, hx]
                          go_wp2_with (first | (have hh := tl1; clear hh tl1; refine wpList_load_any rfl 60 (.tmp 8) rfl ⟨X, 0, none⟩ rfl t.cs _ (row_tcells HX8.out) Try.underlying60 rfl (by rw [size60, Tl.cs_len]) ?_) | (go_at_call 33; refine hct.mono ?_; clear hct; rintro e w9 ⟨he, hb9⟩; obtain rfl := he; obtain ⟨g1, g2, g3, g4⟩ := HK9.out w9 hb9; have d1 : w9.cell? ⟨X, 1, none⟩ = some (.int .u8 kt) := row_at g1 1 _ (by rw [List.getElem?_toArray, ← HKT.out]; exact HOT.out.c1); have d2 : w9.cell? ⟨X, 2, none⟩ = some (.int .u64 xt) := row_at g1 2 _ (by rw [List.getElem?_toArray, ← HXT.out]; exact HOT.out.c2); have d6 : w9.cell? ⟨X, 6, none⟩ = some (.int .i64 lt) := row_at g1 6 _ (by rw [List.getElem?_toArray, ← HLT.out]; exact HOT.out.c6); have e6 : w9.cell? ⟨Y, 6, none⟩ = some (.int .i64 lt) := row_at g2 6 _ (by rw [List.getElem?_toArray, ← HLB.out]; exact HOB.out.c6); have e11 : w9.cell? ⟨Y, 11, none⟩ = some (.int .u64 rb) := row_at g2 11 _ (by rw [List.getElem?_toArray, ← HRB.out]; exact HOB.out.c11)))
                          go_roundw
                          case rel => exact ⟨j + 1, P, by go_num, by omega, g3, HPF.out.mono (Nat.le_succ j), by have := HFL.out; rw [HDJ.out, List.foldl_cons, HSK.out] at this; exact this, g4⟩
                          case measure => simp [intOf]; omega
                    · have hbl : (lt != lb) = true := by simp [hl]
                      have HSK : Hid (stepR b (P, true) t = (P, true)) := by show _ = _; simp [stepR, HCT.out, HLT.out, HLB.out, hl]
                      go_wp2_with (first | (have hh := tl1; clear hh tl1; refine wpList_load_any rfl 60 (.tmp 8) rfl ⟨X, 0, none⟩ rfl t.cs _ (row_tcells HX8.out) Try.underlying60 rfl (by rw [size60, Tl.cs_len]) ?_) | (go_at_call 33; refine hct.mono ?_; clear hct; rintro e w9 ⟨he, hb9⟩; obtain rfl := he; obtain ⟨g1, g2, g3, g4⟩ := HK9.out w9 hb9; have d6 : w9.cell? ⟨X, 6, none⟩ = some (.int .i64 lt) := row_at g1 6 _ (by rw [List.getElem?_toArray, ← HLT.out]; exact HOT.out.c6); have e6 : w9.cell? ⟨Y, 6, none⟩ = some (.int .i64 lb) := row_at g2 6 _ (by rw [List.getElem?_toArray, ← HLB.out]; exact HOB.out.c6)))
                      go_roundw
                      case rel => exact ⟨j + 1, P, by go_num, by omega, g3, HPF.out.mono (Nat.le_succ j), by have := HFL.out; rw [HDJ.out, List.foldl_cons, HSK.out] at this; exact this, g4⟩
                      case measure => simp [intOf]; omega
                · have hjn' : ¬ (j : Int) < (m : Int) := by omega
                  have HFP : Hid (P = F) := by
                    have := HFL.out
                    rw [List.drop_of_length_le (by rw [HML.out]; omega)] at this
                    exact this
                  have HB2 : Hid (Below T w6 wz) := hb
                  clear hb
                  go_wp2_with fail
                  go_meet
                  case rel => exact ⟨by rw [← HFP.out]; exact HQ.out, by rw [← HFP.out]; exact HPF.out.mono (by omega), HB2.out⟩
            case rest =>
              clear HQ7 HB7 HF
              rename World => wz
              obtain ⟨hQ, hPF, hb⟩ := hcut
              have HFIT : Hid F.Fit := hPF.fit (by omega)
              obtain ⟨⟨ra, rn, rc⟩, ⟨sa, sn, sc⟩, row, own⟩ := hQ
              rw [← HT.out] at hb
              have hAz : AllS wz B u3 al := HA6.out.below hb
              have hBz : Below w.heap.size w wz := below_trans HB6.out hb
              have hcT := Pa.O.row_cells row
              obtain ⟨O, HO⟩ : ∃ O : Pa.O, Hid ((⟨F.st, F.co, F.dn, ⟨ra, rn, rc⟩, ⟨sa, sn, sc⟩⟩ : Pa.O) = O) := ⟨_, rfl⟩
              have own' : Own1 wz T ⟨F, ⟨ra, rn, rc⟩, ⟨sa, sn, sc⟩⟩ := own
              rw [HO.out] at hcT row
              have rZ : Row (wz.alloc (.cells O.arr 39)) wz.heap.size O.arr 39 := Row.new _ _ _
              have b12 : Below wz.heap.size wz (wz.alloc (.cells O.arr 39)) := (Below.refl _ _).alloc (Nat.le_refl _) _
              have HA12 : Hid (AllS (wz.alloc (.cells O.arr 39)) B u3 al) := hAz.below b12
              have HB12 : Hid (Below w.heap.size w (wz.alloc (.cells O.arr 39))) := below_trans hBz b12
              have HO12 : Hid (Own1 (wz.alloc (.cells O.arr 39)) B ⟨F, ⟨ra, rn, rc⟩, ⟨sa, sn, sc⟩⟩) := (own'.keep b12).base HYT.out.2
              have HZo : Hid ((⟨F, ⟨ra, rn, rc⟩, ⟨sa, sn, sc⟩⟩ : Hm).o = O) := HO.out
              have HAP : Hid (∀ ty, ∃ v'' w'', (Builtin.append_ #[22, 22] ty #[u3, .slice (some ⟨wz.heap.size, 0, none⟩) 1 1]).run Try.prog (wz.alloc (.cells O.arr 39)) = .ok v'' w'' ∧ AllS w'' B v'' (al ++ [⟨F, ⟨ra, rn, rc⟩, ⟨sa, sn, sc⟩⟩]) ∧ Off (fun g => u3.ownBlock = some g) (wz.alloc (.cells O.arr 39)) w'') := fun ty => by
                obtain ⟨v'', w'', h1, h2, h3, _⟩ := HA12.out.snoc HO12.out HFIT.out (by have := HAL.out; omega) (by rw [← HB.out]; exact HB12.out.size) ty _ (by rw [HZo.out]; exact rZ)
                exact ⟨v'', w'', h1, h2, h3⟩
              clear rZ b12 row own own' hAz hBz hb hPF
              go_wp2_with (first
                | (refine wpList_load_any rfl 39 (.tmp 6) rfl ⟨T, 0, none⟩ rfl O.cells _ hcT Try.underlying39 rfl Pa.size39 ?_; clear hcT)
                | (refine wpList_one rfl (.tmp 125) rfl O rfl ?_)
                | (refine Pa.wpList_copy rfl (.tmp 124) (.tmp 126) 22 rfl u3 (.slice (some ⟨wz.heap.size, 0, none⟩) 1 1) rfl rfl HAP.out ?_
                   clear HAP
                   generalize wz.alloc (.cells O.arr 39) = w12 at HA12 HO12 HB12
                   rintro v13 w13 ⟨hn13, Ou⟩
                   have HA13 : Hid (AllS w13 B v13 (al ++ [⟨F, ⟨ra, rn, rc⟩, ⟨sa, sn, sc⟩⟩])) := hn13
                   have HB13 : Hid (Below w.heap.size w w13) := below_off HB12.out Ou (fun g hg => by rw [HB.out]; exact (World.ownsRow.lt HA12.out.own g hg).1)
                   clear hn13 Ou HA12 HO12 HB12))
              go_roundw
              case rel => exact ⟨i + 1, _, by go_num, by omega, HA13.out, by rw [List.map_append]; simpa using HNE.out, by simp; exact HAL.out, HB13.out⟩
              case measure => simp [intOf]; omega
        · have HE2 : Hid (al.map Hm.p ++ ofR (ts.drop (i + 1)) = ofR ts) := HNB.out (by simp [Tl.beg, HKB.out, hkb])
          have hbk : (kb != 0) = true := by simp [hkb]
          go_wp2_with (first
            | (have hh := tl0; clear hh tl0; refine wpList_load_any rfl 60 (.tmp 5) rfl ⟨Y, 0, none⟩ rfl b.cs _ (row_tcells k1) Try.underlying60 rfl (by rw [size60, Tl.cs_len]) ?_)
            | (go_at_call 33; refine hc0.mono ?_; clear hc0; rintro e w6 ⟨he, hb6⟩; obtain rfl := he; obtain ⟨z1, z2, z3⟩ := HK6.out _ hb6; have f1 : w6.cell? ⟨Y, 1, none⟩ = some (.int .u8 kb) := row_at z1 1 _ (by rw [List.getElem?_toArray, ← HKB.out]; exact HOB.out.c1)))
          go_roundw
          case rel => exact ⟨i + 1, al, by go_num, by omega, z2, HE2.out, by have := HAL.out; omega, z3⟩
          case measure => simp [intOf]; omega
    · have hin' : ¬ (i : Int) < (n : Int) := by omega
      have HE2 : Hid (al.map Hm.p = ofR ts) := by
        show al.map Hm.p = ofR ts
        have := HE.out
        rw [List.drop_of_length_le (by rw [HN.out]; omega)] at this
        simpa [ofR] using this
      have hfin := HFO.out u3 al wr (by rw [HB.out]; exact HA.out) HE2.out (by have := HAL.out; rw [HN.out]; omega) hb
      clear hb
      go_wp2
      exact hfin
end Go.Proofs.Ytdlllnkcjfpajaa
