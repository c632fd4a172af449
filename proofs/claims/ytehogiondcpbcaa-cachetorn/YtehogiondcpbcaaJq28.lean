/-
  Proved here: the document's Size, May and PutUndo (varveref06).
-/
import Derived.Test.YtehogiondcpbcaaJq27
namespace Go.Proofs.Ytehogiondcpbcaa
open Go.ChangeShapes Go.WideShapes Go.ChangeAt Go.RowKit
set_option linter.unusedVariables false
set_option linter.unusedSimpArgs false
set_option maxRecDepth 20000
theorem rsize_any (lsn : Int) (v : Value) (os : List O) (w : World) (ho : Olds w v os) (hf : ∀ o ∈ os, o.Fits) (hn : os.length ≤ 1000) (hd : ∀ o ∈ os, o.delta.size ≤ 140737488355328) :
    Calls Try.prog 101 #[.agg #[.int .u64 lsn, v]] w fun e w' => e = .returned (.int .i64 (psize os)) ∧ Below w.heap.size w w' := by
  have HTX : Hid _ := fun (wa : World) (hb : Below w.heap.size w wa) => text_any lsn v os wa (ho.keep hb) hf hn hd
  obtain ⟨oa, cap, rfl, _⟩ := ho.hold
  have hle := oldsT_len os 140737488355328 hd os.length
  rw [List.take_length] at hle
  have hle2 : (oldsT os).length ≤ 1000 * (11 + 140737488355328) := Nat.le_trans hle (Nat.mul_le_mul_right _ hn)
  have hps := psize_is os
  have hul : (undoT os).length = 1 + (oldsT os).length := by unfold undoT; simp [low_length]
  obtain ⟨T, HT⟩ : ∃ T, Hid (strOfNums ([(os.length : Int) % 256] ++ oldsT os) = T) := ⟨_, rfl⟩
  have hzT : Hid (T.size = 1 + (oldsT os).length) := by show _ = _; rw [← HT.out, strOfNums_size, List.length_append]; rfl
  have hT2 : (T.size : Int) ≤ 200000000000000000 := by rw [hzT.out]; omega
  have HPS : Hid (psize os = 15 + (T.size : Int)) := by show _ = _; rw [hzT.out, hps, hul]
  rw [HT.out] at HTX
  clear hle hle2 hul hps hzT
  have e1 : IntKind.i64.wrap (15 + (T.size : Int)) = 15 + (T.size : Int) := by rw [IntKind.wrap_i64]; omega
  obtain ⟨n, HN⟩ : ∃ n, Hid (os.length = n) := ⟨_, rfl⟩
  rw [HN.out] at HTX hn ⊢
  have r0 : Row (w.alloc (.cells #[.int .u64 lsn, .slice oa n cap] 103)) w.heap.size #[.int .u64 lsn, .slice oa n cap] 103 := Row.new _ _ _
  have ab : Below w.heap.size w (w.alloc (.cells #[.int .u64 lsn, .slice oa n cap] 103)) := (Below.refl _ _).alloc (Nat.le_refl _) _
  go_enter Try.func101, Try.ntmps101
  go_wp2_with (first
    | (refine load_cells rfl 103 (.tmp 1) rfl w.heap.size rfl 103 #[.int .u64 lsn, .slice oa n cap] r0 2 Try.underlying103 rfl size103 rfl ?_)
    | (go_at_call 86; refine (HTX.out _ ab).mono ?_; clear HTX; rintro e w2 ⟨rfl, b2⟩))
  go_ret
  exact ⟨ret_int HPS.out.symm, ab.trans (b2.mono ab.size)⟩
set_option maxHeartbeats 4000000 in
theorem rmay_any (lsn : Int) (v : Value) (os : List O) (w : World) (ho : Olds w v os) (hf : ∀ o ∈ os, o.Fits) :
    Calls Try.prog 84 #[.agg #[.int .u64 lsn, v]] w fun e w' => e = .returned (.bool (may os)) ∧ Below w.heap.size w w' := by
  have HSZ : Hid _ := fun (wa : World) (hb : Below w.heap.size w wa) => rsize_any lsn v os wa (ho.keep hb) hf
  obtain ⟨oa, cap, rfl, hcs⟩ := ho.hold
  have HCS : Hid _ := hcs
  clear hcs ho hf
  obtain ⟨n, HN⟩ : ∃ n, Hid (os.length = n) := ⟨_, rfl⟩
  rw [HN.out] at HCS HSZ ⊢
  have hz := zero130
  have r0 : Row (w.alloc (.cells #[.int .u64 lsn, .slice oa n cap] 103)) w.heap.size #[.int .u64 lsn, .slice oa n cap] 103 := Row.new _ _ _
  have ab : Below w.heap.size w (w.alloc (.cells #[.int .u64 lsn, .slice oa n cap] 103)) := (Below.refl _ _).alloc (Nat.le_refl _) _
  have c0 := row_at r0 1 _ rfl
  by_cases h15 : n ≤ 15
  · have h15' : ¬ (n : Int) > 15 := by omega
    have HL0 : Hid (0 = n → lastLive os = true) := fun h => by
      have : os = [] := List.eq_nil_of_length_eq_zero (by rw [HN.out, ← h])
      rw [this]; rfl
    go_enter Try.func84, Try.ntmps84
    go_upto_region 1 with fail
    generalize w.alloc (.cells #[.int .u64 lsn, .slice oa n cap] 103) = w1 at r0 ab c0 ⊢
    go_wp2
    go_loopw [4] (fun d wr => ∃ (k : Nat), d = .int .i64 k ∧ k ≤ n ∧ Hid ((os.take k).all okO = true) ∧ Hid (k = n → lastLive os = true) ∧ Below w.heap.size w wr ∧ Row wr w.heap.size #[.int .u64 lsn, .slice oa n cap] 103) (fun d _ => n - (intOf d).toNat)
    case atStart => exact ⟨0, rfl, by omega, rfl, HL0.out, ab, r0⟩
    case round =>
      clear ab r0 c0 HL0
      obtain ⟨k, rfl, hk, HO, HLL, rb, r0⟩ := hrel
      by_cases hkn : k < n
      · have hkn' : (k : Int) < (n : Int) := by omega
        obtain ⟨a, l, p, t, np, ns, dl, rfl, he, hcell⟩ := HCS.out k hkn
        have hcw : ∀ j u, [Value.bool l, .int .u16 p, .int .u32 t, .int .u16 np, .int .u8 ns, .string dl][j]? = some u → wr.cell? ((a.add (k * 6)).add j) = some u := fun j u hj => cell_keep (hcell j u hj) rb
        have heq : ∀ w, (Op.equalIn 10000 130 (.agg #[.bool l, .int .u16 p, .int .u32 t, .int .u16 np, .int .u8 ns, .string dl]) (.agg #[.bool false, .int .u16 0, .int .u32 0, .int .u16 0, .int .u8 0, .string ByteArray.empty])).run Try.prog w = .ok (decide ((⟨l, p, t, np, ns, dl⟩ : O) = O.zero)) w := fun w => equal130 ⟨l, p, t, np, ns, dl⟩ O.zero w
        have tl : Hid (1 = 1) := rfl
        have HE := show Hid _ from he
        have cw := row_at r0 1 _ rfl
        clear he hcell
        have q1 : Row (wr.alloc (.cells #[.bool false, .int .u16 0, .int .u32 0, .int .u16 0, .int .u8 0, .string ByteArray.empty] 130)) wr.heap.size #[.bool false, .int .u16 0, .int .u32 0, .int .u16 0, .int .u8 0, .string ByteArray.empty] 130 := Row.new _ _ _
        go_upto_region 8 with (first
          | (have hh := tl; clear hh tl; refine wpList_load_any rfl 130 (.tmp 19) rfl (a.add (k * 6)) rfl [.bool l, .int .u16 p, .int .u32 t, .int .u16 np, .int .u8 ns, .string dl] _ hcw Try.underlying130 rfl size130 ?_)
          | (refine store_cells rfl 130 (.tmp 5) (.tmp 20) rfl wr.heap.size #[.bool l, .int .u16 p, .int .u32 t, .int .u16 np, .int .u8 ns, .string dl] rfl rfl 130 _ q1 6 size130 rfl rfl (by simp [Value.oneCell']) ?_))
        have q2 := q1.set #[.bool l, .int .u16 p, .int .u32 t, .int .u16 np, .int .u8 ns, .string dl]
        have hlt := r0.lt
        have d0 := (r0.alloc (.cells #[.bool false, .int .u16 0, .int .u32 0, .int .u16 0, .int .u8 0, .string ByteArray.empty] 130)).other (g := wr.heap.size) (by omega) #[.bool l, .int .u16 p, .int .u32 t, .int .u16 np, .int .u8 ns, .string dl]
        have db := below_setRow (rb.alloc rb.size (.cells #[.bool false, .int .u16 0, .int .u32 0, .int .u16 0, .int .u8 0, .string ByteArray.empty] 130)) rb.size #[.bool l, .int .u16 p, .int .u32 t, .int .u16 np, .int .u8 ns, .string dl]
        clear r0 rb q1 hcw cw
        generalize (wr.alloc (.cells #[.bool false, .int .u16 0, .int .u32 0, .int .u16 0, .int .u8 0, .string ByteArray.empty] 130)).setRow wr.heap.size #[.bool l, .int .u16 p, .int .u32 t, .int .u16 np, .int .u8 ns, .string dl] = w5 at q2 d0 db ⊢
        generalize wr.heap.size = go at q2 hlt ⊢
        have c0 := row_at q2 0 _ rfl
        have c5 := row_at q2 5 _ rfl
        have ew : IntKind.i64.wrap ((n : Int) - 1) = (n : Int) - 1 := by rw [IntKind.wrap_i64]; omega
        cases l
        · by_cases hk1 : k + 1 = n
          · have HM : Hid (may os = false) := by
              show _ = _
              unfold may
              rw [lastLive_succ (m := k) (by rw [HN.out, hk1]) HE.out]; simp
            subst hk1
            clear h15' hkn'
            have hm2 : IntKind.i64.wrap ((k : Int) + 1 - 1) = k := by rw [IntKind.wrap_i64]; omega
            clear ew
            go_wp2
            go_ret
            exact ⟨ret_bool HM.out.symm, db⟩
          · have hk2 : ¬ (k : Int) = (n : Int) - 1 := by omega
            have hk3 : ((k : Int) == (n : Int) - 1) = false := by simp [hk2]
            by_cases hzo : (⟨false, p, t, np, ns, dl⟩ : O) = O.zero
            · have hok : okO (⟨false, p, t, np, ns, dl⟩ : O) = true := by rw [hzo]; exact okO_zero
              have HA := show Hid _ from all_succ HE.out HO.out hok
              have HL1 : Hid (k + 1 = n → lastLive os = true) := fun h => absurd h hk1
              rw [decide_eq_true hzo] at heq
              have hdl : (dl.size : Int) = 0 := by
                have : dl = ByteArray.empty := congrArg O.delta hzo
                rw [this]; rfl
              clear hzo hok hk1
              go_wp2_with (first
                | (refine load_cells_g rfl 130 (.tmp 5) rfl go rfl 130 #[.bool false, .int .u16 p, .int .u32 t, .int .u16 np, .int .u8 ns, .string dl] q2 6 Try.underlying130 rfl size130 rfl ?_)
                | (refine build_none_g rfl 130 rfl _ built130 ?_))
              go_roundw
              case rel => exact ⟨k + 1, by go_num, by omega, HA.out, HL1.out, db, d0⟩
              case measure => simp [intOf]; omega
            · have hok : okO (⟨false, p, t, np, ns, dl⟩ : O) = false := by unfold okO; rw [decide_eq_false hzo]; rfl
              have HM := show Hid _ from may_at HE.out hok
              rw [decide_eq_false hzo] at heq
              clear hzo hok hk1
              go_wp2_with (first
                | (refine load_cells_g rfl 130 (.tmp 5) rfl go rfl 130 #[.bool false, .int .u16 p, .int .u32 t, .int .u16 np, .int .u8 ns, .string dl] q2 6 Try.underlying130 rfl size130 rfl ?_)
                | (refine build_none_g rfl 130 rfl _ built130 ?_))
              go_ret
              exact ⟨ret_bool HM.out.symm, db⟩
        · have HL1 : Hid (k + 1 = n → lastLive os = true) := fun h => lastLive_succ (m := k) (by rw [HN.out, h]) HE.out
          by_cases hd : dl.size ≤ 66
          · have hok : okO (⟨true, p, t, np, ns, dl⟩ : O) = true := by unfold okO; simp [hd]
            have HA := show Hid _ from all_succ HE.out HO.out hok
            have hdl : ¬ (dl.size : Int) > 66 := by omega
            clear hok heq
            go_wp2
            go_roundw
            case rel => exact ⟨k + 1, by go_num, by omega, HA.out, HL1.out, db, d0⟩
            case measure => simp [intOf]; omega
          · have hok : okO (⟨true, p, t, np, ns, dl⟩ : O) = false := by unfold okO; simp; omega
            have HM := show Hid _ from may_at HE.out hok
            have hdl : (dl.size : Int) > 66 := by omega
            clear hok heq
            go_wp2
            go_ret
            exact ⟨ret_bool HM.out.symm, db⟩
      · obtain rfl : k = n := by omega
        have hkn' : ¬ (k : Int) < (k : Int) := by omega
        have ht : os.take k = os := by rw [← HN.out, List.take_length]
        have hall : os.all okO = true := by have := HO.out; rwa [ht] at this
        have hms : may os = decide (psize os ≤ 224) := by unfold may; rw [HN.out, HLL.out rfl, hall, decide_eq_true h15]; simp
        have hsz := HSZ.out wr rb (by omega) (fun o ho => by
          have := List.all_eq_true.1 hall o ho
          unfold okO at this
          simp at this
          omega)
        go_wp2_with (first
          | (refine load_cells rfl 103 (.tmp 1) rfl w.heap.size rfl 103 #[.int .u64 lsn, .slice oa k cap] r0 2 Try.underlying103 rfl size103 rfl ?_)
          | (go_at_call 101; refine hsz.mono ?_; rintro e w2 ⟨rfl, b2⟩))
        go_ret
        exact ⟨ret_bool hms.symm, rb.trans (b2.mono rb.size)⟩
  · have hm : may os = false := by unfold may; rw [HN.out, decide_eq_false h15]; simp
    have h15' : (n : Int) > 15 := by omega
    rw [hm]
    go_enter Try.func84, Try.ntmps84
    go_wp2
    go_ret
    exact ⟨rfl, ab⟩
set_option maxHeartbeats 2000000 in
theorem rputUndo_any (no lsn : Int) (v : Value) (os : List O) (w : World) (ho : Olds w v os) (hf : ∀ o ∈ os, o.Fits) (hno : 0 ≤ no ∧ no ≤ 65535) (hlsn : 0 ≤ lsn ∧ lsn ≤ 18446744073709551615) :
    Calls Try.prog 54 #[.int .u16 no, .agg #[.int .u64 lsn, v]] w fun e w' => e = .returned (.tuple #[.agg (bs (putU no lsn os)), .bool (may os)]) ∧ Below w.heap.size w w' := by
  have hz := zero34
  have HMAY : Hid _ := fun (wa : World) (hb : Below w.heap.size w wa) => rmay_any lsn v os wa (ho.keep hb) hf
  have HTX : Hid _ := fun (wa : World) (hb : Below w.heap.size w wa) => text_any lsn v os wa (ho.keep hb) hf
  obtain ⟨oa, cap, rfl, _⟩ := ho.hold
  clear ho hf
  obtain ⟨n, HN⟩ : ∃ n, Hid (os.length = n) := ⟨_, rfl⟩
  rw [HN.out] at HMAY HTX ⊢
  have r0 : Row ((w.alloc (.cells #[.int .u64 lsn, .slice oa n cap] 103)).alloc (.cells (bs (zs 224)) 34)) w.heap.size #[.int .u64 lsn, .slice oa n cap] 103 := (Row.new _ _ _).alloc _
  have r1 : Row ((w.alloc (.cells #[.int .u64 lsn, .slice oa n cap] 103)).alloc (.cells (bs (zs 224)) 34)) (w.heap.size + 1) (bs (zs 224)) 34 := by have := Row.new (w.alloc (.cells #[.int .u64 lsn, .slice oa n cap] 103)) (bs (zs 224)) 34; simpa using this
  have ab : Below w.heap.size w ((w.alloc (.cells #[.int .u64 lsn, .slice oa n cap] 103)).alloc (.cells (bs (zs 224)) 34)) := ((Below.refl _ _).alloc (Nat.le_refl _) _).alloc (by simp) _
  go_enter Try.func54, Try.ntmps54
  go_upto_region 1 with fail
  generalize (w.alloc (.cells #[.int .u64 lsn, .slice oa n cap] 103)).alloc (.cells (bs (zs 224)) 34) = w1 at r0 r1 ab ⊢
  cases hm : may os
  · have HU : Hid (putU no lsn os = zs 224) := by show _ = _; unfold putU; rw [hm]; rfl
    rw [hm] at HMAY
    have HMY : Hid (may os = false) := hm
    clear hm
    go_wp2_with (first
      | (refine load_cells rfl 103 (.tmp 3) rfl w.heap.size rfl 103 #[.int .u64 lsn, .slice oa n cap] r0 2 Try.underlying103 rfl size103 rfl ?_)
      | (go_at_call 84; refine (HMAY.out _ ab).mono ?_; clear HMAY; rintro e w2 ⟨rfl, h2⟩)
      | (refine build_none rfl 34 rfl _ built34 ?_)
      | (refine store_row rfl 34 (.tmp 4) (.tmp 9) rfl (w.heap.size + 1) (zs 224) rfl rfl 34 _ (r1.below h2 r1.lt) 224 size34 (by rw [bs_size, zs_length]) (zs_length _) ?_))
    refine bodyPost_ret (v := .tuple #[.agg (bs (zs 224)), .bool false]) ?_ rfl ⟨by rw [HU.out, HMY.out], below_setRow (ab.trans (h2.mono ab.size)) (by omega) _⟩
    exact ret_cell2 (fn := Try.f54) rfl _ _ (w.heap.size + 1) 34 (bs (zs 224)) _ _ rfl rfl ((r1.below h2 r1.lt).set _) Try.underlying34 rfl (by rw [bs_size, zs_length]; exact size34)
  · have HU : Hid (putU no lsn os = payT 2 no lsn (undoT os)) := by show _ = _; unfold putU; rw [hm]; rfl
    have hms := may_small hm
    have hn15 : n ≤ 15 := by rw [← HN.out]; exact hms.1
    have HOK : ∀ o ∈ os, o.delta.size ≤ 140737488355328 := by
      intro o ho; have := hms.2.2.1 o ho; unfold okO at this; simp at this; omega
    have hul := undoT_le os hm
    have HTX2 : Hid _ := fun wa hb => HTX.out wa hb (by omega) HOK
    have e1 : [(n : Int) % 256] ++ oldsT os = undoT os := by unfold undoT; rw [HN.out]; simp [low]
    rw [e1] at HTX2
    have HPAY : Hid _ := fun w => laid_any 2 no lsn (undoT os) w (by decide) hno hlsn hul (undoT_bytes os)
    have hRl := payT_length 2 no lsn (undoT os) hul
    obtain ⟨R, HR⟩ : ∃ R, Hid (payT 2 no lsn (undoT os) = R) := ⟨_, rfl⟩
    rw [HR.out] at HPAY hRl HU
    generalize undoT os = T at HPAY HTX2
    have hRb : (bs R).size = 224 := by rw [bs_size, hRl]
    rw [hm] at HMAY
    have HMY : Hid (may os = true) := hm
    clear hms HOK hul e1 HTX hm
    go_upto_region 3 with (first
      | (refine load_cells rfl 103 (.tmp 3) rfl w.heap.size rfl 103 #[.int .u64 lsn, .slice oa n cap] r0 2 Try.underlying103 rfl size103 rfl ?_)
      | (go_at_call 84; refine (HMAY.out _ ab).mono ?_; clear HMAY; rintro e w2 ⟨rfl, h2⟩))
    have r0 := r0.below h2 r0.lt
    have r1 := r1.below h2 r1.lt
    have ab := ab.trans (h2.mono ab.size)
    clear h2
    refine wp_region_held_drew (S := fun w' => Row w' w.heap.size #[.int .u64 lsn, .slice oa n cap] 103 ∧ Below w.heap.size w w') (by kernel_rfl) ⟨r0, ab.drew⟩ fun hS => ?_
    have r1 : Row w2.drew (w.heap.size + 1) (bs (zs 224)) 34 := r1
    clear r0 ab
    generalize w2.drew = wd at hS r1 ⊢
    refine tkH (i := 0) (v := .int .u16 no) rfl (by kernel_rfl) (fun _ _ _ h => h) (Or.inl ⟨by rfl, fun w _ => by go_simp⟩) hS ?_
    try simp only [Act.put, nz0, nz1, nz2, nz3, nz4, nz5]
    refine tkH (i := 1) (v := .pointer (some ⟨w.heap.size, 0, none⟩)) rfl (by kernel_rfl) (fun _ _ _ h => h) (Or.inl ⟨by rfl, fun w _ => by go_simp⟩) hS ?_
    try simp only [Act.put, nz0, nz1, nz2, nz3, nz4, nz5]
    refine tkH (i := 2) (v := .int .u64 lsn) rfl (by kernel_rfl) (fun _ _ _ h => h) (Or.inl ⟨by rfl, fun w h => by have c := row_at h.1 0 _ rfl; go_simp⟩) hS ?_
    try simp only [Act.put, nz0, nz1, nz2, nz3, nz4, nz5]
    refine tkH (i := 3) (v := .agg #[.int .u64 lsn, .slice oa n cap]) rfl (by kernel_rfl) (fun _ _ _ h => h) (yields_cells (by rfl) 103 (.tmp 3) rfl w.heap.size rfl 103 #[.int .u64 lsn, .slice oa n cap] (fun w h => h.1) 2 Try.underlying103 rfl size103 rfl) hS ?_
    try simp only [Act.put, nz0, nz1, nz2, nz3, nz4, nz5]
    refine wpAnyH_ready (rs := [4]) (by kernel_rfl) (by simp) ?_
    refine AllReadyH.cons rfl (fun K hK => ?_) AllReadyH.nil
    go_simp
    go_at_call 86
    refine Calls.mono (HTX2.out _ hS.2) ?_
    rintro e w1_4 ⟨rfl, hcb⟩
    have r1 := r1.below hcb r1.lt
    refine hK.out _ _ (⟨hS.1.below hcb hS.1.lt, hS.2.trans (hcb.mono hS.2.size)⟩) fun hS => ?_
    try simp only [Act.put, nz0, nz1, nz2, nz3, nz4, nz5]
    clear hcb
    refine wpAnyH_ready (rs := [5]) (by kernel_rfl) (by simp) ?_
    refine AllReadyH.cons rfl (fun K hK => ?_) AllReadyH.nil
    go_simp
    go_at_call 85
    refine Calls.mono (HPAY.out _) ?_
    rintro e w2_5 ⟨rfl, hcb⟩
    have r1 := r1.below hcb r1.lt
    refine hK.out _ _ (⟨hS.1.below hcb hS.1.lt, hS.2.trans (hcb.mono hS.2.size)⟩) fun hS => ?_
    try simp only [Act.put, nz0, nz1, nz2, nz3, nz4, nz5]
    clear hcb
    refine wpAnyH_ready (rs := [6]) (by kernel_rfl) (by simp) ?_
    refine AllReadyH.cons rfl (fun K hK => ?_) AllReadyH.nil
    refine step_cells rfl 34 (.tmp 4) (.tmp 15) rfl (w.heap.size + 1) (bs R) rfl rfl 34 _ r1 224 size34 (by rw [bs_size, zs_length]) hRb (bs_one _) (hK.out _ _ ⟨hS.1.other (by omega) _, below_setRow hS.2 (by omega) _⟩ fun hS => ?_)
    try simp only [Act.put, nz0, nz1, nz2, nz3, nz4, nz5]
    have r1 := r1.set (bs R)
    generalize w2_5.setRow (w.heap.size + 1) (bs R) = w3_6 at r1 hS ⊢
    refine tkH (i := 7) (v := .bool true) rfl (by kernel_rfl) (fun _ _ _ h => h) (Or.inl ⟨by rfl, fun w _ => by go_simp⟩) hS ?_
    try simp only [Act.put, nz0, nz1, nz2, nz3, nz4, nz5]
    refine wpAnyH_done (by kernel_rfl) ?_ _
    go_wp2
    refine bodyPost_ret (v := .tuple #[.agg (bs R), .bool true]) ?_ rfl ⟨by rw [HU.out, HMY.out], hS.2⟩
    exact ret_cell2 (fn := Try.f54) rfl _ _ (w.heap.size + 1) 34 (bs R) _ _ rfl rfl r1 Try.underlying34 rfl (by rw [hRb]; exact size34)
end Go.Proofs.Ytehogiondcpbcaa
