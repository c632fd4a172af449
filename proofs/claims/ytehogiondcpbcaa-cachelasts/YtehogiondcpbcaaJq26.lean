/-
  Proved here: the document's Size, May and PutUndo (varveref06). Proved here: the document's GetUndo (varveref06). Proved here: page.Blank and page.Right of undo pages, the document's Blank and Right (varveref06); a blank page is that page's and no other one's. Proved here: cache.opened: a page as its block tells it.
-/
import Derived.Test.YtehogiondcpbcaaJq25
import Derived.Test.YtehogiondcpbcaaJq24
import Derived.SizedLaws
import Derived.Deep.Grids
import Derived.Deep.Slices
import Derived.Lib.SmallJoins
import Derived.Carry
import Derived.Test.YtehogiondcpbcaaJq16
import Derived.Test.YtehogiondcpbcaaJq09
import Derived.Test.YtehogiondcpbcaaJq06
import Derived.Test.YtehogiondcpbcaaJq19
namespace Go.Proofs.Ytehogiondcpbcaa
open Go.ChangeShapes Go.WideShapes Go.ChangeAt Go.RowKit
set_option linter.unusedVariables false
set_option linter.unusedSimpArgs false
set_option maxRecDepth 20000
theorem rsize_any (lsn : Int) (v : Value) (os : List O) (w : World) (ho : Olds w v os) (hf : ∀ o ∈ os, o.Fits) (hn : os.length ≤ 1000) (hd : ∀ o ∈ os, o.delta.size ≤ 140737488355328) :
    Calls Try.prog 101 #[.agg #[.int .u64 lsn, v]] w fun e w' => e = .returned (.int .i64 (psize os)) ∧ Below w.heap.size w w' := by
  have HTX : Hid _ := fun (wa : World) (hb : Below w.heap.size w wa) => text_any lsn v os wa (ho.keep hb) hf hn hd
  obtain ⟨oa, cap, rfl, _⟩ := ho.hold
  have hle := oldsT_len os 140737488355328 hd os.length
  rw [List.take_length] at hle
  have hle2 : (oldsT os).length ≤ 1000 * (11 + 140737488355328) := Nat.le_trans hle (Nat.mul_le_mul_right _ hn)
  have hps := psize_is os
  have hul : (undoT os).length = 1 + (oldsT os).length := by unfold undoT; simp [low_length]
  obtain ⟨T, HT⟩ : ∃ T, Hid (strOfNums ([(os.length : Int) % 256] ++ oldsT os) = T) := ⟨_, rfl⟩
  have hzT : Hid (T.size = 1 + (oldsT os).length) := by show _ = _; rw [← HT.out, strOfNums_size, List.length_append]; rfl
  have hT2 : (T.size : Int) ≤ 200000000000000000 := by rw [hzT.out]; omega
  have HPS : Hid (psize os = 15 + (T.size : Int)) := by show _ = _; rw [hzT.out, hps, hul]
  rw [HT.out] at HTX
  clear hle hle2 hul hps hzT
  have e1 : IntKind.i64.wrap (15 + (T.size : Int)) = 15 + (T.size : Int) := by rw [IntKind.wrap_i64]; omega
  obtain ⟨n, HN⟩ : ∃ n, Hid (os.length = n) := ⟨_, rfl⟩
  rw [HN.out] at HTX hn ⊢
  have r0 : Row (w.alloc (.cells #[.int .u64 lsn, .slice oa n cap] 103)) w.heap.size #[.int .u64 lsn, .slice oa n cap] 103 := Row.new _ _ _
  have ab : Below w.heap.size w (w.alloc (.cells #[.int .u64 lsn, .slice oa n cap] 103)) := (Below.refl _ _).alloc (Nat.le_refl _) _
  go_enter Try.func101, Try.ntmps101
  go_wp2_with (first
    | (refine load_cells rfl 103 (.tmp 1) rfl w.heap.size rfl 103 #[.int .u64 lsn, .slice oa n cap] r0 2 Try.underlying103 rfl size103 rfl ?_)
    | (go_at_call 86; refine (HTX.out _ ab).mono ?_; clear HTX; rintro e w2 ⟨rfl, b2⟩))
  go_ret
  exact ⟨ret_int HPS.out.symm, ab.trans (b2.mono ab.size)⟩
set_option maxHeartbeats 4000000 in
theorem rmay_any (lsn : Int) (v : Value) (os : List O) (w : World) (ho : Olds w v os) (hf : ∀ o ∈ os, o.Fits) :
    Calls Try.prog 84 #[.agg #[.int .u64 lsn, v]] w fun e w' => e = .returned (.bool (may os)) ∧ Below w.heap.size w w' := by
  have HSZ : Hid _ := fun (wa : World) (hb : Below w.heap.size w wa) => rsize_any lsn v os wa (ho.keep hb) hf
  obtain ⟨oa, cap, rfl, hcs⟩ := ho.hold
  have HCS : Hid _ := hcs
  clear hcs ho hf
  obtain ⟨n, HN⟩ : ∃ n, Hid (os.length = n) := ⟨_, rfl⟩
  rw [HN.out] at HCS HSZ ⊢
  have hz := zero130
  have r0 : Row (w.alloc (.cells #[.int .u64 lsn, .slice oa n cap] 103)) w.heap.size #[.int .u64 lsn, .slice oa n cap] 103 := Row.new _ _ _
  have ab : Below w.heap.size w (w.alloc (.cells #[.int .u64 lsn, .slice oa n cap] 103)) := (Below.refl _ _).alloc (Nat.le_refl _) _
  have c0 := row_at r0 1 _ rfl
  by_cases h15 : n ≤ 15
  · have h15' : ¬ (n : Int) > 15 := by omega
    have HL0 : Hid (0 = n → lastLive os = true) := fun h => by
      have : os = [] := List.eq_nil_of_length_eq_zero (by rw [HN.out, ← h])
      rw [this]; rfl
    go_enter Try.func84, Try.ntmps84
    go_upto_region 1 with fail
    generalize w.alloc (.cells #[.int .u64 lsn, .slice oa n cap] 103) = w1 at r0 ab c0 ⊢
    go_wp2
    go_loopw [4] (fun d wr => ∃ (k : Nat), d = .int .i64 k ∧ k ≤ n ∧ Hid ((os.take k).all okO = true) ∧ Hid (k = n → lastLive os = true) ∧ Below w.heap.size w wr ∧ Row wr w.heap.size #[.int .u64 lsn, .slice oa n cap] 103) (fun d _ => n - (intOf d).toNat)
    case atStart => exact ⟨0, rfl, by omega, rfl, HL0.out, ab, r0⟩
    case round =>
      clear ab r0 c0 HL0
      obtain ⟨k, rfl, hk, HO, HLL, rb, r0⟩ := hrel
      by_cases hkn : k < n
      · have hkn' : (k : Int) < (n : Int) := by omega
        obtain ⟨a, l, p, t, np, ns, dl, rfl, he, hcell⟩ := HCS.out k hkn
        have hcw : ∀ j u, [Value.bool l, .int .u16 p, .int .u32 t, .int .u16 np, .int .u8 ns, .string dl][j]? = some u → wr.cell? ((a.add (k * 6)).add j) = some u := fun j u hj => cell_keep (hcell j u hj) rb
        have heq : ∀ w, (Op.equalIn 10000 130 (.agg #[.bool l, .int .u16 p, .int .u32 t, .int .u16 np, .int .u8 ns, .string dl]) (.agg #[.bool false, .int .u16 0, .int .u32 0, .int .u16 0, .int .u8 0, .string ByteArray.empty])).run Try.prog w = .ok (decide ((⟨l, p, t, np, ns, dl⟩ : O) = O.zero)) w := fun w => equal130 ⟨l, p, t, np, ns, dl⟩ O.zero w
        have tl : Hid (1 = 1) := rfl
        have HE := show Hid _ from he
        have cw := row_at r0 1 _ rfl
        clear he hcell
        have q1 : Row (wr.alloc (.cells #[.bool false, .int .u16 0, .int .u32 0, .int .u16 0, .int .u8 0, .string ByteArray.empty] 130)) wr.heap.size #[.bool false, .int .u16 0, .int .u32 0, .int .u16 0, .int .u8 0, .string ByteArray.empty] 130 := Row.new _ _ _
        go_upto_region 8 with (first
          | (have hh := tl; clear hh tl; refine wpList_load_any rfl 130 (.tmp 19) rfl (a.add (k * 6)) rfl [.bool l, .int .u16 p, .int .u32 t, .int .u16 np, .int .u8 ns, .string dl] _ hcw Try.underlying130 rfl size130 ?_)
          | (refine store_cells rfl 130 (.tmp 5) (.tmp 20) rfl wr.heap.size #[.bool l, .int .u16 p, .int .u32 t, .int .u16 np, .int .u8 ns, .string dl] rfl rfl 130 _ q1 6 size130 rfl rfl (by simp [Value.oneCell']) ?_))
        have q2 := q1.set #[.bool l, .int .u16 p, .int .u32 t, .int .u16 np, .int .u8 ns, .string dl]
        have hlt := r0.lt
        have d0 := (r0.alloc (.cells #[.bool false, .int .u16 0, .int .u32 0, .int .u16 0, .int .u8 0, .string ByteArray.empty] 130)).other (g := wr.heap.size) (by omega) #[.bool l, .int .u16 p, .int .u32 t, .int .u16 np, .int .u8 ns, .string dl]
        have db := below_setRow (rb.alloc rb.size (.cells #[.bool false, .int .u16 0, .int .u32 0, .int .u16 0, .int .u8 0, .string ByteArray.empty] 130)) rb.size #[.bool l, .int .u16 p, .int .u32 t, .int .u16 np, .int .u8 ns, .string dl]
        clear r0 rb q1 hcw cw
        generalize (wr.alloc (.cells #[.bool false, .int .u16 0, .int .u32 0, .int .u16 0, .int .u8 0, .string ByteArray.empty] 130)).setRow wr.heap.size #[.bool l, .int .u16 p, .int .u32 t, .int .u16 np, .int .u8 ns, .string dl] = w5 at q2 d0 db ⊢
        generalize wr.heap.size = go at q2 hlt ⊢
        have c0 := row_at q2 0 _ rfl
        have c5 := row_at q2 5 _ rfl
        have ew : IntKind.i64.wrap ((n : Int) - 1) = (n : Int) - 1 := by rw [IntKind.wrap_i64]; omega
        cases l
        · by_cases hk1 : k + 1 = n
          · have HM : Hid (may os = false) := by
              show _ = _
              unfold may
              rw [lastLive_succ (m := k) (by rw [HN.out, hk1]) HE.out]; simp
            subst hk1
            clear h15' hkn'
            have hm2 : IntKind.i64.wrap ((k : Int) + 1 - 1) = k := by rw [IntKind.wrap_i64]; omega
            clear ew
            go_wp2
            go_ret
            exact ⟨ret_bool HM.out.symm, db⟩
          · have hk2 : ¬ (k : Int) = (n : Int) - 1 := by omega
            have hk3 : ((k : Int) == (n : Int) - 1) = false := by simp [hk2]
            by_cases hzo : (⟨false, p, t, np, ns, dl⟩ : O) = O.zero
            · have hok : okO (⟨false, p, t, np, ns, dl⟩ : O) = true := by rw [hzo]; exact okO_zero
              have HA := show Hid _ from all_succ HE.out HO.out hok
              have HL1 : Hid (k + 1 = n → lastLive os = true) := fun h => absurd h hk1
              rw [decide_eq_true hzo] at heq
              have hdl : (dl.size : Int) = 0 := by
                have : dl = ByteArray.empty := congrArg O.delta hzo
                rw [this]; rfl
              clear hzo hok hk1
              go_wp2_with (first
                | (refine load_cells_g rfl 130 (.tmp 5) rfl go rfl 130 #[.bool false, .int .u16 p, .int .u32 t, .int .u16 np, .int .u8 ns, .string dl] q2 6 Try.underlying130 rfl size130 rfl ?_)
                | (refine build_none_g rfl 130 rfl _ built130 ?_))
              go_roundw
              case rel => exact ⟨k + 1, by go_num, by omega, HA.out, HL1.out, db, d0⟩
              case measure => simp [intOf]; omega
            · have hok : okO (⟨false, p, t, np, ns, dl⟩ : O) = false := by unfold okO; rw [decide_eq_false hzo]; rfl
              have HM := show Hid _ from may_at HE.out hok
              rw [decide_eq_false hzo] at heq
              clear hzo hok hk1
              go_wp2_with (first
                | (refine load_cells_g rfl 130 (.tmp 5) rfl go rfl 130 #[.bool false, .int .u16 p, .int .u32 t, .int .u16 np, .int .u8 ns, .string dl] q2 6 Try.underlying130 rfl size130 rfl ?_)
                | (refine build_none_g rfl 130 rfl _ built130 ?_))
              go_ret
              exact ⟨ret_bool HM.out.symm, db⟩
        · have HL1 : Hid (k + 1 = n → lastLive os = true) := fun h => lastLive_succ (m := k) (by rw [HN.out, h]) HE.out
          by_cases hd : dl.size ≤ 66
          · have hok : okO (⟨true, p, t, np, ns, dl⟩ : O) = true := by unfold okO; simp [hd]
            have HA := show Hid _ from all_succ HE.out HO.out hok
            have hdl : ¬ (dl.size : Int) > 66 := by omega
            clear hok heq
            go_wp2
            go_roundw
            case rel => exact ⟨k + 1, by go_num, by omega, HA.out, HL1.out, db, d0⟩
            case measure => simp [intOf]; omega
          · have hok : okO (⟨true, p, t, np, ns, dl⟩ : O) = false := by unfold okO; simp; omega
            have HM := show Hid _ from may_at HE.out hok
            have hdl : (dl.size : Int) > 66 := by omega
            clear hok heq
            go_wp2
            go_ret
            exact ⟨ret_bool HM.out.symm, db⟩
      · obtain rfl : k = n := by omega
        have hkn' : ¬ (k : Int) < (k : Int) := by omega
        have ht : os.take k = os := by rw [← HN.out, List.take_length]
        have hall : os.all okO = true := by have := HO.out; rwa [ht] at this
        have hms : may os = decide (psize os ≤ 224) := by unfold may; rw [HN.out, HLL.out rfl, hall, decide_eq_true h15]; simp
        have hsz := HSZ.out wr rb (by omega) (fun o ho => by
          have := List.all_eq_true.1 hall o ho
          unfold okO at this
          simp at this
          omega)
        go_wp2_with (first
          | (refine load_cells rfl 103 (.tmp 1) rfl w.heap.size rfl 103 #[.int .u64 lsn, .slice oa k cap] r0 2 Try.underlying103 rfl size103 rfl ?_)
          | (go_at_call 101; refine hsz.mono ?_; rintro e w2 ⟨rfl, b2⟩))
        go_ret
        exact ⟨ret_bool hms.symm, rb.trans (b2.mono rb.size)⟩
  · have hm : may os = false := by unfold may; rw [HN.out, decide_eq_false h15]; simp
    have h15' : (n : Int) > 15 := by omega
    rw [hm]
    go_enter Try.func84, Try.ntmps84
    go_wp2
    go_ret
    exact ⟨rfl, ab⟩
set_option maxHeartbeats 2000000 in
theorem rputUndo_any (no lsn : Int) (v : Value) (os : List O) (w : World) (ho : Olds w v os) (hf : ∀ o ∈ os, o.Fits) (hno : 0 ≤ no ∧ no ≤ 65535) (hlsn : 0 ≤ lsn ∧ lsn ≤ 18446744073709551615) :
    Calls Try.prog 54 #[.int .u16 no, .agg #[.int .u64 lsn, v]] w fun e w' => e = .returned (.tuple #[.agg (bs (putU no lsn os)), .bool (may os)]) ∧ Below w.heap.size w w' := by
  have hz := zero34
  have HMAY : Hid _ := fun (wa : World) (hb : Below w.heap.size w wa) => rmay_any lsn v os wa (ho.keep hb) hf
  have HTX : Hid _ := fun (wa : World) (hb : Below w.heap.size w wa) => text_any lsn v os wa (ho.keep hb) hf
  obtain ⟨oa, cap, rfl, _⟩ := ho.hold
  clear ho hf
  obtain ⟨n, HN⟩ : ∃ n, Hid (os.length = n) := ⟨_, rfl⟩
  rw [HN.out] at HMAY HTX ⊢
  have r0 : Row ((w.alloc (.cells #[.int .u64 lsn, .slice oa n cap] 103)).alloc (.cells (bs (zs 224)) 34)) w.heap.size #[.int .u64 lsn, .slice oa n cap] 103 := (Row.new _ _ _).alloc _
  have r1 : Row ((w.alloc (.cells #[.int .u64 lsn, .slice oa n cap] 103)).alloc (.cells (bs (zs 224)) 34)) (w.heap.size + 1) (bs (zs 224)) 34 := by have := Row.new (w.alloc (.cells #[.int .u64 lsn, .slice oa n cap] 103)) (bs (zs 224)) 34; simpa using this
  have ab : Below w.heap.size w ((w.alloc (.cells #[.int .u64 lsn, .slice oa n cap] 103)).alloc (.cells (bs (zs 224)) 34)) := ((Below.refl _ _).alloc (Nat.le_refl _) _).alloc (by simp) _
  go_enter Try.func54, Try.ntmps54
  go_upto_region 1 with fail
  generalize (w.alloc (.cells #[.int .u64 lsn, .slice oa n cap] 103)).alloc (.cells (bs (zs 224)) 34) = w1 at r0 r1 ab ⊢
  cases hm : may os
  · have HU : Hid (putU no lsn os = zs 224) := by show _ = _; unfold putU; rw [hm]; rfl
    rw [hm] at HMAY
    have HMY : Hid (may os = false) := hm
    clear hm
    go_wp2_with (first
      | (refine load_cells rfl 103 (.tmp 3) rfl w.heap.size rfl 103 #[.int .u64 lsn, .slice oa n cap] r0 2 Try.underlying103 rfl size103 rfl ?_)
      | (go_at_call 84; refine (HMAY.out _ ab).mono ?_; clear HMAY; rintro e w2 ⟨rfl, h2⟩)
      | (refine build_none rfl 34 rfl _ built34 ?_)
      | (refine store_row rfl 34 (.tmp 4) (.tmp 9) rfl (w.heap.size + 1) (zs 224) rfl rfl 34 _ (r1.below h2 r1.lt) 224 size34 (by rw [bs_size, zs_length]) (zs_length _) ?_))
    refine bodyPost_ret (v := .tuple #[.agg (bs (zs 224)), .bool false]) ?_ rfl ⟨by rw [HU.out, HMY.out], below_setRow (ab.trans (h2.mono ab.size)) (by omega) _⟩
    exact ret_cell2 (fn := Try.f54) rfl _ _ (w.heap.size + 1) 34 (bs (zs 224)) _ _ rfl rfl ((r1.below h2 r1.lt).set _) Try.underlying34 rfl (by rw [bs_size, zs_length]; exact size34)
  · have HU : Hid (putU no lsn os = payT 2 no lsn (undoT os)) := by show _ = _; unfold putU; rw [hm]; rfl
    have hms := may_small hm
    have hn15 : n ≤ 15 := by rw [← HN.out]; exact hms.1
    have HOK : ∀ o ∈ os, o.delta.size ≤ 140737488355328 := by
      intro o ho; have := hms.2.2.1 o ho; unfold okO at this; simp at this; omega
    have hul := undoT_le os hm
    have HTX2 : Hid _ := fun wa hb => HTX.out wa hb (by omega) HOK
    have e1 : [(n : Int) % 256] ++ oldsT os = undoT os := by unfold undoT; rw [HN.out]; simp [low]
    rw [e1] at HTX2
    have HPAY : Hid _ := fun w => laid_any 2 no lsn (undoT os) w (by decide) hno hlsn hul (undoT_bytes os)
    have hRl := payT_length 2 no lsn (undoT os) hul
    obtain ⟨R, HR⟩ : ∃ R, Hid (payT 2 no lsn (undoT os) = R) := ⟨_, rfl⟩
    rw [HR.out] at HPAY hRl HU
    generalize undoT os = T at HPAY HTX2
    have hRb : (bs R).size = 224 := by rw [bs_size, hRl]
    rw [hm] at HMAY
    have HMY : Hid (may os = true) := hm
    clear hms HOK hul e1 HTX hm
    go_upto_region 3 with (first
      | (refine load_cells rfl 103 (.tmp 3) rfl w.heap.size rfl 103 #[.int .u64 lsn, .slice oa n cap] r0 2 Try.underlying103 rfl size103 rfl ?_)
      | (go_at_call 84; refine (HMAY.out _ ab).mono ?_; clear HMAY; rintro e w2 ⟨rfl, h2⟩))
    have r0 := r0.below h2 r0.lt
    have r1 := r1.below h2 r1.lt
    have ab := ab.trans (h2.mono ab.size)
    clear h2
    refine wp_region_held_drew (S := fun w' => Row w' w.heap.size #[.int .u64 lsn, .slice oa n cap] 103 ∧ Below w.heap.size w w') (by kernel_rfl) ⟨r0, ab.drew⟩ fun hS => ?_
    have r1 : Row w2.drew (w.heap.size + 1) (bs (zs 224)) 34 := r1
    clear r0 ab
    generalize w2.drew = wd at hS r1 ⊢
    refine tkI (i := 0) (v := .int .u16 no) rfl (Or.inl ⟨by rfl, fun w _ => by go_simp⟩) hS ?_
    try simp only [Act.put, nz]
    refine tkI (i := 1) (v := .pointer (some ⟨w.heap.size, 0, none⟩)) rfl (Or.inl ⟨by rfl, fun w _ => by go_simp⟩) hS ?_
    try simp only [Act.put, nz]
    refine tkI (i := 2) (v := .int .u64 lsn) rfl (Or.inl ⟨by rfl, fun w h => by have c := row_at h.1 0 _ rfl; go_simp⟩) hS ?_
    try simp only [Act.put, nz]
    refine tkI (i := 3) (v := .agg #[.int .u64 lsn, .slice oa n cap]) rfl (yields_cells (by rfl) 103 (.tmp 3) rfl w.heap.size rfl 103 #[.int .u64 lsn, .slice oa n cap] (fun w h => h.1) 2 Try.underlying103 rfl size103 rfl) hS ?_
    try simp only [Act.put, nz]
    refine wpAnyH_ready (rs := [4]) (by kernel_rfl) (by simp) ?_
    refine AllReadyH.cons rfl (fun K hK => ?_) AllReadyH.nil
    go_simp
    go_at_call 86
    refine Calls.mono (HTX2.out _ hS.2) ?_
    rintro e w1_4 ⟨rfl, hcb⟩
    have r1 := r1.below hcb r1.lt
    refine hK.out _ _ (⟨hS.1.below hcb hS.1.lt, hS.2.trans (hcb.mono hS.2.size)⟩) fun hS => ?_
    try simp only [Act.put, nz]
    clear hcb
    refine wpAnyH_ready (rs := [5]) (by kernel_rfl) (by simp) ?_
    refine AllReadyH.cons rfl (fun K hK => ?_) AllReadyH.nil
    go_simp
    go_at_call 85
    refine Calls.mono (HPAY.out _) ?_
    rintro e w2_5 ⟨rfl, hcb⟩
    have r1 := r1.below hcb r1.lt
    refine hK.out _ _ (⟨hS.1.below hcb hS.1.lt, hS.2.trans (hcb.mono hS.2.size)⟩) fun hS => ?_
    try simp only [Act.put, nz]
    clear hcb
    refine wpAnyH_ready (rs := [6]) (by kernel_rfl) (by simp) ?_
    refine AllReadyH.cons rfl (fun K hK => ?_) AllReadyH.nil
    refine step_cells rfl 34 (.tmp 4) (.tmp 15) rfl (w.heap.size + 1) (bs R) rfl rfl 34 _ r1 224 size34 (by rw [bs_size, zs_length]) hRb (bs_one _) (hK.out _ _ ⟨hS.1.other (by omega) _, below_setRow hS.2 (by omega) _⟩ fun hS => ?_)
    try simp only [Act.put, nz]
    have r1 := r1.set (bs R)
    generalize w2_5.setRow (w.heap.size + 1) (bs R) = w3_6 at r1 hS ⊢
    refine tkI (i := 7) (v := .bool true) rfl (Or.inl ⟨by rfl, fun w _ => by go_simp⟩) hS ?_
    try simp only [Act.put, nz]
    refine wpAnyH_done (by kernel_rfl) ?_ _
    go_wp2
    refine bodyPost_ret (v := .tuple #[.agg (bs R), .bool true]) ?_ rfl ⟨by rw [HU.out, HMY.out], hS.2⟩
    exact ret_cell2 (fn := Try.f54) rfl _ _ (w.heap.size + 1) 34 (bs R) _ _ rfl rfl r1 Try.underlying34 rfl (by rw [hRb]; exact size34)

end Go.Proofs.Ytehogiondcpbcaa
namespace Go.Proofs.Ytehogiondcpbcaa
open Go.ChangeShapes Go.WideShapes Go.ChangeAt Go.RowKit
open Go.Deep
set_option linter.unusedVariables false
set_option linter.unusedSimpArgs false
set_option maxRecDepth 20000
theorem may_nil : may [] = true := by decide
def blankP (u : Bool) (no : Int) : List Int := if u then putU no 0 [] else putD no D.zero
def isP (u : Bool) (no : Int) (p : List Int) : Bool := if u then isU no p else isD no p
theorem blankP_length (u : Bool) (no : Int) : (blankP u no).length = 224 := by
  cases u
  · exact putD_length _ _ (zs_length _)
  · show (putU no 0 []).length = 224
    exact putU_length _ _ _
theorem blankP_bytes (u : Bool) (no : Int) : Bytes (blankP u no) := by
  cases u
  · exact putD_bytes _ _ (zs_bytes _)
  · show Bytes (putU no 0 [])
    exact putU_bytes _ _ _
theorem isP_blank (u u2 : Bool) (no on : Int) (h1 : 0 ≤ no ∧ no ≤ 65535) (h2 : 0 ≤ on ∧ on ≤ 65535) : isP u2 on (blankP u no) = (decide (u = u2) && decide (no = on)) := by
  cases u <;> cases u2
  · show isD on (putD no D.zero) = _
    rw [isD_other no on D.zero D.zero_ok h1 h2]; simp
  · show isU on (putD no D.zero) = _
    rw [isU_data no on D.zero D.zero_ok]; simp
  · show isD on (putU no 0 []) = _
    rw [putU_may _ _ _ may_nil, isD_undo no on 0 [] may_nil]; simp
  · show isU on (putU no 0 []) = _
    rw [putU_may _ _ _ may_nil, isU_put no on 0 [] may_nil (by simp) (by decide) h1 h2]; simp
set_option maxHeartbeats 1000000 in
theorem blank_undo (no : Int) (w : World) (hno : 0 ≤ no ∧ no ≤ 65535) :
    Calls Try.prog 15 #[.agg #[.bool true, .int .u16 no]] w fun e w' => e = .returned (.agg (bs (putU no 0 []))) ∧ Below w.heap.size w w' := by
  have hz := zero34
  have r0 : Row ((w.alloc (.cells #[.bool true, .int .u16 no] 31)).alloc (.cells (bs (zs 224)) 34)) w.heap.size #[.bool true, .int .u16 no] 31 := (Row.new _ _ _).alloc _
  have r1 : Row ((w.alloc (.cells #[.bool true, .int .u16 no] 31)).alloc (.cells (bs (zs 224)) 34)) (w.heap.size + 1) (bs (zs 224)) 34 := by have := Row.new (w.alloc (.cells #[.bool true, .int .u16 no] 31)) (bs (zs 224)) 34; simpa using this
  have ab : Below w.heap.size w ((w.alloc (.cells #[.bool true, .int .u16 no] 31)).alloc (.cells (bs (zs 224)) 34)) := ((Below.refl _ _).alloc (Nat.le_refl _) _).alloc (by simp) _
  have HP : Hid _ := fun w => putUndo_any no 0 (.slice none 0 0) [] w (Or.inl ⟨rfl, rfl⟩) (by simp) hno (by decide)
  have hlen := putU_length no 0 []
  have e0 : errU [] = 0 := by unfold errU; rw [may_nil]; rfl
  rw [e0] at HP
  obtain ⟨R, HR⟩ : ∃ R, Hid (putU no 0 [] = R) := ⟨_, rfl⟩
  rw [HR.out] at HP hlen ⊢
  have hRb : (bs R).size = 224 := by rw [bs_size, hlen]
  have c0 := row_at r0 0 _ rfl
  have c1 := row_at r0 1 _ rfl
  go_enter Try.func15, Try.ntmps15
  go_upto_region 1 with fail
  generalize (w.alloc (.cells #[.bool true, .int .u16 no] 31)).alloc (.cells (bs (zs 224)) 34) = w1 at r0 r1 ab c0 c1 ⊢
  go_upto_region 3 with (first
    | (refine build_none rfl 103 rfl _ built103 ?_)
    | (go_at_call 43; refine (HP.out _).mono ?_; clear HP; rintro e w3 ⟨rfl, h3⟩
       have q3 : Row (w3.alloc (.cells (bs (zs 224)) 34)) w3.heap.size (bs (zs 224)) 34 := Row.new _ _ _)
    | (refine store_row rfl 34 (.tmp 3) (.tmp 12) rfl w3.heap.size R rfl rfl 34 _ q3 224 size34 (by rw [bs_size, zs_length]) hlen ?_))
  have r1 := r1.below h3 r1.lt
  have l3 := r1.lt
  have ab := ab.trans (h3.mono ab.size)
  have r1 := (r1.alloc (.cells (bs (zs 224)) 34)).other (g := w3.heap.size) (by omega) (bs R)
  have q3 := q3.set (bs R)
  have ab := below_setRow (ab.alloc ab.size (.cells (bs (zs 224)) 34)) ab.size (bs R)
  clear h3
  generalize (w3.alloc (.cells (bs (zs 224)) 34)).setRow w3.heap.size (bs R) = w4 at r1 q3 ab ⊢
  generalize w3.heap.size = g3 at q3 l3 ⊢
  go_wp2_with (first
    | (refine load_row rfl 34 (.tmp 3) rfl g3 rfl 34 (bs R) q3 224 5 Try.underlying34 size34 hRb ?_)
    | (refine store_row rfl 34 (.tmp 2) (.tmp 14) rfl (w.heap.size + 1) R rfl rfl 34 _ r1 224 size34 (by rw [bs_size, zs_length]) hlen ?_))
  refine bodyPost_ret (v := .agg (bs R)) ?_ rfl ⟨rfl, below_setRow ab (by omega) _⟩
  exact ret_row (fn := Try.f15) rfl _ _ (w.heap.size + 1) 34 (bs R) 224 5 rfl (r1.set _) Try.underlying34 size34 hRb
theorem blank_any (u : Bool) (no : Int) (w : World) (hno : 0 ≤ no ∧ no ≤ 65535) :
    Calls Try.prog 15 #[.agg #[.bool u, .int .u16 no]] w fun e w' => e = .returned (.agg (bs (blankP u no))) ∧ Below w.heap.size w w' := by
  cases u
  · exact blank_data no w hno
  · exact blank_undo no w hno
set_option maxHeartbeats 1000000 in
theorem right_undo (no : Int) (p : List Int) (w : World) (hno : 0 ≤ no ∧ no ≤ 65535) (hp : p.length = 224) (hb : Bytes p) :
    Calls Try.prog 53 #[.agg #[.bool true, .int .u16 no], .agg (bs p)] w fun e w' => e = .returned (.bool (isU no p)) ∧ Below w.heap.size w w' := by
  have hz := zero103
  have r0 : Row ((w.alloc (.cells #[.bool true, .int .u16 no] 31)).alloc (.cells (bs p) 34)) w.heap.size #[.bool true, .int .u16 no] 31 := (Row.new _ _ _).alloc _
  have r1 : Row ((w.alloc (.cells #[.bool true, .int .u16 no] 31)).alloc (.cells (bs p) 34)) (w.heap.size + 1) (bs p) 34 := by have := Row.new (w.alloc (.cells #[.bool true, .int .u16 no] 31)) (bs p) 34; simpa using this
  have ab : Below w.heap.size w ((w.alloc (.cells #[.bool true, .int .u16 no] 31)).alloc (.cells (bs p) 34)) := ((Below.refl _ _).alloc (Nat.le_refl _) _).alloc (by simp) _
  have HP : Hid (∀ w, Calls Try.prog 82 #[.int .u16 no, .agg (bs p)] w fun e w' => ∃ L oa n cap, e = .returned (.tuple #[.agg #[.int .u64 L, .slice oa n cap], .int .i64 (if isU no p then 0 else 2)]) ∧ Below w.heap.size w w') := fun w => (getUndo_any no p w hno hp hb).mono fun e w' h => by
    obtain ⟨v', h1, h2, h3⟩ := h
    obtain ⟨oa, cap, rfl, _⟩ := h2.open
    exact ⟨_, _, _, _, h1, h3⟩
  have hpb : (bs p).size = 224 := by rw [bs_size, hp]
  have c0 := row_at r0 0 _ rfl
  have c1 := row_at r0 1 _ rfl
  have HB : Hid (((if isU no p then (0 : Int) else 2) == 0) = isU no p) := by show _ = _; cases isU no p <;> rfl
  generalize (if isU no p then (0 : Int) else 2) = E at HP HB
  clear hp hb
  go_enter Try.func53, Try.ntmps53
  go_upto_region 1 with fail
  generalize (w.alloc (.cells #[.bool true, .int .u16 no] 31)).alloc (.cells (bs p) 34) = w1 at r0 r1 ab c0 c1 ⊢
  go_wp2_with (first
    | (refine load_row rfl 34 (.tmp 3) rfl (w.heap.size + 1) rfl 34 (bs p) r1 224 5 Try.underlying34 size34 hpb ?_)
    | (go_at_call 82; refine (HP.out _).mono ?_; clear HP; rintro e w3 ⟨L, oa, n, cap, rfl, h3⟩
       have q3 : Row (w3.alloc (.cells #[.int .u64 0, .slice none 0 0] 103)) w3.heap.size #[.int .u64 0, .slice none 0 0] 103 := Row.new _ _ _)
    | (refine store_cells rfl 103 (.tmp 5) (.tmp 16) rfl w3.heap.size #[.int .u64 L, .slice oa n cap] rfl rfl 103 _ q3 2 size103 rfl rfl (by simp [Value.oneCell']) ?_))
  have b3 : Below w.heap.size w w3 := ab.trans (h3.mono ab.size)
  go_ret
  exact ⟨ret_bool HB.out, below_setRow (b3.alloc b3.size _) b3.size _⟩
theorem right_anyP (u : Bool) (no : Int) (p : List Int) (w : World) (hno : 0 ≤ no ∧ no ≤ 65535) (hp : p.length = 224) (hb : Bytes p) :
    Calls Try.prog 53 #[.agg #[.bool u, .int .u16 no], .agg (bs p)] w fun e w' => e = .returned (.bool (isP u no p)) ∧ Below w.heap.size w w' := by
  cases u
  · exact right_data no p w hno hp hb
  · exact right_undo no p w hno hp hb
end Go.Proofs.Ytehogiondcpbcaa
namespace Go.Proofs.Ytehogiondcpbcaa
open Go.ChangeShapes Go.WideShapes Go.ChangeAt Go.RowKit
set_option linter.unusedVariables false
set_option linter.unusedSimpArgs false
set_option maxRecDepth 20000
def wholeB (b : List Int) : Bool := decide (Sl.stampAt b 1 = Sl.stampAt b 0 ∧ Sl.stampAt b 2 = Sl.stampAt b 0 ∧ Sl.stampAt b 3 = Sl.stampAt b 0)
def openF (u : Bool) (k : Int) (b : List Int) : Fm := if wholeB b = true ∧ isP u k (Sl.payN b 4) = true then ⟨u, k, Sl.payN b 4, false, false, 0⟩ else ⟨u, k, blankP u k, true, false, 0⟩
theorem payC_bytes (b : List Int) (h : Bytes b) (hb : b.length = 256) : Bytes (Sl.payN b 4) := by
  unfold Sl.payN
  refine Sl.fl_bytes _ _ fun j hj => ?_
  rw [if_pos (by omega)]
  have hi : 64 * (j / 56) + j % 56 < b.length := by omega
  rw [List.getD_eq_getElem?_getD, List.getElem?_eq_getElem hi]
  exact h _ (List.getElem_mem _)
set_option maxHeartbeats 2000000 in
theorem opened_any (u : Bool) (k : Int) (hk : WfU k) (b : List Int) (hb : b.length = 256) (hy : Bytes b) (w : World) : Calls Try.prog 78 #[idv u k, .agg (bs b)] w fun e w' => e = .returned (.agg (openF u k b).arr) ∧ Below w.heap.size w w' := by
  unfold idv
  have hk2 := wfu hk
  have hop : ∀ W, Calls Try.prog 10 #[.agg (bs b)] W fun e w' => e = .returned (.tuple #[.int .u64 (if wholeB b = true then Sl.stampAt b 0 else 0), .agg (bs (if wholeB b = true then Sl.payN b 4 else zs 224)), .bool (wholeB b)]) ∧ Below W.heap.size W w' := fun W => by
    have := Sl.open_any b hb hy W
    unfold Sl.opened at this
    unfold wholeB
    by_cases q : Sl.stampAt b 1 = Sl.stampAt b 0 ∧ Sl.stampAt b 2 = Sl.stampAt b 0 ∧ Sl.stampAt b 3 = Sl.stampAt b 0
    · rw [if_pos q] at this
      rw [decide_eq_true q, if_pos rfl, if_pos rfl]
      exact this
    · rw [if_neg q] at this
      rw [decide_eq_false q, if_neg (by simp), if_neg (by simp)]
      exact this
  have HPL : Hid ((if wholeB b = true then Sl.payN b 4 else zs 224).length = 224) := by show _ = _; split; exact Sl.payN_length _ _; exact zs_length _
  have HRI : Hid (∀ W, Calls Try.prog 53 #[.agg #[.bool u, .int .u16 k], .agg (bs (Sl.payN b 4))] W fun e w' => e = .returned (.bool (isP u k (Sl.payN b 4))) ∧ Below W.heap.size W w') := fun W => right_anyP u k _ W hk2 (Sl.payN_length _ _) (payC_bytes b hy hb)
  have HBL : Hid (∀ W, Calls Try.prog 15 #[.agg #[.bool u, .int .u16 k]] W fun e w' => e = .returned (.agg (bs (blankP u k))) ∧ Below W.heap.size W w') := fun W => blank_any u k W hk2
  have HOF1 : Hid (wholeB b = true → isP u k (Sl.payN b 4) = true → openF u k b = ⟨u, k, Sl.payN b 4, false, false, 0⟩) := fun q1 q2 => by unfold openF; rw [if_pos ⟨q1, q2⟩]
  have HOF2 : Hid (wholeB b = false ∨ isP u k (Sl.payN b 4) = false → openF u k b = ⟨u, k, blankP u k, true, false, 0⟩) := fun q => by unfold openF; rw [if_neg (fun z => by rcases q with q | q <;> rw [q] at z <;> simp at z)]
  have HBS : Hid ((bs b).size = 256) := by rw [bs_size]; exact hb
  obtain ⟨BB, HBB⟩ : ∃ BB, Hid (bs b = BB) := ⟨_, rfl⟩
  rw [HBB.out] at hop HBS
  rw [HBB.out]
  obtain ⟨PP, HPP⟩ : ∃ PP : Ending → World → Prop, Hid (PP = fun e w' => e = .returned (.agg (openF u k b).arr) ∧ Below w.heap.size w w') := ⟨_, rfl⟩
  rw [← HPP.out]
  have hz122 := zero122
  have HZF : Hid (Fm.zero.arr.size = 229) := fz
  generalize Fm.zero.arr = Z at hz122 HZF
  have hz34 := zero34
  have HZP : Hid ((bs (zs 224)).size = 224) := by rw [bs_size]; exact zs_length _
  obtain ⟨ZP, HZPD⟩ : ∃ ZP, Hid (bs (zs 224) = ZP) := ⟨_, rfl⟩
  rw [HZPD.out] at hz34 HZP
  have e1 : (w.alloc (.cells #[.bool u, .int .u16 k] 31)).heap.size = w.heap.size + 1 := Array.size_push ..
  have e2 : ((w.alloc (.cells #[.bool u, .int .u16 k] 31)).alloc (.cells BB 41)).heap.size = w.heap.size + 1 + 1 := by rw [← e1]; exact Array.size_push ..
  have ab0 : Below w.heap.size w (w.alloc (.cells #[.bool u, .int .u16 k] 31)) := (Below.refl _ _).alloc (Nat.le_refl _) _
  have ab1 : Below w.heap.size w ((w.alloc (.cells #[.bool u, .int .u16 k] 31)).alloc (.cells BB 41)) := ab0.alloc ab0.size _
  have ab : Below w.heap.size w (((w.alloc (.cells #[.bool u, .int .u16 k] 31)).alloc (.cells BB 41)).alloc (.cells Z 122)) := ab1.alloc ab1.size _
  have r0 : Row (((w.alloc (.cells #[.bool u, .int .u16 k] 31)).alloc (.cells BB 41)).alloc (.cells Z 122)) w.heap.size #[.bool u, .int .u16 k] 31 := ((Row.new _ _ _).alloc _).alloc _
  have r1 : Row (((w.alloc (.cells #[.bool u, .int .u16 k] 31)).alloc (.cells BB 41)).alloc (.cells Z 122)) (w.heap.size + 1) BB 41 := by have := Row.new (w.alloc (.cells #[.bool u, .int .u16 k] 31)) BB 41; rw [e1] at this; exact this.alloc _
  have r2 : Row (((w.alloc (.cells #[.bool u, .int .u16 k] 31)).alloc (.cells BB 41)).alloc (.cells Z 122)) (w.heap.size + 1 + 1) Z 122 := by have := Row.new ((w.alloc (.cells #[.bool u, .int .u16 k] 31)).alloc (.cells BB 41)) Z 122; rw [e2] at this; exact this
  clear ab0 ab1 e1 e2 hk hk2 hb hy
  go_enter Try.func78, Try.ntmps78
  go_upto_region 1 with fail
  generalize ((w.alloc (.cells #[.bool u, .int .u16 k] 31)).alloc (.cells BB 41)).alloc (.cells Z 122) = W at ab r0 r1 r2 ⊢
  obtain ⟨A0, HA0⟩ : ∃ A0, Hid (w.heap.size = A0) := ⟨_, rfl⟩
  rw [HA0.out] at r0 r1 r2 ⊢
  have ho := hop W
  obtain ⟨P1, HP1⟩ : ∃ P1, Hid (bs (if wholeB b = true then Sl.payN b 4 else zs 224) = P1) := ⟨_, rfl⟩
  have HPS : Hid (P1.size = 224) := by rw [← HP1.out, bs_size]; exact HPL.out
  have hpo : P1.all (·.oneCell') = true := by rw [← HP1.out]; exact bs_one _
  rw [HP1.out] at ho
  obtain ⟨bw, HBW⟩ : ∃ bw, Hid (wholeB b = bw) := ⟨_, rfl⟩
  rw [HBW.out] at ho
  clear hop
  have tl : Hid (1 = 1) := rfl
  have ts : Hid (1 = 1) := rfl
  go_upto_region 2 with (first
    | (have hh := tl; clear hh tl; refine load_cells rfl 41 (.tmp 3) rfl (A0 + 1) rfl 41 BB r1 256 Try.underlying41 rfl size41 HBS.out ?_)
    | (go_at_call 10; refine Calls.mono ho ?_; clear ho; rintro e W1 ⟨he, hb1⟩; obtain rfl := he; have rn : Row (W1.alloc (.cells ZP 34)) W1.heap.size ZP 34 := Row.new _ _ _)
    | (have hh := ts; clear hh ts; refine store_cells rfl 34 (.tmp 6) (.tmp 12) rfl W1.heap.size P1 rfl rfl 34 _ rn 224 size34 HZP.out HPS.out hpo ?_))
  have bn : Below W1.heap.size W1 ((W1.alloc (.cells ZP 34)).setRow W1.heap.size P1) := below_setRow ((Below.refl _ _).alloc (Nat.le_refl _) _) (Nat.le_refl _) _
  have b2 := hb1.trans (bn.mono hb1.size)
  have rP : Row ((W1.alloc (.cells ZP 34)).setRow W1.heap.size P1) W1.heap.size P1 34 := rn.set _
  have s0 := r0.below b2 r0.lt
  have s2 := r2.below b2 r2.lt
  have sb := ab.trans (b2.mono ab.size)
  have hlt : A0 + 1 + 1 < W1.heap.size := Nat.lt_of_lt_of_le r2.lt hb1.size
  clear rn bn b2 hb1 r0 r1 r2 ab
  generalize (W1.alloc (.cells ZP 34)).setRow W1.heap.size P1 = W2 at rP s0 s2 sb ⊢
  generalize W1.heap.size = X at rP hlt ⊢
  have BODY : 1 = 1 := rfl
  cases bw with
  | true =>
    have HPE : Hid (P1 = bs (Sl.payN b 4)) := by show _ = _; rw [← HP1.out, if_pos HBW.out]
    have hri := HRI.out W2
    rw [← HPE.out] at hri
    obtain ⟨br, HBR⟩ : ∃ br, Hid (isP u k (Sl.payN b 4) = br) := ⟨_, rfl⟩
    rw [HBR.out] at hri
    have tl : Hid (1 = 1) := rfl
    have tm : Hid (1 = 1) := rfl
    cases br with
    | true =>
      have HOF := HOF1.out HBW.out HBR.out
      have HOG : Hid (openF u k b = ⟨u, k, Sl.payN b 4, false, false, 0⟩) := HOF
      have bu := built122_two u k (Sl.payN b 4) (Sl.payN_length _ _)
      rw [← HPE.out] at bu
      have HFS : Hid ((Fm.mk u k (Sl.payN b 4) false false 0).arr.size = 229) := Fm.arr_size (Sl.payN_length _ _)
      have fo := (Fm.mk u k (Sl.payN b 4) false false 0).one
      obtain ⟨FA, HFA⟩ : ∃ FA, Hid ((Fm.mk u k (Sl.payN b 4) false false 0).arr = FA) := ⟨_, rfl⟩
      rw [HFA.out] at bu HFS fo
      clear HOF
      unfold idv at bu
      go_upto_region 3 with (first
        | (have hh := tl; clear hh tl; refine load_cells_g (by rfl) 31 (.tmp 2) rfl A0 rfl 31 #[.bool u, .int .u16 k] s0 2 Try.underlying31 rfl size31 rfl ?_)
        | (have hh := tm; clear hh tm; refine load_cells_g (by rfl) 34 (.tmp 6) rfl X rfl 34 P1 rP 224 Try.underlying34 rfl size34 HPS.out ?_)
        | (go_at_call 53; refine Calls.mono hri ?_; clear hri; rintro e W3 ⟨he, hb3⟩; obtain rfl := he))
      have s0' := s0.below hb3 s0.lt
      have s2' := s2.below hb3 s2.lt
      have rP' := rP.below hb3 rP.lt
      have sb' := sb.trans (hb3.mono sb.size)
      clear s0 s2 rP sb hb3
      have tl : Hid (1 = 1) := rfl
      have tm : Hid (1 = 1) := rfl
      have tb : Hid (1 = 1) := rfl
      have ts : Hid (1 = 1) := rfl
      go_wp2_with (first
        | (have hh := tl; clear hh tl; refine load_cells rfl 31 (.tmp 2) rfl A0 rfl 31 #[.bool u, .int .u16 k] s0' 2 Try.underlying31 rfl size31 rfl ?_)
        | (have hh := tm; clear hh tm; refine load_cells rfl 34 (.tmp 6) rfl X rfl 34 P1 rP' 224 Try.underlying34 rfl size34 HPS.out ?_)
        | (have hh := tb; clear hh tb; refine build_parts rfl 122 #[(0, .tmp 20), (1, .tmp 21)] rfl [(0, .agg #[.bool u, .int .u16 k]), (1, .agg P1)] rfl FA bu ?_)
        | (have hh := ts; clear hh ts; refine store_cells rfl 122 (.tmp 4) (.tmp 22) rfl (A0 + 1 + 1) FA rfl rfl 122 _ s2' 229 size122 HZF.out HFS.out fo ?_))
      refine bodyPost_ret (v := .agg FA) (ret_cell (fn := Try.f78) rfl _ _ (A0 + 1 + 1) 122 FA _ rfl (s2'.set _) Try.underlying122 rfl (by rw [size122, HFS.out])) rfl ?_
      rw [HPP.out]
      exact ⟨by rw [HOG.out, HFA.out], below_setRow sb' (by rw [HA0.out]; omega) _⟩
    | false =>
      have HOF := HOF2.out (Or.inr HBR.out)
      have HOG : Hid (openF u k b = ⟨u, k, blankP u k, true, false, 0⟩) := HOF
      clear HOF
      go_upto_region 4 with (first
        | (have hh := tl; clear hh tl; refine load_cells_g (by rfl) 31 (.tmp 2) rfl A0 rfl 31 #[.bool u, .int .u16 k] s0 2 Try.underlying31 rfl size31 rfl ?_)
        | (have hh := tm; clear hh tm; refine load_cells_g (by rfl) 34 (.tmp 6) rfl X rfl 34 P1 rP 224 Try.underlying34 rfl size34 HPS.out ?_)
        | (go_at_call 53; refine Calls.mono hri ?_; clear hri; rintro e W3 ⟨he, hb3⟩; obtain rfl := he))
      have s0' := s0.below hb3 s0.lt
      have s2' := s2.below hb3 s2.lt
      have sb' := sb.trans (hb3.mono sb.size)
      clear s0 s2 rP sb hb3
      have bu := built122_torn u k (blankP u k) (blankP_length u k)
      have HFS : Hid ((Fm.mk u k (blankP u k) true false 0).arr.size = 229) := Fm.arr_size (blankP_length u k)
      have fo := (Fm.mk u k (blankP u k) true false 0).one
      obtain ⟨FA, HFA⟩ : ∃ FA, Hid ((Fm.mk u k (blankP u k) true false 0).arr = FA) := ⟨_, rfl⟩
      obtain ⟨PB, HPB⟩ : ∃ PB, Hid (bs (blankP u k) = PB) := ⟨_, rfl⟩
      rw [HFA.out] at bu HFS fo
      have hbl := HBL.out
      rw [HPB.out] at bu hbl
      unfold idv at bu
      refine wp_region_last (S := fun w' => Row w' A0 #[.bool u, .int .u16 k] 31) 4 (by kernel_rfl) s0' fun hS => ?_
      have s2d : Row W3.drew (A0 + 1 + 1) Z 122 := s2'
      have sbd := sb'.drew
      clear s0' s2' sb'
      generalize W3.drew = W5 at hS s2d sbd ⊢
      refine wpAnyL_take (i := 0) (v := .agg #[.bool u, .int .u16 k]) rfl (by kernel_rfl) (by kernel_rfl) (by kernel_rfl) (by kernel_rfl) (fun _ _ _ h => h) (yields_cells (by rfl) 31 (.tmp 2) rfl A0 rfl 31 #[.bool u, .int .u16 k] (fun w h => h) 2 Try.underlying31 rfl size31 rfl) hS ?_
      try simp only [Act.put, nz]
      refine wpAnyL_take (i := 1) (v := .agg #[.bool u, .int .u16 k]) rfl (by kernel_rfl) (by kernel_rfl) (by kernel_rfl) (by kernel_rfl) (fun _ _ _ h => h) (yields_cells (by rfl) 31 (.tmp 2) rfl A0 rfl 31 #[.bool u, .int .u16 k] (fun w h => h) 2 Try.underlying31 rfl size31 rfl) hS ?_
      try simp only [Act.put, nz]
      refine wpAnyL_ready (rs := [2]) (by kernel_rfl) (by simp) ?_
      refine AllReadyL.cons rfl (fun K hK => ?_) AllReadyL.nil
      have hbq := hbl W5
      go_simp
      go_at_call 15
      refine Calls.mono hbq ?_
      clear hbq hbl
      rintro e W6 ⟨he, hb6⟩
      obtain rfl := he
      have s26 := s2d.below hb6 s2d.lt
      have sb6 := sbd.trans (hb6.mono sbd.size)
      refine hK.out _ _ (fun _ => hS.below hb6 hS.lt) ?_
      try simp only [Act.put, nz]
      have hS6 := hS.below hb6 hS.lt
      clear hS s2d sbd hb6
      refine wpAnyL_take (i := 3) (v := .agg FA) rfl (by kernel_rfl) (by kernel_rfl) (by kernel_rfl) (by kernel_rfl) (fun _ _ _ h => h) (yields_build (by rfl) 122 #[(0, .tmp 23), (1, .tmp 25), (2, .const (.bool true))] rfl [(0, .agg #[.bool u, .int .u16 k]), (1, .agg PB), (2, .bool true)] rfl _ bu) hS6 ?_
      try simp only [Act.put, nz]
      refine wpAnyL_ready (rs := [4]) (by kernel_rfl) (by simp) ?_
      refine AllReadyL.cons rfl (fun K hK => ?_) AllReadyL.nil
      refine step_cells rfl 122 (.tmp 4) (.tmp 26) rfl (A0 + 1 + 1) FA rfl rfl 122 _ s26 229 size122 HZF.out HFS.out fo (hK.out _ _ (fun q => absurd rfl q) ?_)
      try simp only [Act.put, nz]
      refine wpAnyL_done (by kernel_rfl) ?_ _
      go_wp2
      refine bodyPost_ret (v := .agg FA) (ret_cell (fn := Try.f78) rfl _ _ (A0 + 1 + 1) 122 FA _ rfl (s26.set _) Try.underlying122 rfl (by rw [size122, HFS.out])) rfl ?_
      rw [HPP.out]
      exact ⟨by rw [HOG.out, HFA.out], below_setRow sb6 (by rw [HA0.out]; omega) _⟩
  | false =>
    have HOF := HOF2.out (Or.inl HBW.out)
    have HOG : Hid (openF u k b = ⟨u, k, blankP u k, true, false, 0⟩) := HOF
    have s0' := s0
    have s2' := s2
    have sb' := sb
    clear HOF s0 s2 sb
    go_upto_region 4 with fail
    have bu := built122_torn u k (blankP u k) (blankP_length u k)
    have HFS : Hid ((Fm.mk u k (blankP u k) true false 0).arr.size = 229) := Fm.arr_size (blankP_length u k)
    have fo := (Fm.mk u k (blankP u k) true false 0).one
    obtain ⟨FA, HFA⟩ : ∃ FA, Hid ((Fm.mk u k (blankP u k) true false 0).arr = FA) := ⟨_, rfl⟩
    obtain ⟨PB, HPB⟩ : ∃ PB, Hid (bs (blankP u k) = PB) := ⟨_, rfl⟩
    rw [HFA.out] at bu HFS fo
    have hbl := HBL.out
    rw [HPB.out] at bu hbl
    unfold idv at bu
    refine wp_region_last (S := fun w' => Row w' A0 #[.bool u, .int .u16 k] 31) 4 (by kernel_rfl) s0' fun hS => ?_
    have s2d : Row W2.drew (A0 + 1 + 1) Z 122 := s2'
    have sbd := sb'.drew
    clear s0' s2' sb'
    generalize W2.drew = W5 at hS s2d sbd ⊢
    refine wpAnyL_take (i := 0) (v := .agg #[.bool u, .int .u16 k]) rfl (by kernel_rfl) (by kernel_rfl) (by kernel_rfl) (by kernel_rfl) (fun _ _ _ h => h) (yields_cells (by rfl) 31 (.tmp 2) rfl A0 rfl 31 #[.bool u, .int .u16 k] (fun w h => h) 2 Try.underlying31 rfl size31 rfl) hS ?_
    try simp only [Act.put, nz]
    refine wpAnyL_take (i := 1) (v := .agg #[.bool u, .int .u16 k]) rfl (by kernel_rfl) (by kernel_rfl) (by kernel_rfl) (by kernel_rfl) (fun _ _ _ h => h) (yields_cells (by rfl) 31 (.tmp 2) rfl A0 rfl 31 #[.bool u, .int .u16 k] (fun w h => h) 2 Try.underlying31 rfl size31 rfl) hS ?_
    try simp only [Act.put, nz]
    refine wpAnyL_ready (rs := [2]) (by kernel_rfl) (by simp) ?_
    refine AllReadyL.cons rfl (fun K hK => ?_) AllReadyL.nil
    have hbq := hbl W5
    go_simp
    go_at_call 15
    refine Calls.mono hbq ?_
    clear hbq hbl
    rintro e W6 ⟨he, hb6⟩
    obtain rfl := he
    have s26 := s2d.below hb6 s2d.lt
    have sb6 := sbd.trans (hb6.mono sbd.size)
    refine hK.out _ _ (fun _ => hS.below hb6 hS.lt) ?_
    try simp only [Act.put, nz]
    have hS6 := hS.below hb6 hS.lt
    clear hS s2d sbd hb6
    refine wpAnyL_take (i := 3) (v := .agg FA) rfl (by kernel_rfl) (by kernel_rfl) (by kernel_rfl) (by kernel_rfl) (fun _ _ _ h => h) (yields_build (by rfl) 122 #[(0, .tmp 23), (1, .tmp 25), (2, .const (.bool true))] rfl [(0, .agg #[.bool u, .int .u16 k]), (1, .agg PB), (2, .bool true)] rfl _ bu) hS6 ?_
    try simp only [Act.put, nz]
    refine wpAnyL_ready (rs := [4]) (by kernel_rfl) (by simp) ?_
    refine AllReadyL.cons rfl (fun K hK => ?_) AllReadyL.nil
    refine step_cells rfl 122 (.tmp 4) (.tmp 26) rfl (A0 + 1 + 1) FA rfl rfl 122 _ s26 229 size122 HZF.out HFS.out fo (hK.out _ _ (fun q => absurd rfl q) ?_)
    try simp only [Act.put, nz]
    refine wpAnyL_done (by kernel_rfl) ?_ _
    go_wp2
    refine bodyPost_ret (v := .agg FA) (ret_cell (fn := Try.f78) rfl _ _ (A0 + 1 + 1) 122 FA _ rfl (s26.set _) Try.underlying122 rfl (by rw [size122, HFS.out])) rfl ?_
    rw [HPP.out]
    exact ⟨by rw [HOG.out, HFA.out], below_setRow sb6 (by rw [HA0.out]; omega) _⟩
end Go.Proofs.Ytehogiondcpbcaa
