/-
  Proved here: filled: a page in which something of a number stands. Plain facts: a walk's own blocks beside a cache; the fixed run's states. Proved here: the fixed run: a page that was put is fetched again.
-/
import Derived.Test.YtehogiondcpbcaaJq30
import Derived.Test.YtehogiondcpbcaaJq26
import Derived.Test.YtehogiondcpbcaaJq24
import Derived.Test.YtehogiondcpbcaaJq16
import Derived.Test.YtehogiondcpbcaaJq21
namespace Go.Proofs.Ytehogiondcpbcaa
open Go.ChangeShapes Go.WideShapes Go.ChangeAt Go.RowKit
set_option linter.unusedVariables false
set_option linter.unusedSimpArgs false
set_option maxRecDepth 20000
def fO (b : Int) : O := ⟨true, 0, b, 0, 0, ByteArray.empty⟩
def fillP (u : Bool) (k : Int) (b lsn : Int) : List Int := if u = true then putU k lsn [fO b] else putD k ⟨lsn, b, 0, 0, zs 64⟩
theorem built130f (b : Int) : (Try.prog.built 130 [(0, .bool true), (2, .int .u32 b)]) = some (fO b).arr := by kernel_rfl
theorem built103f (lsn : Int) (X : Nat) : (Try.prog.built 103 [(0, .int .u64 lsn), (1, .slice (some ⟨X, 0, none⟩) 1 1)]) = some #[.int .u64 lsn, .slice (some ⟨X, 0, none⟩) 1 1] := by kernel_rfl
theorem built109f (lsn b : Int) : (Try.prog.built 109 [(0, .int .u64 lsn), (1, .int .u32 b)]) = some (D.mk lsn b 0 0 (zs 64)).arr := by kernel_rfl
theorem wp_old_one {o : Oper} {a : Act} {w : World} {K : Act → World → Prop} {Q : Exit → Act → World → Prop} (x : Operand) (ho : o.op = .buildSlice 101 1 #[(0, x)]) (va : Array Value) (hb : va.size = 6) (hx : a.eval x = .agg va)
    (h : K (a.put o.dst (.slice (some ⟨w.heap.size, 0, none⟩) 1 1)) (w.alloc (.cells va 130))) : Oper.wp Try.prog o a w K Q := by
  obtain ⟨i, hi, hz, hs, _⟩ := info_parts info130
  refine wp_buildSlice 101 130 1 _ ho va i _ Try.underlying101 hi hz (by rw [hs]; decide) (by rw [hs]; decide) ?_ h
  have e1 : (#[(0, x)].map fun (i, x) => (i, a.eval x)).toList = [(0, .agg va)] := by simp [hx]
  rw [e1, fill_step _ _ 0 (.agg va) _ 0 6 (by simp [hs]) (by show va.size = 6; exact hb) (by simp [hs])]
  unfold Instr.fill
  congr 1
  show (⟨splice _ 0 va.toList⟩ : Array Value) = va
  unfold splice
  rw [List.take_zero, List.nil_append, Array.length_toList, hb, List.drop_of_length_le (by simp [hs]), List.append_nil]
theorem olds_one {w : World} {X : Nat} {o : O} (h : Row w X o.arr 130) : Olds w (.slice (some ⟨X, 0, none⟩) 1 1) [o] :=
  Or.inr ⟨⟨X, 0, none⟩, 1, rfl, fun j u hj => by
    have h1 : flat [o] = o.cells := by simp [flat]
    rw [h1] at hj
    rw [Addr.add_mid, Nat.zero_add]
    exact row_at h j _ (by rw [← Array.getElem?_toList]; exact hj)⟩
theorem fO_fits {b : Int} (hb : 0 ≤ b ∧ b ≤ 255) : (fO b).Fits := ⟨(by show (0 : Int) ≤ 0 ∧ (0 : Int) ≤ 65535; omega), (by show 0 ≤ b ∧ b ≤ 4294967295; omega), (by show (0 : Int) ≤ 0 ∧ (0 : Int) ≤ 65535; omega), (by show (0 : Int) ≤ 0 ∧ (0 : Int) ≤ 255; omega)⟩
set_option maxHeartbeats 2000000 in
theorem fill_u (k b lsn : Int) (hk : 0 ≤ k ∧ k ≤ 65535) (hb : 0 ≤ b ∧ b ≤ 255) (hl : 0 ≤ lsn ∧ lsn ≤ 18446744073709551615) (w : World) : Calls Try.prog 19 #[.agg #[.bool true, .int .u16 k], .int .u8 b, .int .u64 lsn] w fun e w' => e = .returned (.agg (bs (putU k lsn [fO b]))) ∧ Below w.heap.size w w' := by
  obtain ⟨PP, HPP⟩ : ∃ PP : Ending → World → Prop, Hid (PP = fun e w' => e = .returned (.agg (bs (putU k lsn [fO b]))) ∧ Below w.heap.size w w') := ⟨_, rfl⟩
  rw [← HPP.out]
  have hz34 := zero34
  obtain ⟨ZP, HZPD⟩ : ∃ ZP, Hid (bs (zs 224) = ZP) := ⟨_, rfl⟩
  have HZP : Hid (ZP.size = 224) := by rw [← HZPD.out, bs_size]; exact zs_length _
  rw [HZPD.out] at hz34
  have e1 : (w.alloc (.cells #[.bool true, .int .u16 k] 31)).heap.size = w.heap.size + 1 := Array.size_push ..
  have ab0 : Below w.heap.size w (w.alloc (.cells #[.bool true, .int .u16 k] 31)) := (Below.refl _ _).alloc (Nat.le_refl _) _
  have ab : Below w.heap.size w ((w.alloc (.cells #[.bool true, .int .u16 k] 31)).alloc (.cells ZP 34)) := ab0.alloc ab0.size _
  have r0 : Row ((w.alloc (.cells #[.bool true, .int .u16 k] 31)).alloc (.cells ZP 34)) w.heap.size #[.bool true, .int .u16 k] 31 := (Row.new _ _ _).alloc _
  have r1 : Row ((w.alloc (.cells #[.bool true, .int .u16 k] 31)).alloc (.cells ZP 34)) (w.heap.size + 1) ZP 34 := by have := Row.new (w.alloc (.cells #[.bool true, .int .u16 k] 31)) ZP 34; rw [e1] at this; exact this
  have HBW : Hid (IntKind.u32.wrap b = b) := by show _ = _; rw [IntKind.wrap_u32]; omega
  have hbw := HBW.out
  have HPU : Hid (∀ W X, Row W X (fO b).arr 130 → Calls Try.prog 54 #[.int .u16 k, .agg #[.int .u64 lsn, .slice (some ⟨X, 0, none⟩) 1 1]] W fun e w' => e = .returned (.tuple #[.agg (bs (putU k lsn [fO b])), .bool (may [fO b])]) ∧ Below W.heap.size W w') := fun W X h => rputUndo_any k lsn _ [fO b] W (olds_one h) (fun o ho => by rw [List.mem_singleton.1 ho]; exact fO_fits hb) hk hl
  have bu := built130f b
  have hla : ((fO b).arr).size = 6 := rfl
  obtain ⟨FO, HFO⟩ : ∃ FO, Hid ((fO b).arr = FO) := ⟨_, rfl⟩
  rw [HFO.out] at HPU bu hla
  have HLA : Hid (FO.size = 6) := hla
  have HRS : Hid ((bs (putU k lsn [fO b])).size = 224) := by rw [bs_size]; exact putU_length k lsn [fO b]
  have hro := bs_one (putU k lsn [fO b])
  obtain ⟨RP, HRP⟩ : ∃ RP, Hid (bs (putU k lsn [fO b]) = RP) := ⟨_, rfl⟩
  obtain ⟨mb, HMB⟩ : ∃ mb, Hid (may [fO b] = mb) := ⟨_, rfl⟩
  rw [HRP.out, HMB.out] at HPU
  rw [HRP.out] at HRS hro HPP
  have hb3 := built103f lsn
  clear hk hb hl ab0 e1 hla
  go_enter Try.func19, Try.ntmps19
  go_upto_region 1 with fail
  generalize ((w.alloc (.cells #[.bool true, .int .u16 k] 31)).alloc (.cells ZP 34)) = W0 at r0 r1 ab ⊢
  obtain ⟨A0, HA0⟩ : ∃ A0, Hid (w.heap.size = A0) := ⟨_, rfl⟩
  obtain ⟨A1, HA1D⟩ : ∃ A1, Hid (w.heap.size + 1 = A1) := ⟨_, rfl⟩
  have e2 : (w.alloc (.cells #[.bool true, .int .u16 k] 31)).heap.size = w.heap.size + 1 := Array.size_push ..
  rw [HA1D.out] at r1
  try rw [e2]
  try rw [HA1D.out]
  have HA1 : Hid (w.heap.size ≤ A1) := by rw [← HA1D.out]; show _ ≤ _; omega
  rw [HA0.out] at r0 ⊢
  clear e2
  have q0 := row_at r0 0 _ rfl
  have q1 := row_at r0 1 _ rfl
  have tb : Hid (1 = 1) := rfl
  have tc : Hid (1 = 1) := rfl
  have td : Hid (1 = 1) := rfl
  have te : Hid (1 = 1) := rfl
  have tf : Hid (1 = 1) := rfl
  have tg : Hid (1 = 1) := rfl
  go_wp2_with (first
    | (have hh := tb; clear hh tb; refine build_parts rfl 130 #[(0, .const (.bool true)), (2, .tmp 16)] rfl [(0, .bool true), (2, .int .u32 b)] rfl FO bu ?_)
    | (have hh := tc; clear hh tc; refine wpList_plain rfl fun K hK => wp_old_one (.tmp 17) rfl FO HLA.out rfl (hK _ _ ?_); have rX : Row (W0.alloc (.cells FO 130)) W0.heap.size FO 130 := Row.new _ _ _; have hpu := HPU.out _ _ rX; have ab1 := ab.alloc ab.size (.cells FO 130); have r11 := r1.alloc (.cells FO 130))
    | (have hh := td; clear hh td; refine build_parts rfl 103 #[(0, .tmp 14), (1, .tmp 18)] rfl [(0, .int .u64 lsn), (1, .slice (some ⟨W0.heap.size, 0, none⟩) 1 1)] rfl _ (hb3 W0.heap.size) ?_)
    | (have hh := hpu; clear hh; go_at_call 54; refine Calls.mono hpu ?_; clear hpu; rintro e W3 ⟨he, hb4⟩; obtain rfl := he; have ab3 := ab1.trans (hb4.mono ab1.size); have r13 := r11.below hb4 r11.lt; have rY : Row (W3.alloc (.cells ZP 34)) W3.heap.size ZP 34 := Row.new _ _ _)
    | (have hh := te; clear hh te; refine store_cells rfl 34 (.tmp 7) (.tmp 21) rfl W3.heap.size RP rfl rfl 34 _ rY 224 size34 HZP.out HRS.out hro ?_; have ab4 := ab3.alloc ab3.size (.cells ZP 34); have rZ := rY.set RP; have r14 : Row ((W3.alloc (.cells ZP 34)).setRow W3.heap.size RP) A1 ZP 34 := (r13.alloc (.cells ZP 34)).other (by have := r13.lt; omega) RP; have ab5 := below_setRow ab4 ab3.size RP)
    | (have hh := tf; clear hh tf; refine load_cells rfl 34 (.tmp 7) rfl W3.heap.size rfl 34 RP rZ 224 Try.underlying34 rfl size34 HRS.out ?_)
    | (have hh := tg; clear hh tg; refine store_cells rfl 34 (.tmp 6) (.tmp 23) rfl A1 RP rfl rfl 34 _ r14 224 size34 HZP.out HRS.out hro ?_))
  refine bodyPost_ret (v := .agg RP) (ret_cell (fn := Try.f19) rfl _ _ A1 34 RP _ rfl (r14.set RP) Try.underlying34 rfl (by rw [size34, HRS.out])) rfl ?_
  rw [HPP.out]
  exact ⟨rfl, below_setRow ab5 HA1.out _⟩
set_option maxHeartbeats 2000000 in
theorem fill_d (k b lsn : Int) (hk : 0 ≤ k ∧ k ≤ 65535) (hb : 0 ≤ b ∧ b ≤ 255) (hl : 0 ≤ lsn ∧ lsn ≤ 18446744073709551615) (w : World) : Calls Try.prog 19 #[.agg #[.bool false, .int .u16 k], .int .u8 b, .int .u64 lsn] w fun e w' => e = .returned (.agg (bs (putD k ⟨lsn, b, 0, 0, zs 64⟩))) ∧ Below w.heap.size w w' := by
  obtain ⟨PP, HPP⟩ : ∃ PP : Ending → World → Prop, Hid (PP = fun e w' => e = .returned (.agg (bs (putD k ⟨lsn, b, 0, 0, zs 64⟩))) ∧ Below w.heap.size w w') := ⟨_, rfl⟩
  rw [← HPP.out]
  have hz34 := zero34
  obtain ⟨ZP, HZPD⟩ : ∃ ZP, Hid (bs (zs 224) = ZP) := ⟨_, rfl⟩
  have HZP : Hid (ZP.size = 224) := by rw [← HZPD.out, bs_size]; exact zs_length _
  rw [HZPD.out] at hz34
  have e1 : (w.alloc (.cells #[.bool false, .int .u16 k] 31)).heap.size = w.heap.size + 1 := Array.size_push ..
  have ab0 : Below w.heap.size w (w.alloc (.cells #[.bool false, .int .u16 k] 31)) := (Below.refl _ _).alloc (Nat.le_refl _) _
  have ab : Below w.heap.size w ((w.alloc (.cells #[.bool false, .int .u16 k] 31)).alloc (.cells ZP 34)) := ab0.alloc ab0.size _
  have r0 : Row ((w.alloc (.cells #[.bool false, .int .u16 k] 31)).alloc (.cells ZP 34)) w.heap.size #[.bool false, .int .u16 k] 31 := (Row.new _ _ _).alloc _
  have r1 : Row ((w.alloc (.cells #[.bool false, .int .u16 k] 31)).alloc (.cells ZP 34)) (w.heap.size + 1) ZP 34 := by have := Row.new (w.alloc (.cells #[.bool false, .int .u16 k] 31)) ZP 34; rw [e1] at this; exact this
  have HBW : Hid (IntKind.u32.wrap b = b) := by show _ = _; rw [IntKind.wrap_u32]; omega
  have hbw := HBW.out
  have HPU : Hid (∀ W, Calls Try.prog 55 #[.int .u16 k, .agg (D.mk lsn b 0 0 (zs 64)).arr] W fun e w' => e = .returned (.agg (bs (putD k ⟨lsn, b, 0, 0, zs 64⟩))) ∧ Below W.heap.size W w') := fun W => rputData_any k ⟨lsn, b, 0, 0, zs 64⟩ W hk ⟨hl, (by show 0 ≤ b ∧ b ≤ 4294967295; omega), (by show (0 : Int) ≤ 0 ∧ (0 : Int) ≤ 65535; omega), (by show (0 : Int) ≤ 0 ∧ (0 : Int) ≤ 255; omega), zs_length _, zs_bytes _⟩
  have bu := built109f lsn b
  obtain ⟨DA, HDA⟩ : ∃ DA, Hid ((D.mk lsn b 0 0 (zs 64)).arr = DA) := ⟨_, rfl⟩
  rw [HDA.out] at HPU bu
  have HRS : Hid ((bs (putD k ⟨lsn, b, 0, 0, zs 64⟩)).size = 224) := by rw [bs_size]; exact putD_length _ _ (zs_length _)
  have hro := bs_one (putD k ⟨lsn, b, 0, 0, zs 64⟩)
  obtain ⟨RP, HRP⟩ : ∃ RP, Hid (bs (putD k ⟨lsn, b, 0, 0, zs 64⟩) = RP) := ⟨_, rfl⟩
  rw [HRP.out] at HPU HRS hro HPP
  clear hk hb hl ab0 e1
  go_enter Try.func19, Try.ntmps19
  go_upto_region 1 with fail
  generalize ((w.alloc (.cells #[.bool false, .int .u16 k] 31)).alloc (.cells ZP 34)) = W0 at r0 r1 ab ⊢
  obtain ⟨A0, HA0⟩ : ∃ A0, Hid (w.heap.size = A0) := ⟨_, rfl⟩
  obtain ⟨A1, HA1D⟩ : ∃ A1, Hid (w.heap.size + 1 = A1) := ⟨_, rfl⟩
  have e2 : (w.alloc (.cells #[.bool false, .int .u16 k] 31)).heap.size = w.heap.size + 1 := Array.size_push ..
  rw [HA1D.out] at r1
  try rw [e2]
  try rw [HA1D.out]
  have HA1 : Hid (w.heap.size ≤ A1) := by rw [← HA1D.out]; show _ ≤ _; omega
  rw [HA0.out] at r0 ⊢
  clear e2
  have q0 := row_at r0 0 _ rfl
  have q1 := row_at r0 1 _ rfl
  have tb : Hid (1 = 1) := rfl
  have tg : Hid (1 = 1) := rfl
  have hpu := HPU.out W0
  go_wp2_with (first
    | (have hh := tb; clear hh tb; refine build_parts rfl 109 #[(0, .tmp 26), (1, .tmp 28)] rfl [(0, .int .u64 lsn), (1, .int .u32 b)] rfl DA bu ?_)
    | (have hh := hpu; clear hh; go_at_call 55; refine Calls.mono hpu ?_; clear hpu; rintro e W3 ⟨he, hb4⟩; obtain rfl := he; have ab3 := ab.trans (hb4.mono ab.size); have r13 := r1.below hb4 r1.lt)
    | (have hh := tg; clear hh tg; refine store_cells rfl 34 (.tmp 6) (.tmp 30) rfl A1 RP rfl rfl 34 _ r13 224 size34 HZP.out HRS.out hro ?_))
  refine bodyPost_ret (v := .agg RP) (ret_cell (fn := Try.f19) rfl _ _ A1 34 RP _ rfl (r13.set RP) Try.underlying34 rfl (by rw [size34, HRS.out])) rfl ?_
  rw [HPP.out]
  exact ⟨rfl, below_setRow ab3 HA1.out _⟩
theorem fill_any (u : Bool) (k b lsn : Int) (hk : WfU k) (hb : 0 ≤ b ∧ b ≤ 255) (hl : 0 ≤ lsn ∧ lsn ≤ 18446744073709551615) (w : World) : Calls Try.prog 19 #[idv u k, .int .u8 b, .int .u64 lsn] w fun e w' => e = .returned (.agg (bs (fillP u k b lsn))) ∧ Below w.heap.size w w' := by
  cases u with
  | true => exact fill_u k b lsn (wfu hk) hb hl w
  | false => exact fill_d k b lsn (wfu hk) hb hl w
theorem fillP_length (u : Bool) (k b lsn : Int) : (fillP u k b lsn).length = 224 := by
  unfold fillP
  split
  · exact putU_length k lsn [fO b]
  · exact putD_length _ _ (zs_length _)
theorem flush_ops {l : Lg} (hi : l.Inv) (d : Dsk) : (flushR l d).2.2.ops ≤ d.ops + 1000 := by
  have h := closed_len hi
  unfold flushR flushC
  split
  · have h1 := layR_ops l.closed.at_ l.closed.size (l.closed.sealed.take 1) d
    have h2 := layR_ops l.closed.at_ l.closed.size (l.closed.sealed.drop 1) (layR l.closed.at_ l.closed.size (l.closed.sealed.take 1) d).2
    have h3 : (l.closed.sealed.take 1).length ≤ 1 := by rw [List.length_take]; omega
    have h4 : (l.closed.sealed.drop 1).length ≤ 700 := by rw [List.length_drop]; omega
    split
    · unfold restR
      simp only
      split
      · show (layR l.closed.at_ l.closed.size (l.closed.sealed.drop 1) _).2.ops ≤ _; omega
      · show (layR l.closed.at_ l.closed.size (l.closed.sealed.drop 1) _).2.ops ≤ _; omega
    · show (layR l.closed.at_ l.closed.size (l.closed.sealed.take 1) d).2.ops ≤ _; omega
  · have h1 := layR_ops l.closed.at_ l.closed.size (l.closed.sealed.drop 0) d
    have h4 : (l.closed.sealed.drop 0).length ≤ 700 := by rw [List.drop_zero]; omega
    unfold restR
    split
    · show (layR l.closed.at_ l.closed.size (l.closed.sealed.drop 0) _).2.ops ≤ _; omega
    · show (layR l.closed.at_ l.closed.size (l.closed.sealed.drop 0) _).2.ops ≤ _; omega
theorem log0_inv : log0.Inv := ⟨by decide, by decide, by decide, by decide, by decide, by decide, (fun c hc => nomatch hc), by decide⟩
def CS (w0 : World) (F : Nat → Prop) (gc gd gl gk ak : Nat) (s : Cs) (l : Lg) (d : Dsk) (M : Int) (N : Nat) (W : World) : Prop := Below w0.heap.size w0 W ∧ CL W F gc gd gl gk ak s l d M N ∧ ∀ j, F j → w0.heap.size ≤ j
def Tr (F : Nat → Prop) (W : World) (F' : Nat → Prop) (W' : World) : Prop := Off F W W' ∧ ∀ k, k < W.heap.size → F' k → F k
def CLoc (F : Nat → Prop) (W : World) (k : Nat) (cs : Array Value) (t : TypeId) : Prop := Row W k cs t ∧ ¬ F k
theorem CLoc.tr {F F' : Nat → Prop} {W W' : World} {k : Nat} {cs : Array Value} {t : TypeId} (h : CLoc F W k cs t) (q : Tr F W F' W') : CLoc F' W' k cs t := ⟨h.1.off q.1 h.2, fun y => h.2 (q.2 k h.1.lt y)⟩
theorem CLoc.below {F : Nat → Prop} {W W' : World} {k : Nat} {cs : Array Value} {t : TypeId} (h : CLoc F W k cs t) (hb : Below W.heap.size W W') : CLoc F W' k cs t := ⟨h.1.below hb h.1.lt, h.2⟩
theorem CS.step {w0 : World} {F : Nat → Prop} {gc gd gl gk ak : Nat} {s s' : Cs} {l l' : Lg} {d d' : Dsk} {M M' : Int} {N N' : Nat} {W W' : World} (h : CS w0 F gc gd gl gk ak s l d M N W) (hst : CStep W F gc gd gl gk ak s' l' d' M' N' W') : ∃ F', CS w0 F' gc gd gl gk ak s' l' d' M' N' W' ∧ Tr F W F' W' := by
  obtain ⟨o, F', c, k⟩ := hst
  refine ⟨F', ⟨h.1.trans (o.below h.1.size h.2.2), c, fun j q => ?_⟩, o, k⟩
  rcases Nat.lt_or_ge j W.heap.size with y | y
  · exact h.2.2 j (k j y q)
  · have := h.1.size; omega
theorem CS.below {w0 : World} {F : Nat → Prop} {gc gd gl gk ak : Nat} {s : Cs} {l : Lg} {d : Dsk} {M : Int} {N : Nat} {W W' : World} (h : CS w0 F gc gd gl gk ak s l d M N W) (hb : Below W.heap.size W W') : CS w0 F gc gd gl gk ak s l d M N W' := ⟨h.1.trans (hb.mono h.1.size), h.2.1.below hb, h.2.2⟩
theorem CS.alloc {w0 : World} {F : Nat → Prop} {gc gd gl gk ak : Nat} {s : Cs} {l : Lg} {d : Dsk} {M : Int} {N : Nat} {W : World} (h : CS w0 F gc gd gl gk ak s l d M N W) (o : Obj) : CS w0 F gc gd gl gk ak s l d M N (W.alloc o) := h.below ((Below.refl _ _).alloc (Nat.le_refl _) _)
theorem CLoc.alloc {F : Nat → Prop} {W : World} {k : Nat} {cs : Array Value} {t : TypeId} (h : CLoc F W k cs t) (o : Obj) : CLoc F (W.alloc o) k cs t := h.below ((Below.refl _ _).alloc (Nat.le_refl _) _)
theorem CS.newLoc {w0 : World} {F : Nat → Prop} {gc gd gl gk ak : Nat} {s : Cs} {l : Lg} {d : Dsk} {M : Int} {N : Nat} {W : World} (h : CS w0 F gc gd gl gk ak s l d M N W) (cs : Array Value) (t : TypeId) : CLoc F (W.alloc (.cells cs t)) W.heap.size cs t := ⟨Row.new _ _ _, fun q => by have := h.2.1.lt _ q; omega⟩
theorem CS.row {w0 : World} {F : Nat → Prop} {gc gd gl gk ak : Nat} {s : Cs} {l : Lg} {d : Dsk} {M : Int} {N : Nat} {W : World} (h : CS w0 F gc gd gl gk ak s l d M N W) {A : Nat} {c0 : Array Value} {t : TypeId} (hl : CLoc F W A c0 t) (hA : w0.heap.size ≤ A) (cs : Array Value) : CS w0 F gc gd gl gk ak s l d M N (W.setRow A cs) :=
  ⟨below_setRow h.1 hA _, h.2.1.off (G := (· = A)) (Off.of_setRow _ _ _ rfl) (fun j q e => hl.2 (by rw [← e]; exact q)), h.2.2⟩
theorem CLoc.set {F : Nat → Prop} {W : World} {k : Nat} {c0 : Array Value} {t : TypeId} (h : CLoc F W k c0 t) (cs : Array Value) : CLoc F (W.setRow k cs) k cs t := ⟨h.1.set cs, h.2⟩
theorem CLoc.other {F : Nat → Prop} {W : World} {k g : Nat} {c0 : Array Value} {t : TypeId} (h : CLoc F W k c0 t) (hg : k ≠ g) (cs : Array Value) : CLoc F (W.setRow g cs) k c0 t := ⟨h.1.off (F := (· = g)) (Off.of_setRow _ _ _ rfl) hg, h.2⟩
theorem blankP_head (u : Bool) (k : Int) : (blankP u k).getD 0 0 ≠ 0 := by
  unfold blankP
  split
  · have hm : may [] = true := by decide
    unfold putU
    rw [if_pos hm]
    rw [payT_at 2 k 0 (undoT []) (by decide) 0 (Or.inl (by omega))]
    show ((2 : Int) ≠ 0)
    decide
  · unfold putD
    show (payT 1 k 0 (dataT D.zero)).getD 0 0 ≠ 0
    rw [payT_at 1 k 0 (dataT D.zero) (by decide) 0 (Or.inl (by omega))]
    show ((1 : Int) ≠ 0)
    decide
theorem isD_head (no : Int) (p : List Int) (hb : p.length = 224) (hy : Bytes p) (h : isD no p = true) : p.getD 0 0 = 1 := by
  unfold isD at h
  have e := of_decide_eq_true h
  rw [← e]
  unfold putD
  rw [payT_at 1 no _ _ (by rw [dataT_length _ (by show ((p.drop 22).take 64).length = 64; rw [List.length_take, List.length_drop]; omega)]; omega) 0 (Or.inl (by omega))]
  rfl
def awkP : List Int := fillP false 1 7 3
theorem awkP_is : isP false 1 awkP = true := isD_putD 1 ⟨3, 7, 0, 0, zs 64⟩ ⟨by decide, by decide, by decide, by decide, zs_length _, zs_bytes _⟩
theorem pay_zs : Sl.payN (zs 256) 4 = zs 224 := by decide +kernel
theorem open_zs (u : Bool) (k : Int) (h : isP u k (zs 224) = false) : openF u k (zs 256) = ⟨u, k, blankP u k, true, false, 0⟩ := by
  unfold openF
  rw [pay_zs, if_neg (by rw [h]; simp)]
theorem isD_zs (k : Int) : isD k (zs 224) = false := by
  cases q : isD k (zs 224) with
  | false => rfl
  | true =>
    have := isD_head k (zs 224) (zs_length _) (zs_bytes _) q
    have h0 : (zs 224).getD 0 0 = 0 := by decide
    omega
theorem awk_first {p : List Int} {E : Int} {s1 : Cs} {l1 : Lg} {d1 : Dsk} (h : Fetches (newC 4 5 4) log0 (Dsk.new 60) false 1 p E s1 l1 d1) :
    p = blankP false 1 ∧ E = 0 ∧ l1 = log0 ∧ d1.ops = 1 ∧ ∃ f, s1.fs = [f] ∧ f.un = false ∧ f.no = 1 ∧ (s1.ck[0]?).map Cl.Fr.pins = some 1 ∧ isC s1 false 1 = true := by
  have hc : isC (newC 4 5 4) false 1 = true := by decide
  have hp : posF (newC 4 5 4).fs false 1 = none := rfl
  rcases h with ⟨h1, _⟩ | ⟨_, i, f, h1, _⟩ | ⟨_, _, i1, E1, s2, hl, hr⟩
  · rw [hc] at h1; cases h1
  · rw [hp] at h1; cases h1
  · obtain ⟨i, E0, s0, d0, hv, hl⟩ := hl
    have hv2 : i = 0 ∧ E0 = 0 ∧ s0 = newC 4 5 4 ∧ l1 = log0 ∧ d0 = Dsk.new 60 := by
      rcases hv with ⟨_, h1, h2, h3, h4, h5⟩ | ⟨h1, _⟩
      · exact ⟨h1, h2, h3, h4, h5⟩
      · exact absurd (show (0 : Nat) = 4 from h1) (by omega)
    obtain ⟨rfl, rfl, rfl, rfl, rfl⟩ := hv2
    have hrd : read (Dsk.new 60) (placeC (newC 4 5 4).pages false 1) = (zs 256, 0, (Dsk.new 60).tick 1) := by
      have e : placeC (newC 4 5 4).pages false 1 = 3 := by decide
      rw [e, read_well (new_well 60) 3 (by decide), new_seen]
      rfl
    rw [hrd] at hl
    have hof : openF false 1 (zs 256) = ⟨false, 1, blankP false 1, true, false, 0⟩ := open_zs false 1 (isD_zs 1)
    rcases hl with ⟨h1, _⟩ | ⟨_, h1, _⟩ | ⟨_, _, rfl, rfl, rfl, rfl⟩
    · exact absurd rfl h1
    · exact absurd rfl h1
    · rw [hof] at hr
      rcases hr with ⟨h1, _⟩ | ⟨_, rfl, rfl, f, hf, rfl⟩
      · exact absurd rfl h1
      · have hf2 : f = ⟨false, 1, blankP false 1, true, false, 0⟩ := by
          have : ([⟨false, 1, blankP false 1, true, false, 0⟩] : List Fm)[0]? = some f := hf
          simpa using this.symm
        subst hf2
        exact ⟨rfl, rfl, rfl, rfl, _, rfl, rfl, rfl, rfl, rfl⟩
theorem awk_rest {s1 : Cs} {f : Fm} (hfs : s1.fs = [f]) (hu : f.un = false) (hk : f.no = 1) (hp : (s1.ck[0]?).map Cl.Fr.pins = some 1) (hc : isC s1 false 1 = true) {l1 : Lg} {d1 : Dsk} {q : List Int} {E2 : Int} {s3 : Cs} {l3 : Lg} {d3 : Dsk} (h : Fetches (putS s1 false 1 awkP) l1 d1 false 1 q E2 s3 l3 d3) :
    q = awkP ∧ E2 = 0 ∧ pinsC s3 false 1 = 2 ∧ cleanC s3 false 1 = false := by
  have hpos : posF s1.fs false 1 = some 0 := by
    rw [hfs]
    unfold posF
    simp [hu, hk]
  obtain ⟨x0, hx0, hx1⟩ : ∃ x0, s1.ck[0]? = some x0 ∧ x0.pins = 1 := by
    cases q : s1.ck[0]? with
    | none => rw [q] at hp; cases hp
    | some x => rw [q] at hp; exact ⟨x, rfl, by simpa using hp⟩
  have hpc : pinsC s1 false 1 = 1 := by unfold pinsC; rw [hpos]; show ((s1.ck[0]?).map Cl.Fr.pins).getD 0 = 1; rw [hp]; rfl
  have he : putE s1 false 1 awkP = 0 := by unfold putE; rw [hpc, if_neg (by decide), awkP_is, if_pos rfl]
  have hf0 : s1.fs[0]? = some f := by rw [hfs]; rfl
  have hs2 : putS s1 false 1 awkP = { s1 with fs := [putF f awkP] } := by
    unfold putS
    rw [if_pos he, hpos]
    simp only [hf0]
    rw [hfs]; rfl
  rw [hs2] at h
  have hpos2 : posF [putF f awkP] false 1 = some 0 := by
    unfold posF
    simp [putF, hu, hk]
  rcases h with ⟨h1, _⟩ | ⟨_, i, g, h1, h2, rfl, rfl, rfl, _⟩ | ⟨_, h1, _⟩
  · have : isC s1 false 1 = false := h1
    rw [hc] at this; cases this
  · have h1' : posF [putF f awkP] false 1 = some i := h1
    rw [hpos2] at h1'
    cases h1'
    have h2' : ([putF f awkP] : List Fm)[0]? = some g := h2
    have hg : g = putF f awkP := by simpa using h2'.symm
    subst hg
    refine ⟨rfl, rfl, ?_, ?_⟩
    · unfold pinsC
      show (match posF [putF f awkP] false 1 with | some i => (((fetchP { s1 with fs := [putF f awkP] } 0).ck[i]?).map Cl.Fr.pins).getD 0 | none => 0) = 2
      rw [hpos2]
      unfold fetchP
      simp only [hx0]
      have hl := (List.getElem?_eq_some_iff.1 hx0).1
      rw [List.getElem?_set_self hl]
      show x0.pins + 1 = 2
      omega
    · unfold cleanC
      show (match posF [putF f awkP] false 1 with | some i => !((([putF f awkP] : List Fm)[i]?).map Fm.dirty).getD false | none => true) = false
      rw [hpos2]
      rfl
  · have h1' : posF [putF f awkP] false 1 = none := h1
    rw [hpos2] at h1'; cases h1'
theorem awk_put {s1 : Cs} {f : Fm} (hfs : s1.fs = [f]) (hu : f.un = false) (hk : f.no = 1) (hp : (s1.ck[0]?).map Cl.Fr.pins = some 1) : putE s1 false 1 awkP = 0 := by
  have hpos : posF s1.fs false 1 = some 0 := by
    rw [hfs]
    unfold posF
    simp [hu, hk]
  obtain ⟨x0, hx0, hx1⟩ : ∃ x0, s1.ck[0]? = some x0 ∧ x0.pins = 1 := by
    cases q : s1.ck[0]? with
    | none => rw [q] at hp; cases hp
    | some x => rw [q] at hp; exact ⟨x, rfl, by simpa using hp⟩
  have hpc : pinsC s1 false 1 = 1 := by unfold pinsC; rw [hpos]; show ((s1.ck[0]?).map Cl.Fr.pins).getD 0 = 1; rw [hp]; rfl
  unfold putE; rw [hpc, if_neg (by decide), awkP_is, if_pos rfl]
theorem zero31 (w : World) : (zeroValue 31).run Try.prog w = .ok (.agg #[.bool false, .int .u16 0]) w := (zero_of_info (P := Try.prog) (t := 31) (v := .agg #[.bool false, .int .u16 0]) (n := 2) (by kernel_rfl)).1 w
theorem fillP_bytes (u : Bool) (k b lsn : Int) : Bytes (fillP u k b lsn) := by
  unfold fillP
  split
  · exact putU_bytes k lsn [fO b]
  · exact putD_bytes _ _ (zs_bytes _)
theorem wfu1 : WfU 1 := rfl
def Awk3 (w : World) (F2 : Nat → Prop) (W2 : World) (gc gd gl gk ak : Nat) (e : Ending) (w' : World) : Prop :=
  ∃ (s1 : Cs) (d1 : Dsk) (f : Fm) (F3 : Nat → Prop), e = .returned (.tuple #[.agg (bs (blankP false 1)), .int .i64 0]) ∧ CS w F3 gc gd gl gk ak s1 log0 d1 1 4004 w' ∧ Tr F2 W2 F3 w' ∧ d1.ops = 1 ∧ s1.fs = [f] ∧ f.un = false ∧ f.no = 1 ∧ (s1.ck[0]?).map Cl.Fr.pins = some 1 ∧ isC s1 false 1 = true
theorem awk3_any {w : World} {F : Nat → Prop} {W : World} {gc gd gl gk ak : Nat} (h : CS w F gc gd gl gk ak (newC 4 5 4) log0 (Dsk.new 60) 0 0 W) : Calls Try.prog 16 #[.pointer (some ⟨gc, 0, none⟩), .agg #[.bool false, .int .u16 1]] W fun e w' => Awk3 w F W gc gd gl gk ak e w' := by
  refine (fetch_any h.2.1 false 1 wfu1 log0_inv (by decide) (by decide) (flush_ops log0_inv _) (by decide) (by decide)).mono ?_
  rintro e w' ⟨p, E, s1, l1, d1, hf, he, hst⟩
  obtain ⟨rfl, rfl, rfl, hd, f, h1, h2, h3, h4, h5⟩ := awk_first hf
  obtain ⟨F3, k1, k2⟩ := h.step hst
  exact ⟨s1, d1, f, F3, he, k1, k2, hd, h1, h2, h3, h4, h5⟩
def Awk7 (w : World) (F2 : Nat → Prop) (W2 : World) (gc gd gl gk ak : Nat) (e : Ending) (w' : World) : Prop :=
  ∃ (s3 : Cs) (l3 : Lg) (d3 : Dsk) (F3 : Nat → Prop), e = .returned (.tuple #[.agg (bs awkP), .int .i64 0]) ∧ CS w F3 gc gd gl gk ak s3 l3 d3 2 8008 w' ∧ Tr F2 W2 F3 w' ∧ pinsC s3 false 1 = 2 ∧ cleanC s3 false 1 = false
theorem awk7_any {w : World} {F : Nat → Prop} {W : World} {gc gd gl gk ak : Nat} {s1 : Cs} {d1 : Dsk} {f : Fm} (h : CS w F gc gd gl gk ak (putS s1 false 1 awkP) log0 d1 1 4004 W) (hd : d1.ops = 1) (h1 : s1.fs = [f]) (h2 : f.un = false) (h3 : f.no = 1) (h4 : (s1.ck[0]?).map Cl.Fr.pins = some 1) (h5 : isC s1 false 1 = true) : Calls Try.prog 16 #[.pointer (some ⟨gc, 0, none⟩), .agg #[.bool false, .int .u16 1]] W fun e w' => Awk7 w F W gc gd gl gk ak e w' := by
  refine (fetch_any h.2.1 false 1 wfu1 log0_inv (by decide) (by omega) (flush_ops log0_inv _) (by decide) (by decide)).mono ?_
  rintro e w' ⟨p, E, s3, l3, d3, hf, he, hst⟩
  obtain ⟨rfl, rfl, k3, k4⟩ := awk_rest h1 h2 h3 h4 h5 hf
  obtain ⟨F3, k1, k2⟩ := h.step hst
  exact ⟨s3, l3, d3, F3, he, k1, k2, k3, k4⟩
set_option maxHeartbeats 4000000 in
theorem awake_any (w : World) : Calls Try.prog 14 #[] w fun e w' => e = .returned (.bool true) ∧ Below w.heap.size w w' := by
  obtain ⟨PP, HPP⟩ : ∃ PP : Ending → World → Prop, Hid (PP = fun e w' => e = .returned (.bool true) ∧ Below w.heap.size w w') := ⟨_, rfl⟩
  rw [← HPP.out]
  have hz34 := zero34
  have hz31 := zero31
  obtain ⟨ZP, HZPD⟩ : ∃ ZP, Hid (bs (zs 224) = ZP) := ⟨_, rfl⟩
  have HZP : Hid (ZP.size = 224) := by rw [← HZPD.out, bs_size]; exact zs_length _
  rw [HZPD.out] at hz34
  have bu := built31 1
  have hov := over_any 4 (by omega) w
  obtain ⟨PB0, HPB0⟩ : ∃ PB0, Hid (bs (blankP false 1) = PB0) := ⟨_, rfl⟩
  have HP0 : Hid (PB0.size = 224) := by rw [← HPB0.out, bs_size]; exact blankP_length _ _
  have ho0 : PB0.all (·.oneCell') = true := by rw [← HPB0.out]; exact bs_one _
  obtain ⟨PB1, HPB1⟩ : ∃ PB1, Hid (bs awkP = PB1) := ⟨_, rfl⟩
  have HP1 : Hid (PB1.size = 224) := by rw [← HPB1.out, bs_size]; exact fillP_length _ _ _ _
  have ho1 : PB1.all (·.oneCell') = true := by rw [← HPB1.out]; exact bs_one _
  have HBL : Hid (∀ W, Calls Try.prog 15 #[.agg #[.bool false, .int .u16 1]] W fun e w' => e = .returned (.agg PB0) ∧ Below W.heap.size W w') := fun W => by rw [← HPB0.out]; exact blank_any false 1 W (by decide)
  have HFL : Hid (∀ W, Calls Try.prog 19 #[.agg #[.bool false, .int .u16 1], .int .u8 7, .int .u64 3] W fun e w' => e = .returned (.agg PB1) ∧ Below W.heap.size W w') := fun W => by rw [← HPB1.out]; exact fill_any false 1 7 3 wfu1 (by decide) (by decide) W
  have HEQ0 : Hid (∀ w, (Op.equalIn 10000 34 (.agg PB0) (.agg PB0)).run Try.prog w = .ok true w) := fun w => by
    have := equal34 (blankP false 1) (blankP false 1) (blankP_length _ _) (blankP_length _ _) w
    rw [HPB0.out] at this
    rw [this, decide_eq_true rfl]
  have HEQ1 : Hid (∀ w, (Op.equalIn 10000 34 (.agg PB1) (.agg PB1)).run Try.prog w = .ok true w) := fun w => by
    have := equal34 awkP awkP (fillP_length _ _ _ _) (fillP_length _ _ _ _) w
    rw [HPB1.out] at this
    rw [this, decide_eq_true rfl]
  have t0 : Hid (1 = 1) := rfl
  have t1 : Hid (1 = 1) := rfl
  have t2 : Hid (1 = 1) := rfl
  have t3 : Hid (1 = 1) := rfl
  have t4 : Hid (1 = 1) := rfl
  go_enter Try.func14, Try.ntmps14
  go_upto_region 5 with (first
    | (have hh := hov; clear hh; go_at_call 8; refine Calls.mono hov ?_; clear hov; rintro e W1 ⟨gd, gl, gc, gk, ak, F1, he, hb1, c1, hF1⟩; obtain rfl := he; have hc1 : CS w F1 gc gd gl gk ak (newC 4 5 4) log0 (Dsk.new 60) 0 0 W1 := ⟨hb1, c1, hF1⟩; have l4 : CLoc F1 (W1.alloc (.cells #[.bool false, .int .u16 0] 31)) W1.heap.size #[.bool false, .int .u16 0] 31 := hc1.newLoc _ _)
    | (have hh := t0; clear hh t0; refine build_parts rfl 31 #[(1, .const (.int .u16 1))] rfl [(1, .int .u16 1)] rfl _ bu ?_)
    | (have hh := t1; clear hh t1; refine store_cells rfl 31 (.tmp 4) (.tmp 25) rfl W1.heap.size #[.bool false, .int .u16 1] rfl rfl 31 _ l4.1 2 size31 rfl rfl (by simp [Value.oneCell']) ?_))
  have hc2 := (hc1.alloc (.cells #[.bool false, .int .u16 0] 31)).row l4 hb1.size #[.bool false, .int .u16 1]
  have q4 := l4.set #[.bool false, .int .u16 1]
  have HA4 : Hid (w.heap.size ≤ W1.heap.size) := hb1.size
  clear hc1 l4 c1 hF1 hb1
  generalize (W1.alloc (.cells #[.bool false, .int .u16 0] 31)).setRow W1.heap.size #[.bool false, .int .u16 1] = W2 at hc2 q4 ⊢
  generalize W1.heap.size = A4 at q4 HA4 ⊢
  have hf3 := awk3_any hc2
  rw [show Awk3 w F1 W2 gc gd gl gk ak = fun e w' => Awk3 w F1 W2 gc gd gl gk ak e w' from rfl] at hf3
  go_upto_region 6 with (first
    | (have hh := t2; clear hh t2; refine load_cells rfl 31 (.tmp 4) rfl A4 rfl 31 #[.bool false, .int .u16 1] q4.1 2 Try.underlying31 rfl size31 rfl ?_)
    | (have hh := hf3; clear hh; go_at_call 16; refine Calls.mono hf3 ?_; clear hf3; rintro e W3 ⟨s1, d1, f, F3, he, hc3, tr3, hd1, k1, k2, k3, k4, k5⟩; rw [HPB0.out] at he; obtain rfl := he; have q43 := q4.tr tr3; have HS1 : Hid (d1.ops = 1 ∧ s1.fs = [f] ∧ f.un = false ∧ f.no = 1 ∧ (s1.ck[0]?).map Cl.Fr.pins = some 1 ∧ isC s1 false 1 = true) := ⟨hd1, k1, k2, k3, k4, k5⟩; clear hd1 k1 k2 k3 k4 k5; have l5 : CLoc F3 (W3.alloc (.cells ZP 34)) W3.heap.size ZP 34 := hc3.newLoc _ _)
    | (have hh := t3; clear hh t3; refine store_cells rfl 34 (.tmp 5) (.tmp 30) rfl W3.heap.size PB0 rfl rfl 34 _ l5.1 224 size34 HZP.out HP0.out ho0 ?_))
  have hc4 := (hc3.alloc (.cells ZP 34)).row l5 hc3.1.size PB0
  have q5 := l5.set PB0
  have q44 := (q43.alloc (.cells ZP 34)).other (by have := q43.1.lt; omega) PB0 (g := W3.heap.size)
  have HA5 : Hid (w.heap.size ≤ W3.heap.size) := hc3.1.size
  have HA45 : Hid (A4 < W3.heap.size) := q43.1.lt
  clear hc3 l5 q43 tr3 q4 hc2
  generalize (W3.alloc (.cells ZP 34)).setRow W3.heap.size PB0 = W4 at hc4 q5 q44 ⊢
  generalize W3.heap.size = A5 at q5 HA5 HA45 ⊢
  have HC4 : Hid (CS w F3 gc gd gl gk ak s1 log0 d1 1 4004 W4) := hc4
  have HQ : Hid (CLoc F3 W4 A4 #[.bool false, .int .u16 1] 31 ∧ CLoc F3 W4 A5 PB0 34) := ⟨q44, q5⟩
  refine wp_region_held_drew (S := fun W => Row W A4 #[.bool false, .int .u16 1] 31) (by kernel_rfl) q44.1 fun hS => ?_
  have hb4 : Below W4.heap.size W4 W4.drew := (Below.refl _ _).drew
  clear hc4 q5 q44
  generalize W4.drew = W4d at hS hb4 ⊢
  refine tkI (i := 0) (v := .pointer (some ⟨gc, 0, none⟩)) rfl (Or.inl ⟨by rfl, fun w _ => by rfl⟩) hS ?_
  try simp only [Act.put, nz]
  refine tkI (i := 1) (v := .agg #[.bool false, .int .u16 1]) rfl (yields_cells (by rfl) 31 (.tmp 4) rfl A4 rfl 31 #[.bool false, .int .u16 1] (fun w h => h) 2 Try.underlying31 rfl size31 rfl) hS ?_
  try simp only [Act.put, nz]
  refine tkI (i := 2) (v := .agg #[.bool false, .int .u16 1]) rfl (yields_cells (by rfl) 31 (.tmp 4) rfl A4 rfl 31 #[.bool false, .int .u16 1] (fun w h => h) 2 Try.underlying31 rfl size31 rfl) hS ?_
  try simp only [Act.put, nz]
  refine wpAnyH_ready (rs := [3]) (by kernel_rfl) (by simp) ?_
  refine (AllReadyH.cons rfl (fun K hK => ?_) AllReadyH.nil)
  have hfl := HFL.out W4d
  go_simp
  go_at_call 19
  refine Calls.mono hfl ?_
  clear hfl
  rintro e W5 ⟨he, hb5⟩
  obtain rfl := he
  have hb45 := hb4.trans (hb5.mono hb4.size)
  refine hK.out _ _ (hS.below hb5 hS.lt) fun hS => ?_
  try simp only [Act.put, nz]
  clear hb5 hb4
  refine wpAnyH_ready (rs := [4]) (by kernel_rfl) (by simp) ?_
  refine (AllReadyH.cons rfl (fun K hK => ?_) AllReadyH.nil)
  have hpu : Calls Try.prog 18 #[.pointer (some ⟨gc, 0, none⟩), .agg #[.bool false, .int .u16 1], .agg PB1] W5 fun e w' => e = .returned (.int .i64 0) ∧ CStep W5 F3 gc gd gl gk ak (putS s1 false 1 awkP) log0 d1 1 4004 w' := by
    have := cput_any (HC4.out.below hb45).2.1 false 1 wfu1 awkP (fillP_length _ _ _ _) (fillP_bytes _ _ _ _)
    rw [awk_put HS1.out.2.1 HS1.out.2.2.1 HS1.out.2.2.2.1 HS1.out.2.2.2.2.1, HPB1.out] at this
    exact this
  go_simp
  go_at_call 18
  refine Calls.mono hpu ?_
  clear hpu
  rintro e W6 ⟨he, hst6⟩
  obtain rfl := he
  obtain ⟨F6, hc6, tr6⟩ := (HC4.out.below hb45).step hst6
  have q46 := (HQ.out.1.below hb45).tr tr6
  have q56 := (HQ.out.2.below hb45).tr tr6
  have HS6 : Hid (CS w F6 gc gd gl gk ak (putS s1 false 1 awkP) log0 d1 1 4004 W6 ∧ CLoc F6 W6 A4 #[.bool false, .int .u16 1] 31 ∧ CLoc F6 W6 A5 PB0 34) := ⟨hc6, q46, q56⟩
  refine hK.out _ _ q46.1 fun hS => ?_
  try simp only [Act.put, nz]
  clear hst6 tr6 hb45 HQ HC4
  refine tkI (i := 5) (v := .int .i64 0) rfl (Or.inl ⟨by rfl, fun w _ => by rfl⟩) hS ?_
  try simp only [Act.put, nz]
  refine wpAnyH_done (by kernel_rfl) ?_ _
  have hf7 := awk7_any hc6 HS1.out.1 HS1.out.2.1 HS1.out.2.2.1 HS1.out.2.2.2.1 HS1.out.2.2.2.2.1 HS1.out.2.2.2.2.2
  rw [show Awk7 w F6 W6 gc gd gl gk ak = fun e w' => Awk7 w F6 W6 gc gd gl gk ak e w' from rfl] at hf7
  have t2 : Hid (1 = 1) := rfl
  have t3 : Hid (1 = 1) := rfl
  go_upto_region 8 with (first
    | (have hh := t2; clear hh t2; refine load_cells rfl 31 (.tmp 4) rfl A4 rfl 31 #[.bool false, .int .u16 1] q46.1 2 Try.underlying31 rfl size31 rfl ?_)
    | (have hh := hf7; clear hh; go_at_call 16; refine Calls.mono hf7 ?_; clear hf7; rintro e W7 ⟨s3, l3, d3, F7, he, hc7, tr7, k3, k4⟩; rw [HPB1.out] at he; obtain rfl := he; have HS3 : Hid (pinsC s3 false 1 = 2 ∧ cleanC s3 false 1 = false) := ⟨k3, k4⟩; clear k3 k4; have q47 := q46.tr tr7; have q57 := q56.tr tr7; have l8 : CLoc F7 (W7.alloc (.cells ZP 34)) W7.heap.size ZP 34 := hc7.newLoc _ _)
    | (have hh := t3; clear hh t3; refine store_cells rfl 34 (.tmp 8) (.tmp 41) rfl W7.heap.size PB1 rfl rfl 34 _ l8.1 224 size34 HZP.out HP1.out ho1 ?_))
  have hc8 := (hc7.alloc (.cells ZP 34)).row l8 hc7.1.size PB1
  have q8 := l8.set PB1
  have q48 := (q47.alloc (.cells ZP 34)).other (by have := q47.1.lt; omega) PB1 (g := W7.heap.size)
  have q58 := (q57.alloc (.cells ZP 34)).other (by have := q57.1.lt; omega) PB1 (g := W7.heap.size)
  clear hc7 l8 q47 q57 tr7 q46 q56 hc6
  generalize (W7.alloc (.cells ZP 34)).setRow W7.heap.size PB1 = W8 at hc8 q8 q48 q58 ⊢
  generalize W7.heap.size = A8 at q8 ⊢
  have HC8 : Hid (CS w F7 gc gd gl gk ak s3 l3 d3 2 8008 W8) := hc8
  have HPI : Hid (∀ W, Below W8.heap.size W8 W → Calls Try.prog 22 #[.pointer (some ⟨gc, 0, none⟩), .agg #[.bool false, .int .u16 1]] W fun e w' => e = .returned (.int .i64 2) ∧ Below W.heap.size W w') := fun W hb => by
    obtain ⟨fv, m, n, vl, vs, L, cA, _⟩ := (HC8.out.below hb).2.1.ex
    have := cpins_any cA HC8.out.2.1.ok false 1 wfu1
    rw [HS3.out.1] at this
    exact this
  have HCL : Hid (∀ W, Below W8.heap.size W8 W → Calls Try.prog 26 #[.pointer (some ⟨gc, 0, none⟩), .agg #[.bool false, .int .u16 1]] W fun e w' => e = .returned (.bool false) ∧ Below W.heap.size W w') := fun W hb => by
    obtain ⟨fv, m, n, vl, vs, L, cA, _⟩ := (HC8.out.below hb).2.1.ex
    have := clean_any cA HC8.out.2.1.ok false 1 wfu1
    rw [HS3.out.2] at this
    exact this
  have HBW : Hid (Below w.heap.size w W8) := hc8.1
  have a4 := q48.1
  have a5 := q58.1
  have a8 := q8.1
  clear hc8 q48 q58 q8
  refine wp_region_held_drew (S := fun w' => Row w' A4 #[.bool false, .int .u16 1] 31 ∧ Row w' A5 PB0 34 ∧ Row w' A8 PB1 34 ∧ Below W8.heap.size W8 w') (by kernel_rfl) ⟨a4, a5, a8, (Below.refl _ _).drew⟩ fun hS => ?_
  clear a4 a5 a8
  refine tkI (i := 0) (v := .int .i64 0) rfl (Or.inl ⟨by rfl, fun w _ => by go_simp⟩) hS ?_
  try simp only [Act.put, nz]
  refine tkI (i := 1) (v := .bool true) rfl (Or.inl ⟨by rfl, fun w _ => by go_simp⟩) hS ?_
  try simp only [Act.put, nz]
  refine tkI (i := 2) (v := .bool true) rfl (Or.inl ⟨by rfl, fun w _ => by go_simp⟩) hS ?_
  try simp only [Act.put, nz]
  refine tkI (i := 3) (v := .int .i64 0) rfl (Or.inl ⟨by rfl, fun w _ => by go_simp⟩) hS ?_
  try simp only [Act.put, nz]
  refine tkI (i := 4) (v := .bool true) rfl (Or.inl ⟨by rfl, fun w _ => by go_simp⟩) hS ?_
  try simp only [Act.put, nz]
  refine tkI (i := 5) (v := .bool true) rfl (Or.inl ⟨by rfl, fun w _ => by go_simp⟩) hS ?_
  try simp only [Act.put, nz]
  refine tkI (i := 6) (v := .bool true) rfl (Or.inl ⟨by rfl, fun w _ => by go_simp⟩) hS ?_
  try simp only [Act.put, nz]
  refine tkI (i := 7) (v := .int .i64 0) rfl (Or.inl ⟨by rfl, fun w _ => by go_simp⟩) hS ?_
  try simp only [Act.put, nz]
  refine tkI (i := 8) (v := .bool true) rfl (Or.inl ⟨by rfl, fun w _ => by go_simp⟩) hS ?_
  try simp only [Act.put, nz]
  refine tkI (i := 9) (v := .bool true) rfl (Or.inl ⟨by rfl, fun w _ => by go_simp⟩) hS ?_
  try simp only [Act.put, nz]
  refine tkI (i := 10) (v := .bool true) rfl (Or.inl ⟨by rfl, fun w _ => by go_simp⟩) hS ?_
  try simp only [Act.put, nz]
  refine tkI (i := 11) (v := .agg PB0) rfl (yields_cells (by rfl) 34 (.tmp 5) rfl A5 rfl 34 PB0 (fun w h => h.2.1) 224 Try.underlying34 rfl size34 HP0.out) hS ?_
  try simp only [Act.put, nz]
  refine tkI (i := 12) (v := .agg #[.bool false, .int .u16 1]) rfl (yields_cells (by rfl) 31 (.tmp 4) rfl A4 rfl 31 #[.bool false, .int .u16 1] (fun w h => h.1) 2 Try.underlying31 rfl size31 rfl) hS ?_
  try simp only [Act.put, nz]
  refine wpAnyH_ready (rs := [13]) (by kernel_rfl) (by simp) ?_
  refine AllReadyH.cons rfl (fun K hK => ?_) AllReadyH.nil
  go_simp
  go_at_call 15
  refine Calls.mono (HBL.out _) ?_
  rintro e wc ⟨rfl, hcb⟩
  refine hK.out _ _ (⟨hS.1.below hcb hS.1.lt, hS.2.1.below hcb hS.2.1.lt, hS.2.2.1.below hcb hS.2.2.1.lt, hS.2.2.2.trans (hcb.mono hS.2.2.2.size)⟩) fun hS => ?_
  try simp only [Act.put, nz]
  clear hcb
  refine tkI (i := 14) (v := .bool true) rfl (yields_eq (by rfl) 34 34 (.tmp 54) (.tmp 56) rfl PB0 PB0 rfl rfl Try.eqGuardType34 true HEQ0.out) hS ?_
  try simp only [Act.put, nz]
  refine tkI (i := 15) (v := .bool true) rfl (Or.inl ⟨by rfl, fun w _ => by go_simp⟩) hS ?_
  try simp only [Act.put, nz]
  refine tkI (i := 16) (v := .bool true) rfl (Or.inl ⟨by rfl, fun w _ => by go_simp⟩) hS ?_
  try simp only [Act.put, nz]
  refine tkI (i := 17) (v := .agg PB1) rfl (yields_cells (by rfl) 34 (.tmp 8) rfl A8 rfl 34 PB1 (fun w h => h.2.2.1) 224 Try.underlying34 rfl size34 HP1.out) hS ?_
  try simp only [Act.put, nz]
  refine tkI (i := 18) (v := .agg #[.bool false, .int .u16 1]) rfl (yields_cells (by rfl) 31 (.tmp 4) rfl A4 rfl 31 #[.bool false, .int .u16 1] (fun w h => h.1) 2 Try.underlying31 rfl size31 rfl) hS ?_
  try simp only [Act.put, nz]
  refine wpAnyH_ready (rs := [19]) (by kernel_rfl) (by simp) ?_
  refine AllReadyH.cons rfl (fun K hK => ?_) AllReadyH.nil
  go_simp
  go_at_call 19
  refine Calls.mono (HFL.out _) ?_
  rintro e w2_19 ⟨rfl, hcb⟩
  refine hK.out _ _ (⟨hS.1.below hcb hS.1.lt, hS.2.1.below hcb hS.2.1.lt, hS.2.2.1.below hcb hS.2.2.1.lt, hS.2.2.2.trans (hcb.mono hS.2.2.2.size)⟩) fun hS => ?_
  try simp only [Act.put, nz]
  clear hcb
  refine tkI (i := 20) (v := .bool true) rfl (yields_eq (by rfl) 34 34 (.tmp 60) (.tmp 62) rfl PB1 PB1 rfl rfl Try.eqGuardType34 true HEQ1.out) hS ?_
  try simp only [Act.put, nz]
  refine tkI (i := 21) (v := .bool true) rfl (Or.inl ⟨by rfl, fun w _ => by go_simp⟩) hS ?_
  try simp only [Act.put, nz]
  refine tkI (i := 22) (v := .bool true) rfl (Or.inl ⟨by rfl, fun w _ => by go_simp⟩) hS ?_
  try simp only [Act.put, nz]
  refine tkI (i := 23) (v := .pointer (some ⟨gc, 0, none⟩)) rfl (Or.inl ⟨by rfl, fun w _ => by go_simp⟩) hS ?_
  try simp only [Act.put, nz]
  refine tkI (i := 24) (v := .agg #[.bool false, .int .u16 1]) rfl (yields_cells (by rfl) 31 (.tmp 4) rfl A4 rfl 31 #[.bool false, .int .u16 1] (fun w h => h.1) 2 Try.underlying31 rfl size31 rfl) hS ?_
  try simp only [Act.put, nz]
  refine wpAnyH_ready (rs := [25]) (by kernel_rfl) (by simp) ?_
  refine AllReadyH.cons rfl (fun K hK => ?_) AllReadyH.nil
  go_simp
  go_at_call 22
  refine Calls.mono (HPI.out _ hS.2.2.2) ?_
  rintro e w3_25 ⟨rfl, hcb⟩
  refine hK.out _ _ (⟨hS.1.below hcb hS.1.lt, hS.2.1.below hcb hS.2.1.lt, hS.2.2.1.below hcb hS.2.2.1.lt, hS.2.2.2.trans (hcb.mono hS.2.2.2.size)⟩) fun hS => ?_
  try simp only [Act.put, nz]
  clear hcb
  refine tkI (i := 26) (v := .bool true) rfl (Or.inl ⟨by rfl, fun w _ => by go_simp⟩) hS ?_
  try simp only [Act.put, nz]
  refine tkI (i := 27) (v := .bool true) rfl (Or.inl ⟨by rfl, fun w _ => by go_simp⟩) hS ?_
  try simp only [Act.put, nz]
  refine tkI (i := 28) (v := .bool true) rfl (Or.inl ⟨by rfl, fun w _ => by go_simp⟩) hS ?_
  try simp only [Act.put, nz]
  refine tkI (i := 29) (v := .pointer (some ⟨gc, 0, none⟩)) rfl (Or.inl ⟨by rfl, fun w _ => by go_simp⟩) hS ?_
  try simp only [Act.put, nz]
  refine tkI (i := 30) (v := .agg #[.bool false, .int .u16 1]) rfl (yields_cells (by rfl) 31 (.tmp 4) rfl A4 rfl 31 #[.bool false, .int .u16 1] (fun w h => h.1) 2 Try.underlying31 rfl size31 rfl) hS ?_
  try simp only [Act.put, nz]
  refine wpAnyH_ready (rs := [31]) (by kernel_rfl) (by simp) ?_
  refine AllReadyH.cons rfl (fun K hK => ?_) AllReadyH.nil
  go_simp
  go_at_call 26
  refine Calls.mono (HCL.out _ hS.2.2.2) ?_
  rintro e w4_31 ⟨rfl, hcb⟩
  refine hK.out _ _ (⟨hS.1.below hcb hS.1.lt, hS.2.1.below hcb hS.2.1.lt, hS.2.2.1.below hcb hS.2.2.1.lt, hS.2.2.2.trans (hcb.mono hS.2.2.2.size)⟩) fun hS => ?_
  try simp only [Act.put, nz]
  clear hcb
  refine tkI (i := 32) (v := .bool true) rfl (Or.inl ⟨by rfl, fun w _ => by go_simp⟩) hS ?_
  try simp only [Act.put, nz]
  refine tkI (i := 33) (v := .bool true) rfl (Or.inl ⟨by rfl, fun w _ => by go_simp⟩) hS ?_
  try simp only [Act.put, nz]
  refine tkI (i := 34) (v := .bool true) rfl (Or.inl ⟨by rfl, fun w _ => by go_simp⟩) hS ?_
  try simp only [Act.put, nz]
  refine wpAnyH_done (by kernel_rfl) ?_ _
  go_wp2
  rw [HPP.out]
  exact ⟨rfl, HBW.out.trans (hS.2.2.2.mono HBW.out.size)⟩
end Go.Proofs.Ytehogiondcpbcaa
