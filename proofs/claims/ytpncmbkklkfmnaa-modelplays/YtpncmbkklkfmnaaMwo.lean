/-
  Proved here: what write answers, and makes of a machine (one).
-/
import Derived.Test.YtpncmbkklkfmnaaMwr
namespace Go.Proofs.Ytpncmbkklkfmnaa
open Go.ChangeShapes Go.WideShapes Go.ChangeAt Go.RowKit
open Go.Deep Go.Maps
set_option linter.unusedVariables false
set_option linter.unusedSimpArgs false
set_option maxRecDepth 20000


set_option maxHeartbeats 2000000 in
theorem write_one {w : World} {F : Nat → Prop} {g : Nat} {m : M} (c : MA w F g m) (cl : Cal) (k o : Nat) (t : Tx) (ht : t ∈ m.L) (p : Pg) (hp : m.ps[k]? = some p) (ho : o ≤ 64) (hsz : cl.str.size ≤ 64 - o) (hf : full t.ws k = false) :
    Calls Try.prog 29 #[.pointer (some ⟨g, 0, none⟩), .agg #[.int .u32 t.start, .map (some t.mb)], .agg #[.int .u8 cl.kind, .int .u64 cl.txn, .int .u16 (k : Int), .int .i64 (o : Int), .string cl.str]] w fun r w' => r = .returned (.int .i64 0) ∧ Went w F g (M.abs { m with L := setT m.L t.key (putP t.ws k (splice (seenV t.ws t.start p.vs k).body o (nums cl.str))) }) w' := by
  have hkl := (List.getElem?_eq_some_iff.1 hp).1
  have hn : m.ps.length ≤ 16 := by have := c.ok.n1; simpa [M.abs] using this
  obtain ⟨h0, h1, hws⟩ := c.txok ht
  have hz38 := zero38
  have HA : Hid ((setD t.ws).atKey (.int .u16 k) (.held (zs 64)) = .held (atP t.ws k)) := setD_at t.ws k
  have HH : Hid (Maps.has (setD t.ws) (.int .u16 k) = hasP t.ws k) := setD_has t.ws k
  have HW : Hid (Wr (atP t.ws k)) := hws.at_wr k
  have HSZ : Hid (Maps.size (setD t.ws) = t.ws.length) := setD_size t.ws
  have hk : (Lit.int .u16 k).wf = true := wf_u16 (by omega) (by omega)
  have HSEEN : Hid (∀ W, Below w.heap.size w W → Calls Try.prog 28 #[.pointer (some ⟨g, 0, none⟩), .agg #[.int .u32 t.start, .map (some t.mb)], .int .u16 k] W fun r w' => r = .returned (.agg (seenV t.ws t.start p.vs k).arr) ∧ Below W.heap.size W w') := fun W hb => seen_any (c.below hb) k p hp (by omega) t.start h0 h1 t.mb t.ws hws ((c.below hb).at_.wown t ht)
  have hok := seenV_ok hws (c.vsok hp) h0 h1 k
  have HF1 : Hid (∀ w, (Instr.field 44 (.agg (seenV t.ws t.start p.vs k).arr) 1).run Try.prog w = .ok (.agg (bs (seenV t.ws t.start p.vs k).body)) w) := fun w => field44b hok w
  have HBW : Hid (Wr (seenV t.ws t.start p.vs k).body) := hok.wr
  clear hok
  obtain ⟨SV, HSV⟩ : ∃ SV, Hid ((seenV t.ws t.start p.vs k).arr = SV) := ⟨_, rfl⟩
  obtain ⟨SB, HSB⟩ : ∃ SB, Hid ((seenV t.ws t.start p.vs k).body = SB) := ⟨_, rfl⟩
  rw [HSV.out] at HSEEN HF1
  rw [HSB.out] at HF1 HBW ⊢
  have HF : Hid _ := hf
  have ab : Below w.heap.size w (w.alloc (.cells #[.int .u32 t.start, .map (some t.mb)] 70)) := (Below.refl _ _).alloc (Nat.le_refl _) _
  have rx : Row (w.alloc (.cells #[.int .u32 t.start, .map (some t.mb)] 70)) w.heap.size #[.int .u32 t.start, .map (some t.mb)] 70 := Row.new _ _ _
  have e1 : (w.alloc (.cells #[.int .u32 t.start, .map (some t.mb)] 70)).heap.size = w.heap.size + 1 := Array.size_push ..
  have ab1 : Below w.heap.size w ((w.alloc (.cells #[.int .u32 t.start, .map (some t.mb)] 70)).alloc (.cells #[.int .u8 cl.kind, .int .u64 cl.txn, .int .u16 (k : Int), .int .i64 (o : Int), .string cl.str] 35)) := ab.alloc ab.size _
  have rc : Row ((w.alloc (.cells #[.int .u32 t.start, .map (some t.mb)] 70)).alloc (.cells #[.int .u8 cl.kind, .int .u64 cl.txn, .int .u16 (k : Int), .int .i64 (o : Int), .string cl.str] 35)) (w.alloc (.cells #[.int .u32 t.start, .map (some t.mb)] 70)).heap.size #[.int .u8 cl.kind, .int .u64 cl.txn, .int .u16 (k : Int), .int .i64 (o : Int), .string cl.str] 35 := Row.new _ _ _
  have rx1 := rx.alloc (.cells #[.int .u8 cl.kind, .int .u64 cl.txn, .int .u16 (k : Int), .int .i64 (o : Int), .string cl.str] 35)
  rw [e1] at rc
  have HCC : Hid (MA w F g m) := c
  obtain ⟨PP, HPP⟩ : ∃ PP : Ending → World → Prop, Hid (PP = fun r w' => r = .returned (.int .i64 0) ∧ Went w F g (M.abs { m with L := setT m.L t.key (putP t.ws k (splice SB o (nums cl.str))) }) w') := ⟨_, rfl⟩
  rw [← HPP.out]
  clear c rx ab e1 hws hf
  go_enter Try.func29, Try.ntmps29
  go_upto_region 1 with fail
  generalize (w.alloc (.cells #[.int .u32 t.start, .map (some t.mb)] 70)).alloc (.cells #[.int .u8 cl.kind, .int .u64 cl.txn, .int .u16 (k : Int), .int .i64 (o : Int), .string cl.str] 35) = W at ab1 rc rx1 ⊢
  obtain ⟨A0, HA0⟩ : ∃ A0, Hid (w.heap.size = A0) := ⟨_, rfl⟩
  rw [HA0.out] at rc rx1 ⊢
  have own2 := (HCC.out.below ab1).at_.wown t ht
  have x1 := row_at rx1 1 _ rfl
  have y2 := row_at rc 2 _ rfl
  obtain ⟨ys, HY⟩ : ∃ ys, Hid (atP t.ws k = ys) := ⟨_, rfl⟩
  obtain ⟨b, HB⟩ : ∃ b, Hid (hasP t.ws k = b) := ⟨_, rfl⟩
  rw [HY.out] at HA HW
  rw [HB.out] at HH
  have rA : Row (W.alloc (.cells (bs (zs 64)) 38)) W.heap.size (bs (zs 64)) 38 := Row.new _ _ _
  have hl1 := rc.lt
  have hl0 := rx1.lt
  have rcb : Row ((W.alloc (.cells (bs (zs 64)) 38)).setRow W.heap.size (bs ys)) (A0 + 1) #[.int .u8 cl.kind, .int .u64 cl.txn, .int .u16 (k : Int), .int .i64 (o : Int), .string cl.str] 35 := (rc.alloc _).other (by omega) _
  have rxb : Row ((W.alloc (.cells (bs (zs 64)) 38)).setRow W.heap.size (bs ys)) A0 #[.int .u32 t.start, .map (some t.mb)] 70 := (rx1.alloc _).other (by omega) _
  have ab2 : Below w.heap.size w ((W.alloc (.cells (bs (zs 64)) 38)).setRow W.heap.size (bs ys)) := below_setRow (ab1.alloc ab1.size _) ab1.size _
  have HWL : Hid (ys.length = 64) := HW.out.1
  have ts : Hid (1 = 1) := rfl
  go_upto_region 2 with (first
    | (at_lookup; refine wpList_lookup_own_ok _ rfl _ _ 68 rfl 33 38 lawK Try.underlying68 wrR (hz38 _) (.held (zs 64)) [] (wrR_mk zs_wr) t.mb _ _ rfl own2 _ _ rfl (keyOf_int_mk Try.underlying33 hk) ?_; intro v ps hv; rw [HA.out] at hv; obtain ⟨xs, _, hvx, hxy⟩ := wrR_inv hv; obtain rfl : ys = xs := (by injection hxy with q; injection q); subst hvx; clear hv hxy; rw [HH.out])
    | (have hh := ts; clear hh ts; refine store_cells rfl 38 (.tmp 7) (.tmp 16) rfl W.heap.size (bs ys) rfl rfl 38 _ rA 64 size38 (by rw [bs_size, zs_length]) (by rw [bs_size]; exact HWL.out) (bs_one ys) ?_))
  clear x1 y2 own2 rc rx1 rA ab1 hl1 hl0
  generalize (W.alloc (.cells (bs (zs 64)) 38)).setRow W.heap.size (bs ys) = W1 at rcb rxb ab2 ⊢
  generalize W.heap.size = A2
  have x1 := row_at rxb 1 _ rfl
  have own3 := (HCC.out.below ab2).at_.wown t ht
  have HB2 : Hid (b = true ∨ b = false ∧ ¬ (t.ws.length : Int) ≥ 4) := by
    have := HF.out
    unfold full at this
    rw [HB.out] at this
    cases b with
    | true => exact Or.inl rfl
    | false =>
      simp at this
      exact Or.inr ⟨rfl, by omega⟩
  have hrest : ∀ (bb : Bool), bb = b → True := fun _ _ => trivial
  have x0 := row_at rxb 0 _ rfl
  have y2 := row_at rcb 2 _ rfl
  have hseen := HSEEN.out W1 ab2
  have HBL : Hid (SB.length = 64) := HBW.out.1
  clear hrest
  rcases HB2.out with hb | ⟨hb, hlen⟩
  all_goals subst hb
  all_goals clear HB2
  all_goals
    have ts : Hid (1 = 1) := rfl
    have tl : Hid (1 = 1) := rfl
    have tf : Hid (1 = 1) := rfl
    go_upto_region 5 with (first
      | (at_len; refine len_own_g (by rfl) _ 68 rfl 33 38 Try.underlying68 _ t.mb _ _ rfl own3 ?_; rw [HSZ.out])
      | (have hh := tl; clear hh tl; refine load_cells rfl 70 (.tmp 4) rfl A0 rfl 70 #[.int .u32 t.start, .map (some t.mb)] rxb 2 Try.underlying70 rfl size70 rfl ?_)
      | (go_at_call 28; refine hseen.mono ?_; clear hseen; rintro e wc ⟨he, hcb⟩; obtain rfl := he; have rc2 := rcb.below hcb rcb.lt; have rx2 := rxb.below hcb rxb.lt; have ab3 := ab2.trans (hcb.mono ab2.size); have rA : Row (wc.alloc (.cells (bs (zs 64)) 38)) wc.heap.size (bs (zs 64)) 38 := Row.new _ _ _)
      | (have hh := tf; clear hh tf; refine field_g (by rfl) 44 (.tmp 30) 1 rfl _ _ rfl HF1.out ?_)
      | (have hh := ts; clear hh ts; refine store_cells rfl 38 (.tmp 9) (.tmp 31) rfl wc.heap.size (bs SB) rfl rfl 38 _ rA 64 size38 (by rw [bs_size, zs_length]) (by rw [bs_size]; exact HBL.out) (bs_one SB) ?_))
    have hlc := rc2.lt
    have hlx := rx2.lt
    have rc3 : Row ((wc.alloc (.cells (bs (zs 64)) 38)).setRow wc.heap.size (bs SB)) (A0 + 1) #[.int .u8 cl.kind, .int .u64 cl.txn, .int .u16 (k : Int), .int .i64 (o : Int), .string cl.str] 35 := (rc2.alloc _).other (by omega) _
    have rx3 : Row ((wc.alloc (.cells (bs (zs 64)) 38)).setRow wc.heap.size (bs SB)) A0 #[.int .u32 t.start, .map (some t.mb)] 70 := (rx2.alloc _).other (by omega) _
    have rX : Row ((wc.alloc (.cells (bs (zs 64)) 38)).setRow wc.heap.size (bs SB)) wc.heap.size (bs SB) 38 := rA.set _
    have ab4 : Below w.heap.size w ((wc.alloc (.cells (bs (zs 64)) 38)).setRow wc.heap.size (bs SB)) := below_setRow (ab3.alloc ab3.size _) ab3.size _
    have hXw : w.heap.size ≤ wc.heap.size := ab3.size
    clear rc2 rx2 ab3 rA rcb rxb ab2 x1 x0 y2 own3 hcb
    generalize (wc.alloc (.cells (bs (zs 64)) 38)).setRow wc.heap.size (bs SB) = W2 at rc3 rx3 rX ab4 ⊢
    generalize wc.heap.size = X at rX hXw hlc hlx ⊢
    have hsl := slice38l X o ho
    have HSP : Hid (splice SB (plc o) (nums cl.str) = splice SB o (nums cl.str)) := by
      show _ = _
      unfold plc
      split
      · have e0 : nums cl.str = [] := List.eq_nil_of_length_eq_zero (by rw [nums_length]; omega)
        rw [e0]; simp [splice]
      · rfl
    have hpc : plc o + cl.str.size ≤ 64 := by unfold plc; split <;> omega
    obtain ⟨pc, HPC⟩ : ∃ pc, Hid (plc o = pc) := ⟨_, rfl⟩
    rw [HPC.out] at hsl HSP hpc
    refine wp_region_held_drew (S := fun w' => Row w' (A0 + 1) #[.int .u8 cl.kind, .int .u64 cl.txn, .int .u16 (k : Int), .int .i64 (o : Int), .string cl.str] 35 ∧ Row w' A0 #[.int .u32 t.start, .map (some t.mb)] 70 ∧ Below w.heap.size w w') (by kernel_rfl) ⟨rc3, rx3, ab4.drew⟩ fun hS => ?_
    refine wpAnyH_take (i := 0) (v := .pointer (some ⟨A0 + 1, 3, none⟩)) rfl (by kernel_rfl) (by kernel_rfl) (by kernel_rfl) (fun _ _ _ h => h) (Or.inl ⟨by rfl, fun w _ => by go_simp⟩) hS ?_
    try simp only [Act.put, List.getElem_toArray, List.getElem_cons_zero, List.getElem_cons_succ, List.setIfInBounds_toArray, List.set_cons_zero, List.set_cons_succ]
    refine wpAnyH_take (i := 1) (v := .int .i64 (o : Int)) rfl (by kernel_rfl) (by kernel_rfl) (by kernel_rfl) (fun _ _ _ h => h) (Or.inl ⟨by rfl, fun w h => by have c := row_at h.1 3 _ rfl; go_simp⟩) hS ?_
    try simp only [Act.put, List.getElem_toArray, List.getElem_cons_zero, List.getElem_cons_succ, List.setIfInBounds_toArray, List.set_cons_zero, List.set_cons_succ]
    refine wpAnyH_take (i := 2) (v := .slice (some ⟨X, pc, none⟩) (64 - o) (64 - o)) rfl (by kernel_rfl) (by kernel_rfl) (by kernel_rfl) (fun _ _ _ h => h) (Or.inl ⟨by rfl, fun w h => by go_simp⟩) hS ?_
    try simp only [Act.put, List.getElem_toArray, List.getElem_cons_zero, List.getElem_cons_succ, List.setIfInBounds_toArray, List.set_cons_zero, List.set_cons_succ]
    refine wpAnyH_take (i := 3) (v := .pointer (some ⟨A0 + 1, 4, none⟩)) rfl (by kernel_rfl) (by kernel_rfl) (by kernel_rfl) (fun _ _ _ h => h) (Or.inl ⟨by rfl, fun w _ => by go_simp⟩) hS ?_
    try simp only [Act.put, List.getElem_toArray, List.getElem_cons_zero, List.getElem_cons_succ, List.setIfInBounds_toArray, List.set_cons_zero, List.set_cons_succ]
    refine wpAnyH_take (i := 4) (v := .string cl.str) rfl (by kernel_rfl) (by kernel_rfl) (by kernel_rfl) (fun _ _ _ h => h) (Or.inl ⟨by rfl, fun w h => by have c := row_at h.1 4 _ rfl; go_simp⟩) hS ?_
    try simp only [Act.put, List.getElem_toArray, List.getElem_cons_zero, List.getElem_cons_succ, List.setIfInBounds_toArray, List.set_cons_zero, List.set_cons_succ]
    have rX : Row W2.drew X (bs SB) 38 := rX
    generalize W2.drew = W3 at hS rX ⊢
    have rc4 := hS.1.other (g := X) (by omega) (bs (splice SB pc (nums cl.str)))
    have rx4 := hS.2.1.other (g := X) (by omega) (bs (splice SB pc (nums cl.str)))
    have rX4 := rX.set (bs (splice SB pc (nums cl.str)))
    have ab5 := below_setRow hS.2.2 (show w.heap.size ≤ X from hXw) (bs (splice SB pc (nums cl.str)))
    refine wpAnyH_ready (rs := [5]) (by kernel_rfl) (by simp) ?_
    refine AllReadyH.cons rfl (fun K hK => step_copy_text rfl (.tmp 34) (.tmp 36) 49 9 rfl 5 Try.underlying49 size5 X pc (64 - o) (64 - o) rfl cl.str rfl SB 38 rX (by omega) (by rw [HBL.out]; exact hpc) (hK.out _ _ ⟨rc4, rx4, ab5⟩ fun hS => ?_)) AllReadyH.nil
    try simp only [Act.put, List.getElem_toArray, List.getElem_cons_zero, List.getElem_cons_succ, List.setIfInBounds_toArray, List.set_cons_zero, List.set_cons_succ]
    refine wpAnyH_done (by kernel_rfl) ?_ _
    rw [HSP.out] at rc4 rx4 rX4 ab5 ⊢
    have HZW : Hid (Wr (splice SB o (nums cl.str))) := wrote_wr HBW.out (by omega)
    generalize splice SB o (nums cl.str) = ZZ at rc4 rx4 rX4 ab5 HZW HPP ⊢
    clear hS rc3 rx3 rX hsl
    generalize W3.setRow X (bs ZZ) = W4 at rc4 rx4 rX4 ab5 ⊢
    have C4 := HCC.out.below ab5
    have own4 := C4.at_.wown t ht
    have x1 := row_at rx4 1 _ rfl
    have y2 := row_at rc4 2 _ rfl
    have HZL : Hid (ZZ.length = 64) := HZW.out.1
    have tl : Hid (1 = 1) := rfl
    go_wp2_with (first
      | (have hh := tl; clear hh tl; refine load_cells rfl 38 (.tmp 9) rfl X rfl 38 (bs ZZ) rX4 64 Try.underlying38 rfl size38 (by rw [bs_size]; exact HZL.out) ?_)
      | (at_mapUpdate; refine wpList_mapUpdate_own _ rfl _ _ _ 68 rfl 33 38 lawK Try.underlying68 _ t.mb _ _ rfl own4 (by have := (C4.txok ht).2.2.small; unfold maxLen; omega) _ _ _ rfl rfl (keyOf_int_mk Try.underlying33 hk) _ [] (wrR_mk HZW.out) ?_; intro w2 hown2 hturn2))
    rw [setD_put] at hown2
    have HWSP : Hid (WsOk m.ps.length (putP t.ws k ZZ)) := (C4.txok ht).2.2.put ⟨by omega, by omega⟩ HZW.out HF.out
    obtain ⟨C5, O5⟩ := MA.wrote C4 ht _ HWSP.out hown2 hturn2
    have hmF : F t.mb := C4.foot _ (Or.inr (Or.inr (Or.inr (Or.inr ⟨t, ht, rfl⟩))))
    have HFIN : Hid (Went w F g (M.abs { m with L := setT m.L t.key (putP t.ws k ZZ) }) w2) := ⟨(Off.of_below ab5).trans O5 (fun j e => Or.inl (by rw [e]; exact hmF)), F, ⟨_, rfl, C5⟩, fun _ _ h => h⟩
    clear C5 O5 hown2 hturn2 C4 own4 x1 y2
    go_wp2
    try go_ret
    rw [HPP.out]
    exact ⟨rfl, HFIN.out⟩
end Go.Proofs.Ytpncmbkklkfmnaa
