/-
  Proved here: what end answers, and makes of a machine.
-/
import Derived.Test.YtpncmbkklkfmnaaMep
namespace Go.Proofs.Ytpncmbkklkfmnaa
open Go.ChangeShapes Go.WideShapes Go.ChangeAt Go.RowKit
open Go.Deep Go.Maps
set_option linter.unusedVariables false
set_option linter.unusedSimpArgs false
set_option maxRecDepth 20000


set_option maxHeartbeats 2000000 in
theorem end_none {w : World} {F : Nat → Prop} {g : Nat} {m : M} (c : MA w F g m) (cl : Cal) (hcl : cl.Ok) (hf : findT m.L cl.txn = none) : Calls Try.prog 22 #[.pointer (some ⟨g, 0, none⟩), .agg cl.arr] w fun r w' => r = .returned (.agg (Rep.fail 9).arr) ∧ Below w.heap.size w w' := by
  have HCF : Hid (∀ k, F k → k < w.heap.size) := c.lt
  have HLK : Hid (∀ W, MA W F g m → (Instr.lookup 55 (.map (some m.lm)) (.int .u64 cl.txn) true).run Try.prog W = .ok (.tuple #[.agg #[.int .u32 0, .map none], .bool false]) W) := fun W h => by have := look_tx h cl.txn hcl.t.1 hcl.t.2; rw [hf] at this; exact this
  have HLS : Hid ((#[.int .u32 0, .map none] : Array Value).size = 2) := rfl
  have HLO : Hid ((#[.int .u32 0, .map none] : Array Value).all (·.oneCell') = true) := by show _ = true; simp [Value.oneCell']
  have HX0 : Hid (1 = 1) := rfl
  obtain ⟨PP, HPP⟩ : ∃ PP : Ending → World → Prop, Hid (PP = fun r w' => r = .returned (.agg (Rep.fail 9).arr) ∧ Below w.heap.size w w') := ⟨_, rfl⟩
  rw [← HPP.out]
  have hz40 := zero40
  have HZS : Hid (Rep.zero.arr.size = 67) := rz
  generalize Rep.zero.arr = Z at hz40 HZS
  have HCC : Hid (MA w F g m) := c
  have ab : Below w.heap.size w (w.alloc (.cells #[.int .u8 cl.kind, .int .u64 cl.txn, .int .u16 cl.page, .int .i64 cl.off, .string cl.str] 35)) := (Below.refl _ _).alloc (Nat.le_refl _) _
  have rx : Row (w.alloc (.cells #[.int .u8 cl.kind, .int .u64 cl.txn, .int .u16 cl.page, .int .i64 cl.off, .string cl.str] 35)) w.heap.size #[.int .u8 cl.kind, .int .u64 cl.txn, .int .u16 cl.page, .int .i64 cl.off, .string cl.str] 35 := Row.new _ _ _
  have e1 : (w.alloc (.cells #[.int .u8 cl.kind, .int .u64 cl.txn, .int .u16 cl.page, .int .i64 cl.off, .string cl.str] 35)).heap.size = w.heap.size + 1 := Array.size_push ..
  have ab1 : Below w.heap.size w ((w.alloc (.cells #[.int .u8 cl.kind, .int .u64 cl.txn, .int .u16 cl.page, .int .i64 cl.off, .string cl.str] 35)).alloc (.cells Z 40)) := ab.alloc ab.size _
  have r40 : Row ((w.alloc (.cells #[.int .u8 cl.kind, .int .u64 cl.txn, .int .u16 cl.page, .int .i64 cl.off, .string cl.str] 35)).alloc (.cells Z 40)) (w.alloc (.cells #[.int .u8 cl.kind, .int .u64 cl.txn, .int .u16 cl.page, .int .i64 cl.off, .string cl.str] 35)).heap.size Z 40 := Row.new _ _ _
  have rx1 := rx.alloc (.cells Z 40)
  rw [e1] at r40
  unfold Cal.arr
  clear c rx ab e1
  go_enter Try.func22, Try.ntmps22
  go_upto_region 1 with fail
  generalize (w.alloc (.cells #[.int .u8 cl.kind, .int .u64 cl.txn, .int .u16 cl.page, .int .i64 cl.off, .string cl.str] 35)).alloc (.cells Z 40) = W at ab1 r40 rx1 ⊢
  obtain ⟨A0, HA0⟩ : ∃ A0, Hid (w.heap.size = A0) := ⟨_, rfl⟩
  rw [HA0.out] at r40 rx1 ⊢
  have HR1 : Hid (Row W (A0 + 1) Z 40) := r40
  refine wp_region_held_drew (S := fun w' => MA w' F g m ∧ Row w' A0 #[.int .u8 cl.kind, .int .u64 cl.txn, .int .u16 cl.page, .int .i64 cl.off, .string cl.str] 35 ∧ Row w' (A0 + 1) Z 40 ∧ Below w.heap.size w w') (by kernel_rfl) ⟨HCC.out.below ab1.drew, rx1, r40, ab1.drew⟩ fun hS => ?_
  refine wpAnyH_take (i := 0) (v := .pointer (some ⟨g, 0, none⟩)) rfl (by kernel_rfl) (by kernel_rfl) (by kernel_rfl) (fun _ _ _ h => h) (Or.inl ⟨by rfl, fun w _ => by rfl⟩) hS ?_
  try simp only [Act.put, List.getElem_toArray, List.getElem_cons_zero, List.getElem_cons_succ, List.setIfInBounds_toArray, List.set_cons_zero, List.set_cons_succ]
  refine wpAnyH_take (i := 1) (v := .pointer (some ⟨g, 0, none⟩)) rfl (by kernel_rfl) (by kernel_rfl) (by kernel_rfl) (fun _ _ _ h => h) (Or.inl ⟨by rfl, fun w _ => by go_simp⟩) hS ?_
  try simp only [Act.put, List.getElem_toArray, List.getElem_cons_zero, List.getElem_cons_succ, List.setIfInBounds_toArray, List.set_cons_zero, List.set_cons_succ]
  refine wpAnyH_take (i := 2) (v := .pointer (some ⟨g, 4, none⟩)) rfl (by kernel_rfl) (by kernel_rfl) (by kernel_rfl) (fun _ _ _ h => h) (Or.inl ⟨by rfl, fun w _ => by go_simp⟩) hS ?_
  try simp only [Act.put, List.getElem_toArray, List.getElem_cons_zero, List.getElem_cons_succ, List.setIfInBounds_toArray, List.set_cons_zero, List.set_cons_succ]
  refine wpAnyH_take (i := 3) (v := .map (some m.lm)) rfl (by kernel_rfl) (by kernel_rfl) (by kernel_rfl) (fun _ _ _ h => h) (Or.inl ⟨by rfl, fun w h => by have c := h.1.at_.c4; go_simp⟩) hS ?_
  try simp only [Act.put, List.getElem_toArray, List.getElem_cons_zero, List.getElem_cons_succ, List.setIfInBounds_toArray, List.set_cons_zero, List.set_cons_succ]
  refine wpAnyH_take (i := 4) (v := .pointer (some ⟨A0, 1, none⟩)) rfl (by kernel_rfl) (by kernel_rfl) (by kernel_rfl) (fun _ _ _ h => h) (Or.inl ⟨by rfl, fun w _ => by go_simp⟩) hS ?_
  try simp only [Act.put, List.getElem_toArray, List.getElem_cons_zero, List.getElem_cons_succ, List.setIfInBounds_toArray, List.set_cons_zero, List.set_cons_succ]
  refine wpAnyH_take (i := 5) (v := .int .u64 cl.txn) rfl (by kernel_rfl) (by kernel_rfl) (by kernel_rfl) (fun _ _ _ h => h) (Or.inl ⟨by rfl, fun w h => by have c := row_at h.2.1 1 _ rfl; go_simp⟩) hS ?_
  try simp only [Act.put, List.getElem_toArray, List.getElem_cons_zero, List.getElem_cons_succ, List.setIfInBounds_toArray, List.set_cons_zero, List.set_cons_succ]
  refine wpAnyH_take (i := 6) (v := .tuple #[.agg #[.int .u32 0, .map none], .bool false]) rfl (by kernel_rfl) (by kernel_rfl) (by kernel_rfl) (fun _ _ _ h => h) (Or.inl ⟨by rfl, fun w h => by have c := HLK.out w h.1; go_simp⟩) hS ?_
  try simp only [Act.put, List.getElem_toArray, List.getElem_cons_zero, List.getElem_cons_succ, List.setIfInBounds_toArray, List.set_cons_zero, List.set_cons_succ]
  refine wpAnyH_take (i := 7) (v := .tuple #[.agg #[.int .u32 0, .map none], .bool false]) rfl (by kernel_rfl) (by kernel_rfl) (by kernel_rfl) (fun _ _ _ h => h) (Or.inl ⟨by rfl, fun w _ => by rfl⟩) hS ?_
  try simp only [Act.put, List.getElem_toArray, List.getElem_cons_zero, List.getElem_cons_succ, List.setIfInBounds_toArray, List.set_cons_zero, List.set_cons_succ]
  refine wpAnyH_take (i := 8) (v := .agg #[.int .u32 0, .map none]) rfl (by kernel_rfl) (by kernel_rfl) (by kernel_rfl) (fun _ _ _ h => h) (Or.inl ⟨by rfl, fun w _ => by go_simp⟩) hS ?_
  try simp only [Act.put, List.getElem_toArray, List.getElem_cons_zero, List.getElem_cons_succ, List.setIfInBounds_toArray, List.set_cons_zero, List.set_cons_succ]
  refine wpAnyH_take (i := 9) (v := .bool false) rfl (by kernel_rfl) (by kernel_rfl) (by kernel_rfl) (fun _ _ _ h => h) (Or.inl ⟨by rfl, fun w _ => by go_simp⟩) hS ?_
  try simp only [Act.put, List.getElem_toArray, List.getElem_cons_zero, List.getElem_cons_succ, List.setIfInBounds_toArray, List.set_cons_zero, List.set_cons_succ]
  clear ab1 r40 rx1 HR1
  generalize W.drew = W1 at hS ⊢
  refine wpAnyH_ready (rs := [10]) (by kernel_rfl) (by simp) ?_
  refine AllReadyH.cons rfl (fun K hK => ?_) AllReadyH.nil
  have hz70 := zero70
  have ab7 : Below W1.heap.size W1 (W1.alloc (.cells #[.int .u32 0, .map none] 70)) := (Below.refl _ _).alloc (Nat.le_refl _) _
  have r70 : Row (W1.alloc (.cells #[.int .u32 0, .map none] 70)) W1.heap.size #[.int .u32 0, .map none] 70 := Row.new _ _ _
  obtain ⟨X, HX⟩ : ∃ X, Hid (W1.heap.size = X) := ⟨_, rfl⟩
  have hXA : A0 + 1 < X := by rw [← HX.out]; exact hS.2.2.1.lt
  have hXw : w.heap.size ≤ X := by rw [← HX.out]; exact hS.2.2.2.size
  go_simp
  refine hK.out _ _ ⟨hS.1.below ab7, hS.2.1.alloc _, hS.2.2.1.alloc _, hS.2.2.2.trans (ab7.mono hS.2.2.2.size)⟩ fun hS => ?_
  try simp only [Act.put, List.getElem_toArray, List.getElem_cons_zero, List.getElem_cons_succ, List.setIfInBounds_toArray, List.set_cons_zero, List.set_cons_succ]
  rw [HX.out] at r70 ⊢
  clear ab7 hz70
  generalize W1.alloc (.cells #[.int .u32 0, .map none] 70) = W2 at hS r70 ⊢
  have O70 : Off (· = X) W2 (W2.setRow X #[.int .u32 0, .map none]) := Off.of_setRow _ _ _ rfl
  have hS3 : MA (W2.setRow X #[.int .u32 0, .map none]) F g m ∧ Row (W2.setRow X #[.int .u32 0, .map none]) A0 #[.int .u8 cl.kind, .int .u64 cl.txn, .int .u16 cl.page, .int .i64 cl.off, .string cl.str] 35 ∧ Row (W2.setRow X #[.int .u32 0, .map none]) (A0 + 1) Z 40 ∧ Below w.heap.size w (W2.setRow X #[.int .u32 0, .map none]) := ⟨hS.1.off O70 (fun k hk e => by have := HCF.out k hk; rw [e] at this; omega), hS.2.1.off O70 (by omega), hS.2.2.1.off O70 (by omega), below_setRow hS.2.2.2 hXw _⟩
  have r71 : Row (W2.setRow X #[.int .u32 0, .map none]) X #[.int .u32 0, .map none] 70 := r70.set _
  refine wpAnyH_ready (rs := [11]) (by kernel_rfl) (by simp) ?_
  refine AllReadyH.cons rfl (fun K hK => step_cells rfl 70 (.tmp 5) (.tmp 15) rfl X #[.int .u32 0, .map none] rfl rfl 70 _ r70 2 size70 rfl HLS.out HLO.out (hK.out _ _ hS3 fun hS => ?_)) AllReadyH.nil
  try simp only [Act.put, List.getElem_toArray, List.getElem_cons_zero, List.getElem_cons_succ, List.setIfInBounds_toArray, List.set_cons_zero, List.set_cons_succ]
  clear hS3 O70 r70
  generalize W2.setRow X #[.int .u32 0, .map none] = W3 at hS r71 ⊢
  refine wpAnyH_ready (rs := [12]) (by kernel_rfl) (by simp) ?_
  refine AllReadyH.cons rfl (fun K hK => ?_) AllReadyH.nil
  go_simp
  refine hK.out _ _ hS fun hS => ?_
  try simp only [Act.put, List.getElem_toArray, List.getElem_cons_zero, List.getElem_cons_succ, List.setIfInBounds_toArray, List.set_cons_zero, List.set_cons_succ]
  refine wpAnyH_done (by kernel_rfl) ?_ _
  obtain ⟨c3, rc3, r403, ab3⟩ := hS
  clear c3 rc3 r71
  have ho := only_any 9 W3
  have HFS : Hid ((Rep.fail 9).arr.size = 67) := Rep.arr_size (zs_length _)
  have fo := (Rep.fail 9).one
  obtain ⟨FA, HFA⟩ : ∃ FA, Hid ((Rep.fail 9).arr = FA) := ⟨_, rfl⟩
  rw [HFA.out] at ho HFS fo
  have ts : Hid (1 = 1) := rfl
  go_wp2_with (first
    | (go_at_call 19; refine ho.mono ?_; clear ho; rintro e wd ⟨he, hcb⟩; obtain rfl := he; have r9 := r403.below hcb r403.lt; have ab9 := ab3.trans (hcb.mono ab3.size))
    | (have hh := ts; clear hh ts; refine store_cells rfl 40 (.tmp 4) (.tmp 19) rfl (A0 + 1) FA rfl rfl 40 _ r9 67 size40 HZS.out HFS.out fo ?_))
  refine bodyPost_ret (v := .agg FA) (ret_cell (fn := Try.f22) rfl _ _ (A0 + 1) 40 FA _ rfl (r9.set _) Try.underlying40 rfl (by rw [size40, HFS.out])) rfl ?_
  rw [HPP.out]
  exact ⟨by rw [HFA.out], below_setRow ab9 (by rw [HA0.out]; exact Nat.le_succ _) _⟩

set_option maxHeartbeats 2000000 in
theorem end_abort {w : World} {F : Nat → Prop} {g : Nat} {m : M} (c : MA w F g m) (cl : Cal) (hcl : cl.Ok) (t : Tx) (hf : findT m.L cl.txn = some t) (hkd : cl.kind = 4) : Calls Try.prog 22 #[.pointer (some ⟨g, 0, none⟩), .agg cl.arr] w fun r w' => r = .returned (.agg Rep.zero.arr) ∧ Went w F g (M.abs { m with L := endT m.L cl.txn }) w' := by
  have HCF : Hid (∀ k, F k → k < w.heap.size) := c.lt
  have HLK : Hid (∀ W, MA W F g m → (Instr.lookup 55 (.map (some m.lm)) (.int .u64 cl.txn) true).run Try.prog W = .ok (.tuple #[.agg #[.int .u32 t.start, .map (some t.mb)], .bool true]) W) := fun W h => by have := look_tx h cl.txn hcl.t.1 hcl.t.2; rw [hf] at this; exact this
  have HLS : Hid ((#[.int .u32 t.start, .map (some t.mb)] : Array Value).size = 2) := rfl
  have HLO : Hid ((#[.int .u32 t.start, .map (some t.mb)] : Array Value).all (·.oneCell') = true) := by show _ = true; simp [Value.oneCell']
  have HT := findT_some hf
  have HTM : Hid (t ∈ m.L) := HT.1
  have HTX : Hid (0 ≤ t.start ∧ t.start ≤ 4294967295 ∧ WsOk m.ps.length t.ws) := c.txok HT.1
  have hwk : (Lit.int .u64 cl.txn).wf = true := wf_u64 hcl.t.1 hcl.t.2
  have HEN : Hid ((txD m.L).del (.int .u64 cl.txn) = txD (endT m.L cl.txn)) := txD_del _ _
  clear HT
  have HKD : Hid _ := hkd
  clear hkd
  obtain ⟨PP, HPP⟩ : ∃ PP : Ending → World → Prop, Hid (PP = fun r w' => r = .returned (.agg Rep.zero.arr) ∧ Went w F g (M.abs { m with L := endT m.L cl.txn }) w') := ⟨_, rfl⟩
  rw [← HPP.out]
  have hz40 := zero40
  have HZS : Hid (Rep.zero.arr.size = 67) := rz
  generalize Rep.zero.arr = Z at hz40 HZS
  have HCC : Hid (MA w F g m) := c
  have ab : Below w.heap.size w (w.alloc (.cells #[.int .u8 cl.kind, .int .u64 cl.txn, .int .u16 cl.page, .int .i64 cl.off, .string cl.str] 35)) := (Below.refl _ _).alloc (Nat.le_refl _) _
  have rx : Row (w.alloc (.cells #[.int .u8 cl.kind, .int .u64 cl.txn, .int .u16 cl.page, .int .i64 cl.off, .string cl.str] 35)) w.heap.size #[.int .u8 cl.kind, .int .u64 cl.txn, .int .u16 cl.page, .int .i64 cl.off, .string cl.str] 35 := Row.new _ _ _
  have e1 : (w.alloc (.cells #[.int .u8 cl.kind, .int .u64 cl.txn, .int .u16 cl.page, .int .i64 cl.off, .string cl.str] 35)).heap.size = w.heap.size + 1 := Array.size_push ..
  have ab1 : Below w.heap.size w ((w.alloc (.cells #[.int .u8 cl.kind, .int .u64 cl.txn, .int .u16 cl.page, .int .i64 cl.off, .string cl.str] 35)).alloc (.cells Z 40)) := ab.alloc ab.size _
  have r40 : Row ((w.alloc (.cells #[.int .u8 cl.kind, .int .u64 cl.txn, .int .u16 cl.page, .int .i64 cl.off, .string cl.str] 35)).alloc (.cells Z 40)) (w.alloc (.cells #[.int .u8 cl.kind, .int .u64 cl.txn, .int .u16 cl.page, .int .i64 cl.off, .string cl.str] 35)).heap.size Z 40 := Row.new _ _ _
  have rx1 := rx.alloc (.cells Z 40)
  rw [e1] at r40
  unfold Cal.arr
  clear c rx ab e1
  go_enter Try.func22, Try.ntmps22
  go_upto_region 1 with fail
  generalize (w.alloc (.cells #[.int .u8 cl.kind, .int .u64 cl.txn, .int .u16 cl.page, .int .i64 cl.off, .string cl.str] 35)).alloc (.cells Z 40) = W at ab1 r40 rx1 ⊢
  obtain ⟨A0, HA0⟩ : ∃ A0, Hid (w.heap.size = A0) := ⟨_, rfl⟩
  rw [HA0.out] at r40 rx1 ⊢
  have HR1 : Hid (Row W (A0 + 1) Z 40) := r40
  refine wp_region_held_drew (S := fun w' => MA w' F g m ∧ Row w' A0 #[.int .u8 cl.kind, .int .u64 cl.txn, .int .u16 cl.page, .int .i64 cl.off, .string cl.str] 35 ∧ Row w' (A0 + 1) Z 40 ∧ Below w.heap.size w w') (by kernel_rfl) ⟨HCC.out.below ab1.drew, rx1, r40, ab1.drew⟩ fun hS => ?_
  refine wpAnyH_take (i := 0) (v := .pointer (some ⟨g, 0, none⟩)) rfl (by kernel_rfl) (by kernel_rfl) (by kernel_rfl) (fun _ _ _ h => h) (Or.inl ⟨by rfl, fun w _ => by rfl⟩) hS ?_
  try simp only [Act.put, List.getElem_toArray, List.getElem_cons_zero, List.getElem_cons_succ, List.setIfInBounds_toArray, List.set_cons_zero, List.set_cons_succ]
  refine wpAnyH_take (i := 1) (v := .pointer (some ⟨g, 0, none⟩)) rfl (by kernel_rfl) (by kernel_rfl) (by kernel_rfl) (fun _ _ _ h => h) (Or.inl ⟨by rfl, fun w _ => by go_simp⟩) hS ?_
  try simp only [Act.put, List.getElem_toArray, List.getElem_cons_zero, List.getElem_cons_succ, List.setIfInBounds_toArray, List.set_cons_zero, List.set_cons_succ]
  refine wpAnyH_take (i := 2) (v := .pointer (some ⟨g, 4, none⟩)) rfl (by kernel_rfl) (by kernel_rfl) (by kernel_rfl) (fun _ _ _ h => h) (Or.inl ⟨by rfl, fun w _ => by go_simp⟩) hS ?_
  try simp only [Act.put, List.getElem_toArray, List.getElem_cons_zero, List.getElem_cons_succ, List.setIfInBounds_toArray, List.set_cons_zero, List.set_cons_succ]
  refine wpAnyH_take (i := 3) (v := .map (some m.lm)) rfl (by kernel_rfl) (by kernel_rfl) (by kernel_rfl) (fun _ _ _ h => h) (Or.inl ⟨by rfl, fun w h => by have c := h.1.at_.c4; go_simp⟩) hS ?_
  try simp only [Act.put, List.getElem_toArray, List.getElem_cons_zero, List.getElem_cons_succ, List.setIfInBounds_toArray, List.set_cons_zero, List.set_cons_succ]
  refine wpAnyH_take (i := 4) (v := .pointer (some ⟨A0, 1, none⟩)) rfl (by kernel_rfl) (by kernel_rfl) (by kernel_rfl) (fun _ _ _ h => h) (Or.inl ⟨by rfl, fun w _ => by go_simp⟩) hS ?_
  try simp only [Act.put, List.getElem_toArray, List.getElem_cons_zero, List.getElem_cons_succ, List.setIfInBounds_toArray, List.set_cons_zero, List.set_cons_succ]
  refine wpAnyH_take (i := 5) (v := .int .u64 cl.txn) rfl (by kernel_rfl) (by kernel_rfl) (by kernel_rfl) (fun _ _ _ h => h) (Or.inl ⟨by rfl, fun w h => by have c := row_at h.2.1 1 _ rfl; go_simp⟩) hS ?_
  try simp only [Act.put, List.getElem_toArray, List.getElem_cons_zero, List.getElem_cons_succ, List.setIfInBounds_toArray, List.set_cons_zero, List.set_cons_succ]
  refine wpAnyH_take (i := 6) (v := .tuple #[.agg #[.int .u32 t.start, .map (some t.mb)], .bool true]) rfl (by kernel_rfl) (by kernel_rfl) (by kernel_rfl) (fun _ _ _ h => h) (Or.inl ⟨by rfl, fun w h => by have c := HLK.out w h.1; go_simp⟩) hS ?_
  try simp only [Act.put, List.getElem_toArray, List.getElem_cons_zero, List.getElem_cons_succ, List.setIfInBounds_toArray, List.set_cons_zero, List.set_cons_succ]
  refine wpAnyH_take (i := 7) (v := .tuple #[.agg #[.int .u32 t.start, .map (some t.mb)], .bool true]) rfl (by kernel_rfl) (by kernel_rfl) (by kernel_rfl) (fun _ _ _ h => h) (Or.inl ⟨by rfl, fun w _ => by rfl⟩) hS ?_
  try simp only [Act.put, List.getElem_toArray, List.getElem_cons_zero, List.getElem_cons_succ, List.setIfInBounds_toArray, List.set_cons_zero, List.set_cons_succ]
  refine wpAnyH_take (i := 8) (v := .agg #[.int .u32 t.start, .map (some t.mb)]) rfl (by kernel_rfl) (by kernel_rfl) (by kernel_rfl) (fun _ _ _ h => h) (Or.inl ⟨by rfl, fun w _ => by go_simp⟩) hS ?_
  try simp only [Act.put, List.getElem_toArray, List.getElem_cons_zero, List.getElem_cons_succ, List.setIfInBounds_toArray, List.set_cons_zero, List.set_cons_succ]
  refine wpAnyH_take (i := 9) (v := .bool true) rfl (by kernel_rfl) (by kernel_rfl) (by kernel_rfl) (fun _ _ _ h => h) (Or.inl ⟨by rfl, fun w _ => by go_simp⟩) hS ?_
  try simp only [Act.put, List.getElem_toArray, List.getElem_cons_zero, List.getElem_cons_succ, List.setIfInBounds_toArray, List.set_cons_zero, List.set_cons_succ]
  clear ab1 r40 rx1 HR1
  generalize W.drew = W1 at hS ⊢
  refine wpAnyH_ready (rs := [10]) (by kernel_rfl) (by simp) ?_
  refine AllReadyH.cons rfl (fun K hK => ?_) AllReadyH.nil
  have hz70 := zero70
  have ab7 : Below W1.heap.size W1 (W1.alloc (.cells #[.int .u32 0, .map none] 70)) := (Below.refl _ _).alloc (Nat.le_refl _) _
  have r70 : Row (W1.alloc (.cells #[.int .u32 0, .map none] 70)) W1.heap.size #[.int .u32 0, .map none] 70 := Row.new _ _ _
  obtain ⟨X, HX⟩ : ∃ X, Hid (W1.heap.size = X) := ⟨_, rfl⟩
  have hXA : A0 + 1 < X := by rw [← HX.out]; exact hS.2.2.1.lt
  have hXw : w.heap.size ≤ X := by rw [← HX.out]; exact hS.2.2.2.size
  go_simp
  refine hK.out _ _ ⟨hS.1.below ab7, hS.2.1.alloc _, hS.2.2.1.alloc _, hS.2.2.2.trans (ab7.mono hS.2.2.2.size)⟩ fun hS => ?_
  try simp only [Act.put, List.getElem_toArray, List.getElem_cons_zero, List.getElem_cons_succ, List.setIfInBounds_toArray, List.set_cons_zero, List.set_cons_succ]
  rw [HX.out] at r70 ⊢
  clear ab7 hz70
  generalize W1.alloc (.cells #[.int .u32 0, .map none] 70) = W2 at hS r70 ⊢
  have O70 : Off (· = X) W2 (W2.setRow X #[.int .u32 t.start, .map (some t.mb)]) := Off.of_setRow _ _ _ rfl
  have hS3 : MA (W2.setRow X #[.int .u32 t.start, .map (some t.mb)]) F g m ∧ Row (W2.setRow X #[.int .u32 t.start, .map (some t.mb)]) A0 #[.int .u8 cl.kind, .int .u64 cl.txn, .int .u16 cl.page, .int .i64 cl.off, .string cl.str] 35 ∧ Row (W2.setRow X #[.int .u32 t.start, .map (some t.mb)]) (A0 + 1) Z 40 ∧ Below w.heap.size w (W2.setRow X #[.int .u32 t.start, .map (some t.mb)]) := ⟨hS.1.off O70 (fun k hk e => by have := HCF.out k hk; rw [e] at this; omega), hS.2.1.off O70 (by omega), hS.2.2.1.off O70 (by omega), below_setRow hS.2.2.2 hXw _⟩
  have r71 : Row (W2.setRow X #[.int .u32 t.start, .map (some t.mb)]) X #[.int .u32 t.start, .map (some t.mb)] 70 := r70.set _
  refine wpAnyH_ready (rs := [11]) (by kernel_rfl) (by simp) ?_
  refine AllReadyH.cons rfl (fun K hK => step_cells rfl 70 (.tmp 5) (.tmp 15) rfl X #[.int .u32 t.start, .map (some t.mb)] rfl rfl 70 _ r70 2 size70 rfl HLS.out HLO.out (hK.out _ _ hS3 fun hS => ?_)) AllReadyH.nil
  try simp only [Act.put, List.getElem_toArray, List.getElem_cons_zero, List.getElem_cons_succ, List.setIfInBounds_toArray, List.set_cons_zero, List.set_cons_succ]
  clear hS3 O70 r70
  generalize W2.setRow X #[.int .u32 t.start, .map (some t.mb)] = W3 at hS r71 ⊢
  refine wpAnyH_ready (rs := [12]) (by kernel_rfl) (by simp) ?_
  refine AllReadyH.cons rfl (fun K hK => ?_) AllReadyH.nil
  go_simp
  refine hK.out _ _ hS fun hS => ?_
  try simp only [Act.put, List.getElem_toArray, List.getElem_cons_zero, List.getElem_cons_succ, List.setIfInBounds_toArray, List.set_cons_zero, List.set_cons_succ]
  refine wpAnyH_done (by kernel_rfl) ?_ _
  obtain ⟨c3, rc3, r403, ab3⟩ := hS
  clear HLK
  have e0 := row_at rc3 0 _ rfl
  go_upto_region 4 with fail
  refine wp_region_held_drew (S := fun w' => Row w' g m.cells 58 ∧ Row w' A0 #[.int .u8 cl.kind, .int .u64 cl.txn, .int .u16 cl.page, .int .i64 cl.off, .string cl.str] 35) (by kernel_rfl) ⟨c3.at_.row, rc3⟩ fun hS => ?_
  refine wpAnyH_take (i := 0) (v := .pointer (some ⟨g, 0, none⟩)) rfl (by kernel_rfl) (by kernel_rfl) (by kernel_rfl) (fun _ _ _ h => h) (Or.inl ⟨by rfl, fun w _ => by rfl⟩) hS ?_
  try simp only [Act.put, List.getElem_toArray, List.getElem_cons_zero, List.getElem_cons_succ, List.setIfInBounds_toArray, List.set_cons_zero, List.set_cons_succ]
  refine wpAnyH_take (i := 1) (v := .pointer (some ⟨g, 0, none⟩)) rfl (by kernel_rfl) (by kernel_rfl) (by kernel_rfl) (fun _ _ _ h => h) (Or.inl ⟨by rfl, fun w _ => by go_simp⟩) hS ?_
  try simp only [Act.put, List.getElem_toArray, List.getElem_cons_zero, List.getElem_cons_succ, List.setIfInBounds_toArray, List.set_cons_zero, List.set_cons_succ]
  refine wpAnyH_take (i := 2) (v := .pointer (some ⟨g, 4, none⟩)) rfl (by kernel_rfl) (by kernel_rfl) (by kernel_rfl) (fun _ _ _ h => h) (Or.inl ⟨by rfl, fun w _ => by go_simp⟩) hS ?_
  try simp only [Act.put, List.getElem_toArray, List.getElem_cons_zero, List.getElem_cons_succ, List.setIfInBounds_toArray, List.set_cons_zero, List.set_cons_succ]
  refine wpAnyH_take (i := 3) (v := .map (some m.lm)) rfl (by kernel_rfl) (by kernel_rfl) (by kernel_rfl) (fun _ _ _ h => h) (Or.inl ⟨by rfl, fun w h => by have c : w.cell? ⟨g, 4, none⟩ = some (.map (some m.lm)) := row_at h.1 4 _ rfl; go_simp⟩) hS ?_
  try simp only [Act.put, List.getElem_toArray, List.getElem_cons_zero, List.getElem_cons_succ, List.setIfInBounds_toArray, List.set_cons_zero, List.set_cons_succ]
  refine wpAnyH_take (i := 4) (v := .pointer (some ⟨A0, 1, none⟩)) rfl (by kernel_rfl) (by kernel_rfl) (by kernel_rfl) (fun _ _ _ h => h) (Or.inl ⟨by rfl, fun w _ => by go_simp⟩) hS ?_
  try simp only [Act.put, List.getElem_toArray, List.getElem_cons_zero, List.getElem_cons_succ, List.setIfInBounds_toArray, List.set_cons_zero, List.set_cons_succ]
  refine wpAnyH_take (i := 5) (v := .int .u64 cl.txn) rfl (by kernel_rfl) (by kernel_rfl) (by kernel_rfl) (fun _ _ _ h => h) (Or.inl ⟨by rfl, fun w h => by have c := row_at h.2 1 _ rfl; go_simp⟩) hS ?_
  try simp only [Act.put, List.getElem_toArray, List.getElem_cons_zero, List.getElem_cons_succ, List.setIfInBounds_toArray, List.set_cons_zero, List.set_cons_succ]
  have c4 := c3.below (below_drew W3)
  have rc4 : Row W3.drew A0 #[.int .u8 cl.kind, .int .u64 cl.txn, .int .u16 cl.page, .int .i64 cl.off, .string cl.str] 35 := rc3
  have r404 : Row W3.drew (A0 + 1) Z 40 := r403
  have r74 : Row W3.drew X #[.int .u32 t.start, .map (some t.mb)] 70 := r71
  have ab4 := ab3.drew
  clear c3 rc3 r403 r71 ab3 e0
  generalize W3.drew = W4 at hS c4 rc4 r404 r74 ab4 ⊢
  refine wpAnyH_ready (rs := [6]) (by kernel_rfl) (by simp) ?_
  refine AllReadyH.cons rfl (fun K hK => step_delete rfl _ _ 55 32 rfl 70 law32 Try.underlying55 _ m.lm _ _ rfl c4.at_.lown _ _ rfl (keyOf_int_mk Try.underlying32 hwk) ?_) AllReadyH.nil
  intro W5 hown5 hturn5
  rw [HEN.out] at hown5
  obtain ⟨c5, O5⟩ := MA.ended c4 cl.txn hown5 hturn5
  have own5 := ownsMap_off (c4.at_.wown t HTM.out) O5 (fun e => c4.at_.lne t HTM.out e)
  have kl := c4.at_.kl
  have rc5 := rc4.off O5 (fun e => ne_map (row_is rc4) kl e)
  have r405 := r404.off O5 (fun e => ne_map (row_is r404) kl e)
  have r75 := r74.off O5 (fun e => ne_map (row_is r74) kl e)
  have hlm : F m.lm := c4.foot _ (Or.inr (Or.inr (Or.inl rfl)))
  have F5 : Off F w W5 := (Off.of_below ab4).trans O5 (fun j q => Or.inl (by cases q; exact hlm))
  refine hK.out _ _ ⟨hS.1.off O5 (fun e => ne_map (row_is hS.1) kl e), rc5⟩ fun hS => ?_
  try simp only [Act.put, List.getElem_toArray, List.getElem_cons_zero, List.getElem_cons_succ, List.setIfInBounds_toArray, List.set_cons_zero, List.set_cons_succ]
  refine wpAnyH_done (by kernel_rfl) ?_ _
  clear hS c4 rc4 r404 r74 ab4 O5 hown5 hturn5 kl hlm
  have e0 := row_at rc5 0 _ rfl
  have hk : (cl.kind == 4) = true := by rw [HKD.out]; rfl
  have bu := built40_none
  have HFS : Hid (Rep.zero.arr.size = 67) := rz
  have fo := Rep.zero.one
  obtain ⟨FA, HFA⟩ : ∃ FA, Hid (Rep.zero.arr = FA) := ⟨_, rfl⟩
  rw [HFA.out] at bu HFS fo
  rw [HKD.out] at e0
  have W6 : Hid (Went w F g (M.abs { m with L := endT m.L cl.txn }) (W5.setRow (A0 + 1) FA)) := Went.close HCF.out F5 (Went.same (w := W5) ⟨_, rfl, c5⟩ (Below.refl _ _)) r405.lt (by rw [HA0.out]; exact Nat.le_succ _) (Off.of_setRow W5 (A0 + 1) FA rfl)
  clear c5 own5 F5
  have tb : Hid (1 = 1) := rfl
  have ts : Hid (1 = 1) := rfl
  go_wp2_with (first
    | (have hh := tb; clear hh tb; refine build_cells rfl 40 #[] rfl _ rfl FA bu ?_)
    | (have hh := ts; clear hh ts; refine store_cells rfl 40 (.tmp 4) (.tmp 29) rfl (A0 + 1) FA rfl rfl 40 _ r405 67 size40 HZS.out HFS.out fo ?_))
  refine bodyPost_ret (v := .agg FA) (ret_cell (fn := Try.f22) rfl _ _ (A0 + 1) 40 FA _ rfl (r405.set _) Try.underlying40 rfl (by rw [size40, HFS.out])) rfl ?_
  rw [HPP.out]
  exact ⟨by rw [HFA.out], W6.out⟩

set_option maxHeartbeats 2000000 in
theorem end_commit {w : World} {F : Nat → Prop} {g : Nat} {m : M} (c : MA w F g m) (cl : Cal) (hcl : cl.Ok) (t : Tx) (hf : findT m.L cl.txn = some t) (hkd : ¬ cl.kind = 4) : Calls Try.prog 22 #[.pointer (some ⟨g, 0, none⟩), .agg cl.arr] w fun r w' => r = .returned (.agg (commitR (M.abs { m with L := endT m.L cl.txn }) t.start t.ws).arr) ∧ Went w F g (commitS (M.abs { m with L := endT m.L cl.txn }) t.start t.ws) w' := by
  have HCF : Hid (∀ k, F k → k < w.heap.size) := c.lt
  have HLK : Hid (∀ W, MA W F g m → (Instr.lookup 55 (.map (some m.lm)) (.int .u64 cl.txn) true).run Try.prog W = .ok (.tuple #[.agg #[.int .u32 t.start, .map (some t.mb)], .bool true]) W) := fun W h => by have := look_tx h cl.txn hcl.t.1 hcl.t.2; rw [hf] at this; exact this
  have HLS : Hid ((#[.int .u32 t.start, .map (some t.mb)] : Array Value).size = 2) := rfl
  have HLO : Hid ((#[.int .u32 t.start, .map (some t.mb)] : Array Value).all (·.oneCell') = true) := by show _ = true; simp [Value.oneCell']
  have HT := findT_some hf
  have HTM : Hid (t ∈ m.L) := HT.1
  have HTX : Hid (0 ≤ t.start ∧ t.start ≤ 4294967295 ∧ WsOk m.ps.length t.ws) := c.txok HT.1
  have hwk : (Lit.int .u64 cl.txn).wf = true := wf_u64 hcl.t.1 hcl.t.2
  have HEN : Hid ((txD m.L).del (.int .u64 cl.txn) = txD (endT m.L cl.txn)) := txD_del _ _
  clear HT
  have HKD : Hid _ := hkd
  clear hkd
  obtain ⟨PP, HPP⟩ : ∃ PP : Ending → World → Prop, Hid (PP = fun r w' => r = .returned (.agg (commitR (M.abs { m with L := endT m.L cl.txn }) t.start t.ws).arr) ∧ Went w F g (commitS (M.abs { m with L := endT m.L cl.txn }) t.start t.ws) w') := ⟨_, rfl⟩
  rw [← HPP.out]
  have hz40 := zero40
  have HZS : Hid (Rep.zero.arr.size = 67) := rz
  generalize Rep.zero.arr = Z at hz40 HZS
  have HCC : Hid (MA w F g m) := c
  have ab : Below w.heap.size w (w.alloc (.cells #[.int .u8 cl.kind, .int .u64 cl.txn, .int .u16 cl.page, .int .i64 cl.off, .string cl.str] 35)) := (Below.refl _ _).alloc (Nat.le_refl _) _
  have rx : Row (w.alloc (.cells #[.int .u8 cl.kind, .int .u64 cl.txn, .int .u16 cl.page, .int .i64 cl.off, .string cl.str] 35)) w.heap.size #[.int .u8 cl.kind, .int .u64 cl.txn, .int .u16 cl.page, .int .i64 cl.off, .string cl.str] 35 := Row.new _ _ _
  have e1 : (w.alloc (.cells #[.int .u8 cl.kind, .int .u64 cl.txn, .int .u16 cl.page, .int .i64 cl.off, .string cl.str] 35)).heap.size = w.heap.size + 1 := Array.size_push ..
  have ab1 : Below w.heap.size w ((w.alloc (.cells #[.int .u8 cl.kind, .int .u64 cl.txn, .int .u16 cl.page, .int .i64 cl.off, .string cl.str] 35)).alloc (.cells Z 40)) := ab.alloc ab.size _
  have r40 : Row ((w.alloc (.cells #[.int .u8 cl.kind, .int .u64 cl.txn, .int .u16 cl.page, .int .i64 cl.off, .string cl.str] 35)).alloc (.cells Z 40)) (w.alloc (.cells #[.int .u8 cl.kind, .int .u64 cl.txn, .int .u16 cl.page, .int .i64 cl.off, .string cl.str] 35)).heap.size Z 40 := Row.new _ _ _
  have rx1 := rx.alloc (.cells Z 40)
  rw [e1] at r40
  unfold Cal.arr
  clear c rx ab e1
  go_enter Try.func22, Try.ntmps22
  go_upto_region 1 with fail
  generalize (w.alloc (.cells #[.int .u8 cl.kind, .int .u64 cl.txn, .int .u16 cl.page, .int .i64 cl.off, .string cl.str] 35)).alloc (.cells Z 40) = W at ab1 r40 rx1 ⊢
  obtain ⟨A0, HA0⟩ : ∃ A0, Hid (w.heap.size = A0) := ⟨_, rfl⟩
  rw [HA0.out] at r40 rx1 ⊢
  have HR1 : Hid (Row W (A0 + 1) Z 40) := r40
  refine wp_region_held_drew (S := fun w' => MA w' F g m ∧ Row w' A0 #[.int .u8 cl.kind, .int .u64 cl.txn, .int .u16 cl.page, .int .i64 cl.off, .string cl.str] 35 ∧ Row w' (A0 + 1) Z 40 ∧ Below w.heap.size w w') (by kernel_rfl) ⟨HCC.out.below ab1.drew, rx1, r40, ab1.drew⟩ fun hS => ?_
  refine wpAnyH_take (i := 0) (v := .pointer (some ⟨g, 0, none⟩)) rfl (by kernel_rfl) (by kernel_rfl) (by kernel_rfl) (fun _ _ _ h => h) (Or.inl ⟨by rfl, fun w _ => by rfl⟩) hS ?_
  try simp only [Act.put, List.getElem_toArray, List.getElem_cons_zero, List.getElem_cons_succ, List.setIfInBounds_toArray, List.set_cons_zero, List.set_cons_succ]
  refine wpAnyH_take (i := 1) (v := .pointer (some ⟨g, 0, none⟩)) rfl (by kernel_rfl) (by kernel_rfl) (by kernel_rfl) (fun _ _ _ h => h) (Or.inl ⟨by rfl, fun w _ => by go_simp⟩) hS ?_
  try simp only [Act.put, List.getElem_toArray, List.getElem_cons_zero, List.getElem_cons_succ, List.setIfInBounds_toArray, List.set_cons_zero, List.set_cons_succ]
  refine wpAnyH_take (i := 2) (v := .pointer (some ⟨g, 4, none⟩)) rfl (by kernel_rfl) (by kernel_rfl) (by kernel_rfl) (fun _ _ _ h => h) (Or.inl ⟨by rfl, fun w _ => by go_simp⟩) hS ?_
  try simp only [Act.put, List.getElem_toArray, List.getElem_cons_zero, List.getElem_cons_succ, List.setIfInBounds_toArray, List.set_cons_zero, List.set_cons_succ]
  refine wpAnyH_take (i := 3) (v := .map (some m.lm)) rfl (by kernel_rfl) (by kernel_rfl) (by kernel_rfl) (fun _ _ _ h => h) (Or.inl ⟨by rfl, fun w h => by have c := h.1.at_.c4; go_simp⟩) hS ?_
  try simp only [Act.put, List.getElem_toArray, List.getElem_cons_zero, List.getElem_cons_succ, List.setIfInBounds_toArray, List.set_cons_zero, List.set_cons_succ]
  refine wpAnyH_take (i := 4) (v := .pointer (some ⟨A0, 1, none⟩)) rfl (by kernel_rfl) (by kernel_rfl) (by kernel_rfl) (fun _ _ _ h => h) (Or.inl ⟨by rfl, fun w _ => by go_simp⟩) hS ?_
  try simp only [Act.put, List.getElem_toArray, List.getElem_cons_zero, List.getElem_cons_succ, List.setIfInBounds_toArray, List.set_cons_zero, List.set_cons_succ]
  refine wpAnyH_take (i := 5) (v := .int .u64 cl.txn) rfl (by kernel_rfl) (by kernel_rfl) (by kernel_rfl) (fun _ _ _ h => h) (Or.inl ⟨by rfl, fun w h => by have c := row_at h.2.1 1 _ rfl; go_simp⟩) hS ?_
  try simp only [Act.put, List.getElem_toArray, List.getElem_cons_zero, List.getElem_cons_succ, List.setIfInBounds_toArray, List.set_cons_zero, List.set_cons_succ]
  refine wpAnyH_take (i := 6) (v := .tuple #[.agg #[.int .u32 t.start, .map (some t.mb)], .bool true]) rfl (by kernel_rfl) (by kernel_rfl) (by kernel_rfl) (fun _ _ _ h => h) (Or.inl ⟨by rfl, fun w h => by have c := HLK.out w h.1; go_simp⟩) hS ?_
  try simp only [Act.put, List.getElem_toArray, List.getElem_cons_zero, List.getElem_cons_succ, List.setIfInBounds_toArray, List.set_cons_zero, List.set_cons_succ]
  refine wpAnyH_take (i := 7) (v := .tuple #[.agg #[.int .u32 t.start, .map (some t.mb)], .bool true]) rfl (by kernel_rfl) (by kernel_rfl) (by kernel_rfl) (fun _ _ _ h => h) (Or.inl ⟨by rfl, fun w _ => by rfl⟩) hS ?_
  try simp only [Act.put, List.getElem_toArray, List.getElem_cons_zero, List.getElem_cons_succ, List.setIfInBounds_toArray, List.set_cons_zero, List.set_cons_succ]
  refine wpAnyH_take (i := 8) (v := .agg #[.int .u32 t.start, .map (some t.mb)]) rfl (by kernel_rfl) (by kernel_rfl) (by kernel_rfl) (fun _ _ _ h => h) (Or.inl ⟨by rfl, fun w _ => by go_simp⟩) hS ?_
  try simp only [Act.put, List.getElem_toArray, List.getElem_cons_zero, List.getElem_cons_succ, List.setIfInBounds_toArray, List.set_cons_zero, List.set_cons_succ]
  refine wpAnyH_take (i := 9) (v := .bool true) rfl (by kernel_rfl) (by kernel_rfl) (by kernel_rfl) (fun _ _ _ h => h) (Or.inl ⟨by rfl, fun w _ => by go_simp⟩) hS ?_
  try simp only [Act.put, List.getElem_toArray, List.getElem_cons_zero, List.getElem_cons_succ, List.setIfInBounds_toArray, List.set_cons_zero, List.set_cons_succ]
  clear ab1 r40 rx1 HR1
  generalize W.drew = W1 at hS ⊢
  refine wpAnyH_ready (rs := [10]) (by kernel_rfl) (by simp) ?_
  refine AllReadyH.cons rfl (fun K hK => ?_) AllReadyH.nil
  have hz70 := zero70
  have ab7 : Below W1.heap.size W1 (W1.alloc (.cells #[.int .u32 0, .map none] 70)) := (Below.refl _ _).alloc (Nat.le_refl _) _
  have r70 : Row (W1.alloc (.cells #[.int .u32 0, .map none] 70)) W1.heap.size #[.int .u32 0, .map none] 70 := Row.new _ _ _
  obtain ⟨X, HX⟩ : ∃ X, Hid (W1.heap.size = X) := ⟨_, rfl⟩
  have hXA : A0 + 1 < X := by rw [← HX.out]; exact hS.2.2.1.lt
  have hXw : w.heap.size ≤ X := by rw [← HX.out]; exact hS.2.2.2.size
  go_simp
  refine hK.out _ _ ⟨hS.1.below ab7, hS.2.1.alloc _, hS.2.2.1.alloc _, hS.2.2.2.trans (ab7.mono hS.2.2.2.size)⟩ fun hS => ?_
  try simp only [Act.put, List.getElem_toArray, List.getElem_cons_zero, List.getElem_cons_succ, List.setIfInBounds_toArray, List.set_cons_zero, List.set_cons_succ]
  rw [HX.out] at r70 ⊢
  clear ab7 hz70
  generalize W1.alloc (.cells #[.int .u32 0, .map none] 70) = W2 at hS r70 ⊢
  have O70 : Off (· = X) W2 (W2.setRow X #[.int .u32 t.start, .map (some t.mb)]) := Off.of_setRow _ _ _ rfl
  have hS3 : MA (W2.setRow X #[.int .u32 t.start, .map (some t.mb)]) F g m ∧ Row (W2.setRow X #[.int .u32 t.start, .map (some t.mb)]) A0 #[.int .u8 cl.kind, .int .u64 cl.txn, .int .u16 cl.page, .int .i64 cl.off, .string cl.str] 35 ∧ Row (W2.setRow X #[.int .u32 t.start, .map (some t.mb)]) (A0 + 1) Z 40 ∧ Below w.heap.size w (W2.setRow X #[.int .u32 t.start, .map (some t.mb)]) := ⟨hS.1.off O70 (fun k hk e => by have := HCF.out k hk; rw [e] at this; omega), hS.2.1.off O70 (by omega), hS.2.2.1.off O70 (by omega), below_setRow hS.2.2.2 hXw _⟩
  have r71 : Row (W2.setRow X #[.int .u32 t.start, .map (some t.mb)]) X #[.int .u32 t.start, .map (some t.mb)] 70 := r70.set _
  refine wpAnyH_ready (rs := [11]) (by kernel_rfl) (by simp) ?_
  refine AllReadyH.cons rfl (fun K hK => step_cells rfl 70 (.tmp 5) (.tmp 15) rfl X #[.int .u32 t.start, .map (some t.mb)] rfl rfl 70 _ r70 2 size70 rfl HLS.out HLO.out (hK.out _ _ hS3 fun hS => ?_)) AllReadyH.nil
  try simp only [Act.put, List.getElem_toArray, List.getElem_cons_zero, List.getElem_cons_succ, List.setIfInBounds_toArray, List.set_cons_zero, List.set_cons_succ]
  clear hS3 O70 r70
  generalize W2.setRow X #[.int .u32 t.start, .map (some t.mb)] = W3 at hS r71 ⊢
  refine wpAnyH_ready (rs := [12]) (by kernel_rfl) (by simp) ?_
  refine AllReadyH.cons rfl (fun K hK => ?_) AllReadyH.nil
  go_simp
  refine hK.out _ _ hS fun hS => ?_
  try simp only [Act.put, List.getElem_toArray, List.getElem_cons_zero, List.getElem_cons_succ, List.setIfInBounds_toArray, List.set_cons_zero, List.set_cons_succ]
  refine wpAnyH_done (by kernel_rfl) ?_ _
  obtain ⟨c3, rc3, r403, ab3⟩ := hS
  clear HLK
  have e0 := row_at rc3 0 _ rfl
  go_upto_region 4 with fail
  refine wp_region_held_drew (S := fun w' => Row w' g m.cells 58 ∧ Row w' A0 #[.int .u8 cl.kind, .int .u64 cl.txn, .int .u16 cl.page, .int .i64 cl.off, .string cl.str] 35) (by kernel_rfl) ⟨c3.at_.row, rc3⟩ fun hS => ?_
  refine wpAnyH_take (i := 0) (v := .pointer (some ⟨g, 0, none⟩)) rfl (by kernel_rfl) (by kernel_rfl) (by kernel_rfl) (fun _ _ _ h => h) (Or.inl ⟨by rfl, fun w _ => by rfl⟩) hS ?_
  try simp only [Act.put, List.getElem_toArray, List.getElem_cons_zero, List.getElem_cons_succ, List.setIfInBounds_toArray, List.set_cons_zero, List.set_cons_succ]
  refine wpAnyH_take (i := 1) (v := .pointer (some ⟨g, 0, none⟩)) rfl (by kernel_rfl) (by kernel_rfl) (by kernel_rfl) (fun _ _ _ h => h) (Or.inl ⟨by rfl, fun w _ => by go_simp⟩) hS ?_
  try simp only [Act.put, List.getElem_toArray, List.getElem_cons_zero, List.getElem_cons_succ, List.setIfInBounds_toArray, List.set_cons_zero, List.set_cons_succ]
  refine wpAnyH_take (i := 2) (v := .pointer (some ⟨g, 4, none⟩)) rfl (by kernel_rfl) (by kernel_rfl) (by kernel_rfl) (fun _ _ _ h => h) (Or.inl ⟨by rfl, fun w _ => by go_simp⟩) hS ?_
  try simp only [Act.put, List.getElem_toArray, List.getElem_cons_zero, List.getElem_cons_succ, List.setIfInBounds_toArray, List.set_cons_zero, List.set_cons_succ]
  refine wpAnyH_take (i := 3) (v := .map (some m.lm)) rfl (by kernel_rfl) (by kernel_rfl) (by kernel_rfl) (fun _ _ _ h => h) (Or.inl ⟨by rfl, fun w h => by have c : w.cell? ⟨g, 4, none⟩ = some (.map (some m.lm)) := row_at h.1 4 _ rfl; go_simp⟩) hS ?_
  try simp only [Act.put, List.getElem_toArray, List.getElem_cons_zero, List.getElem_cons_succ, List.setIfInBounds_toArray, List.set_cons_zero, List.set_cons_succ]
  refine wpAnyH_take (i := 4) (v := .pointer (some ⟨A0, 1, none⟩)) rfl (by kernel_rfl) (by kernel_rfl) (by kernel_rfl) (fun _ _ _ h => h) (Or.inl ⟨by rfl, fun w _ => by go_simp⟩) hS ?_
  try simp only [Act.put, List.getElem_toArray, List.getElem_cons_zero, List.getElem_cons_succ, List.setIfInBounds_toArray, List.set_cons_zero, List.set_cons_succ]
  refine wpAnyH_take (i := 5) (v := .int .u64 cl.txn) rfl (by kernel_rfl) (by kernel_rfl) (by kernel_rfl) (fun _ _ _ h => h) (Or.inl ⟨by rfl, fun w h => by have c := row_at h.2 1 _ rfl; go_simp⟩) hS ?_
  try simp only [Act.put, List.getElem_toArray, List.getElem_cons_zero, List.getElem_cons_succ, List.setIfInBounds_toArray, List.set_cons_zero, List.set_cons_succ]
  have c4 := c3.below (below_drew W3)
  have rc4 : Row W3.drew A0 #[.int .u8 cl.kind, .int .u64 cl.txn, .int .u16 cl.page, .int .i64 cl.off, .string cl.str] 35 := rc3
  have r404 : Row W3.drew (A0 + 1) Z 40 := r403
  have r74 : Row W3.drew X #[.int .u32 t.start, .map (some t.mb)] 70 := r71
  have ab4 := ab3.drew
  clear c3 rc3 r403 r71 ab3 e0
  generalize W3.drew = W4 at hS c4 rc4 r404 r74 ab4 ⊢
  refine wpAnyH_ready (rs := [6]) (by kernel_rfl) (by simp) ?_
  refine AllReadyH.cons rfl (fun K hK => step_delete rfl _ _ 55 32 rfl 70 law32 Try.underlying55 _ m.lm _ _ rfl c4.at_.lown _ _ rfl (keyOf_int_mk Try.underlying32 hwk) ?_) AllReadyH.nil
  intro W5 hown5 hturn5
  rw [HEN.out] at hown5
  obtain ⟨c5, O5⟩ := MA.ended c4 cl.txn hown5 hturn5
  have own5 := ownsMap_off (c4.at_.wown t HTM.out) O5 (fun e => c4.at_.lne t HTM.out e)
  have kl := c4.at_.kl
  have rc5 := rc4.off O5 (fun e => ne_map (row_is rc4) kl e)
  have r405 := r404.off O5 (fun e => ne_map (row_is r404) kl e)
  have r75 := r74.off O5 (fun e => ne_map (row_is r74) kl e)
  have hlm : F m.lm := c4.foot _ (Or.inr (Or.inr (Or.inl rfl)))
  have F5 : Off F w W5 := (Off.of_below ab4).trans O5 (fun j q => Or.inl (by cases q; exact hlm))
  refine hK.out _ _ ⟨hS.1.off O5 (fun e => ne_map (row_is hS.1) kl e), rc5⟩ fun hS => ?_
  try simp only [Act.put, List.getElem_toArray, List.getElem_cons_zero, List.getElem_cons_succ, List.setIfInBounds_toArray, List.set_cons_zero, List.set_cons_succ]
  refine wpAnyH_done (by kernel_rfl) ?_ _
  clear hS c4 rc4 r404 r74 ab4 O5 hown5 hturn5 kl hlm
  have e0 := row_at rc5 0 _ rfl
  have hk : (cl.kind == 4) = false := by simpa using HKD.out
  have HCM := commit_any c5 t.start HTX.out.1 HTX.out.2.1 t.mb t.ws HTX.out.2.2 own5
  have HFS : Hid ((commitR (M.abs { m with L := endT m.L cl.txn }) t.start t.ws).arr.size = 67) := Rep.arr_size (by unfold commitR; split; exact zs_length _; split; exact zs_length _; split <;> exact zs_length _)
  have fo := (commitR (M.abs { m with L := endT m.L cl.txn }) t.start t.ws).one
  obtain ⟨FA, HFA⟩ : ∃ FA, Hid ((commitR (M.abs { m with L := endT m.L cl.txn }) t.start t.ws).arr = FA) := ⟨_, rfl⟩
  rw [HFA.out] at HCM HFS fo
  obtain ⟨SS, HSS⟩ : ∃ SS, Hid (commitS (M.abs { m with L := endT m.L cl.txn }) t.start t.ws = SS) := ⟨_, rfl⟩
  rw [HSS.out] at HCM
  have hnF : ¬ F (A0 + 1) := fun q => by have := HCF.out _ q; rw [HA0.out] at this; omega
  clear c5 own5
  have ts : Hid (1 = 1) := rfl
  have tl : Hid (1 = 1) := rfl
  go_wp2_with (first
    | (have hh := tl; clear hh tl; refine load_cells rfl 70 (.tmp 5) rfl X rfl 70 _ r75 2 Try.underlying70 rfl size70 rfl ?_)
    | (go_at_call 30; refine Calls.mono HCM ?_; clear HCM; rintro e wd ⟨he, hwd⟩; obtain rfl := he; have r9 := r405.off hwd.1 hnF; have HWD : Hid (Went W5 F g SS wd) := hwd; clear hwd)
    | (have hh := ts; clear hh ts; refine store_cells rfl 40 (.tmp 4) (.tmp 32) rfl (A0 + 1) FA rfl rfl 40 _ r9 67 size40 HZS.out HFS.out fo ?_))
  refine bodyPost_ret (v := .agg FA) (ret_cell (fn := Try.f22) rfl _ _ (A0 + 1) 40 FA _ rfl (r9.set _) Try.underlying40 rfl (by rw [size40, HFS.out])) rfl ?_
  rw [HPP.out]
  exact ⟨by rw [HFA.out], by rw [HSS.out]; exact Went.close HCF.out F5 HWD.out r405.lt (by rw [HA0.out]; exact Nat.le_succ _) (Off.of_setRow wd (A0 + 1) FA rfl)⟩

theorem end_any {w : World} {F : Nat → Prop} {g : Nat} {m : M} (c : MA w F g m) (cl : Cal) (hcl : cl.Ok) : Calls Try.prog 22 #[.pointer (some ⟨g, 0, none⟩), .agg cl.arr] w fun r w' => r = .returned (.agg (endR m.abs cl).arr) ∧ Went w F g (endS m.abs cl) w' := by
  have cm : MAt w F g m.abs := ⟨m, rfl, c⟩
  have ea : findL m.abs.live cl.txn = (findT m.L cl.txn).map Tx.abs := findL_abs _ _
  have eb : endL m.abs.live cl.txn = (endT m.L cl.txn).map Tx.abs := endL_abs _ _
  have ec : ({ m.abs with live := endL m.abs.live cl.txn } : St) = M.abs { m with L := endT m.L cl.txn } := by rw [eb]; rfl
  cases hf : findT m.L cl.txn with
  | none =>
    have er : endR m.abs cl = Rep.fail 9 := by unfold endR; rw [ea, hf]; rfl
    have es : endS m.abs cl = m.abs := by unfold endS; rw [ea, hf]; rfl
    rw [er, es]
    exact (end_none c cl hcl hf).mono fun r w' h => ⟨h.1, Went.same cm h.2⟩
  | some t =>
    by_cases hk : cl.kind = 4
    · have er : endR m.abs cl = Rep.zero := by unfold endR; rw [ea, hf]; exact if_pos hk
      have es : endS m.abs cl = M.abs { m with L := endT m.L cl.txn } := by
        rw [← ec]
        unfold endS
        rw [ea, hf]; exact if_pos hk
      rw [er, es]
      exact end_abort c cl hcl t hf hk
    · have er : endR m.abs cl = commitR (M.abs { m with L := endT m.L cl.txn }) t.start t.ws := by
        rw [← ec]
        unfold endR
        rw [ea, hf]; exact if_neg hk
      have es : endS m.abs cl = commitS (M.abs { m with L := endT m.L cl.txn }) t.start t.ws := by
        rw [← ec]
        unfold endS
        rw [ea, hf]; exact if_neg hk
      rw [er, es]
      exact end_commit c cl hcl t hf hk
end Go.Proofs.Ytpncmbkklkfmnaa
