/-
  Proved here: what use answers, and makes of a machine.
-/
import Derived.Test.YtpncmbkklkfmnaaMen
namespace Go.Proofs.Ytpncmbkklkfmnaa
open Go.ChangeShapes Go.WideShapes Go.ChangeAt Go.RowKit
open Go.Deep Go.Maps
set_option linter.unusedVariables false
set_option linter.unusedSimpArgs false
set_option maxRecDepth 20000


set_option maxHeartbeats 2000000 in
theorem use_page {w : World} {F : Nat → Prop} {g : Nat} {m : M} (c : MA w F g m) (cl : Cal) (hcl : cl.Ok) (hpg : ¬ cl.page < m.ps.length) : Calls Try.prog 21 #[.pointer (some ⟨g, 0, none⟩), .agg cl.arr] w fun r w' => r = .returned (.agg (Rep.fail 1).arr) ∧ Below w.heap.size w w' := by
  have HCL : Hid cl.Ok := hcl
  have HPG : Hid _ := hpg
  clear hpg
  obtain ⟨PP, HPP⟩ : ∃ PP : Ending → World → Prop, Hid (PP = fun r w' => r = .returned (.agg (Rep.fail 1).arr) ∧ Below w.heap.size w w') := ⟨_, rfl⟩
  rw [← HPP.out]
  have hz40 := zero40
  have HZS : Hid (Rep.zero.arr.size = 67) := rz
  generalize Rep.zero.arr = Z at hz40 HZS
  have HCC : Hid (MA w F g m) := c
  have ab : Below w.heap.size w (w.alloc (.cells #[.int .u8 cl.kind, .int .u64 cl.txn, .int .u16 cl.page, .int .i64 cl.off, .string cl.str] 35)) := (Below.refl _ _).alloc (Nat.le_refl _) _
  have rx : Row (w.alloc (.cells #[.int .u8 cl.kind, .int .u64 cl.txn, .int .u16 cl.page, .int .i64 cl.off, .string cl.str] 35)) w.heap.size #[.int .u8 cl.kind, .int .u64 cl.txn, .int .u16 cl.page, .int .i64 cl.off, .string cl.str] 35 := Row.new _ _ _
  have e1 : (w.alloc (.cells #[.int .u8 cl.kind, .int .u64 cl.txn, .int .u16 cl.page, .int .i64 cl.off, .string cl.str] 35)).heap.size = w.heap.size + 1 := Array.size_push ..
  have ab1 : Below w.heap.size w ((w.alloc (.cells #[.int .u8 cl.kind, .int .u64 cl.txn, .int .u16 cl.page, .int .i64 cl.off, .string cl.str] 35)).alloc (.cells Z 40)) := ab.alloc ab.size _
  have r40 : Row ((w.alloc (.cells #[.int .u8 cl.kind, .int .u64 cl.txn, .int .u16 cl.page, .int .i64 cl.off, .string cl.str] 35)).alloc (.cells Z 40)) (w.alloc (.cells #[.int .u8 cl.kind, .int .u64 cl.txn, .int .u16 cl.page, .int .i64 cl.off, .string cl.str] 35)).heap.size Z 40 := Row.new _ _ _
  have rx1 := rx.alloc (.cells Z 40)
  rw [e1] at r40
  unfold Cal.arr
  clear c rx ab e1
  go_enter Try.func21, Try.ntmps21
  go_upto_region 1 with fail
  generalize (w.alloc (.cells #[.int .u8 cl.kind, .int .u64 cl.txn, .int .u16 cl.page, .int .i64 cl.off, .string cl.str] 35)).alloc (.cells Z 40) = W at ab1 r40 rx1 ⊢
  obtain ⟨A0, HA0⟩ : ∃ A0, Hid (w.heap.size = A0) := ⟨_, rfl⟩
  rw [HA0.out] at r40 rx1 ⊢
  have hhas := has_any (HCC.out.below ab1) cl.page HCL.out.p.1 HCL.out.p.2
  rw [decide_eq_false HPG.out] at hhas
  have e2 := row_at rx1 2 _ rfl
  have e0 := row_at rx1 0 _ rfl
  go_upto_region 2 with (first
    | (go_at_call 24; refine hhas.mono ?_; clear hhas; rintro e wb ⟨he, hww⟩; rw [hww]; clear hww wb; obtain rfl := he))
  clear e0 e2
  have ho := only_any 1 W
  have HFS : Hid ((Rep.fail 1).arr.size = 67) := Rep.arr_size (zs_length _)
  have fo := (Rep.fail 1).one
  obtain ⟨FA, HFA⟩ : ∃ FA, Hid ((Rep.fail 1).arr = FA) := ⟨_, rfl⟩
  rw [HFA.out] at ho HFS fo
  have ts : Hid (1 = 1) := rfl
  go_wp2_with (first
    | (go_at_call 19; refine ho.mono ?_; clear ho; rintro e wd ⟨he, hcb⟩; obtain rfl := he; have r9 := r40.below hcb r40.lt; have ab9 := ab1.trans (hcb.mono ab1.size))
    | (have hh := ts; clear hh ts; refine store_cells rfl 40 (.tmp 4) (.tmp 26) rfl (A0 + 1) FA rfl rfl 40 _ r9 67 size40 HZS.out HFS.out fo ?_))
  refine bodyPost_ret (v := .agg FA) (ret_cell (fn := Try.f21) rfl _ _ (A0 + 1) 40 FA _ rfl (r9.set _) Try.underlying40 rfl (by rw [size40, HFS.out])) rfl ?_
  rw [HPP.out]
  exact ⟨by rw [HFA.out], below_setRow ab9 (by rw [HA0.out]; exact Nat.le_succ _) _⟩

set_option maxHeartbeats 2000000 in
theorem use_fits {w : World} {F : Nat → Prop} {g : Nat} {m : M} (c : MA w F g m) (cl : Cal) (hcl : cl.Ok) (hpg : cl.page < m.ps.length) (hkd : cl.kind = 2) (hfi : fitsB cl.off cl.str = false) : Calls Try.prog 21 #[.pointer (some ⟨g, 0, none⟩), .agg cl.arr] w fun r w' => r = .returned (.agg (Rep.fail 1).arr) ∧ Below w.heap.size w w' := by
  have HCL : Hid cl.Ok := hcl
  have HPG : Hid _ := hpg
  clear hpg
  have HKD : Hid _ := hkd
  clear hkd
  have HFI : Hid _ := hfi
  clear hfi
  obtain ⟨PP, HPP⟩ : ∃ PP : Ending → World → Prop, Hid (PP = fun r w' => r = .returned (.agg (Rep.fail 1).arr) ∧ Below w.heap.size w w') := ⟨_, rfl⟩
  rw [← HPP.out]
  have hz40 := zero40
  have HZS : Hid (Rep.zero.arr.size = 67) := rz
  generalize Rep.zero.arr = Z at hz40 HZS
  have HCC : Hid (MA w F g m) := c
  have ab : Below w.heap.size w (w.alloc (.cells #[.int .u8 cl.kind, .int .u64 cl.txn, .int .u16 cl.page, .int .i64 cl.off, .string cl.str] 35)) := (Below.refl _ _).alloc (Nat.le_refl _) _
  have rx : Row (w.alloc (.cells #[.int .u8 cl.kind, .int .u64 cl.txn, .int .u16 cl.page, .int .i64 cl.off, .string cl.str] 35)) w.heap.size #[.int .u8 cl.kind, .int .u64 cl.txn, .int .u16 cl.page, .int .i64 cl.off, .string cl.str] 35 := Row.new _ _ _
  have e1 : (w.alloc (.cells #[.int .u8 cl.kind, .int .u64 cl.txn, .int .u16 cl.page, .int .i64 cl.off, .string cl.str] 35)).heap.size = w.heap.size + 1 := Array.size_push ..
  have ab1 : Below w.heap.size w ((w.alloc (.cells #[.int .u8 cl.kind, .int .u64 cl.txn, .int .u16 cl.page, .int .i64 cl.off, .string cl.str] 35)).alloc (.cells Z 40)) := ab.alloc ab.size _
  have r40 : Row ((w.alloc (.cells #[.int .u8 cl.kind, .int .u64 cl.txn, .int .u16 cl.page, .int .i64 cl.off, .string cl.str] 35)).alloc (.cells Z 40)) (w.alloc (.cells #[.int .u8 cl.kind, .int .u64 cl.txn, .int .u16 cl.page, .int .i64 cl.off, .string cl.str] 35)).heap.size Z 40 := Row.new _ _ _
  have rx1 := rx.alloc (.cells Z 40)
  rw [e1] at r40
  unfold Cal.arr
  clear c rx ab e1
  go_enter Try.func21, Try.ntmps21
  go_upto_region 1 with fail
  generalize (w.alloc (.cells #[.int .u8 cl.kind, .int .u64 cl.txn, .int .u16 cl.page, .int .i64 cl.off, .string cl.str] 35)).alloc (.cells Z 40) = W at ab1 r40 rx1 ⊢
  obtain ⟨A0, HA0⟩ : ∃ A0, Hid (w.heap.size = A0) := ⟨_, rfl⟩
  rw [HA0.out] at r40 rx1 ⊢
  have hhas := has_any (HCC.out.below ab1) cl.page HCL.out.p.1 HCL.out.p.2
  rw [decide_eq_true HPG.out] at hhas
  have e2 := row_at rx1 2 _ rfl
  have e0 := row_at rx1 0 _ rfl
  have e3 := row_at rx1 3 _ rfl
  have e4 := row_at rx1 4 _ rfl
  have hfit := fits_any cl.off cl.str HCL.out.o.1 HCL.out.o.2 W
  rw [HFI.out] at hfit
  have hk2 : (cl.kind == 2) = true := by rw [HKD.out]; rfl
  rw [HKD.out] at e0
  go_upto_region 2 with (first
    | (go_at_call 24; refine hhas.mono ?_; clear hhas; rintro e wb ⟨he, hww⟩; rw [hww]; clear hww wb; obtain rfl := he)
    | (go_at_call 27; refine hfit.mono ?_; clear hfit; rintro e wb ⟨he, hww⟩; rw [hww]; clear hww wb; obtain rfl := he))
  clear e3 e4 hk2 e0 e2
  have ho := only_any 1 W
  have HFS : Hid ((Rep.fail 1).arr.size = 67) := Rep.arr_size (zs_length _)
  have fo := (Rep.fail 1).one
  obtain ⟨FA, HFA⟩ : ∃ FA, Hid ((Rep.fail 1).arr = FA) := ⟨_, rfl⟩
  rw [HFA.out] at ho HFS fo
  have ts : Hid (1 = 1) := rfl
  go_wp2_with (first
    | (go_at_call 19; refine ho.mono ?_; clear ho; rintro e wd ⟨he, hcb⟩; obtain rfl := he; have r9 := r40.below hcb r40.lt; have ab9 := ab1.trans (hcb.mono ab1.size))
    | (have hh := ts; clear hh ts; refine store_cells rfl 40 (.tmp 4) (.tmp 26) rfl (A0 + 1) FA rfl rfl 40 _ r9 67 size40 HZS.out HFS.out fo ?_))
  refine bodyPost_ret (v := .agg FA) (ret_cell (fn := Try.f21) rfl _ _ (A0 + 1) 40 FA _ rfl (r9.set _) Try.underlying40 rfl (by rw [size40, HFS.out])) rfl ?_
  rw [HPP.out]
  exact ⟨by rw [HFA.out], below_setRow ab9 (by rw [HA0.out]; exact Nat.le_succ _) _⟩

set_option maxHeartbeats 2000000 in
theorem use_none_r {w : World} {F : Nat → Prop} {g : Nat} {m : M} (c : MA w F g m) (cl : Cal) (hcl : cl.Ok) (hpg : cl.page < m.ps.length) (hkd : cl.kind = 1) (hf : findT m.L cl.txn = none) : Calls Try.prog 21 #[.pointer (some ⟨g, 0, none⟩), .agg cl.arr] w fun r w' => r = .returned (.agg (Rep.fail 9).arr) ∧ Below w.heap.size w w' := by
  have HCF : Hid (∀ k, F k → k < w.heap.size) := c.lt
  have HLK : Hid (∀ W, MA W F g m → (Instr.lookup 55 (.map (some m.lm)) (.int .u64 cl.txn) true).run Try.prog W = .ok (.tuple #[.agg #[.int .u32 0, .map none], .bool false]) W) := fun W h => by have := look_tx h cl.txn hcl.t.1 hcl.t.2; rw [hf] at this; exact this
  have HLS : Hid ((#[.int .u32 0, .map none] : Array Value).size = 2) := rfl
  have HLO : Hid ((#[.int .u32 0, .map none] : Array Value).all (·.oneCell') = true) := by show _ = true; simp [Value.oneCell']
  have HCL : Hid cl.Ok := hcl
  have HPG : Hid _ := hpg
  clear hpg
  have HKD : Hid _ := hkd
  clear hkd
  obtain ⟨PP, HPP⟩ : ∃ PP : Ending → World → Prop, Hid (PP = fun r w' => r = .returned (.agg (Rep.fail 9).arr) ∧ Below w.heap.size w w') := ⟨_, rfl⟩
  rw [← HPP.out]
  have hz40 := zero40
  have HZS : Hid (Rep.zero.arr.size = 67) := rz
  generalize Rep.zero.arr = Z at hz40 HZS
  have HCC : Hid (MA w F g m) := c
  have ab : Below w.heap.size w (w.alloc (.cells #[.int .u8 cl.kind, .int .u64 cl.txn, .int .u16 cl.page, .int .i64 cl.off, .string cl.str] 35)) := (Below.refl _ _).alloc (Nat.le_refl _) _
  have rx : Row (w.alloc (.cells #[.int .u8 cl.kind, .int .u64 cl.txn, .int .u16 cl.page, .int .i64 cl.off, .string cl.str] 35)) w.heap.size #[.int .u8 cl.kind, .int .u64 cl.txn, .int .u16 cl.page, .int .i64 cl.off, .string cl.str] 35 := Row.new _ _ _
  have e1 : (w.alloc (.cells #[.int .u8 cl.kind, .int .u64 cl.txn, .int .u16 cl.page, .int .i64 cl.off, .string cl.str] 35)).heap.size = w.heap.size + 1 := Array.size_push ..
  have ab1 : Below w.heap.size w ((w.alloc (.cells #[.int .u8 cl.kind, .int .u64 cl.txn, .int .u16 cl.page, .int .i64 cl.off, .string cl.str] 35)).alloc (.cells Z 40)) := ab.alloc ab.size _
  have r40 : Row ((w.alloc (.cells #[.int .u8 cl.kind, .int .u64 cl.txn, .int .u16 cl.page, .int .i64 cl.off, .string cl.str] 35)).alloc (.cells Z 40)) (w.alloc (.cells #[.int .u8 cl.kind, .int .u64 cl.txn, .int .u16 cl.page, .int .i64 cl.off, .string cl.str] 35)).heap.size Z 40 := Row.new _ _ _
  have rx1 := rx.alloc (.cells Z 40)
  rw [e1] at r40
  unfold Cal.arr
  clear c rx ab e1
  go_enter Try.func21, Try.ntmps21
  go_upto_region 1 with fail
  generalize (w.alloc (.cells #[.int .u8 cl.kind, .int .u64 cl.txn, .int .u16 cl.page, .int .i64 cl.off, .string cl.str] 35)).alloc (.cells Z 40) = W at ab1 r40 rx1 ⊢
  obtain ⟨A0, HA0⟩ : ∃ A0, Hid (w.heap.size = A0) := ⟨_, rfl⟩
  rw [HA0.out] at r40 rx1 ⊢
  have hhas := has_any (HCC.out.below ab1) cl.page HCL.out.p.1 HCL.out.p.2
  rw [decide_eq_true HPG.out] at hhas
  have e2 := row_at rx1 2 _ rfl
  have e0 := row_at rx1 0 _ rfl
  have hk2 : (cl.kind == 2) = false := by rw [HKD.out]; rfl
  rw [HKD.out] at e0
  go_upto_region 3 with (first
    | (go_at_call 24; refine hhas.mono ?_; clear hhas; rintro e wb ⟨he, hww⟩; rw [hww]; clear hww wb; obtain rfl := he))
  clear hk2 e0 e2
  have HR1 : Hid (Row W (A0 + 1) Z 40) := r40
  refine wp_region_held_drew (S := fun w' => MA w' F g m ∧ Row w' A0 #[.int .u8 cl.kind, .int .u64 cl.txn, .int .u16 cl.page, .int .i64 cl.off, .string cl.str] 35 ∧ Row w' (A0 + 1) Z 40 ∧ Below w.heap.size w w') (by kernel_rfl) ⟨HCC.out.below ab1.drew, rx1, r40, ab1.drew⟩ fun hS => ?_
  refine wpAnyH_take (i := 0) (v := .pointer (some ⟨g, 0, none⟩)) rfl (by kernel_rfl) (by kernel_rfl) (by kernel_rfl) (fun _ _ _ h => h) (Or.inl ⟨by rfl, fun w _ => by rfl⟩) hS ?_
  try simp only [Act.put, List.getElem_toArray, List.getElem_cons_zero, List.getElem_cons_succ, List.setIfInBounds_toArray, List.set_cons_zero, List.set_cons_succ]
  refine wpAnyH_take (i := 1) (v := .pointer (some ⟨g, 0, none⟩)) rfl (by kernel_rfl) (by kernel_rfl) (by kernel_rfl) (fun _ _ _ h => h) (Or.inl ⟨by rfl, fun w _ => by go_simp⟩) hS ?_
  try simp only [Act.put, List.getElem_toArray, List.getElem_cons_zero, List.getElem_cons_succ, List.setIfInBounds_toArray, List.set_cons_zero, List.set_cons_succ]
  refine wpAnyH_take (i := 2) (v := .pointer (some ⟨g, 4, none⟩)) rfl (by kernel_rfl) (by kernel_rfl) (by kernel_rfl) (fun _ _ _ h => h) (Or.inl ⟨by rfl, fun w _ => by go_simp⟩) hS ?_
  try simp only [Act.put, List.getElem_toArray, List.getElem_cons_zero, List.getElem_cons_succ, List.setIfInBounds_toArray, List.set_cons_zero, List.set_cons_succ]
  refine wpAnyH_take (i := 3) (v := .map (some m.lm)) rfl (by kernel_rfl) (by kernel_rfl) (by kernel_rfl) (fun _ _ _ h => h) (Or.inl ⟨by rfl, fun w h => by have c := h.1.at_.c4; go_simp⟩) hS ?_
  try simp only [Act.put, List.getElem_toArray, List.getElem_cons_zero, List.getElem_cons_succ, List.setIfInBounds_toArray, List.set_cons_zero, List.set_cons_succ]
  refine wpAnyH_take (i := 4) (v := .pointer (some ⟨A0, 1, none⟩)) rfl (by kernel_rfl) (by kernel_rfl) (by kernel_rfl) (fun _ _ _ h => h) (Or.inl ⟨by rfl, fun w _ => by go_simp⟩) hS ?_
  try simp only [Act.put, List.getElem_toArray, List.getElem_cons_zero, List.getElem_cons_succ, List.setIfInBounds_toArray, List.set_cons_zero, List.set_cons_succ]
  refine wpAnyH_take (i := 5) (v := .int .u64 cl.txn) rfl (by kernel_rfl) (by kernel_rfl) (by kernel_rfl) (fun _ _ _ h => h) (Or.inl ⟨by rfl, fun w h => by have c := row_at h.2.1 1 _ rfl; go_simp⟩) hS ?_
  try simp only [Act.put, List.getElem_toArray, List.getElem_cons_zero, List.getElem_cons_succ, List.setIfInBounds_toArray, List.set_cons_zero, List.set_cons_succ]
  refine wpAnyH_take (i := 6) (v := .tuple #[.agg #[.int .u32 0, .map none], .bool false]) rfl (by kernel_rfl) (by kernel_rfl) (by kernel_rfl) (fun _ _ _ h => h) (Or.inl ⟨by rfl, fun w h => by have c := HLK.out w h.1; go_simp⟩) hS ?_
  try simp only [Act.put, List.getElem_toArray, List.getElem_cons_zero, List.getElem_cons_succ, List.setIfInBounds_toArray, List.set_cons_zero, List.set_cons_succ]
  refine wpAnyH_take (i := 7) (v := .tuple #[.agg #[.int .u32 0, .map none], .bool false]) rfl (by kernel_rfl) (by kernel_rfl) (by kernel_rfl) (fun _ _ _ h => h) (Or.inl ⟨by rfl, fun w _ => by rfl⟩) hS ?_
  try simp only [Act.put, List.getElem_toArray, List.getElem_cons_zero, List.getElem_cons_succ, List.setIfInBounds_toArray, List.set_cons_zero, List.set_cons_succ]
  refine wpAnyH_take (i := 8) (v := .agg #[.int .u32 0, .map none]) rfl (by kernel_rfl) (by kernel_rfl) (by kernel_rfl) (fun _ _ _ h => h) (Or.inl ⟨by rfl, fun w _ => by go_simp⟩) hS ?_
  try simp only [Act.put, List.getElem_toArray, List.getElem_cons_zero, List.getElem_cons_succ, List.setIfInBounds_toArray, List.set_cons_zero, List.set_cons_succ]
  refine wpAnyH_take (i := 9) (v := .bool false) rfl (by kernel_rfl) (by kernel_rfl) (by kernel_rfl) (fun _ _ _ h => h) (Or.inl ⟨by rfl, fun w _ => by go_simp⟩) hS ?_
  try simp only [Act.put, List.getElem_toArray, List.getElem_cons_zero, List.getElem_cons_succ, List.setIfInBounds_toArray, List.set_cons_zero, List.set_cons_succ]
  clear ab1 r40 rx1 HR1
  generalize W.drew = W1 at hS ⊢
  refine wpAnyH_ready (rs := [10]) (by kernel_rfl) (by simp) ?_
  refine AllReadyH.cons rfl (fun K hK => ?_) AllReadyH.nil
  have hz70 := zero70
  have ab7 : Below W1.heap.size W1 (W1.alloc (.cells #[.int .u32 0, .map none] 70)) := (Below.refl _ _).alloc (Nat.le_refl _) _
  have r70 : Row (W1.alloc (.cells #[.int .u32 0, .map none] 70)) W1.heap.size #[.int .u32 0, .map none] 70 := Row.new _ _ _
  obtain ⟨X, HX⟩ : ∃ X, Hid (W1.heap.size = X) := ⟨_, rfl⟩
  have hXA : A0 + 1 < X := by rw [← HX.out]; exact hS.2.2.1.lt
  have hXw : w.heap.size ≤ X := by rw [← HX.out]; exact hS.2.2.2.size
  go_simp
  refine hK.out _ _ ⟨hS.1.below ab7, hS.2.1.alloc _, hS.2.2.1.alloc _, hS.2.2.2.trans (ab7.mono hS.2.2.2.size)⟩ fun hS => ?_
  try simp only [Act.put, List.getElem_toArray, List.getElem_cons_zero, List.getElem_cons_succ, List.setIfInBounds_toArray, List.set_cons_zero, List.set_cons_succ]
  rw [HX.out] at r70 ⊢
  clear ab7 hz70
  generalize W1.alloc (.cells #[.int .u32 0, .map none] 70) = W2 at hS r70 ⊢
  have O70 : Off (· = X) W2 (W2.setRow X #[.int .u32 0, .map none]) := Off.of_setRow _ _ _ rfl
  have hS3 : MA (W2.setRow X #[.int .u32 0, .map none]) F g m ∧ Row (W2.setRow X #[.int .u32 0, .map none]) A0 #[.int .u8 cl.kind, .int .u64 cl.txn, .int .u16 cl.page, .int .i64 cl.off, .string cl.str] 35 ∧ Row (W2.setRow X #[.int .u32 0, .map none]) (A0 + 1) Z 40 ∧ Below w.heap.size w (W2.setRow X #[.int .u32 0, .map none]) := ⟨hS.1.off O70 (fun k hk e => by have := HCF.out k hk; rw [e] at this; omega), hS.2.1.off O70 (by omega), hS.2.2.1.off O70 (by omega), below_setRow hS.2.2.2 hXw _⟩
  have r71 : Row (W2.setRow X #[.int .u32 0, .map none]) X #[.int .u32 0, .map none] 70 := r70.set _
  refine wpAnyH_ready (rs := [11]) (by kernel_rfl) (by simp) ?_
  refine AllReadyH.cons rfl (fun K hK => step_cells rfl 70 (.tmp 5) (.tmp 35) rfl X #[.int .u32 0, .map none] rfl rfl 70 _ r70 2 size70 rfl HLS.out HLO.out (hK.out _ _ hS3 fun hS => ?_)) AllReadyH.nil
  try simp only [Act.put, List.getElem_toArray, List.getElem_cons_zero, List.getElem_cons_succ, List.setIfInBounds_toArray, List.set_cons_zero, List.set_cons_succ]
  clear hS3 O70 r70
  generalize W2.setRow X #[.int .u32 0, .map none] = W3 at hS r71 ⊢
  refine wpAnyH_ready (rs := [12]) (by kernel_rfl) (by simp) ?_
  refine AllReadyH.cons rfl (fun K hK => ?_) AllReadyH.nil
  go_simp
  refine hK.out _ _ hS fun hS => ?_
  try simp only [Act.put, List.getElem_toArray, List.getElem_cons_zero, List.getElem_cons_succ, List.setIfInBounds_toArray, List.set_cons_zero, List.set_cons_succ]
  refine wpAnyH_done (by kernel_rfl) ?_ _
  obtain ⟨c3, rc3, r403, ab3⟩ := hS
  clear c3 rc3 r71
  have ho := only_any 9 W3
  have HFS : Hid ((Rep.fail 9).arr.size = 67) := Rep.arr_size (zs_length _)
  have fo := (Rep.fail 9).one
  obtain ⟨FA, HFA⟩ : ∃ FA, Hid ((Rep.fail 9).arr = FA) := ⟨_, rfl⟩
  rw [HFA.out] at ho HFS fo
  have ts : Hid (1 = 1) := rfl
  go_wp2_with (first
    | (go_at_call 19; refine ho.mono ?_; clear ho; rintro e wd ⟨he, hcb⟩; obtain rfl := he; have r9 := r403.below hcb r403.lt; have ab9 := ab3.trans (hcb.mono ab3.size))
    | (have hh := ts; clear hh ts; refine store_cells rfl 40 (.tmp 4) (.tmp 39) rfl (A0 + 1) FA rfl rfl 40 _ r9 67 size40 HZS.out HFS.out fo ?_))
  refine bodyPost_ret (v := .agg FA) (ret_cell (fn := Try.f21) rfl _ _ (A0 + 1) 40 FA _ rfl (r9.set _) Try.underlying40 rfl (by rw [size40, HFS.out])) rfl ?_
  rw [HPP.out]
  exact ⟨by rw [HFA.out], below_setRow ab9 (by rw [HA0.out]; exact Nat.le_succ _) _⟩

set_option maxHeartbeats 2000000 in
theorem use_none_w {w : World} {F : Nat → Prop} {g : Nat} {m : M} (c : MA w F g m) (cl : Cal) (hcl : cl.Ok) (hpg : cl.page < m.ps.length) (hkd : cl.kind = 2) (hfi : fitsB cl.off cl.str = true) (hf : findT m.L cl.txn = none) : Calls Try.prog 21 #[.pointer (some ⟨g, 0, none⟩), .agg cl.arr] w fun r w' => r = .returned (.agg (Rep.fail 9).arr) ∧ Below w.heap.size w w' := by
  have HCF : Hid (∀ k, F k → k < w.heap.size) := c.lt
  have HLK : Hid (∀ W, MA W F g m → (Instr.lookup 55 (.map (some m.lm)) (.int .u64 cl.txn) true).run Try.prog W = .ok (.tuple #[.agg #[.int .u32 0, .map none], .bool false]) W) := fun W h => by have := look_tx h cl.txn hcl.t.1 hcl.t.2; rw [hf] at this; exact this
  have HLS : Hid ((#[.int .u32 0, .map none] : Array Value).size = 2) := rfl
  have HLO : Hid ((#[.int .u32 0, .map none] : Array Value).all (·.oneCell') = true) := by show _ = true; simp [Value.oneCell']
  have HCL : Hid cl.Ok := hcl
  have HPG : Hid _ := hpg
  clear hpg
  have HKD : Hid _ := hkd
  clear hkd
  have HFI : Hid _ := hfi
  clear hfi
  obtain ⟨PP, HPP⟩ : ∃ PP : Ending → World → Prop, Hid (PP = fun r w' => r = .returned (.agg (Rep.fail 9).arr) ∧ Below w.heap.size w w') := ⟨_, rfl⟩
  rw [← HPP.out]
  have hz40 := zero40
  have HZS : Hid (Rep.zero.arr.size = 67) := rz
  generalize Rep.zero.arr = Z at hz40 HZS
  have HCC : Hid (MA w F g m) := c
  have ab : Below w.heap.size w (w.alloc (.cells #[.int .u8 cl.kind, .int .u64 cl.txn, .int .u16 cl.page, .int .i64 cl.off, .string cl.str] 35)) := (Below.refl _ _).alloc (Nat.le_refl _) _
  have rx : Row (w.alloc (.cells #[.int .u8 cl.kind, .int .u64 cl.txn, .int .u16 cl.page, .int .i64 cl.off, .string cl.str] 35)) w.heap.size #[.int .u8 cl.kind, .int .u64 cl.txn, .int .u16 cl.page, .int .i64 cl.off, .string cl.str] 35 := Row.new _ _ _
  have e1 : (w.alloc (.cells #[.int .u8 cl.kind, .int .u64 cl.txn, .int .u16 cl.page, .int .i64 cl.off, .string cl.str] 35)).heap.size = w.heap.size + 1 := Array.size_push ..
  have ab1 : Below w.heap.size w ((w.alloc (.cells #[.int .u8 cl.kind, .int .u64 cl.txn, .int .u16 cl.page, .int .i64 cl.off, .string cl.str] 35)).alloc (.cells Z 40)) := ab.alloc ab.size _
  have r40 : Row ((w.alloc (.cells #[.int .u8 cl.kind, .int .u64 cl.txn, .int .u16 cl.page, .int .i64 cl.off, .string cl.str] 35)).alloc (.cells Z 40)) (w.alloc (.cells #[.int .u8 cl.kind, .int .u64 cl.txn, .int .u16 cl.page, .int .i64 cl.off, .string cl.str] 35)).heap.size Z 40 := Row.new _ _ _
  have rx1 := rx.alloc (.cells Z 40)
  rw [e1] at r40
  unfold Cal.arr
  clear c rx ab e1
  go_enter Try.func21, Try.ntmps21
  go_upto_region 1 with fail
  generalize (w.alloc (.cells #[.int .u8 cl.kind, .int .u64 cl.txn, .int .u16 cl.page, .int .i64 cl.off, .string cl.str] 35)).alloc (.cells Z 40) = W at ab1 r40 rx1 ⊢
  obtain ⟨A0, HA0⟩ : ∃ A0, Hid (w.heap.size = A0) := ⟨_, rfl⟩
  rw [HA0.out] at r40 rx1 ⊢
  have hhas := has_any (HCC.out.below ab1) cl.page HCL.out.p.1 HCL.out.p.2
  rw [decide_eq_true HPG.out] at hhas
  have e2 := row_at rx1 2 _ rfl
  have e0 := row_at rx1 0 _ rfl
  have e3 := row_at rx1 3 _ rfl
  have e4 := row_at rx1 4 _ rfl
  have hfit := fits_any cl.off cl.str HCL.out.o.1 HCL.out.o.2 W
  rw [HFI.out] at hfit
  have hk2 : (cl.kind == 2) = true := by rw [HKD.out]; rfl
  rw [HKD.out] at e0
  go_upto_region 3 with (first
    | (go_at_call 24; refine hhas.mono ?_; clear hhas; rintro e wb ⟨he, hww⟩; rw [hww]; clear hww wb; obtain rfl := he)
    | (go_at_call 27; refine hfit.mono ?_; clear hfit; rintro e wb ⟨he, hww⟩; rw [hww]; clear hww wb; obtain rfl := he))
  clear e3 e4 hk2 e0 e2
  have HR1 : Hid (Row W (A0 + 1) Z 40) := r40
  refine wp_region_held_drew (S := fun w' => MA w' F g m ∧ Row w' A0 #[.int .u8 cl.kind, .int .u64 cl.txn, .int .u16 cl.page, .int .i64 cl.off, .string cl.str] 35 ∧ Row w' (A0 + 1) Z 40 ∧ Below w.heap.size w w') (by kernel_rfl) ⟨HCC.out.below ab1.drew, rx1, r40, ab1.drew⟩ fun hS => ?_
  refine wpAnyH_take (i := 0) (v := .pointer (some ⟨g, 0, none⟩)) rfl (by kernel_rfl) (by kernel_rfl) (by kernel_rfl) (fun _ _ _ h => h) (Or.inl ⟨by rfl, fun w _ => by rfl⟩) hS ?_
  try simp only [Act.put, List.getElem_toArray, List.getElem_cons_zero, List.getElem_cons_succ, List.setIfInBounds_toArray, List.set_cons_zero, List.set_cons_succ]
  refine wpAnyH_take (i := 1) (v := .pointer (some ⟨g, 0, none⟩)) rfl (by kernel_rfl) (by kernel_rfl) (by kernel_rfl) (fun _ _ _ h => h) (Or.inl ⟨by rfl, fun w _ => by go_simp⟩) hS ?_
  try simp only [Act.put, List.getElem_toArray, List.getElem_cons_zero, List.getElem_cons_succ, List.setIfInBounds_toArray, List.set_cons_zero, List.set_cons_succ]
  refine wpAnyH_take (i := 2) (v := .pointer (some ⟨g, 4, none⟩)) rfl (by kernel_rfl) (by kernel_rfl) (by kernel_rfl) (fun _ _ _ h => h) (Or.inl ⟨by rfl, fun w _ => by go_simp⟩) hS ?_
  try simp only [Act.put, List.getElem_toArray, List.getElem_cons_zero, List.getElem_cons_succ, List.setIfInBounds_toArray, List.set_cons_zero, List.set_cons_succ]
  refine wpAnyH_take (i := 3) (v := .map (some m.lm)) rfl (by kernel_rfl) (by kernel_rfl) (by kernel_rfl) (fun _ _ _ h => h) (Or.inl ⟨by rfl, fun w h => by have c := h.1.at_.c4; go_simp⟩) hS ?_
  try simp only [Act.put, List.getElem_toArray, List.getElem_cons_zero, List.getElem_cons_succ, List.setIfInBounds_toArray, List.set_cons_zero, List.set_cons_succ]
  refine wpAnyH_take (i := 4) (v := .pointer (some ⟨A0, 1, none⟩)) rfl (by kernel_rfl) (by kernel_rfl) (by kernel_rfl) (fun _ _ _ h => h) (Or.inl ⟨by rfl, fun w _ => by go_simp⟩) hS ?_
  try simp only [Act.put, List.getElem_toArray, List.getElem_cons_zero, List.getElem_cons_succ, List.setIfInBounds_toArray, List.set_cons_zero, List.set_cons_succ]
  refine wpAnyH_take (i := 5) (v := .int .u64 cl.txn) rfl (by kernel_rfl) (by kernel_rfl) (by kernel_rfl) (fun _ _ _ h => h) (Or.inl ⟨by rfl, fun w h => by have c := row_at h.2.1 1 _ rfl; go_simp⟩) hS ?_
  try simp only [Act.put, List.getElem_toArray, List.getElem_cons_zero, List.getElem_cons_succ, List.setIfInBounds_toArray, List.set_cons_zero, List.set_cons_succ]
  refine wpAnyH_take (i := 6) (v := .tuple #[.agg #[.int .u32 0, .map none], .bool false]) rfl (by kernel_rfl) (by kernel_rfl) (by kernel_rfl) (fun _ _ _ h => h) (Or.inl ⟨by rfl, fun w h => by have c := HLK.out w h.1; go_simp⟩) hS ?_
  try simp only [Act.put, List.getElem_toArray, List.getElem_cons_zero, List.getElem_cons_succ, List.setIfInBounds_toArray, List.set_cons_zero, List.set_cons_succ]
  refine wpAnyH_take (i := 7) (v := .tuple #[.agg #[.int .u32 0, .map none], .bool false]) rfl (by kernel_rfl) (by kernel_rfl) (by kernel_rfl) (fun _ _ _ h => h) (Or.inl ⟨by rfl, fun w _ => by rfl⟩) hS ?_
  try simp only [Act.put, List.getElem_toArray, List.getElem_cons_zero, List.getElem_cons_succ, List.setIfInBounds_toArray, List.set_cons_zero, List.set_cons_succ]
  refine wpAnyH_take (i := 8) (v := .agg #[.int .u32 0, .map none]) rfl (by kernel_rfl) (by kernel_rfl) (by kernel_rfl) (fun _ _ _ h => h) (Or.inl ⟨by rfl, fun w _ => by go_simp⟩) hS ?_
  try simp only [Act.put, List.getElem_toArray, List.getElem_cons_zero, List.getElem_cons_succ, List.setIfInBounds_toArray, List.set_cons_zero, List.set_cons_succ]
  refine wpAnyH_take (i := 9) (v := .bool false) rfl (by kernel_rfl) (by kernel_rfl) (by kernel_rfl) (fun _ _ _ h => h) (Or.inl ⟨by rfl, fun w _ => by go_simp⟩) hS ?_
  try simp only [Act.put, List.getElem_toArray, List.getElem_cons_zero, List.getElem_cons_succ, List.setIfInBounds_toArray, List.set_cons_zero, List.set_cons_succ]
  clear ab1 r40 rx1 HR1
  generalize W.drew = W1 at hS ⊢
  refine wpAnyH_ready (rs := [10]) (by kernel_rfl) (by simp) ?_
  refine AllReadyH.cons rfl (fun K hK => ?_) AllReadyH.nil
  have hz70 := zero70
  have ab7 : Below W1.heap.size W1 (W1.alloc (.cells #[.int .u32 0, .map none] 70)) := (Below.refl _ _).alloc (Nat.le_refl _) _
  have r70 : Row (W1.alloc (.cells #[.int .u32 0, .map none] 70)) W1.heap.size #[.int .u32 0, .map none] 70 := Row.new _ _ _
  obtain ⟨X, HX⟩ : ∃ X, Hid (W1.heap.size = X) := ⟨_, rfl⟩
  have hXA : A0 + 1 < X := by rw [← HX.out]; exact hS.2.2.1.lt
  have hXw : w.heap.size ≤ X := by rw [← HX.out]; exact hS.2.2.2.size
  go_simp
  refine hK.out _ _ ⟨hS.1.below ab7, hS.2.1.alloc _, hS.2.2.1.alloc _, hS.2.2.2.trans (ab7.mono hS.2.2.2.size)⟩ fun hS => ?_
  try simp only [Act.put, List.getElem_toArray, List.getElem_cons_zero, List.getElem_cons_succ, List.setIfInBounds_toArray, List.set_cons_zero, List.set_cons_succ]
  rw [HX.out] at r70 ⊢
  clear ab7 hz70
  generalize W1.alloc (.cells #[.int .u32 0, .map none] 70) = W2 at hS r70 ⊢
  have O70 : Off (· = X) W2 (W2.setRow X #[.int .u32 0, .map none]) := Off.of_setRow _ _ _ rfl
  have hS3 : MA (W2.setRow X #[.int .u32 0, .map none]) F g m ∧ Row (W2.setRow X #[.int .u32 0, .map none]) A0 #[.int .u8 cl.kind, .int .u64 cl.txn, .int .u16 cl.page, .int .i64 cl.off, .string cl.str] 35 ∧ Row (W2.setRow X #[.int .u32 0, .map none]) (A0 + 1) Z 40 ∧ Below w.heap.size w (W2.setRow X #[.int .u32 0, .map none]) := ⟨hS.1.off O70 (fun k hk e => by have := HCF.out k hk; rw [e] at this; omega), hS.2.1.off O70 (by omega), hS.2.2.1.off O70 (by omega), below_setRow hS.2.2.2 hXw _⟩
  have r71 : Row (W2.setRow X #[.int .u32 0, .map none]) X #[.int .u32 0, .map none] 70 := r70.set _
  refine wpAnyH_ready (rs := [11]) (by kernel_rfl) (by simp) ?_
  refine AllReadyH.cons rfl (fun K hK => step_cells rfl 70 (.tmp 5) (.tmp 35) rfl X #[.int .u32 0, .map none] rfl rfl 70 _ r70 2 size70 rfl HLS.out HLO.out (hK.out _ _ hS3 fun hS => ?_)) AllReadyH.nil
  try simp only [Act.put, List.getElem_toArray, List.getElem_cons_zero, List.getElem_cons_succ, List.setIfInBounds_toArray, List.set_cons_zero, List.set_cons_succ]
  clear hS3 O70 r70
  generalize W2.setRow X #[.int .u32 0, .map none] = W3 at hS r71 ⊢
  refine wpAnyH_ready (rs := [12]) (by kernel_rfl) (by simp) ?_
  refine AllReadyH.cons rfl (fun K hK => ?_) AllReadyH.nil
  go_simp
  refine hK.out _ _ hS fun hS => ?_
  try simp only [Act.put, List.getElem_toArray, List.getElem_cons_zero, List.getElem_cons_succ, List.setIfInBounds_toArray, List.set_cons_zero, List.set_cons_succ]
  refine wpAnyH_done (by kernel_rfl) ?_ _
  obtain ⟨c3, rc3, r403, ab3⟩ := hS
  clear c3 rc3 r71
  have ho := only_any 9 W3
  have HFS : Hid ((Rep.fail 9).arr.size = 67) := Rep.arr_size (zs_length _)
  have fo := (Rep.fail 9).one
  obtain ⟨FA, HFA⟩ : ∃ FA, Hid ((Rep.fail 9).arr = FA) := ⟨_, rfl⟩
  rw [HFA.out] at ho HFS fo
  have ts : Hid (1 = 1) := rfl
  go_wp2_with (first
    | (go_at_call 19; refine ho.mono ?_; clear ho; rintro e wd ⟨he, hcb⟩; obtain rfl := he; have r9 := r403.below hcb r403.lt; have ab9 := ab3.trans (hcb.mono ab3.size))
    | (have hh := ts; clear hh ts; refine store_cells rfl 40 (.tmp 4) (.tmp 39) rfl (A0 + 1) FA rfl rfl 40 _ r9 67 size40 HZS.out HFS.out fo ?_))
  refine bodyPost_ret (v := .agg FA) (ret_cell (fn := Try.f21) rfl _ _ (A0 + 1) 40 FA _ rfl (r9.set _) Try.underlying40 rfl (by rw [size40, HFS.out])) rfl ?_
  rw [HPP.out]
  exact ⟨by rw [HFA.out], below_setRow ab9 (by rw [HA0.out]; exact Nat.le_succ _) _⟩

set_option maxHeartbeats 2000000 in
theorem use_read {w : World} {F : Nat → Prop} {g : Nat} {m : M} (c : MA w F g m) (cl : Cal) (hcl : cl.Ok) (hpg : cl.page < m.ps.length) (hkd : cl.kind = 1) (t : Tx) (hf : findT m.L cl.txn = some t) (k : Nat) (hek : (k : Int) = cl.page) (p : Pg) (hp : m.ps[k]? = some p) : Calls Try.prog 21 #[.pointer (some ⟨g, 0, none⟩), .agg cl.arr] w fun r w' => r = .returned (.agg (Rep.mk 0 0 (seenV t.ws t.start p.vs cl.page).ts (seenV t.ws t.start p.vs cl.page).body).arr) ∧ Below w.heap.size w w' := by
  have HCF : Hid (∀ k, F k → k < w.heap.size) := c.lt
  have HLK : Hid (∀ W, MA W F g m → (Instr.lookup 55 (.map (some m.lm)) (.int .u64 cl.txn) true).run Try.prog W = .ok (.tuple #[.agg #[.int .u32 t.start, .map (some t.mb)], .bool true]) W) := fun W h => by have := look_tx h cl.txn hcl.t.1 hcl.t.2; rw [hf] at this; exact this
  have HLS : Hid ((#[.int .u32 t.start, .map (some t.mb)] : Array Value).size = 2) := rfl
  have HLO : Hid ((#[.int .u32 t.start, .map (some t.mb)] : Array Value).all (·.oneCell') = true) := by show _ = true; simp [Value.oneCell']
  have HT := findT_some hf
  have HTM : Hid (t ∈ m.L) := HT.1
  have HTX : Hid (0 ≤ t.start ∧ t.start ≤ 4294967295 ∧ WsOk m.ps.length t.ws) := c.txok HT.1
  have HEK : Hid ((k : Int) = cl.page) := hek
  have HPP0 : Hid (m.ps[k]? = some p) := hp
  have hk16 : k ≤ 65535 := by have := hcl.p.2; omega
  clear HT hek hp
  have HCL : Hid cl.Ok := hcl
  have HPG : Hid _ := hpg
  clear hpg
  have HKD : Hid _ := hkd
  clear hkd
  obtain ⟨PP, HPP⟩ : ∃ PP : Ending → World → Prop, Hid (PP = fun r w' => r = .returned (.agg (Rep.mk 0 0 (seenV t.ws t.start p.vs cl.page).ts (seenV t.ws t.start p.vs cl.page).body).arr) ∧ Below w.heap.size w w') := ⟨_, rfl⟩
  rw [← HPP.out]
  have hz40 := zero40
  have HZS : Hid (Rep.zero.arr.size = 67) := rz
  generalize Rep.zero.arr = Z at hz40 HZS
  have HCC : Hid (MA w F g m) := c
  have ab : Below w.heap.size w (w.alloc (.cells #[.int .u8 cl.kind, .int .u64 cl.txn, .int .u16 cl.page, .int .i64 cl.off, .string cl.str] 35)) := (Below.refl _ _).alloc (Nat.le_refl _) _
  have rx : Row (w.alloc (.cells #[.int .u8 cl.kind, .int .u64 cl.txn, .int .u16 cl.page, .int .i64 cl.off, .string cl.str] 35)) w.heap.size #[.int .u8 cl.kind, .int .u64 cl.txn, .int .u16 cl.page, .int .i64 cl.off, .string cl.str] 35 := Row.new _ _ _
  have e1 : (w.alloc (.cells #[.int .u8 cl.kind, .int .u64 cl.txn, .int .u16 cl.page, .int .i64 cl.off, .string cl.str] 35)).heap.size = w.heap.size + 1 := Array.size_push ..
  have ab1 : Below w.heap.size w ((w.alloc (.cells #[.int .u8 cl.kind, .int .u64 cl.txn, .int .u16 cl.page, .int .i64 cl.off, .string cl.str] 35)).alloc (.cells Z 40)) := ab.alloc ab.size _
  have r40 : Row ((w.alloc (.cells #[.int .u8 cl.kind, .int .u64 cl.txn, .int .u16 cl.page, .int .i64 cl.off, .string cl.str] 35)).alloc (.cells Z 40)) (w.alloc (.cells #[.int .u8 cl.kind, .int .u64 cl.txn, .int .u16 cl.page, .int .i64 cl.off, .string cl.str] 35)).heap.size Z 40 := Row.new _ _ _
  have rx1 := rx.alloc (.cells Z 40)
  rw [e1] at r40
  unfold Cal.arr
  clear c rx ab e1
  go_enter Try.func21, Try.ntmps21
  go_upto_region 1 with fail
  generalize (w.alloc (.cells #[.int .u8 cl.kind, .int .u64 cl.txn, .int .u16 cl.page, .int .i64 cl.off, .string cl.str] 35)).alloc (.cells Z 40) = W at ab1 r40 rx1 ⊢
  obtain ⟨A0, HA0⟩ : ∃ A0, Hid (w.heap.size = A0) := ⟨_, rfl⟩
  rw [HA0.out] at r40 rx1 ⊢
  have hhas := has_any (HCC.out.below ab1) cl.page HCL.out.p.1 HCL.out.p.2
  rw [decide_eq_true HPG.out] at hhas
  have e2 := row_at rx1 2 _ rfl
  have e0 := row_at rx1 0 _ rfl
  have hk2 : (cl.kind == 2) = false := by rw [HKD.out]; rfl
  rw [HKD.out] at e0
  go_upto_region 3 with (first
    | (go_at_call 24; refine hhas.mono ?_; clear hhas; rintro e wb ⟨he, hww⟩; rw [hww]; clear hww wb; obtain rfl := he))
  clear hk2 e0 e2
  have HR1 : Hid (Row W (A0 + 1) Z 40) := r40
  refine wp_region_held_drew (S := fun w' => MA w' F g m ∧ Row w' A0 #[.int .u8 cl.kind, .int .u64 cl.txn, .int .u16 cl.page, .int .i64 cl.off, .string cl.str] 35 ∧ Row w' (A0 + 1) Z 40 ∧ Below w.heap.size w w') (by kernel_rfl) ⟨HCC.out.below ab1.drew, rx1, r40, ab1.drew⟩ fun hS => ?_
  refine wpAnyH_take (i := 0) (v := .pointer (some ⟨g, 0, none⟩)) rfl (by kernel_rfl) (by kernel_rfl) (by kernel_rfl) (fun _ _ _ h => h) (Or.inl ⟨by rfl, fun w _ => by rfl⟩) hS ?_
  try simp only [Act.put, List.getElem_toArray, List.getElem_cons_zero, List.getElem_cons_succ, List.setIfInBounds_toArray, List.set_cons_zero, List.set_cons_succ]
  refine wpAnyH_take (i := 1) (v := .pointer (some ⟨g, 0, none⟩)) rfl (by kernel_rfl) (by kernel_rfl) (by kernel_rfl) (fun _ _ _ h => h) (Or.inl ⟨by rfl, fun w _ => by go_simp⟩) hS ?_
  try simp only [Act.put, List.getElem_toArray, List.getElem_cons_zero, List.getElem_cons_succ, List.setIfInBounds_toArray, List.set_cons_zero, List.set_cons_succ]
  refine wpAnyH_take (i := 2) (v := .pointer (some ⟨g, 4, none⟩)) rfl (by kernel_rfl) (by kernel_rfl) (by kernel_rfl) (fun _ _ _ h => h) (Or.inl ⟨by rfl, fun w _ => by go_simp⟩) hS ?_
  try simp only [Act.put, List.getElem_toArray, List.getElem_cons_zero, List.getElem_cons_succ, List.setIfInBounds_toArray, List.set_cons_zero, List.set_cons_succ]
  refine wpAnyH_take (i := 3) (v := .map (some m.lm)) rfl (by kernel_rfl) (by kernel_rfl) (by kernel_rfl) (fun _ _ _ h => h) (Or.inl ⟨by rfl, fun w h => by have c := h.1.at_.c4; go_simp⟩) hS ?_
  try simp only [Act.put, List.getElem_toArray, List.getElem_cons_zero, List.getElem_cons_succ, List.setIfInBounds_toArray, List.set_cons_zero, List.set_cons_succ]
  refine wpAnyH_take (i := 4) (v := .pointer (some ⟨A0, 1, none⟩)) rfl (by kernel_rfl) (by kernel_rfl) (by kernel_rfl) (fun _ _ _ h => h) (Or.inl ⟨by rfl, fun w _ => by go_simp⟩) hS ?_
  try simp only [Act.put, List.getElem_toArray, List.getElem_cons_zero, List.getElem_cons_succ, List.setIfInBounds_toArray, List.set_cons_zero, List.set_cons_succ]
  refine wpAnyH_take (i := 5) (v := .int .u64 cl.txn) rfl (by kernel_rfl) (by kernel_rfl) (by kernel_rfl) (fun _ _ _ h => h) (Or.inl ⟨by rfl, fun w h => by have c := row_at h.2.1 1 _ rfl; go_simp⟩) hS ?_
  try simp only [Act.put, List.getElem_toArray, List.getElem_cons_zero, List.getElem_cons_succ, List.setIfInBounds_toArray, List.set_cons_zero, List.set_cons_succ]
  refine wpAnyH_take (i := 6) (v := .tuple #[.agg #[.int .u32 t.start, .map (some t.mb)], .bool true]) rfl (by kernel_rfl) (by kernel_rfl) (by kernel_rfl) (fun _ _ _ h => h) (Or.inl ⟨by rfl, fun w h => by have c := HLK.out w h.1; go_simp⟩) hS ?_
  try simp only [Act.put, List.getElem_toArray, List.getElem_cons_zero, List.getElem_cons_succ, List.setIfInBounds_toArray, List.set_cons_zero, List.set_cons_succ]
  refine wpAnyH_take (i := 7) (v := .tuple #[.agg #[.int .u32 t.start, .map (some t.mb)], .bool true]) rfl (by kernel_rfl) (by kernel_rfl) (by kernel_rfl) (fun _ _ _ h => h) (Or.inl ⟨by rfl, fun w _ => by rfl⟩) hS ?_
  try simp only [Act.put, List.getElem_toArray, List.getElem_cons_zero, List.getElem_cons_succ, List.setIfInBounds_toArray, List.set_cons_zero, List.set_cons_succ]
  refine wpAnyH_take (i := 8) (v := .agg #[.int .u32 t.start, .map (some t.mb)]) rfl (by kernel_rfl) (by kernel_rfl) (by kernel_rfl) (fun _ _ _ h => h) (Or.inl ⟨by rfl, fun w _ => by go_simp⟩) hS ?_
  try simp only [Act.put, List.getElem_toArray, List.getElem_cons_zero, List.getElem_cons_succ, List.setIfInBounds_toArray, List.set_cons_zero, List.set_cons_succ]
  refine wpAnyH_take (i := 9) (v := .bool true) rfl (by kernel_rfl) (by kernel_rfl) (by kernel_rfl) (fun _ _ _ h => h) (Or.inl ⟨by rfl, fun w _ => by go_simp⟩) hS ?_
  try simp only [Act.put, List.getElem_toArray, List.getElem_cons_zero, List.getElem_cons_succ, List.setIfInBounds_toArray, List.set_cons_zero, List.set_cons_succ]
  clear ab1 r40 rx1 HR1
  generalize W.drew = W1 at hS ⊢
  refine wpAnyH_ready (rs := [10]) (by kernel_rfl) (by simp) ?_
  refine AllReadyH.cons rfl (fun K hK => ?_) AllReadyH.nil
  have hz70 := zero70
  have ab7 : Below W1.heap.size W1 (W1.alloc (.cells #[.int .u32 0, .map none] 70)) := (Below.refl _ _).alloc (Nat.le_refl _) _
  have r70 : Row (W1.alloc (.cells #[.int .u32 0, .map none] 70)) W1.heap.size #[.int .u32 0, .map none] 70 := Row.new _ _ _
  obtain ⟨X, HX⟩ : ∃ X, Hid (W1.heap.size = X) := ⟨_, rfl⟩
  have hXA : A0 + 1 < X := by rw [← HX.out]; exact hS.2.2.1.lt
  have hXw : w.heap.size ≤ X := by rw [← HX.out]; exact hS.2.2.2.size
  go_simp
  refine hK.out _ _ ⟨hS.1.below ab7, hS.2.1.alloc _, hS.2.2.1.alloc _, hS.2.2.2.trans (ab7.mono hS.2.2.2.size)⟩ fun hS => ?_
  try simp only [Act.put, List.getElem_toArray, List.getElem_cons_zero, List.getElem_cons_succ, List.setIfInBounds_toArray, List.set_cons_zero, List.set_cons_succ]
  rw [HX.out] at r70 ⊢
  clear ab7 hz70
  generalize W1.alloc (.cells #[.int .u32 0, .map none] 70) = W2 at hS r70 ⊢
  have O70 : Off (· = X) W2 (W2.setRow X #[.int .u32 t.start, .map (some t.mb)]) := Off.of_setRow _ _ _ rfl
  have hS3 : MA (W2.setRow X #[.int .u32 t.start, .map (some t.mb)]) F g m ∧ Row (W2.setRow X #[.int .u32 t.start, .map (some t.mb)]) A0 #[.int .u8 cl.kind, .int .u64 cl.txn, .int .u16 cl.page, .int .i64 cl.off, .string cl.str] 35 ∧ Row (W2.setRow X #[.int .u32 t.start, .map (some t.mb)]) (A0 + 1) Z 40 ∧ Below w.heap.size w (W2.setRow X #[.int .u32 t.start, .map (some t.mb)]) := ⟨hS.1.off O70 (fun k hk e => by have := HCF.out k hk; rw [e] at this; omega), hS.2.1.off O70 (by omega), hS.2.2.1.off O70 (by omega), below_setRow hS.2.2.2 hXw _⟩
  have r71 : Row (W2.setRow X #[.int .u32 t.start, .map (some t.mb)]) X #[.int .u32 t.start, .map (some t.mb)] 70 := r70.set _
  refine wpAnyH_ready (rs := [11]) (by kernel_rfl) (by simp) ?_
  refine AllReadyH.cons rfl (fun K hK => step_cells rfl 70 (.tmp 5) (.tmp 35) rfl X #[.int .u32 t.start, .map (some t.mb)] rfl rfl 70 _ r70 2 size70 rfl HLS.out HLO.out (hK.out _ _ hS3 fun hS => ?_)) AllReadyH.nil
  try simp only [Act.put, List.getElem_toArray, List.getElem_cons_zero, List.getElem_cons_succ, List.setIfInBounds_toArray, List.set_cons_zero, List.set_cons_succ]
  clear hS3 O70 r70
  generalize W2.setRow X #[.int .u32 t.start, .map (some t.mb)] = W3 at hS r71 ⊢
  refine wpAnyH_ready (rs := [12]) (by kernel_rfl) (by simp) ?_
  refine AllReadyH.cons rfl (fun K hK => ?_) AllReadyH.nil
  go_simp
  refine hK.out _ _ hS fun hS => ?_
  try simp only [Act.put, List.getElem_toArray, List.getElem_cons_zero, List.getElem_cons_succ, List.setIfInBounds_toArray, List.set_cons_zero, List.set_cons_succ]
  refine wpAnyH_done (by kernel_rfl) ?_ _
  obtain ⟨c3, rc3, r403, ab3⟩ := hS
  clear HLK
  have hse := seen_any c3 k p HPP0.out hk16 t.start HTX.out.1 HTX.out.2.1 t.mb t.ws HTX.out.2.2 (c3.at_.wown t HTM.out)
  have hok := seenV_ok HTX.out.2.2 (c3.vsok HPP0.out) HTX.out.1 HTX.out.2.1 (k : Int)
  rw [HEK.out] at hse hok
  have HVO : Hid (Ver.Ok (seenV t.ws t.start p.vs cl.page)) := hok
  clear hok
  obtain ⟨V, HV⟩ : ∃ V, Hid (seenV t.ws t.start p.vs cl.page = V) := ⟨_, rfl⟩
  rw [HV.out] at hse HVO
  have HVS : Hid (V.arr.size = 65) := Ver.arr_size HVO.out
  have vo := V.one
  have HBL : Hid (V.body.length = 64) := HVO.out.wr.1
  have bu := built40_body V.ts V.body HBL.out
  have HFS : Hid ((Rep.mk 0 0 V.ts V.body).arr.size = 67) := Rep.arr_size HBL.out
  have fo := (Rep.mk 0 0 V.ts V.body).one
  obtain ⟨FA, HFA⟩ : ∃ FA, Hid ((Rep.mk 0 0 V.ts V.body).arr = FA) := ⟨_, rfl⟩
  rw [HFA.out] at bu HFS fo
  have e0 := row_at rc3 0 _ rfl
  have e2 := row_at rc3 2 _ rfl
  have hk1 : (cl.kind == 1) = true := by rw [HKD.out]; rfl
  rw [HKD.out] at e0
  have hz44 := zero44
  have HZ4 : Hid (Ver.zero.arr.size = 65) := vz
  generalize Ver.zero.arr = Z4 at hz44 HZ4
  have HVT : Hid (V.arr[0]? = some (.int .u32 V.ts)) := rfl
  have HVC : Hid (∀ j u, (V.body.map (Value.int .u8))[j]? = some u → V.arr[1 + j]? = some u) := fun j u h => by
    unfold Ver.arr Ver.cells
    rw [List.getElem?_toArray, Nat.add_comm, List.getElem?_cons_succ]
    exact h
  have HBA : Hid ((V.body.map (Value.int .u8)).toArray = bs V.body) := rfl
  obtain ⟨VA, HVA⟩ : ∃ VA, Hid (V.arr = VA) := ⟨_, rfl⟩
  rw [HVA.out] at hse HVS vo HVT HVC
  clear c3
  have tl : Hid (1 = 1) := rfl
  have ts : Hid (1 = 1) := rfl
  unfold txV at hse
  go_upto_region 8 with (first
    | (have hh := tl; clear hh tl; refine load_cells rfl 70 (.tmp 5) rfl X rfl 70 _ r71 2 Try.underlying70 rfl size70 rfl ?_)
    | (go_at_call 28; refine Calls.mono hse ?_; clear hse; rintro e wd ⟨he, hcb⟩; obtain rfl := he; have r9 := r403.below hcb r403.lt; have ab9 := ab3.trans (hcb.mono ab3.size); have rV : Row (wd.alloc (.cells Z4 44)) wd.heap.size Z4 44 := Row.new _ _ _)
    | (have hh := ts; clear hh ts; refine store_cells rfl 44 (.tmp 7) (.tmp 47) rfl wd.heap.size VA rfl rfl 44 _ rV 65 size44 HZ4.out HVS.out vo ?_))
  have rW : Row ((wd.alloc (.cells Z4 44)).setRow wd.heap.size VA) wd.heap.size VA 44 := rV.set _
  have hlt9 := r9.lt
  have r10 : Row ((wd.alloc (.cells Z4 44)).setRow wd.heap.size VA) (A0 + 1) Z 40 := (r9.alloc _).other (by omega) _
  have ab10 : Below w.heap.size w ((wd.alloc (.cells Z4 44)).setRow wd.heap.size VA) := below_setRow (ab9.alloc ab9.size _) ab9.size _
  clear rV r9 ab9 hlt9
  generalize (wd.alloc (.cells Z4 44)).setRow wd.heap.size VA = W9 at rW r10 ab10 ⊢
  generalize wd.heap.size = X9 at rW ⊢
  have f0 := row_at rW 0 _ HVT.out
  have hcells : ∀ j u, (V.body.map (Value.int .u8))[j]? = some u → W9.cell? ((⟨X9, 1, none⟩ : Addr).add j) = some u := fun j u h => by
    rw [Addr.add_mid]
    exact row_at rW (1 + j) _ (HVC.out j u h)
  have HBL2 : Hid ((V.body.map (Value.int .u8)).length = 64) := by show _ = _; rw [List.length_map]; exact HBL.out
  obtain ⟨BL, HBB⟩ : ∃ BL, Hid (V.body.map (Value.int .u8) = BL) := ⟨_, rfl⟩
  rw [HBB.out] at hcells HBL2 HBA
  obtain ⟨BB, HBO⟩ : ∃ BB, Hid (bs V.body = BB) := ⟨_, rfl⟩
  rw [HBO.out] at HBA bu
  have tl : Hid (1 = 1) := rfl
  have tb : Hid (1 = 1) := rfl
  have ts : Hid (1 = 1) := rfl
  go_wp2_with (first
    | (have hh := tl; clear hh tl; refine wpList_load_any rfl 38 (.tmp 50) rfl ⟨X9, 1, none⟩ rfl BL _ hcells Try.underlying38 rfl (by rw [size38, HBL2.out]) ?_; rw [HBA.out])
    | (have hh := tb; clear hh tb; refine build_cells rfl 40 #[(2, .tmp 49), (3, .tmp 51)] rfl _ rfl FA bu ?_)
    | (have hh := ts; clear hh ts; refine store_cells rfl 40 (.tmp 4) (.tmp 52) rfl (A0 + 1) FA rfl rfl 40 _ r10 67 size40 HZS.out HFS.out fo ?_))
  refine bodyPost_ret (v := .agg FA) (ret_cell (fn := Try.f21) rfl _ _ (A0 + 1) 40 FA _ rfl (r10.set _) Try.underlying40 rfl (by rw [size40, HFS.out])) rfl ?_
  rw [HPP.out]
  exact ⟨by rw [HV.out, HFA.out], below_setRow ab10 (by rw [HA0.out]; exact Nat.le_succ _) _⟩

set_option maxHeartbeats 2000000 in
theorem use_many {w : World} {F : Nat → Prop} {g : Nat} {m : M} (c : MA w F g m) (cl : Cal) (hcl : cl.Ok) (hpg : cl.page < m.ps.length) (hkd : cl.kind = 2) (hfi : fitsB cl.off cl.str = true) (t : Tx) (hf : findT m.L cl.txn = some t) (k o : Nat) (hek : (k : Int) = cl.page) (heo : (o : Int) = cl.off) (ho : o ≤ 64) (hsz : cl.str.size ≤ 64 - o) (p : Pg) (hp : m.ps[k]? = some p) (hfu : full t.ws k = true) : Calls Try.prog 21 #[.pointer (some ⟨g, 0, none⟩), .agg cl.arr] w fun r w' => r = .returned (.agg (Rep.fail 10).arr) ∧ Below w.heap.size w w' := by
  have HCF : Hid (∀ k, F k → k < w.heap.size) := c.lt
  have HLK : Hid (∀ W, MA W F g m → (Instr.lookup 55 (.map (some m.lm)) (.int .u64 cl.txn) true).run Try.prog W = .ok (.tuple #[.agg #[.int .u32 t.start, .map (some t.mb)], .bool true]) W) := fun W h => by have := look_tx h cl.txn hcl.t.1 hcl.t.2; rw [hf] at this; exact this
  have HLS : Hid ((#[.int .u32 t.start, .map (some t.mb)] : Array Value).size = 2) := rfl
  have HLO : Hid ((#[.int .u32 t.start, .map (some t.mb)] : Array Value).all (·.oneCell') = true) := by show _ = true; simp [Value.oneCell']
  have HT := findT_some hf
  have HTM : Hid (t ∈ m.L) := HT.1
  have HTX : Hid (0 ≤ t.start ∧ t.start ≤ 4294967295 ∧ WsOk m.ps.length t.ws) := c.txok HT.1
  have HEK : Hid ((k : Int) = cl.page) := hek
  have HPP0 : Hid (m.ps[k]? = some p) := hp
  have hk16 : k ≤ 65535 := by have := hcl.p.2; omega
  clear HT hek hp
  have HCL : Hid cl.Ok := hcl
  have HPG : Hid _ := hpg
  clear hpg
  have HKD : Hid _ := hkd
  clear hkd
  have HFI : Hid _ := hfi
  clear hfi
  have HFU : Hid _ := hfu
  have HEO : Hid _ := heo
  have HHO : Hid (o ≤ 64 ∧ cl.str.size ≤ 64 - o) := ⟨ho, hsz⟩
  clear hfu heo ho hsz
  obtain ⟨PP, HPP⟩ : ∃ PP : Ending → World → Prop, Hid (PP = fun r w' => r = .returned (.agg (Rep.fail 10).arr) ∧ Below w.heap.size w w') := ⟨_, rfl⟩
  rw [← HPP.out]
  have hz40 := zero40
  have HZS : Hid (Rep.zero.arr.size = 67) := rz
  generalize Rep.zero.arr = Z at hz40 HZS
  have HCC : Hid (MA w F g m) := c
  have ab : Below w.heap.size w (w.alloc (.cells #[.int .u8 cl.kind, .int .u64 cl.txn, .int .u16 cl.page, .int .i64 cl.off, .string cl.str] 35)) := (Below.refl _ _).alloc (Nat.le_refl _) _
  have rx : Row (w.alloc (.cells #[.int .u8 cl.kind, .int .u64 cl.txn, .int .u16 cl.page, .int .i64 cl.off, .string cl.str] 35)) w.heap.size #[.int .u8 cl.kind, .int .u64 cl.txn, .int .u16 cl.page, .int .i64 cl.off, .string cl.str] 35 := Row.new _ _ _
  have e1 : (w.alloc (.cells #[.int .u8 cl.kind, .int .u64 cl.txn, .int .u16 cl.page, .int .i64 cl.off, .string cl.str] 35)).heap.size = w.heap.size + 1 := Array.size_push ..
  have ab1 : Below w.heap.size w ((w.alloc (.cells #[.int .u8 cl.kind, .int .u64 cl.txn, .int .u16 cl.page, .int .i64 cl.off, .string cl.str] 35)).alloc (.cells Z 40)) := ab.alloc ab.size _
  have r40 : Row ((w.alloc (.cells #[.int .u8 cl.kind, .int .u64 cl.txn, .int .u16 cl.page, .int .i64 cl.off, .string cl.str] 35)).alloc (.cells Z 40)) (w.alloc (.cells #[.int .u8 cl.kind, .int .u64 cl.txn, .int .u16 cl.page, .int .i64 cl.off, .string cl.str] 35)).heap.size Z 40 := Row.new _ _ _
  have rx1 := rx.alloc (.cells Z 40)
  rw [e1] at r40
  unfold Cal.arr
  clear c rx ab e1
  go_enter Try.func21, Try.ntmps21
  go_upto_region 1 with fail
  generalize (w.alloc (.cells #[.int .u8 cl.kind, .int .u64 cl.txn, .int .u16 cl.page, .int .i64 cl.off, .string cl.str] 35)).alloc (.cells Z 40) = W at ab1 r40 rx1 ⊢
  obtain ⟨A0, HA0⟩ : ∃ A0, Hid (w.heap.size = A0) := ⟨_, rfl⟩
  rw [HA0.out] at r40 rx1 ⊢
  have hhas := has_any (HCC.out.below ab1) cl.page HCL.out.p.1 HCL.out.p.2
  rw [decide_eq_true HPG.out] at hhas
  have e2 := row_at rx1 2 _ rfl
  have e0 := row_at rx1 0 _ rfl
  have e3 := row_at rx1 3 _ rfl
  have e4 := row_at rx1 4 _ rfl
  have hfit := fits_any cl.off cl.str HCL.out.o.1 HCL.out.o.2 W
  rw [HFI.out] at hfit
  have hk2 : (cl.kind == 2) = true := by rw [HKD.out]; rfl
  rw [HKD.out] at e0
  go_upto_region 3 with (first
    | (go_at_call 24; refine hhas.mono ?_; clear hhas; rintro e wb ⟨he, hww⟩; rw [hww]; clear hww wb; obtain rfl := he)
    | (go_at_call 27; refine hfit.mono ?_; clear hfit; rintro e wb ⟨he, hww⟩; rw [hww]; clear hww wb; obtain rfl := he))
  clear e3 e4 hk2 e0 e2
  have HR1 : Hid (Row W (A0 + 1) Z 40) := r40
  refine wp_region_held_drew (S := fun w' => MA w' F g m ∧ Row w' A0 #[.int .u8 cl.kind, .int .u64 cl.txn, .int .u16 cl.page, .int .i64 cl.off, .string cl.str] 35 ∧ Row w' (A0 + 1) Z 40 ∧ Below w.heap.size w w') (by kernel_rfl) ⟨HCC.out.below ab1.drew, rx1, r40, ab1.drew⟩ fun hS => ?_
  refine wpAnyH_take (i := 0) (v := .pointer (some ⟨g, 0, none⟩)) rfl (by kernel_rfl) (by kernel_rfl) (by kernel_rfl) (fun _ _ _ h => h) (Or.inl ⟨by rfl, fun w _ => by rfl⟩) hS ?_
  try simp only [Act.put, List.getElem_toArray, List.getElem_cons_zero, List.getElem_cons_succ, List.setIfInBounds_toArray, List.set_cons_zero, List.set_cons_succ]
  refine wpAnyH_take (i := 1) (v := .pointer (some ⟨g, 0, none⟩)) rfl (by kernel_rfl) (by kernel_rfl) (by kernel_rfl) (fun _ _ _ h => h) (Or.inl ⟨by rfl, fun w _ => by go_simp⟩) hS ?_
  try simp only [Act.put, List.getElem_toArray, List.getElem_cons_zero, List.getElem_cons_succ, List.setIfInBounds_toArray, List.set_cons_zero, List.set_cons_succ]
  refine wpAnyH_take (i := 2) (v := .pointer (some ⟨g, 4, none⟩)) rfl (by kernel_rfl) (by kernel_rfl) (by kernel_rfl) (fun _ _ _ h => h) (Or.inl ⟨by rfl, fun w _ => by go_simp⟩) hS ?_
  try simp only [Act.put, List.getElem_toArray, List.getElem_cons_zero, List.getElem_cons_succ, List.setIfInBounds_toArray, List.set_cons_zero, List.set_cons_succ]
  refine wpAnyH_take (i := 3) (v := .map (some m.lm)) rfl (by kernel_rfl) (by kernel_rfl) (by kernel_rfl) (fun _ _ _ h => h) (Or.inl ⟨by rfl, fun w h => by have c := h.1.at_.c4; go_simp⟩) hS ?_
  try simp only [Act.put, List.getElem_toArray, List.getElem_cons_zero, List.getElem_cons_succ, List.setIfInBounds_toArray, List.set_cons_zero, List.set_cons_succ]
  refine wpAnyH_take (i := 4) (v := .pointer (some ⟨A0, 1, none⟩)) rfl (by kernel_rfl) (by kernel_rfl) (by kernel_rfl) (fun _ _ _ h => h) (Or.inl ⟨by rfl, fun w _ => by go_simp⟩) hS ?_
  try simp only [Act.put, List.getElem_toArray, List.getElem_cons_zero, List.getElem_cons_succ, List.setIfInBounds_toArray, List.set_cons_zero, List.set_cons_succ]
  refine wpAnyH_take (i := 5) (v := .int .u64 cl.txn) rfl (by kernel_rfl) (by kernel_rfl) (by kernel_rfl) (fun _ _ _ h => h) (Or.inl ⟨by rfl, fun w h => by have c := row_at h.2.1 1 _ rfl; go_simp⟩) hS ?_
  try simp only [Act.put, List.getElem_toArray, List.getElem_cons_zero, List.getElem_cons_succ, List.setIfInBounds_toArray, List.set_cons_zero, List.set_cons_succ]
  refine wpAnyH_take (i := 6) (v := .tuple #[.agg #[.int .u32 t.start, .map (some t.mb)], .bool true]) rfl (by kernel_rfl) (by kernel_rfl) (by kernel_rfl) (fun _ _ _ h => h) (Or.inl ⟨by rfl, fun w h => by have c := HLK.out w h.1; go_simp⟩) hS ?_
  try simp only [Act.put, List.getElem_toArray, List.getElem_cons_zero, List.getElem_cons_succ, List.setIfInBounds_toArray, List.set_cons_zero, List.set_cons_succ]
  refine wpAnyH_take (i := 7) (v := .tuple #[.agg #[.int .u32 t.start, .map (some t.mb)], .bool true]) rfl (by kernel_rfl) (by kernel_rfl) (by kernel_rfl) (fun _ _ _ h => h) (Or.inl ⟨by rfl, fun w _ => by rfl⟩) hS ?_
  try simp only [Act.put, List.getElem_toArray, List.getElem_cons_zero, List.getElem_cons_succ, List.setIfInBounds_toArray, List.set_cons_zero, List.set_cons_succ]
  refine wpAnyH_take (i := 8) (v := .agg #[.int .u32 t.start, .map (some t.mb)]) rfl (by kernel_rfl) (by kernel_rfl) (by kernel_rfl) (fun _ _ _ h => h) (Or.inl ⟨by rfl, fun w _ => by go_simp⟩) hS ?_
  try simp only [Act.put, List.getElem_toArray, List.getElem_cons_zero, List.getElem_cons_succ, List.setIfInBounds_toArray, List.set_cons_zero, List.set_cons_succ]
  refine wpAnyH_take (i := 9) (v := .bool true) rfl (by kernel_rfl) (by kernel_rfl) (by kernel_rfl) (fun _ _ _ h => h) (Or.inl ⟨by rfl, fun w _ => by go_simp⟩) hS ?_
  try simp only [Act.put, List.getElem_toArray, List.getElem_cons_zero, List.getElem_cons_succ, List.setIfInBounds_toArray, List.set_cons_zero, List.set_cons_succ]
  clear ab1 r40 rx1 HR1
  generalize W.drew = W1 at hS ⊢
  refine wpAnyH_ready (rs := [10]) (by kernel_rfl) (by simp) ?_
  refine AllReadyH.cons rfl (fun K hK => ?_) AllReadyH.nil
  have hz70 := zero70
  have ab7 : Below W1.heap.size W1 (W1.alloc (.cells #[.int .u32 0, .map none] 70)) := (Below.refl _ _).alloc (Nat.le_refl _) _
  have r70 : Row (W1.alloc (.cells #[.int .u32 0, .map none] 70)) W1.heap.size #[.int .u32 0, .map none] 70 := Row.new _ _ _
  obtain ⟨X, HX⟩ : ∃ X, Hid (W1.heap.size = X) := ⟨_, rfl⟩
  have hXA : A0 + 1 < X := by rw [← HX.out]; exact hS.2.2.1.lt
  have hXw : w.heap.size ≤ X := by rw [← HX.out]; exact hS.2.2.2.size
  go_simp
  refine hK.out _ _ ⟨hS.1.below ab7, hS.2.1.alloc _, hS.2.2.1.alloc _, hS.2.2.2.trans (ab7.mono hS.2.2.2.size)⟩ fun hS => ?_
  try simp only [Act.put, List.getElem_toArray, List.getElem_cons_zero, List.getElem_cons_succ, List.setIfInBounds_toArray, List.set_cons_zero, List.set_cons_succ]
  rw [HX.out] at r70 ⊢
  clear ab7 hz70
  generalize W1.alloc (.cells #[.int .u32 0, .map none] 70) = W2 at hS r70 ⊢
  have O70 : Off (· = X) W2 (W2.setRow X #[.int .u32 t.start, .map (some t.mb)]) := Off.of_setRow _ _ _ rfl
  have hS3 : MA (W2.setRow X #[.int .u32 t.start, .map (some t.mb)]) F g m ∧ Row (W2.setRow X #[.int .u32 t.start, .map (some t.mb)]) A0 #[.int .u8 cl.kind, .int .u64 cl.txn, .int .u16 cl.page, .int .i64 cl.off, .string cl.str] 35 ∧ Row (W2.setRow X #[.int .u32 t.start, .map (some t.mb)]) (A0 + 1) Z 40 ∧ Below w.heap.size w (W2.setRow X #[.int .u32 t.start, .map (some t.mb)]) := ⟨hS.1.off O70 (fun k hk e => by have := HCF.out k hk; rw [e] at this; omega), hS.2.1.off O70 (by omega), hS.2.2.1.off O70 (by omega), below_setRow hS.2.2.2 hXw _⟩
  have r71 : Row (W2.setRow X #[.int .u32 t.start, .map (some t.mb)]) X #[.int .u32 t.start, .map (some t.mb)] 70 := r70.set _
  refine wpAnyH_ready (rs := [11]) (by kernel_rfl) (by simp) ?_
  refine AllReadyH.cons rfl (fun K hK => step_cells rfl 70 (.tmp 5) (.tmp 35) rfl X #[.int .u32 t.start, .map (some t.mb)] rfl rfl 70 _ r70 2 size70 rfl HLS.out HLO.out (hK.out _ _ hS3 fun hS => ?_)) AllReadyH.nil
  try simp only [Act.put, List.getElem_toArray, List.getElem_cons_zero, List.getElem_cons_succ, List.setIfInBounds_toArray, List.set_cons_zero, List.set_cons_succ]
  clear hS3 O70 r70
  generalize W2.setRow X #[.int .u32 t.start, .map (some t.mb)] = W3 at hS r71 ⊢
  refine wpAnyH_ready (rs := [12]) (by kernel_rfl) (by simp) ?_
  refine AllReadyH.cons rfl (fun K hK => ?_) AllReadyH.nil
  go_simp
  refine hK.out _ _ hS fun hS => ?_
  try simp only [Act.put, List.getElem_toArray, List.getElem_cons_zero, List.getElem_cons_succ, List.setIfInBounds_toArray, List.set_cons_zero, List.set_cons_succ]
  refine wpAnyH_done (by kernel_rfl) ?_ _
  obtain ⟨c3, rc3, r403, ab3⟩ := hS
  clear HLK
  have hwr := write_many c3 cl k o t HTM.out p HPP0.out HHO.out.1 HHO.out.2 HFU.out
  rw [HEK.out, HEO.out] at hwr
  have HFS : Hid ((Rep.fail 10).arr.size = 67) := Rep.arr_size (zs_length _)
  have fo := (Rep.fail 10).one
  have HON : Hid (∀ W, Calls Try.prog 19 #[.int .i64 10] W fun r w' => r = .returned (.agg (Rep.fail 10).arr) ∧ Below W.heap.size W w') := fun W => only_any 10 W
  obtain ⟨FA, HFA⟩ : ∃ FA, Hid ((Rep.fail 10).arr = FA) := ⟨_, rfl⟩
  rw [HFA.out] at HFS fo HON
  have e0 := row_at rc3 0 _ rfl
  have hk1 : (cl.kind == 1) = false := by rw [HKD.out]; rfl
  obtain ⟨CE, HCE⟩ : ∃ CE, Hid ((#[.int .u8 cl.kind, .int .u64 cl.txn, .int .u16 cl.page, .int .i64 cl.off, .string cl.str] : Array Value) = CE) := ⟨_, rfl⟩
  have HCS : Hid (CE.size = 5) := by rw [← HCE.out]; rfl
  rw [HCE.out] at hwr rc3
  clear c3
  have tl : Hid (1 = 1) := rfl
  have tm : Hid (1 = 1) := rfl
  have ts : Hid (1 = 1) := rfl
  go_wp2_with (first
    | (have hh := tl; clear hh tl; refine load_cells rfl 70 (.tmp 5) rfl X rfl 70 _ r71 2 Try.underlying70 rfl size70 rfl ?_)
    | (have hh := tm; clear hh tm; refine load_cells rfl 35 (.tmp 3) rfl A0 rfl 35 CE rc3 5 Try.underlying35 rfl size35 HCS.out ?_)
    | (go_at_call 29; refine Calls.mono hwr ?_; clear hwr; rintro e wd ⟨he, hcb⟩; obtain rfl := he; have r9 := r403.below hcb r403.lt; have ab9 := ab3.trans (hcb.mono ab3.size); have hon := HON.out wd)
    | (go_at_call 19; refine Calls.mono hon ?_; clear hon; rintro e wf ⟨he, hcb⟩; obtain rfl := he; have r10 := r9.below hcb r9.lt; have ab10 := ab9.trans (hcb.mono ab9.size))
    | (have hh := ts; clear hh ts; refine store_cells rfl 40 (.tmp 4) (.tmp 57) rfl (A0 + 1) FA rfl rfl 40 _ r10 67 size40 HZS.out HFS.out fo ?_))
  refine bodyPost_ret (v := .agg FA) (ret_cell (fn := Try.f21) rfl _ _ (A0 + 1) 40 FA _ rfl (r10.set _) Try.underlying40 rfl (by rw [size40, HFS.out])) rfl ?_
  rw [HPP.out]
  exact ⟨by rw [HFA.out], below_setRow ab10 (by rw [HA0.out]; exact Nat.le_succ _) _⟩

set_option maxHeartbeats 2000000 in
theorem use_one {w : World} {F : Nat → Prop} {g : Nat} {m : M} (c : MA w F g m) (cl : Cal) (hcl : cl.Ok) (hpg : cl.page < m.ps.length) (hkd : cl.kind = 2) (hfi : fitsB cl.off cl.str = true) (t : Tx) (hf : findT m.L cl.txn = some t) (k o : Nat) (hek : (k : Int) = cl.page) (heo : (o : Int) = cl.off) (ho : o ≤ 64) (hsz : cl.str.size ≤ 64 - o) (p : Pg) (hp : m.ps[k]? = some p) (hfu : full t.ws k = false) : Calls Try.prog 21 #[.pointer (some ⟨g, 0, none⟩), .agg cl.arr] w fun r w' => r = .returned (.agg (Rep.fail 0).arr) ∧ Went w F g (M.abs { m with L := setT m.L t.key (putP t.ws k (splice (seenV t.ws t.start p.vs k).body o (nums cl.str))) }) w' := by
  have HCF : Hid (∀ k, F k → k < w.heap.size) := c.lt
  have HLK : Hid (∀ W, MA W F g m → (Instr.lookup 55 (.map (some m.lm)) (.int .u64 cl.txn) true).run Try.prog W = .ok (.tuple #[.agg #[.int .u32 t.start, .map (some t.mb)], .bool true]) W) := fun W h => by have := look_tx h cl.txn hcl.t.1 hcl.t.2; rw [hf] at this; exact this
  have HLS : Hid ((#[.int .u32 t.start, .map (some t.mb)] : Array Value).size = 2) := rfl
  have HLO : Hid ((#[.int .u32 t.start, .map (some t.mb)] : Array Value).all (·.oneCell') = true) := by show _ = true; simp [Value.oneCell']
  have HT := findT_some hf
  have HTM : Hid (t ∈ m.L) := HT.1
  have HTX : Hid (0 ≤ t.start ∧ t.start ≤ 4294967295 ∧ WsOk m.ps.length t.ws) := c.txok HT.1
  have HEK : Hid ((k : Int) = cl.page) := hek
  have HPP0 : Hid (m.ps[k]? = some p) := hp
  have hk16 : k ≤ 65535 := by have := hcl.p.2; omega
  clear HT hek hp
  have HCL : Hid cl.Ok := hcl
  have HPG : Hid _ := hpg
  clear hpg
  have HKD : Hid _ := hkd
  clear hkd
  have HFI : Hid _ := hfi
  clear hfi
  have HFU : Hid _ := hfu
  have HEO : Hid _ := heo
  have HHO : Hid (o ≤ 64 ∧ cl.str.size ≤ 64 - o) := ⟨ho, hsz⟩
  clear hfu heo ho hsz
  obtain ⟨PP, HPP⟩ : ∃ PP : Ending → World → Prop, Hid (PP = fun r w' => r = .returned (.agg (Rep.fail 0).arr) ∧ Went w F g (M.abs { m with L := setT m.L t.key (putP t.ws k (splice (seenV t.ws t.start p.vs k).body o (nums cl.str))) }) w') := ⟨_, rfl⟩
  rw [← HPP.out]
  have hz40 := zero40
  have HZS : Hid (Rep.zero.arr.size = 67) := rz
  generalize Rep.zero.arr = Z at hz40 HZS
  have HCC : Hid (MA w F g m) := c
  have ab : Below w.heap.size w (w.alloc (.cells #[.int .u8 cl.kind, .int .u64 cl.txn, .int .u16 cl.page, .int .i64 cl.off, .string cl.str] 35)) := (Below.refl _ _).alloc (Nat.le_refl _) _
  have rx : Row (w.alloc (.cells #[.int .u8 cl.kind, .int .u64 cl.txn, .int .u16 cl.page, .int .i64 cl.off, .string cl.str] 35)) w.heap.size #[.int .u8 cl.kind, .int .u64 cl.txn, .int .u16 cl.page, .int .i64 cl.off, .string cl.str] 35 := Row.new _ _ _
  have e1 : (w.alloc (.cells #[.int .u8 cl.kind, .int .u64 cl.txn, .int .u16 cl.page, .int .i64 cl.off, .string cl.str] 35)).heap.size = w.heap.size + 1 := Array.size_push ..
  have ab1 : Below w.heap.size w ((w.alloc (.cells #[.int .u8 cl.kind, .int .u64 cl.txn, .int .u16 cl.page, .int .i64 cl.off, .string cl.str] 35)).alloc (.cells Z 40)) := ab.alloc ab.size _
  have r40 : Row ((w.alloc (.cells #[.int .u8 cl.kind, .int .u64 cl.txn, .int .u16 cl.page, .int .i64 cl.off, .string cl.str] 35)).alloc (.cells Z 40)) (w.alloc (.cells #[.int .u8 cl.kind, .int .u64 cl.txn, .int .u16 cl.page, .int .i64 cl.off, .string cl.str] 35)).heap.size Z 40 := Row.new _ _ _
  have rx1 := rx.alloc (.cells Z 40)
  rw [e1] at r40
  unfold Cal.arr
  clear c rx ab e1
  go_enter Try.func21, Try.ntmps21
  go_upto_region 1 with fail
  generalize (w.alloc (.cells #[.int .u8 cl.kind, .int .u64 cl.txn, .int .u16 cl.page, .int .i64 cl.off, .string cl.str] 35)).alloc (.cells Z 40) = W at ab1 r40 rx1 ⊢
  obtain ⟨A0, HA0⟩ : ∃ A0, Hid (w.heap.size = A0) := ⟨_, rfl⟩
  rw [HA0.out] at r40 rx1 ⊢
  have hhas := has_any (HCC.out.below ab1) cl.page HCL.out.p.1 HCL.out.p.2
  rw [decide_eq_true HPG.out] at hhas
  have e2 := row_at rx1 2 _ rfl
  have e0 := row_at rx1 0 _ rfl
  have e3 := row_at rx1 3 _ rfl
  have e4 := row_at rx1 4 _ rfl
  have hfit := fits_any cl.off cl.str HCL.out.o.1 HCL.out.o.2 W
  rw [HFI.out] at hfit
  have hk2 : (cl.kind == 2) = true := by rw [HKD.out]; rfl
  rw [HKD.out] at e0
  go_upto_region 3 with (first
    | (go_at_call 24; refine hhas.mono ?_; clear hhas; rintro e wb ⟨he, hww⟩; rw [hww]; clear hww wb; obtain rfl := he)
    | (go_at_call 27; refine hfit.mono ?_; clear hfit; rintro e wb ⟨he, hww⟩; rw [hww]; clear hww wb; obtain rfl := he))
  clear e3 e4 hk2 e0 e2
  have HR1 : Hid (Row W (A0 + 1) Z 40) := r40
  refine wp_region_held_drew (S := fun w' => MA w' F g m ∧ Row w' A0 #[.int .u8 cl.kind, .int .u64 cl.txn, .int .u16 cl.page, .int .i64 cl.off, .string cl.str] 35 ∧ Row w' (A0 + 1) Z 40 ∧ Below w.heap.size w w') (by kernel_rfl) ⟨HCC.out.below ab1.drew, rx1, r40, ab1.drew⟩ fun hS => ?_
  refine wpAnyH_take (i := 0) (v := .pointer (some ⟨g, 0, none⟩)) rfl (by kernel_rfl) (by kernel_rfl) (by kernel_rfl) (fun _ _ _ h => h) (Or.inl ⟨by rfl, fun w _ => by rfl⟩) hS ?_
  try simp only [Act.put, List.getElem_toArray, List.getElem_cons_zero, List.getElem_cons_succ, List.setIfInBounds_toArray, List.set_cons_zero, List.set_cons_succ]
  refine wpAnyH_take (i := 1) (v := .pointer (some ⟨g, 0, none⟩)) rfl (by kernel_rfl) (by kernel_rfl) (by kernel_rfl) (fun _ _ _ h => h) (Or.inl ⟨by rfl, fun w _ => by go_simp⟩) hS ?_
  try simp only [Act.put, List.getElem_toArray, List.getElem_cons_zero, List.getElem_cons_succ, List.setIfInBounds_toArray, List.set_cons_zero, List.set_cons_succ]
  refine wpAnyH_take (i := 2) (v := .pointer (some ⟨g, 4, none⟩)) rfl (by kernel_rfl) (by kernel_rfl) (by kernel_rfl) (fun _ _ _ h => h) (Or.inl ⟨by rfl, fun w _ => by go_simp⟩) hS ?_
  try simp only [Act.put, List.getElem_toArray, List.getElem_cons_zero, List.getElem_cons_succ, List.setIfInBounds_toArray, List.set_cons_zero, List.set_cons_succ]
  refine wpAnyH_take (i := 3) (v := .map (some m.lm)) rfl (by kernel_rfl) (by kernel_rfl) (by kernel_rfl) (fun _ _ _ h => h) (Or.inl ⟨by rfl, fun w h => by have c := h.1.at_.c4; go_simp⟩) hS ?_
  try simp only [Act.put, List.getElem_toArray, List.getElem_cons_zero, List.getElem_cons_succ, List.setIfInBounds_toArray, List.set_cons_zero, List.set_cons_succ]
  refine wpAnyH_take (i := 4) (v := .pointer (some ⟨A0, 1, none⟩)) rfl (by kernel_rfl) (by kernel_rfl) (by kernel_rfl) (fun _ _ _ h => h) (Or.inl ⟨by rfl, fun w _ => by go_simp⟩) hS ?_
  try simp only [Act.put, List.getElem_toArray, List.getElem_cons_zero, List.getElem_cons_succ, List.setIfInBounds_toArray, List.set_cons_zero, List.set_cons_succ]
  refine wpAnyH_take (i := 5) (v := .int .u64 cl.txn) rfl (by kernel_rfl) (by kernel_rfl) (by kernel_rfl) (fun _ _ _ h => h) (Or.inl ⟨by rfl, fun w h => by have c := row_at h.2.1 1 _ rfl; go_simp⟩) hS ?_
  try simp only [Act.put, List.getElem_toArray, List.getElem_cons_zero, List.getElem_cons_succ, List.setIfInBounds_toArray, List.set_cons_zero, List.set_cons_succ]
  refine wpAnyH_take (i := 6) (v := .tuple #[.agg #[.int .u32 t.start, .map (some t.mb)], .bool true]) rfl (by kernel_rfl) (by kernel_rfl) (by kernel_rfl) (fun _ _ _ h => h) (Or.inl ⟨by rfl, fun w h => by have c := HLK.out w h.1; go_simp⟩) hS ?_
  try simp only [Act.put, List.getElem_toArray, List.getElem_cons_zero, List.getElem_cons_succ, List.setIfInBounds_toArray, List.set_cons_zero, List.set_cons_succ]
  refine wpAnyH_take (i := 7) (v := .tuple #[.agg #[.int .u32 t.start, .map (some t.mb)], .bool true]) rfl (by kernel_rfl) (by kernel_rfl) (by kernel_rfl) (fun _ _ _ h => h) (Or.inl ⟨by rfl, fun w _ => by rfl⟩) hS ?_
  try simp only [Act.put, List.getElem_toArray, List.getElem_cons_zero, List.getElem_cons_succ, List.setIfInBounds_toArray, List.set_cons_zero, List.set_cons_succ]
  refine wpAnyH_take (i := 8) (v := .agg #[.int .u32 t.start, .map (some t.mb)]) rfl (by kernel_rfl) (by kernel_rfl) (by kernel_rfl) (fun _ _ _ h => h) (Or.inl ⟨by rfl, fun w _ => by go_simp⟩) hS ?_
  try simp only [Act.put, List.getElem_toArray, List.getElem_cons_zero, List.getElem_cons_succ, List.setIfInBounds_toArray, List.set_cons_zero, List.set_cons_succ]
  refine wpAnyH_take (i := 9) (v := .bool true) rfl (by kernel_rfl) (by kernel_rfl) (by kernel_rfl) (fun _ _ _ h => h) (Or.inl ⟨by rfl, fun w _ => by go_simp⟩) hS ?_
  try simp only [Act.put, List.getElem_toArray, List.getElem_cons_zero, List.getElem_cons_succ, List.setIfInBounds_toArray, List.set_cons_zero, List.set_cons_succ]
  clear ab1 r40 rx1 HR1
  generalize W.drew = W1 at hS ⊢
  refine wpAnyH_ready (rs := [10]) (by kernel_rfl) (by simp) ?_
  refine AllReadyH.cons rfl (fun K hK => ?_) AllReadyH.nil
  have hz70 := zero70
  have ab7 : Below W1.heap.size W1 (W1.alloc (.cells #[.int .u32 0, .map none] 70)) := (Below.refl _ _).alloc (Nat.le_refl _) _
  have r70 : Row (W1.alloc (.cells #[.int .u32 0, .map none] 70)) W1.heap.size #[.int .u32 0, .map none] 70 := Row.new _ _ _
  obtain ⟨X, HX⟩ : ∃ X, Hid (W1.heap.size = X) := ⟨_, rfl⟩
  have hXA : A0 + 1 < X := by rw [← HX.out]; exact hS.2.2.1.lt
  have hXw : w.heap.size ≤ X := by rw [← HX.out]; exact hS.2.2.2.size
  go_simp
  refine hK.out _ _ ⟨hS.1.below ab7, hS.2.1.alloc _, hS.2.2.1.alloc _, hS.2.2.2.trans (ab7.mono hS.2.2.2.size)⟩ fun hS => ?_
  try simp only [Act.put, List.getElem_toArray, List.getElem_cons_zero, List.getElem_cons_succ, List.setIfInBounds_toArray, List.set_cons_zero, List.set_cons_succ]
  rw [HX.out] at r70 ⊢
  clear ab7 hz70
  generalize W1.alloc (.cells #[.int .u32 0, .map none] 70) = W2 at hS r70 ⊢
  have O70 : Off (· = X) W2 (W2.setRow X #[.int .u32 t.start, .map (some t.mb)]) := Off.of_setRow _ _ _ rfl
  have hS3 : MA (W2.setRow X #[.int .u32 t.start, .map (some t.mb)]) F g m ∧ Row (W2.setRow X #[.int .u32 t.start, .map (some t.mb)]) A0 #[.int .u8 cl.kind, .int .u64 cl.txn, .int .u16 cl.page, .int .i64 cl.off, .string cl.str] 35 ∧ Row (W2.setRow X #[.int .u32 t.start, .map (some t.mb)]) (A0 + 1) Z 40 ∧ Below w.heap.size w (W2.setRow X #[.int .u32 t.start, .map (some t.mb)]) := ⟨hS.1.off O70 (fun k hk e => by have := HCF.out k hk; rw [e] at this; omega), hS.2.1.off O70 (by omega), hS.2.2.1.off O70 (by omega), below_setRow hS.2.2.2 hXw _⟩
  have r71 : Row (W2.setRow X #[.int .u32 t.start, .map (some t.mb)]) X #[.int .u32 t.start, .map (some t.mb)] 70 := r70.set _
  refine wpAnyH_ready (rs := [11]) (by kernel_rfl) (by simp) ?_
  refine AllReadyH.cons rfl (fun K hK => step_cells rfl 70 (.tmp 5) (.tmp 35) rfl X #[.int .u32 t.start, .map (some t.mb)] rfl rfl 70 _ r70 2 size70 rfl HLS.out HLO.out (hK.out _ _ hS3 fun hS => ?_)) AllReadyH.nil
  try simp only [Act.put, List.getElem_toArray, List.getElem_cons_zero, List.getElem_cons_succ, List.setIfInBounds_toArray, List.set_cons_zero, List.set_cons_succ]
  clear hS3 O70 r70
  generalize W2.setRow X #[.int .u32 t.start, .map (some t.mb)] = W3 at hS r71 ⊢
  refine wpAnyH_ready (rs := [12]) (by kernel_rfl) (by simp) ?_
  refine AllReadyH.cons rfl (fun K hK => ?_) AllReadyH.nil
  go_simp
  refine hK.out _ _ hS fun hS => ?_
  try simp only [Act.put, List.getElem_toArray, List.getElem_cons_zero, List.getElem_cons_succ, List.setIfInBounds_toArray, List.set_cons_zero, List.set_cons_succ]
  refine wpAnyH_done (by kernel_rfl) ?_ _
  obtain ⟨c3, rc3, r403, ab3⟩ := hS
  clear HLK
  have hwr := write_one c3 cl k o t HTM.out p HPP0.out HHO.out.1 HHO.out.2 HFU.out
  obtain ⟨SS, HSS⟩ : ∃ SS, Hid ((M.abs { m with L := setT m.L t.key (putP t.ws k (splice (seenV t.ws t.start p.vs k).body o (nums cl.str))) }) = SS) := ⟨_, rfl⟩
  rw [HSS.out, HEK.out, HEO.out] at hwr
  have HFS : Hid ((Rep.fail 0).arr.size = 67) := Rep.arr_size (zs_length _)
  have fo := (Rep.fail 0).one
  have HON : Hid (∀ W, Calls Try.prog 19 #[.int .i64 0] W fun r w' => r = .returned (.agg (Rep.fail 0).arr) ∧ Below W.heap.size W w') := fun W => only_any 0 W
  obtain ⟨FA, HFA⟩ : ∃ FA, Hid ((Rep.fail 0).arr = FA) := ⟨_, rfl⟩
  rw [HFA.out] at HFS fo HON
  have e0 := row_at rc3 0 _ rfl
  have hk1 : (cl.kind == 1) = false := by rw [HKD.out]; rfl
  obtain ⟨CE, HCE⟩ : ∃ CE, Hid ((#[.int .u8 cl.kind, .int .u64 cl.txn, .int .u16 cl.page, .int .i64 cl.off, .string cl.str] : Array Value) = CE) := ⟨_, rfl⟩
  have HCS : Hid (CE.size = 5) := by rw [← HCE.out]; rfl
  rw [HCE.out] at hwr rc3
  clear c3
  have tl : Hid (1 = 1) := rfl
  have tm : Hid (1 = 1) := rfl
  have ts : Hid (1 = 1) := rfl
  have hnF : ¬ F (A0 + 1) := fun q => by have := HCF.out _ q; rw [HA0.out] at this; omega
  go_wp2_with (first
    | (have hh := tl; clear hh tl; refine load_cells rfl 70 (.tmp 5) rfl X rfl 70 _ r71 2 Try.underlying70 rfl size70 rfl ?_)
    | (have hh := tm; clear hh tm; refine load_cells rfl 35 (.tmp 3) rfl A0 rfl 35 CE rc3 5 Try.underlying35 rfl size35 HCS.out ?_)
    | (go_at_call 29; refine Calls.mono hwr ?_; clear hwr; rintro e wd ⟨he, hwd⟩; obtain rfl := he; have r9 := r403.off hwd.1 hnF; have HWD : Hid (Went W3 F g SS wd) := hwd; clear hwd; have hon := HON.out wd)
    | (go_at_call 19; refine Calls.mono hon ?_; clear hon; rintro e wf ⟨he, hcb⟩; obtain rfl := he; have r10 := r9.below hcb r9.lt; have HWF : Hid (Went W3 F g SS wf) := Went.behind HWD.out hcb)
    | (have hh := ts; clear hh ts; refine store_cells rfl 40 (.tmp 4) (.tmp 57) rfl (A0 + 1) FA rfl rfl 40 _ r10 67 size40 HZS.out HFS.out fo ?_))
  refine bodyPost_ret (v := .agg FA) (ret_cell (fn := Try.f21) rfl _ _ (A0 + 1) 40 FA _ rfl (r10.set _) Try.underlying40 rfl (by rw [size40, HFS.out])) rfl ?_
  rw [HPP.out]
  exact ⟨by rw [HFA.out], by rw [HSS.out]; exact Went.close HCF.out (Off.of_below ab3) HWF.out r403.lt (by rw [HA0.out]; exact Nat.le_succ _) (Off.of_setRow wf (A0 + 1) FA rfl)⟩

theorem use_any {w : World} {F : Nat → Prop} {g : Nat} {m : M} (c : MA w F g m) (cl : Cal) (hcl : cl.Ok) (hk12 : cl.kind = 1 ∨ cl.kind = 2) : Calls Try.prog 21 #[.pointer (some ⟨g, 0, none⟩), .agg cl.arr] w fun r w' => r = .returned (.agg (useR m.abs cl).arr) ∧ Went w F g (useS m.abs cl) w' := by
  have cm : MAt w F g m.abs := ⟨m, rfl, c⟩
  have hlen : m.abs.pages.length = m.ps.length := by simp [M.abs]
  have bad : ∀ (h : badU m.abs cl = true), useR m.abs cl = Rep.fail 1 ∧ useS m.abs cl = m.abs := fun h => ⟨by unfold useR; rw [if_pos h], by unfold useS; rw [if_pos h]⟩
  by_cases hpg : cl.page < m.ps.length
  · have hp1 : decide (cl.page < (m.abs.pages.length : Int)) = true := by rw [hlen]; exact decide_eq_true hpg
    have ea : findL m.abs.live cl.txn = (findT m.L cl.txn).map Tx.abs := findL_abs _ _
    have hpos := hcl.p.1
    obtain ⟨k, hek⟩ : ∃ k : Nat, (k : Int) = cl.page := ⟨cl.page.toNat, by omega⟩
    obtain ⟨p, hp⟩ : ∃ p, m.ps[k]? = some p := ⟨_, List.getElem?_eq_getElem (by omega)⟩
    have hpv : m.abs.page cl.page = p.vs := by rw [← hek]; exact St.page_at hp
    rcases hk12 with hk | hk
    · have hnb : badU m.abs cl = false := by unfold badU; rw [hp1]; simp [hk]
      cases hf : findT m.L cl.txn with
      | none =>
        have er : useR m.abs cl = Rep.fail 9 := by unfold useR; rw [hnb, ea, hf]; rfl
        have es : useS m.abs cl = m.abs := by unfold useS; rw [hnb, ea, hf]; rfl
        rw [er, es]
        exact (use_none_r c cl hcl hpg hk hf).mono fun r w' h => ⟨h.1, Went.same cm h.2⟩
      | some t =>
        have er : useR m.abs cl = ⟨0, 0, (seenV t.ws t.start p.vs cl.page).ts, (seenV t.ws t.start p.vs cl.page).body⟩ := by unfold useR; rw [hnb, ea, hf, hpv]; exact if_pos hk
        have es : useS m.abs cl = m.abs := by unfold useS; rw [hnb, ea, hf]; exact if_pos hk
        rw [er, es]
        exact (use_read c cl hcl hpg hk t hf k hek p hp).mono fun r w' h => ⟨h.1, Went.same cm h.2⟩
    · cases hfi : fitsB cl.off cl.str with
      | false =>
        have hb : badU m.abs cl = true := by unfold badU; rw [hp1]; simp [hk, hfi]
        rw [(bad hb).1, (bad hb).2]
        exact (use_fits c cl hcl hpg hk hfi).mono fun r w' h => ⟨h.1, Went.same cm h.2⟩
      | true =>
        have hnb : badU m.abs cl = false := by unfold badU; rw [hp1]; simp [hk, hfi]
        have hk1 : ¬ cl.kind = 1 := by omega
        have hf3 := hfi
        simp only [fitsB, Bool.and_eq_true, decide_eq_true_eq] at hf3
        obtain ⟨o, heo⟩ : ∃ o : Nat, (o : Int) = cl.off := ⟨cl.off.toNat, by omega⟩
        cases hf : findT m.L cl.txn with
        | none =>
          have er : useR m.abs cl = Rep.fail 9 := by unfold useR; rw [hnb, ea, hf]; rfl
          have es : useS m.abs cl = m.abs := by unfold useS; rw [hnb, ea, hf]; rfl
          rw [er, es]
          exact (use_none_w c cl hcl hpg hk hfi hf).mono fun r w' h => ⟨h.1, Went.same cm h.2⟩
        | some t =>
          cases hfu : full t.ws cl.page with
          | true =>
            have er : useR m.abs cl = Rep.fail 10 := by
              unfold useR; rw [hnb, ea, hf]
              show (if cl.kind = 1 then _ else if full t.ws cl.page = true then _ else _) = _
              rw [if_neg hk1, if_pos hfu]
            have es : useS m.abs cl = m.abs := by
              unfold useS; rw [hnb, ea, hf]
              show (if cl.kind = 1 then _ else if full t.ws cl.page = true then _ else _) = _
              rw [if_neg hk1, if_pos hfu]
            rw [er, es]
            exact (use_many c cl hcl hpg hk hfi t hf k o hek heo (by omega) (by omega) p hp (by rw [hek]; exact hfu)).mono fun r w' h => ⟨h.1, Went.same cm h.2⟩
          | false =>
            have er : useR m.abs cl = Rep.fail 0 := by
              unfold useR; rw [hnb, ea, hf]
              show (if cl.kind = 1 then _ else if full t.ws cl.page = true then _ else _) = _
              rw [if_neg hk1, if_neg (by rw [hfu]; simp)]; rfl
            have es : useS m.abs cl = (M.abs { m with L := setT m.L t.key (putP t.ws k (splice (seenV t.ws t.start p.vs k).body o (nums cl.str))) }) := by
              unfold useS; rw [hnb, ea, hf]
              show (if cl.kind = 1 then _ else if full t.ws cl.page = true then _ else { m.abs with live := setL m.abs.live cl.txn (putP t.ws cl.page (wrote (seenV t.ws t.start (m.abs.page cl.page) cl.page).body cl.off cl.str)) }) = _
              rw [if_neg hk1, if_neg (by rw [hfu]; simp), hpv]
              have e1 : setL m.abs.live cl.txn = setL (m.L.map Tx.abs) cl.txn := rfl
              rw [e1, setL_abs, (findT_some hf).2, ← hek]
              unfold wrote
              rw [← heo]
              rfl
            rw [er, es]
            exact use_one c cl hcl hpg hk hfi t hf k o hek heo (by omega) (by omega) p hp (by rw [hek]; exact hfu)
  · have hb : badU m.abs cl = true := by unfold badU; rw [hlen, decide_eq_false hpg]; rfl
    rw [(bad hb).1, (bad hb).2]
    exact (use_page c cl hcl hpg).mono fun r w' h => ⟨h.1, Went.same cm h.2⟩
end Go.Proofs.Ytpncmbkklkfmnaa
