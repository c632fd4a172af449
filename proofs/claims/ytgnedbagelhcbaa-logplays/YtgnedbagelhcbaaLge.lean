/-
  Proved here: where a log's stream ends, and up to where it lasts.
-/
import Derived.Test.YtgnedbagelhcbaaLgz
namespace Go.Proofs.Ytgnedbagelhcbaa
open Go.ChangeShapes Go.WideShapes Go.ChangeAt Go.RowKit
set_option linter.unusedVariables false
set_option linter.unusedSimpArgs false
set_option maxRecDepth 20000
theorem end_any (gl : Nat) (pd vl vs : Value) (l : Lg) (w : World) (hr : Row w gl (lcells pd vl vs l) 102) : Calls Try.prog 23 #[.pointer (some ⟨gl, 0, none⟩)] w fun e w' => e = .returned (.int .u64 l.fin) ∧ Below w.heap.size w w' := by
  have c := row_at hr 9 _ rfl
  clear hr
  go_enter Try.func23, Try.ntmps23
  go_wp2
  go_ret
  exact ⟨rfl, Below.refl _ _⟩
theorem dur_any (gl : Nat) (pd vl vs : Value) (l : Lg) (w : World) (hr : Row w gl (lcells pd vl vs l) 102) : Calls Try.prog 24 #[.pointer (some ⟨gl, 0, none⟩)] w fun e w' => e = .returned (.int .u64 l.dur) ∧ Below w.heap.size w w' := by
  have c := row_at hr 10 _ rfl
  clear hr
  go_enter Try.func24, Try.ntmps24
  go_wp2
  go_ret
  exact ⟨rfl, Below.refl _ _⟩
set_option maxHeartbeats 2000000 in
theorem free_any (gl : Nat) (pd : Value) (l : Lg) (oa ob : Option Addr) (n m ca cb : Nat) (w : World) (hr : Row w gl (lcells pd (.slice oa n ca) (.slice ob m cb) l) 102) (hn : n ≤ 1000000) (hm : m ≤ 1000000) (hz : 0 ≤ l.size ∧ l.size ≤ 1000000000) (ho : l.open_.size ≤ 1000000000) :
    Calls Try.prog 25 #[.pointer (some ⟨gl, 0, none⟩)] w fun e w' => e = .returned (.int .i64 (l.size - ((n : Int) + m) - wantN l.open_.size)) ∧ Below w.heap.size w w' := by
  have HMD : Hid (∀ wa, Row wa gl (lcells pd (.slice oa n ca) (.slice ob m cb) l) 102 → Calls Try.prog 44 #[.pointer (some ⟨gl, 0, none⟩)] wa fun e w' => e = .returned (.int .i64 ((n : Int) + m)) ∧ Below wa.heap.size wa w') := fun wa h => made_any gl pd l oa ob _ _ ca cb wa h (by omega) (by omega)
  have HWT : Hid (∀ w, Calls Try.prog 45 #[.int .i64 l.open_.size] w fun e w' => e = .returned (.int .i64 (wantN l.open_.size)) ∧ Below w.heap.size w w') := fun w => wanted_any _ w (by omega)
  have hWb : 0 ≤ wantN l.open_.size ∧ wantN l.open_.size ≤ 1000000000 := by unfold wantN; omega
  generalize wantN l.open_.size = WT at HWT hWb ⊢
  have v1 : IntKind.i64.wrap (l.size - ((n : Int) + m)) = l.size - ((n : Int) + m) := by rw [IntKind.wrap_i64]; omega
  have v2 : IntKind.i64.wrap (l.size - ((n : Int) + m) - WT) = l.size - ((n : Int) + m) - WT := by rw [IntKind.wrap_i64]; omega
  unfold lcells at hr HMD
  go_enter Try.func25, Try.ntmps25
  go_upto_region 3 with fail
  refine wp_region_held_drew (S := fun w' => Row w' gl #[pd, .int .i64 l.at_, .int .i64 l.size, .int .u32 l.ep, .slice oa n ca, .slice ob m cb, .string l.open_, .int .u32 l.next, .bool l.fresh, .int .u64 l.fin, .int .u64 l.dur] 102 ∧ Below w.heap.size w w') (by kernel_rfl) ⟨hr, (Below.refl w.heap.size w).drew⟩ fun hS => ?_
  clear hr
  refine wpAnyH_take (i := 0) (v := .pointer (some ⟨gl, 0, none⟩)) rfl (by kernel_rfl) (by kernel_rfl) (by kernel_rfl) (fun _ _ _ h => h) (Or.inl ⟨by rfl, fun w _ => by go_simp⟩) hS ?_
  try simp only [Act.put, nz0, nz1, nz2, nz3, nz4, nz5]
  refine wpAnyH_take (i := 1) (v := .pointer (some ⟨gl, 0, none⟩)) rfl (by kernel_rfl) (by kernel_rfl) (by kernel_rfl) (fun _ _ _ h => h) (Or.inl ⟨by rfl, fun w _ => by go_simp⟩) hS ?_
  try simp only [Act.put, nz0, nz1, nz2, nz3, nz4, nz5]
  refine wpAnyH_take (i := 2) (v := .pointer (some ⟨gl, 0, none⟩)) rfl (by kernel_rfl) (by kernel_rfl) (by kernel_rfl) (fun _ _ _ h => h) (Or.inl ⟨by rfl, fun w _ => by go_simp⟩) hS ?_
  try simp only [Act.put, nz0, nz1, nz2, nz3, nz4, nz5]
  refine wpAnyH_take (i := 3) (v := .pointer (some ⟨gl, 2, none⟩)) rfl (by kernel_rfl) (by kernel_rfl) (by kernel_rfl) (fun _ _ _ h => h) (Or.inl ⟨by rfl, fun w _ => by go_simp⟩) hS ?_
  try simp only [Act.put, nz0, nz1, nz2, nz3, nz4, nz5]
  refine wpAnyH_take (i := 4) (v := .int .i64 l.size) rfl (by kernel_rfl) (by kernel_rfl) (by kernel_rfl) (fun _ _ _ h => h) (Or.inl ⟨by rfl, fun w h => by have c := row_at h.1 2 _ rfl; go_simp⟩) hS ?_
  try simp only [Act.put, nz0, nz1, nz2, nz3, nz4, nz5]
  refine wpAnyH_take (i := 5) (v := .pointer (some ⟨gl, 0, none⟩)) rfl (by kernel_rfl) (by kernel_rfl) (by kernel_rfl) (fun _ _ _ h => h) (Or.inl ⟨by rfl, fun w _ => by go_simp⟩) hS ?_
  try simp only [Act.put, nz0, nz1, nz2, nz3, nz4, nz5]
  refine wpAnyH_take (i := 8) (v := .pointer (some ⟨gl, 0, none⟩)) rfl (by kernel_rfl) (by kernel_rfl) (by kernel_rfl) (fun _ _ _ h => h) (Or.inl ⟨by rfl, fun w _ => by go_simp⟩) hS ?_
  try simp only [Act.put, nz0, nz1, nz2, nz3, nz4, nz5]
  refine wpAnyH_take (i := 9) (v := .pointer (some ⟨gl, 0, none⟩)) rfl (by kernel_rfl) (by kernel_rfl) (by kernel_rfl) (fun _ _ _ h => h) (Or.inl ⟨by rfl, fun w _ => by go_simp⟩) hS ?_
  try simp only [Act.put, nz0, nz1, nz2, nz3, nz4, nz5]
  refine wpAnyH_take (i := 10) (v := .pointer (some ⟨gl, 6, none⟩)) rfl (by kernel_rfl) (by kernel_rfl) (by kernel_rfl) (fun _ _ _ h => h) (Or.inl ⟨by rfl, fun w _ => by go_simp⟩) hS ?_
  try simp only [Act.put, nz0, nz1, nz2, nz3, nz4, nz5]
  refine wpAnyH_take (i := 11) (v := .string l.open_) rfl (by kernel_rfl) (by kernel_rfl) (by kernel_rfl) (fun _ _ _ h => h) (Or.inl ⟨by rfl, fun w h => by have c := row_at h.1 6 _ rfl; go_simp⟩) hS ?_
  try simp only [Act.put, nz0, nz1, nz2, nz3, nz4, nz5]
  refine wpAnyH_take (i := 12) (v := .int .i64 l.open_.size) rfl (by kernel_rfl) (by kernel_rfl) (by kernel_rfl) (fun _ _ _ h => h) (Or.inl ⟨by rfl, fun w _ => by go_simp⟩) hS ?_
  try simp only [Act.put, nz0, nz1, nz2, nz3, nz4, nz5]
  refine wpAnyH_ready (rs := [6]) (by kernel_rfl) (by simp) ?_
  refine AllReadyH.cons rfl (fun K hK => ?_) AllReadyH.nil
  go_simp
  go_at_call 44
  refine Calls.mono (HMD.out _ hS.1) ?_
  rintro e wc ⟨rfl, hcb⟩
  refine hK.out _ _ (⟨hS.1.below hcb hS.1.lt, hS.2.trans (hcb.mono hS.2.size)⟩) fun hS => ?_
  try simp only [Act.put, nz0, nz1, nz2, nz3, nz4, nz5]
  clear hcb
  refine wpAnyH_take (i := 7) (v := .int .i64 (l.size - ((n : Int) + m))) rfl (by kernel_rfl) (by kernel_rfl) (by kernel_rfl) (fun _ _ _ h => h) (Or.inl ⟨by rfl, fun w _ => by go_simp⟩) hS ?_
  try simp only [Act.put, nz0, nz1, nz2, nz3, nz4, nz5]
  refine wpAnyH_ready (rs := [13]) (by kernel_rfl) (by simp) ?_
  refine AllReadyH.cons rfl (fun K hK => ?_) AllReadyH.nil
  go_simp
  go_at_call 45
  refine Calls.mono (HWT.out _) ?_
  rintro e w2_13 ⟨rfl, hcb⟩
  refine hK.out _ _ (⟨hS.1.below hcb hS.1.lt, hS.2.trans (hcb.mono hS.2.size)⟩) fun hS => ?_
  try simp only [Act.put, nz0, nz1, nz2, nz3, nz4, nz5]
  clear hcb
  refine wpAnyH_take (i := 14) (v := .int .i64 (l.size - ((n : Int) + m) - WT)) rfl (by kernel_rfl) (by kernel_rfl) (by kernel_rfl) (fun _ _ _ h => h) (Or.inl ⟨by rfl, fun w _ => by go_simp⟩) hS ?_
  try simp only [Act.put, nz0, nz1, nz2, nz3, nz4, nz5]
  refine wpAnyH_take (i := 15) (v := .int .i64 (l.size - ((n : Int) + m) - WT)) rfl (by kernel_rfl) (by kernel_rfl) (by kernel_rfl) (fun _ _ _ h => h) (Or.inl ⟨by rfl, fun w _ => by go_simp⟩) hS ?_
  try simp only [Act.put, nz0, nz1, nz2, nz3, nz4, nz5]
  refine wpAnyH_done (by kernel_rfl) ?_ _
  go_wp2
  go_ret
  exact ⟨rfl, hS.2⟩
set_option maxHeartbeats 2000000 in
theorem tail_any (gl : Nat) (pd : Value) (l : Lg) (oa ob : Option Addr) (n m ca cb : Nat) (w : World) (hr : Row w gl (lcells pd (.slice oa n ca) (.slice ob m cb) l) 102) (hn : n ≤ 1000000) (hm : m ≤ 1000000) :
    Calls Try.prog 27 #[.pointer (some ⟨gl, 0, none⟩)] w fun e w' => e = .returned (.int .u32 (IntKind.u32.wrap (l.next - ((n : Int) + m)))) ∧ Below w.heap.size w w' := by
  have HMD : Hid (∀ wa, Row wa gl (lcells pd (.slice oa n ca) (.slice ob m cb) l) 102 → Calls Try.prog 44 #[.pointer (some ⟨gl, 0, none⟩)] wa fun e w' => e = .returned (.int .i64 ((n : Int) + m)) ∧ Below wa.heap.size wa w') := fun wa h => made_any gl pd l oa ob _ _ ca cb wa h (by omega) (by omega)
  have v1 : IntKind.u32.wrap ((n : Int) + m) = (n : Int) + m := by rw [IntKind.wrap_u32]; omega
  unfold lcells at hr HMD
  go_enter Try.func27, Try.ntmps27
  go_upto_region 3 with fail
  refine wp_region_held_drew (S := fun w' => Row w' gl #[pd, .int .i64 l.at_, .int .i64 l.size, .int .u32 l.ep, .slice oa n ca, .slice ob m cb, .string l.open_, .int .u32 l.next, .bool l.fresh, .int .u64 l.fin, .int .u64 l.dur] 102 ∧ Below w.heap.size w w') (by kernel_rfl) ⟨hr, (Below.refl w.heap.size w).drew⟩ fun hS => ?_
  clear hr
  refine wpAnyH_take (i := 0) (v := .pointer (some ⟨gl, 0, none⟩)) rfl (by kernel_rfl) (by kernel_rfl) (by kernel_rfl) (fun _ _ _ h => h) (Or.inl ⟨by rfl, fun w _ => by go_simp⟩) hS ?_
  try simp only [Act.put, nz0, nz1, nz2, nz3, nz4, nz5]
  refine wpAnyH_take (i := 1) (v := .pointer (some ⟨gl, 0, none⟩)) rfl (by kernel_rfl) (by kernel_rfl) (by kernel_rfl) (fun _ _ _ h => h) (Or.inl ⟨by rfl, fun w _ => by go_simp⟩) hS ?_
  try simp only [Act.put, nz0, nz1, nz2, nz3, nz4, nz5]
  refine wpAnyH_take (i := 2) (v := .pointer (some ⟨gl, 7, none⟩)) rfl (by kernel_rfl) (by kernel_rfl) (by kernel_rfl) (fun _ _ _ h => h) (Or.inl ⟨by rfl, fun w _ => by go_simp⟩) hS ?_
  try simp only [Act.put, nz0, nz1, nz2, nz3, nz4, nz5]
  refine wpAnyH_take (i := 3) (v := .int .u32 l.next) rfl (by kernel_rfl) (by kernel_rfl) (by kernel_rfl) (fun _ _ _ h => h) (Or.inl ⟨by rfl, fun w h => by have c := row_at h.1 7 _ rfl; go_simp⟩) hS ?_
  try simp only [Act.put, nz0, nz1, nz2, nz3, nz4, nz5]
  refine wpAnyH_take (i := 4) (v := .pointer (some ⟨gl, 0, none⟩)) rfl (by kernel_rfl) (by kernel_rfl) (by kernel_rfl) (fun _ _ _ h => h) (Or.inl ⟨by rfl, fun w _ => by go_simp⟩) hS ?_
  try simp only [Act.put, nz0, nz1, nz2, nz3, nz4, nz5]
  refine wpAnyH_ready (rs := [5]) (by kernel_rfl) (by simp) ?_
  refine AllReadyH.cons rfl (fun K hK => ?_) AllReadyH.nil
  go_simp
  go_at_call 44
  refine Calls.mono (HMD.out _ hS.1) ?_
  rintro e wc ⟨rfl, hcb⟩
  refine hK.out _ _ (⟨hS.1.below hcb hS.1.lt, hS.2.trans (hcb.mono hS.2.size)⟩) fun hS => ?_
  try simp only [Act.put, nz0, nz1, nz2, nz3, nz4, nz5]
  clear hcb
  refine wpAnyH_take (i := 6) (v := .int .u32 ((n : Int) + m)) rfl (by kernel_rfl) (by kernel_rfl) (by kernel_rfl) (fun _ _ _ h => h) (Or.inl ⟨by rfl, fun w _ => by go_simp⟩) hS ?_
  try simp only [Act.put, nz0, nz1, nz2, nz3, nz4, nz5]
  refine wpAnyH_take (i := 7) (v := .int .u32 (IntKind.u32.wrap (l.next - ((n : Int) + m)))) rfl (by kernel_rfl) (by kernel_rfl) (by kernel_rfl) (fun _ _ _ h => h) (Or.inl ⟨by rfl, fun w _ => by go_simp⟩) hS ?_
  try simp only [Act.put, nz0, nz1, nz2, nz3, nz4, nz5]
  refine wpAnyH_take (i := 8) (v := .int .u32 (IntKind.u32.wrap (l.next - ((n : Int) + m)))) rfl (by kernel_rfl) (by kernel_rfl) (by kernel_rfl) (fun _ _ _ h => h) (Or.inl ⟨by rfl, fun w _ => by go_simp⟩) hS ?_
  try simp only [Act.put, nz0, nz1, nz2, nz3, nz4, nz5]
  refine wpAnyH_done (by kernel_rfl) ?_ _
  go_wp2
  go_ret
  exact ⟨rfl, hS.2⟩
end Go.Proofs.Ytgnedbagelhcbaa
