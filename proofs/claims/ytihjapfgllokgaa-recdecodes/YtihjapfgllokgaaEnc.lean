/-
  Proved here: rec.Encode: a record as bytes, or that it may not be; the statements' fixed run.
-/
import Derived.Test.YtihjapfgllokgaaFds
namespace Go.Proofs.Ytihjapfgllokgaa
open Go.ChangeShapes Go.WideShapes Go.ChangeAt Go.RowKit
set_option linter.unusedVariables false
set_option linter.unusedSimpArgs false

/-- A record's bytes. -/
def encT (r : R) : List Int := low r.kind 1 ++ fldT r
def encS (r : R) : ByteArray := if mayR r then strOfNums (encT r) else { data := #[] }
def encE (r : R) : Int := if mayR r then 0 else 1
theorem mayR_deltas {r : R} (h : mayR r = true) : r.delta.size ≤ 66 ∧ r.old.delta.size ≤ 66 := by
  unfold mayR at h; simp at h; exact ⟨h.2.2.1, h.2.2.2⟩
theorem flagT_length (b : Bool) : (flagT b).length = 1 := by unfold flagT; split <;> rfl
theorem fldT_length (r : R) (hd : r.delta.size ≤ 66) (ho : r.old.delta.size ≤ 66) : (fldT r).length ≤ 300 := by
  have := imgN_le r.img 224
  unfold fldT oldT sizeT imgT
  repeat' split
  all_goals simp only [List.length_append, low_length, nums_length, refT_length, flagT_length, strOfNums_size, List.length_take]
  all_goals omega
set_option maxRecDepth 20000 in
set_option maxHeartbeats 4000000 in
theorem enc_any (r : R) (w : World) (hf : r.Fits) :
    Calls Try.prog 9 #[.agg r.arr] w fun e w' => e = .returned (.tuple #[.string (encS r), .int .i64 (encE r)]) ∧ Below w.heap.size w w' := by
  have hs1 := R.arr_size r hf.len
  have HMY : Hid _ := fun w => may_any r w hf
  have y0 : Row (w.alloc (.cells r.arr 33)) w.heap.size r.arr 33 := Row.new _ _ _
  have yb : Below w.heap.size w (w.alloc (.cells r.arr 33)) := (Below.refl _ _).alloc (Nat.le_refl _) _
  cases hm : mayR r with
  | false =>
    have HS : Hid (encS r = { data := #[] }) := by show _ = _; unfold encS; rw [hm]; rfl
    have HE : Hid (encE r = 1) := by show _ = _; unfold encE; rw [hm]; rfl
    rw [hm] at HMY
    clear hm
    go_enter Try.func9, Try.ntmps9
    go_upto_region 1 with fail
    generalize w.alloc (.cells r.arr 33) = w1 at y0 yb ⊢
    go_wp2_with (first
      | (refine load_cells rfl 33 (.tmp 1) rfl w.heap.size rfl 33 r.arr y0 238 Try.underlying33 rfl size33 hs1 ?_)
      | (go_at_call 11; refine (HMY.out _).mono ?_; clear HMY; rintro e w3 ⟨rfl, h3⟩))
    go_ret2
    exact ⟨by rw [HS.out, HE.out]; rfl, yb.trans (h3.mono yb.size)⟩
  | true =>
    have hd := mayR_deltas hm
    have HS : Hid (encS r = strOfNums (encT r)) := by show _ = _; unfold encS; rw [hm]; rfl
    have HE : Hid (encE r = 0) := by show _ = _; unfold encE; rw [hm]; rfl
    have hk := hf.kind
    obtain ⟨L1, H1⟩ : ∃ L, Hid (low r.kind 1 = L) := ⟨_, rfl⟩
    obtain ⟨L2, H2⟩ : ∃ L, Hid (fldT r = L) := ⟨_, rfl⟩
    obtain ⟨T, HT⟩ : ∃ L, Hid (encT r = L) := ⟨_, rfl⟩
    have P1 : Hid _ := put_at r.kind 1 L1 H1.out (by omega) (by omega) (by decide)
    have P2 : Hid _ := fun w => fields_any r w hf hd.1 hd.2
    rw [H2.out] at P2
    rw [HT.out] at HS
    have z1 : (strOfNums L1).size = 1 := by rw [strOfNums_size, ← H1.out, low_length]
    have z2 : (strOfNums L2).size ≤ 300 := by rw [strOfNums_size, ← H2.out]; exact fldT_length r hd.1 hd.2
    have s3 : ¬ (1 + (strOfNums L2).size) > 9223372036854775807 := by omega
    have t1 : strOfNums L1 ++ strOfNums L2 = strOfNums T := by rw [tx_app, ← HT.out, ← H1.out, ← H2.out]; rfl
    have e1 : IntKind.u64.wrap r.kind = r.kind := by rw [IntKind.wrap_u64]; omega
    rw [hm] at HMY
    clear hm hd
    go_enter Try.func9, Try.ntmps9
    go_upto_region 1 with fail
    generalize w.alloc (.cells r.arr 33) = w1 at y0 yb ⊢
    go_upto_region 3 with (first
      | (refine load_cells rfl 33 (.tmp 1) rfl w.heap.size rfl 33 r.arr y0 238 Try.underlying33 rfl size33 hs1 ?_)
      | (go_at_call 11; refine (HMY.out _).mono ?_; clear HMY; rintro e w3 ⟨rfl, h3⟩; have y1 := y0.below h3 y0.lt; have yb1 := yb.trans (h3.mono yb.size)))
    clear y0 yb h3
    refine wp_region_held_drew (S := fun w' => Row w' w.heap.size r.arr 33 ∧ Below w.heap.size w w') (by kernel_rfl) ⟨y1, yb1.drew⟩ fun hS => ?_
    clear y1 yb1
    refine wpAnyH_take (i := 0) (v := .pointer (some ⟨w.heap.size, 0, none⟩)) rfl (by kernel_rfl) (by kernel_rfl) (by kernel_rfl) (fun _ _ _ h => h) (Or.inl ⟨by rfl, fun w _ => by go_simp⟩) hS ?_
    try simp only [Act.put, List.getElem_toArray, List.getElem_cons_zero, List.getElem_cons_succ, List.setIfInBounds_toArray, List.set_cons_zero, List.set_cons_succ]
    refine wpAnyH_take (i := 1) (v := .int .u8 r.kind) rfl (by kernel_rfl) (by kernel_rfl) (by kernel_rfl) (fun _ _ _ h => h) (Or.inl ⟨by rfl, fun w h => by have c := row_at h.1 0 _ (R.at0 r); go_simp⟩) hS ?_
    try simp only [Act.put, List.getElem_toArray, List.getElem_cons_zero, List.getElem_cons_succ, List.setIfInBounds_toArray, List.set_cons_zero, List.set_cons_succ]
    refine wpAnyH_take (i := 2) (v := .int .u64 r.kind) rfl (by kernel_rfl) (by kernel_rfl) (by kernel_rfl) (fun _ _ _ h => h) (Or.inl ⟨by rfl, fun w _ => by go_simp⟩) hS ?_
    try simp only [Act.put, List.getElem_toArray, List.getElem_cons_zero, List.getElem_cons_succ, List.setIfInBounds_toArray, List.set_cons_zero, List.set_cons_succ]
    refine wpAnyH_take (i := 4) (v := .agg r.arr) rfl (by kernel_rfl) (by kernel_rfl) (by kernel_rfl) (fun _ _ _ h => h) (yields_cells (by rfl) 33 (.tmp 1) rfl w.heap.size rfl 33 r.arr (fun w h => h.1) 238 Try.underlying33 rfl size33 (R.arr_size r hf.len)) hS ?_
    try simp only [Act.put, List.getElem_toArray, List.getElem_cons_zero, List.getElem_cons_succ, List.setIfInBounds_toArray, List.set_cons_zero, List.set_cons_succ]
    refine wpAnyH_ready (rs := [3]) (by kernel_rfl) (by simp) ?_
    refine AllReadyH.cons rfl (fun K hK => ?_) AllReadyH.nil
    go_simp
    go_at_call 18
    refine Calls.mono (P1.out _) ?_
    rintro e wc ⟨rfl, hcb⟩
    refine hK.out _ _ (⟨hS.1.below hcb hS.1.lt, hS.2.trans (hcb.mono hS.2.size)⟩) fun hS => ?_
    try simp only [Act.put, List.getElem_toArray, List.getElem_cons_zero, List.getElem_cons_succ, List.setIfInBounds_toArray, List.set_cons_zero, List.set_cons_succ]
    clear hcb
    refine wpAnyH_ready (rs := [5]) (by kernel_rfl) (by simp) ?_
    refine AllReadyH.cons rfl (fun K hK => ?_) AllReadyH.nil
    go_simp
    go_at_call 19
    refine Calls.mono (P2.out _) ?_
    rintro e w2_5 ⟨rfl, hcb⟩
    refine hK.out _ _ (⟨hS.1.below hcb hS.1.lt, hS.2.trans (hcb.mono hS.2.size)⟩) fun hS => ?_
    try simp only [Act.put, List.getElem_toArray, List.getElem_cons_zero, List.getElem_cons_succ, List.setIfInBounds_toArray, List.set_cons_zero, List.set_cons_succ]
    clear hcb
    refine wpAnyH_take (i := 6) (v := .string (strOfNums T)) rfl (by kernel_rfl) (by kernel_rfl) (by kernel_rfl) (fun _ _ _ h => h) (Or.inl ⟨by rfl, fun w _ => by go_simp⟩) hS ?_
    try simp only [Act.put, List.getElem_toArray, List.getElem_cons_zero, List.getElem_cons_succ, List.setIfInBounds_toArray, List.set_cons_zero, List.set_cons_succ]
    refine wpAnyH_take (i := 7) (v := .string (strOfNums T)) rfl (by kernel_rfl) (by kernel_rfl) (by kernel_rfl) (fun _ _ _ h => h) (Or.inl ⟨by rfl, fun w _ => by go_simp⟩) hS ?_
    try simp only [Act.put, List.getElem_toArray, List.getElem_cons_zero, List.getElem_cons_succ, List.setIfInBounds_toArray, List.set_cons_zero, List.set_cons_succ]
    refine wpAnyH_take (i := 8) (v := .int .i64 0) rfl (by kernel_rfl) (by kernel_rfl) (by kernel_rfl) (fun _ _ _ h => h) (Or.inl ⟨by rfl, fun w _ => by go_simp⟩) hS ?_
    try simp only [Act.put, List.getElem_toArray, List.getElem_cons_zero, List.getElem_cons_succ, List.setIfInBounds_toArray, List.set_cons_zero, List.set_cons_succ]
    refine wpAnyH_done (by kernel_rfl) ?_ _
    go_wp2
    go_ret2
    exact ⟨by rw [HS.out, HE.out]; rfl, hS.2⟩

/-- The record of the fixed run. -/
def R.com : R := { R.zero with kind := 6, ts := 258 }
theorem R.com_fits : R.com.Fits := ⟨by decide, by decide, zs_length _, zs_bytes _, by decide, by decide, by decide, by decide, Nat.zero_le _, ⟨by decide, by decide, by decide, by decide⟩, Nat.zero_le _⟩
theorem com_enc : encS R.com = { data := #[6, 2, 1, 0, 0] } ∧ encE R.com = 0 := by decide +kernel
theorem awake_any (w : World) : Calls Try.prog 12 #[] w fun e w' => e = .returned (.bool true) ∧ Below w.heap.size w w' := by
  have HE : Hid _ := fun w => enc_any R.com w R.com_fits
  rw [com_enc.1, com_enc.2] at HE
  have hb : Try.prog.built 33 [(0, .int .u8 6), (3, .int .u32 258)] = some R.com.arr := built33two 6 258
  go_enter Try.func12, Try.ntmps12
  go_wp2_with (first
    | (refine build_parts rfl 33 #[(0, .const (.int .u8 6)), (3, .const (.int .u32 258))] rfl [(0, .int .u8 6), (3, .int .u32 258)] rfl _ hb ?_)
    | (go_at_call 9; refine (HE.out _).mono ?_; clear HE; rintro e w3 ⟨rfl, h3⟩))
  go_ret
  exact ⟨rfl, h3⟩
end Go.Proofs.Ytihjapfgllokgaa
