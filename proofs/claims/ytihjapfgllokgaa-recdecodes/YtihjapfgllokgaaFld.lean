/-
  Proved here: the texts of a record's fields (rec.flagText, sized, imageText, refText, oldText).
-/
import Derived.Test.YtihjapfgllokgaaRcd
import Derived.Laws.AppendOwnNone
import Derived.Maps.AppendAt
import Derived.Deep.CutBlock
import Derived.Deep.CutRange
import Derived.Great.BuildSlice
import Derived.Laws.Cover3
namespace Go.Proofs.Ytihjapfgllokgaa
open Go.ChangeShapes Go.WideShapes Go.ChangeAt Go.RowKit
set_option linter.unusedVariables false
set_option linter.unusedSimpArgs false

def flagT (b : Bool) : List Int := if b then [1] else [0]
theorem flag_any (b : Bool) (w : World) : Calls Try.prog 40 #[.bool b] w fun e w' => e = .returned (.string (strOfNums (flagT b))) ∧ Below w.heap.size w w' := by
  have P1 : Hid _ := put_at 1 1 [1] (by decide) (by decide) (by decide) (by decide)
  have P0 : Hid _ := put_at 0 1 [0] (by decide) (by decide) (by decide) (by decide)
  cases b
  · show Calls _ _ _ _ _
    have e : flagT false = [0] := rfl
    rw [e]
    go_enter Try.func40, Try.ntmps40
    go_wp2_with (go_at_call 18; refine (P0.out _).mono ?_; clear P0; rintro ex w1 ⟨rfl, b1⟩)
    go_ret
    exact ⟨rfl, b1⟩
  · have e : flagT true = [1] := rfl
    rw [e]
    go_enter Try.func40, Try.ntmps40
    go_wp2_with (go_at_call 18; refine (P1.out _).mono ?_; clear P1; rintro ex w1 ⟨rfl, b1⟩)
    go_ret
    exact ⟨rfl, b1⟩
/-- A text with its length ahead. -/
def sizeT (s : ByteArray) : List Int := low s.size 1 ++ nums s
theorem sized_any (s : ByteArray) (w : World) (hs : s.size ≤ 1000000) : Calls Try.prog 41 #[.string s] w fun e w' => e = .returned (.string (strOfNums (sizeT s))) ∧ Below w.heap.size w w' := by
  obtain ⟨L, HL⟩ : ∃ L, Hid (low s.size 1 = L) := ⟨_, rfl⟩
  have P1 : Hid _ := put_at s.size 1 L HL.out (by omega) (by omega) (by decide)
  have z1 : (strOfNums L).size = 1 := by rw [strOfNums_size, ← HL.out, low_length]
  have e : strOfNums L ++ s = strOfNums (sizeT s) := by
    conv => lhs; rw [← tx_nums s]
    rw [tx_app, ← HL.out]; rfl
  generalize sizeT s = T at e ⊢
  have ew : IntKind.u64.wrap (s.size : Int) = s.size := by rw [IntKind.wrap_u64]; omega
  go_enter Try.func41, Try.ntmps41
  go_wp2_with (go_at_call 18; refine (P1.out _).mono ?_; clear P1; rintro ex w1 ⟨rfl, b1⟩)
  go_ret
  exact ⟨rfl, b1⟩
def refT (p s : Int) : List Int := low p 2 ++ low s 1
theorem refT_length (p s : Int) : (refT p s).length = 3 := by simp [refT, low_length]
theorem refT_bytes (p s : Int) : Bytes (refT p s) := (low_bytes _ _).append (low_bytes _ _)
set_option maxHeartbeats 1000000 in
theorem ref_any (p s : Int) (w : World) (hp : 0 ≤ p ∧ p ≤ 65535) (hs : 0 ≤ s ∧ s ≤ 255) :
    Calls Try.prog 43 #[.agg #[.int .u16 p, .int .u8 s]] w fun e w' => e = .returned (.string (strOfNums (refT p s))) ∧ Below w.heap.size w w' := by
  have r0 : Row (w.alloc (.cells #[.int .u16 p, .int .u8 s] 29)) w.heap.size #[.int .u16 p, .int .u8 s] 29 := Row.new _ _ _
  have b0 : Below w.heap.size w (w.alloc (.cells #[.int .u16 p, .int .u8 s] 29)) := (Below.refl _ _).alloc (Nat.le_refl _) _
  obtain ⟨L1, H1⟩ : ∃ L, Hid (low p 2 = L) := ⟨_, rfl⟩
  obtain ⟨L2, H2⟩ : ∃ L, Hid (low s 1 = L) := ⟨_, rfl⟩
  obtain ⟨T, HT⟩ : ∃ L, Hid (refT p s = L) := ⟨_, rfl⟩
  have P1 : Hid _ := put_at p 2 L1 H1.out (by omega) (by omega) (by decide)
  have P2 : Hid _ := put_at s 1 L2 H2.out (by omega) (by omega) (by decide)
  have z1 : (strOfNums L1).size = 2 := by rw [strOfNums_size, ← H1.out, low_length]
  have z2 : (strOfNums L2).size = 1 := by rw [strOfNums_size, ← H2.out, low_length]
  have HA : strOfNums L1 ++ strOfNums L2 = strOfNums T := by rw [tx_app, ← HT.out, ← H1.out, ← H2.out]; rfl
  have e1 : IntKind.u64.wrap p = p := by rw [IntKind.wrap_u64]; omega
  have e2 : IntKind.u64.wrap s = s := by rw [IntKind.wrap_u64]; omega
  rw [HT.out]
  clear HT
  go_enter Try.func43, Try.ntmps43
  go_upto_region 1 with fail
  generalize w.alloc (.cells #[.int .u16 p, .int .u8 s] 29) = w1 at r0 b0 ⊢
  refine wp_region_held_drew (S := fun w' => Row w' w.heap.size #[.int .u16 p, .int .u8 s] 29 ∧ Below w.heap.size w w') (by kernel_rfl) ⟨r0, b0.drew⟩ fun hS => ?_
  clear r0 b0
  refine wpAnyH_take (i := 0) (v := .pointer (some ⟨w.heap.size, 0, none⟩)) rfl (by kernel_rfl) (by kernel_rfl) (by kernel_rfl) (fun _ _ _ h => h) (Or.inl ⟨by rfl, fun w _ => by go_simp⟩) hS ?_
  try simp only [Act.put, List.getElem_toArray, List.getElem_cons_zero, List.getElem_cons_succ, List.setIfInBounds_toArray, List.set_cons_zero, List.set_cons_succ]
  refine wpAnyH_take (i := 1) (v := .int .u16 p) rfl (by kernel_rfl) (by kernel_rfl) (by kernel_rfl) (fun _ _ _ h => h) (Or.inl ⟨by rfl, fun w h => by have c := row_at h.1 0 _ rfl; go_simp⟩) hS ?_
  try simp only [Act.put, List.getElem_toArray, List.getElem_cons_zero, List.getElem_cons_succ, List.setIfInBounds_toArray, List.set_cons_zero, List.set_cons_succ]
  refine wpAnyH_take (i := 2) (v := .int .u64 p) rfl (by kernel_rfl) (by kernel_rfl) (by kernel_rfl) (fun _ _ _ h => h) (Or.inl ⟨by rfl, fun w _ => by go_simp⟩) hS ?_
  try simp only [Act.put, List.getElem_toArray, List.getElem_cons_zero, List.getElem_cons_succ, List.setIfInBounds_toArray, List.set_cons_zero, List.set_cons_succ]
  refine wpAnyH_take (i := 4) (v := .pointer (some ⟨w.heap.size, 1, none⟩)) rfl (by kernel_rfl) (by kernel_rfl) (by kernel_rfl) (fun _ _ _ h => h) (Or.inl ⟨by rfl, fun w _ => by go_simp⟩) hS ?_
  try simp only [Act.put, List.getElem_toArray, List.getElem_cons_zero, List.getElem_cons_succ, List.setIfInBounds_toArray, List.set_cons_zero, List.set_cons_succ]
  refine wpAnyH_take (i := 5) (v := .int .u8 s) rfl (by kernel_rfl) (by kernel_rfl) (by kernel_rfl) (fun _ _ _ h => h) (Or.inl ⟨by rfl, fun w h => by have c := row_at h.1 1 _ rfl; go_simp⟩) hS ?_
  try simp only [Act.put, List.getElem_toArray, List.getElem_cons_zero, List.getElem_cons_succ, List.setIfInBounds_toArray, List.set_cons_zero, List.set_cons_succ]
  refine wpAnyH_take (i := 6) (v := .int .u64 s) rfl (by kernel_rfl) (by kernel_rfl) (by kernel_rfl) (fun _ _ _ h => h) (Or.inl ⟨by rfl, fun w _ => by go_simp⟩) hS ?_
  try simp only [Act.put, List.getElem_toArray, List.getElem_cons_zero, List.getElem_cons_succ, List.setIfInBounds_toArray, List.set_cons_zero, List.set_cons_succ]
  refine wpAnyH_ready (rs := [3]) (by kernel_rfl) (by simp) ?_
  refine AllReadyH.cons rfl (fun K hK => ?_) AllReadyH.nil
  go_simp
  go_at_call 18
  refine Calls.mono (P1.out _) ?_
  rintro e wc ⟨rfl, hcb⟩
  refine hK.out _ _ (⟨hS.1.below hcb hS.1.lt, hS.2.trans (hcb.mono hS.2.size)⟩) fun hS => ?_
  try simp only [Act.put, List.getElem_toArray, List.getElem_cons_zero, List.getElem_cons_succ, List.setIfInBounds_toArray, List.set_cons_zero, List.set_cons_succ]
  clear hcb
  refine wpAnyH_ready (rs := [7]) (by kernel_rfl) (by simp) ?_
  refine AllReadyH.cons rfl (fun K hK => ?_) AllReadyH.nil
  go_simp
  go_at_call 18
  refine Calls.mono (P2.out _) ?_
  rintro e w2_7 ⟨rfl, hcb⟩
  refine hK.out _ _ (⟨hS.1.below hcb hS.1.lt, hS.2.trans (hcb.mono hS.2.size)⟩) fun hS => ?_
  try simp only [Act.put, List.getElem_toArray, List.getElem_cons_zero, List.getElem_cons_succ, List.setIfInBounds_toArray, List.set_cons_zero, List.set_cons_succ]
  clear hcb
  refine wpAnyH_take (i := 8) (v := .string (strOfNums T)) rfl (by kernel_rfl) (by kernel_rfl) (by kernel_rfl) (fun _ _ _ h => h) (Or.inl ⟨by rfl, fun w _ => by go_simp⟩) hS ?_
  try simp only [Act.put, List.getElem_toArray, List.getElem_cons_zero, List.getElem_cons_succ, List.setIfInBounds_toArray, List.set_cons_zero, List.set_cons_succ]
  refine wpAnyH_take (i := 9) (v := .string (strOfNums T)) rfl (by kernel_rfl) (by kernel_rfl) (by kernel_rfl) (fun _ _ _ h => h) (Or.inl ⟨by rfl, fun w _ => by go_simp⟩) hS ?_
  try simp only [Act.put, List.getElem_toArray, List.getElem_cons_zero, List.getElem_cons_succ, List.setIfInBounds_toArray, List.set_cons_zero, List.set_cons_succ]
  refine wpAnyH_done (by kernel_rfl) ?_ _
  go_wp2
  go_ret
  exact ⟨rfl, hS.2⟩

/-- A live old version's text. -/
def oldT (o : O) : List Int := low o.page 2 ++ low o.ts 4 ++ refT o.np o.ns ++ sizeT o.delta
set_option maxHeartbeats 1000000 in
theorem old_any (o : O) (w : World) (ho : o.Fits) (hd : o.delta.size ≤ 1000000) :
    Calls Try.prog 44 #[.agg o.arr] w fun e w' => e = .returned (.string (strOfNums (oldT o))) ∧ Below w.heap.size w w' := by
  have r0 : Row (w.alloc (.cells o.arr 31)) w.heap.size #[.bool o.live, .int .u16 o.page, .int .u32 o.ts, .int .u16 o.np, .int .u8 o.ns, .string o.delta] 31 := Row.new _ _ _
  have b0 : Below w.heap.size w (w.alloc (.cells o.arr 31)) := (Below.refl _ _).alloc (Nat.le_refl _) _
  have hf1 := ho.page
  have hf2 := ho.ts
  obtain ⟨L1, H1⟩ : ∃ L, Hid (low o.page 2 = L) := ⟨_, rfl⟩
  obtain ⟨L2, H2⟩ : ∃ L, Hid (low o.ts 4 = L) := ⟨_, rfl⟩
  obtain ⟨L3, H3⟩ : ∃ L, Hid (refT o.np o.ns = L) := ⟨_, rfl⟩
  obtain ⟨L4, H4⟩ : ∃ L, Hid (sizeT o.delta = L) := ⟨_, rfl⟩
  obtain ⟨A1, HA1⟩ : ∃ L, Hid (L1 ++ L2 = L) := ⟨_, rfl⟩
  obtain ⟨A2, HA2⟩ : ∃ L, Hid (A1 ++ L3 = L) := ⟨_, rfl⟩
  obtain ⟨T, HT⟩ : ∃ L, Hid (oldT o = L) := ⟨_, rfl⟩
  have P1 : Hid _ := put_at o.page 2 L1 H1.out (by omega) (by omega) (by decide)
  have P2 : Hid _ := put_at o.ts 4 L2 H2.out (by omega) (by omega) (by decide)
  have P3 : Hid _ := fun w => ref_any o.np o.ns w ho.np ho.ns
  have P4 : Hid _ := fun w => sized_any o.delta w hd
  rw [H3.out] at P3
  rw [H4.out] at P4
  have z1 : (strOfNums L1).size = 2 := by rw [strOfNums_size, ← H1.out, low_length]
  have z2 : (strOfNums L2).size = 4 := by rw [strOfNums_size, ← H2.out, low_length]
  have z3 : (strOfNums L3).size = 3 := by rw [strOfNums_size, ← H3.out, refT_length]
  have z4 : (strOfNums L4).size ≤ 1000001 := by rw [strOfNums_size, ← H4.out]; unfold sizeT; rw [List.length_append, low_length, nums_length]; omega
  have t1 : strOfNums L1 ++ strOfNums L2 = strOfNums A1 := by rw [tx_app, HA1.out]
  have t2 : strOfNums A1 ++ strOfNums L3 = strOfNums A2 := by rw [tx_app, HA2.out]
  have t3 : strOfNums A2 ++ strOfNums L4 = strOfNums T := by rw [tx_app, ← HT.out, ← HA2.out, ← HA1.out, ← H1.out, ← H2.out, ← H3.out, ← H4.out]; rfl
  have y1 : (strOfNums A1).size = 6 := by rw [← t1, ByteArray.size_append, z1, z2]
  have y2 : (strOfNums A2).size = 9 := by rw [← t2, ByteArray.size_append, y1, z3]
  have y3 : ¬ (9 + (strOfNums L4).size) > 9223372036854775807 := by omega
  have e1 : IntKind.u64.wrap o.page = o.page := by rw [IntKind.wrap_u64]; omega
  have e2 : IntKind.u64.wrap o.ts = o.ts := by rw [IntKind.wrap_u64]; omega
  rw [HT.out]
  clear HT
  go_enter Try.func44, Try.ntmps44
  go_upto_region 1 with fail
  generalize w.alloc (.cells o.arr 31) = w1 at r0 b0 ⊢
  refine wp_region_held_drew (S := fun w' => Row w' w.heap.size #[.bool o.live, .int .u16 o.page, .int .u32 o.ts, .int .u16 o.np, .int .u8 o.ns, .string o.delta] 31 ∧ Below w.heap.size w w') (by kernel_rfl) ⟨r0, b0.drew⟩ fun hS => ?_
  clear r0 b0
  refine wpAnyH_take (i := 0) (v := .pointer (some ⟨w.heap.size, 1, none⟩)) rfl (by kernel_rfl) (by kernel_rfl) (by kernel_rfl) (fun _ _ _ h => h) (Or.inl ⟨by rfl, fun w _ => by go_simp⟩) hS ?_
  try simp only [Act.put, List.getElem_toArray, List.getElem_cons_zero, List.getElem_cons_succ, List.setIfInBounds_toArray, List.set_cons_zero, List.set_cons_succ]
  refine wpAnyH_take (i := 1) (v := .int .u16 o.page) rfl (by kernel_rfl) (by kernel_rfl) (by kernel_rfl) (fun _ _ _ h => h) (Or.inl ⟨by rfl, fun w h => by have c := row_at h.1 1 _ rfl; go_simp⟩) hS ?_
  try simp only [Act.put, List.getElem_toArray, List.getElem_cons_zero, List.getElem_cons_succ, List.setIfInBounds_toArray, List.set_cons_zero, List.set_cons_succ]
  refine wpAnyH_take (i := 2) (v := .int .u64 o.page) rfl (by kernel_rfl) (by kernel_rfl) (by kernel_rfl) (fun _ _ _ h => h) (Or.inl ⟨by rfl, fun w _ => by go_simp⟩) hS ?_
  try simp only [Act.put, List.getElem_toArray, List.getElem_cons_zero, List.getElem_cons_succ, List.setIfInBounds_toArray, List.set_cons_zero, List.set_cons_succ]
  refine wpAnyH_take (i := 4) (v := .pointer (some ⟨w.heap.size, 2, none⟩)) rfl (by kernel_rfl) (by kernel_rfl) (by kernel_rfl) (fun _ _ _ h => h) (Or.inl ⟨by rfl, fun w _ => by go_simp⟩) hS ?_
  try simp only [Act.put, List.getElem_toArray, List.getElem_cons_zero, List.getElem_cons_succ, List.setIfInBounds_toArray, List.set_cons_zero, List.set_cons_succ]
  refine wpAnyH_take (i := 5) (v := .int .u32 o.ts) rfl (by kernel_rfl) (by kernel_rfl) (by kernel_rfl) (fun _ _ _ h => h) (Or.inl ⟨by rfl, fun w h => by have c := row_at h.1 2 _ rfl; go_simp⟩) hS ?_
  try simp only [Act.put, List.getElem_toArray, List.getElem_cons_zero, List.getElem_cons_succ, List.setIfInBounds_toArray, List.set_cons_zero, List.set_cons_succ]
  refine wpAnyH_take (i := 6) (v := .int .u64 o.ts) rfl (by kernel_rfl) (by kernel_rfl) (by kernel_rfl) (fun _ _ _ h => h) (Or.inl ⟨by rfl, fun w _ => by go_simp⟩) hS ?_
  try simp only [Act.put, List.getElem_toArray, List.getElem_cons_zero, List.getElem_cons_succ, List.setIfInBounds_toArray, List.set_cons_zero, List.set_cons_succ]
  refine wpAnyH_take (i := 9) (v := .pointer (some ⟨w.heap.size, 3, none⟩)) rfl (by kernel_rfl) (by kernel_rfl) (by kernel_rfl) (fun _ _ _ h => h) (Or.inl ⟨by rfl, fun w _ => by go_simp⟩) hS ?_
  try simp only [Act.put, List.getElem_toArray, List.getElem_cons_zero, List.getElem_cons_succ, List.setIfInBounds_toArray, List.set_cons_zero, List.set_cons_succ]
  refine wpAnyH_take (i := 10) (v := .agg #[.int .u16 o.np, .int .u8 o.ns]) rfl (by kernel_rfl) (by kernel_rfl) (by kernel_rfl) (fun _ _ _ h => h) (Or.inl ⟨by rfl, fun w h => by have c0 := row_at h.1 3 _ rfl; have c1 := row_at h.1 4 _ rfl; go_simp⟩) hS ?_
  try simp only [Act.put, List.getElem_toArray, List.getElem_cons_zero, List.getElem_cons_succ, List.setIfInBounds_toArray, List.set_cons_zero, List.set_cons_succ]
  refine wpAnyH_take (i := 13) (v := .pointer (some ⟨w.heap.size, 5, none⟩)) rfl (by kernel_rfl) (by kernel_rfl) (by kernel_rfl) (fun _ _ _ h => h) (Or.inl ⟨by rfl, fun w _ => by go_simp⟩) hS ?_
  try simp only [Act.put, List.getElem_toArray, List.getElem_cons_zero, List.getElem_cons_succ, List.setIfInBounds_toArray, List.set_cons_zero, List.set_cons_succ]
  refine wpAnyH_take (i := 14) (v := .string o.delta) rfl (by kernel_rfl) (by kernel_rfl) (by kernel_rfl) (fun _ _ _ h => h) (Or.inl ⟨by rfl, fun w h => by have c := row_at h.1 5 _ rfl; go_simp⟩) hS ?_
  try simp only [Act.put, List.getElem_toArray, List.getElem_cons_zero, List.getElem_cons_succ, List.setIfInBounds_toArray, List.set_cons_zero, List.set_cons_succ]
  refine wpAnyH_ready (rs := [3]) (by kernel_rfl) (by simp) ?_
  refine AllReadyH.cons rfl (fun K hK => ?_) AllReadyH.nil
  go_simp
  go_at_call 18
  refine Calls.mono (P1.out _) ?_
  rintro e wc ⟨rfl, hcb⟩
  refine hK.out _ _ (⟨hS.1.below hcb hS.1.lt, hS.2.trans (hcb.mono hS.2.size)⟩) fun hS => ?_
  try simp only [Act.put, List.getElem_toArray, List.getElem_cons_zero, List.getElem_cons_succ, List.setIfInBounds_toArray, List.set_cons_zero, List.set_cons_succ]
  clear hcb
  refine wpAnyH_ready (rs := [7]) (by kernel_rfl) (by simp) ?_
  refine AllReadyH.cons rfl (fun K hK => ?_) AllReadyH.nil
  go_simp
  go_at_call 18
  refine Calls.mono (P2.out _) ?_
  rintro e w2_7 ⟨rfl, hcb⟩
  refine hK.out _ _ (⟨hS.1.below hcb hS.1.lt, hS.2.trans (hcb.mono hS.2.size)⟩) fun hS => ?_
  try simp only [Act.put, List.getElem_toArray, List.getElem_cons_zero, List.getElem_cons_succ, List.setIfInBounds_toArray, List.set_cons_zero, List.set_cons_succ]
  clear hcb
  refine wpAnyH_take (i := 8) (v := .string (strOfNums A1)) rfl (by kernel_rfl) (by kernel_rfl) (by kernel_rfl) (fun _ _ _ h => h) (Or.inl ⟨by rfl, fun w _ => by go_simp⟩) hS ?_
  try simp only [Act.put, List.getElem_toArray, List.getElem_cons_zero, List.getElem_cons_succ, List.setIfInBounds_toArray, List.set_cons_zero, List.set_cons_succ]
  refine wpAnyH_ready (rs := [11]) (by kernel_rfl) (by simp) ?_
  refine AllReadyH.cons rfl (fun K hK => ?_) AllReadyH.nil
  go_simp
  go_at_call 43
  refine Calls.mono (P3.out _) ?_
  rintro e w3_11 ⟨rfl, hcb⟩
  refine hK.out _ _ (⟨hS.1.below hcb hS.1.lt, hS.2.trans (hcb.mono hS.2.size)⟩) fun hS => ?_
  try simp only [Act.put, List.getElem_toArray, List.getElem_cons_zero, List.getElem_cons_succ, List.setIfInBounds_toArray, List.set_cons_zero, List.set_cons_succ]
  clear hcb
  refine wpAnyH_take (i := 12) (v := .string (strOfNums A2)) rfl (by kernel_rfl) (by kernel_rfl) (by kernel_rfl) (fun _ _ _ h => h) (Or.inl ⟨by rfl, fun w _ => by go_simp⟩) hS ?_
  try simp only [Act.put, List.getElem_toArray, List.getElem_cons_zero, List.getElem_cons_succ, List.setIfInBounds_toArray, List.set_cons_zero, List.set_cons_succ]
  refine wpAnyH_ready (rs := [15]) (by kernel_rfl) (by simp) ?_
  refine AllReadyH.cons rfl (fun K hK => ?_) AllReadyH.nil
  go_simp
  go_at_call 41
  refine Calls.mono (P4.out _) ?_
  rintro e w4_15 ⟨rfl, hcb⟩
  refine hK.out _ _ (⟨hS.1.below hcb hS.1.lt, hS.2.trans (hcb.mono hS.2.size)⟩) fun hS => ?_
  try simp only [Act.put, List.getElem_toArray, List.getElem_cons_zero, List.getElem_cons_succ, List.setIfInBounds_toArray, List.set_cons_zero, List.set_cons_succ]
  clear hcb
  refine wpAnyH_take (i := 16) (v := .string (strOfNums T)) rfl (by kernel_rfl) (by kernel_rfl) (by kernel_rfl) (fun _ _ _ h => h) (Or.inl ⟨by rfl, fun w _ => by go_simp⟩) hS ?_
  try simp only [Act.put, List.getElem_toArray, List.getElem_cons_zero, List.getElem_cons_succ, List.setIfInBounds_toArray, List.set_cons_zero, List.set_cons_succ]
  refine wpAnyH_take (i := 17) (v := .string (strOfNums T)) rfl (by kernel_rfl) (by kernel_rfl) (by kernel_rfl) (fun _ _ _ h => h) (Or.inl ⟨by rfl, fun w _ => by go_simp⟩) hS ?_
  try simp only [Act.put, List.getElem_toArray, List.getElem_cons_zero, List.getElem_cons_succ, List.setIfInBounds_toArray, List.set_cons_zero, List.set_cons_succ]
  refine wpAnyH_done (by kernel_rfl) ?_ _
  go_wp2
  go_ret
  exact ⟨rfl, hS.2⟩
end Go.Proofs.Ytihjapfgllokgaa
