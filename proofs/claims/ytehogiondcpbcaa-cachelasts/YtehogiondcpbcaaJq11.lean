/-
  Proved here: a log's region: whether it lies in the disk, and where a block's place is; how many blocks there are, and how many so many bytes take. Proved here: log.New of no starts.
-/
import Derived.Test.YtehogiondcpbcaaJq10
namespace Go.Proofs.Ytehogiondcpbcaa
open Go.ChangeShapes Go.WideShapes Go.ChangeAt Go.RowKit
set_option linter.unusedVariables false
set_option linter.unusedSimpArgs false
set_option maxRecDepth 20000
def okR (a z n : Int) : Bool := decide (0 ≤ a) && (decide (1 ≤ z) && decide (a ≤ n - z))
set_option maxHeartbeats 2000000 in
theorem right_any (pd : Value) (a z n : Int) (w : World) (hz : z ≤ 9223372036854775807) (hn : 0 ≤ n ∧ n ≤ 9223372036854775807) (hs : ∀ wa, Below w.heap.size w wa → Calls Try.prog 62 #[pd] wa fun e w' => e = .returned (.int .i64 n) ∧ w' = wa) :
    Calls Try.prog 67 #[.agg #[pd, .int .i64 a, .int .i64 z]] w fun e w' => e = .returned (.bool (okR a z n)) ∧ Below w.heap.size w w' := by
  have HSZ : Hid _ := hs
  clear hs
  have r0 : Row (w.alloc (.cells #[pd, .int .i64 a, .int .i64 z] 95)) w.heap.size #[pd, .int .i64 a, .int .i64 z] 95 := Row.new _ _ _
  have rb : Below w.heap.size w (w.alloc (.cells #[pd, .int .i64 a, .int .i64 z] 95)) := (Below.refl _ _).alloc (Nat.le_refl _) _
  go_enter Try.func67, Try.ntmps67
  go_upto_region 1 with fail
  generalize w.alloc (.cells #[pd, .int .i64 a, .int .i64 z] 95) = w1 at r0 rb ⊢
  by_cases ha : 0 ≤ a
  rotate_left
  · have HK : Hid (okR a z n = false) := by show _ = _; unfold okR; rw [decide_eq_false ha]; rfl
    have ha' : decide (0 ≤ a) = false := decide_eq_false ha
    refine wp_region_held_drew (S := fun w' => Row w' w.heap.size #[pd, .int .i64 a, .int .i64 z] 95 ∧ Below w.heap.size w w') (by kernel_rfl) ⟨r0, rb.drew⟩ fun hS => ?_
    clear r0 rb
    refine tkI (i := 0) (v := .pointer (some ⟨w.heap.size, 1, none⟩)) rfl (by kernel_rfl) (Or.inl ⟨by rfl, fun w _ => by go_simp⟩) hS ?_
    try simp only [Act.put, nz]
    refine tkI (i := 1) (v := .int .i64 a) rfl (by kernel_rfl) (Or.inl ⟨by rfl, fun w h => by have c := row_at h.1 1 _ rfl; go_simp⟩) hS ?_
    try simp only [Act.put, nz]
    refine tkI (i := 2) (v := .bool false) rfl (by kernel_rfl) (Or.inl ⟨by rfl, fun w _ => by go_simp⟩) hS ?_
    try simp only [Act.put, nz]
    refine tkI (i := 3) (v := .bool false) rfl (by kernel_rfl) (Or.inl ⟨by rfl, fun w _ => by go_simp⟩) hS ?_
    try simp only [Act.put, nz]
    refine tkI (i := 4) (v := undef) rfl (by kernel_rfl) (Or.inr ⟨by rfl, rfl⟩) hS ?_
    try simp only [Act.put, nz]
    refine tkI (i := 5) (v := undef) rfl (by kernel_rfl) (Or.inr ⟨by rfl, rfl⟩) hS ?_
    try simp only [Act.put, nz]
    refine tkI (i := 6) (v := undef) rfl (by kernel_rfl) (Or.inr ⟨by rfl, rfl⟩) hS ?_
    try simp only [Act.put, nz]
    refine tkI (i := 7) (v := .bool false) rfl (by kernel_rfl) (Or.inl ⟨by rfl, fun w _ => by go_simp⟩) hS ?_
    try simp only [Act.put, nz]
    refine tkI (i := 8) (v := .bool false) rfl (by kernel_rfl) (Or.inl ⟨by rfl, fun w _ => by go_simp⟩) hS ?_
    try simp only [Act.put, nz]
    refine tkI (i := 9) (v := undef) rfl (by kernel_rfl) (Or.inr ⟨by rfl, rfl⟩) hS ?_
    try simp only [Act.put, nz]
    refine tkI (i := 10) (v := undef) rfl (by kernel_rfl) (Or.inr ⟨by rfl, rfl⟩) hS ?_
    try simp only [Act.put, nz]
    refine tkI (i := 11) (v := undef) rfl (by kernel_rfl) (Or.inr ⟨by rfl, rfl⟩) hS ?_
    try simp only [Act.put, nz]
    refine tkI (i := 12) (v := undef) rfl (by kernel_rfl) (Or.inr ⟨by rfl, rfl⟩) hS ?_
    try simp only [Act.put, nz]
    refine tkI (i := 13) (v := undef) rfl (by kernel_rfl) (Or.inr ⟨by rfl, rfl⟩) hS ?_
    try simp only [Act.put, nz]
    refine tkI (i := 14) (v := undef) rfl (by kernel_rfl) (Or.inr ⟨by rfl, rfl⟩) hS ?_
    try simp only [Act.put, nz]
    refine tkI (i := 15) (v := undef) rfl (by kernel_rfl) (Or.inr ⟨by rfl, rfl⟩) hS ?_
    try simp only [Act.put, nz]
    refine tkI (i := 16) (v := undef) rfl (by kernel_rfl) (Or.inr ⟨by rfl, rfl⟩) hS ?_
    try simp only [Act.put, nz]
    refine tkI (i := 17) (v := undef) rfl (by kernel_rfl) (Or.inr ⟨by rfl, rfl⟩) hS ?_
    try simp only [Act.put, nz]
    refine tkI (i := 18) (v := .bool false) rfl (by kernel_rfl) (Or.inl ⟨by rfl, fun w _ => by go_simp⟩) hS ?_
    try simp only [Act.put, nz]
    refine tkI (i := 19) (v := .bool false) rfl (by kernel_rfl) (Or.inl ⟨by rfl, fun w _ => by go_simp⟩) hS ?_
    try simp only [Act.put, nz]
    refine wpAnyH_done (by kernel_rfl) ?_ _
    go_wp2
    go_ret
    exact ⟨by rw [HK.out]; rfl, hS.2⟩
  by_cases h1 : 1 ≤ z
  rotate_left
  · have HK : Hid (okR a z n = false) := by show _ = _; unfold okR; rw [decide_eq_false h1]; simp
    have h1' : decide (1 ≤ z) = false := decide_eq_false h1
    refine wp_region_held_drew (S := fun w' => Row w' w.heap.size #[pd, .int .i64 a, .int .i64 z] 95 ∧ Below w.heap.size w w') (by kernel_rfl) ⟨r0, rb.drew⟩ fun hS => ?_
    clear r0 rb
    refine tkI (i := 0) (v := .pointer (some ⟨w.heap.size, 1, none⟩)) rfl (by kernel_rfl) (Or.inl ⟨by rfl, fun w _ => by go_simp⟩) hS ?_
    try simp only [Act.put, nz]
    refine tkI (i := 1) (v := .int .i64 a) rfl (by kernel_rfl) (Or.inl ⟨by rfl, fun w h => by have c := row_at h.1 1 _ rfl; go_simp⟩) hS ?_
    try simp only [Act.put, nz]
    refine tkI (i := 2) (v := .bool true) rfl (by kernel_rfl) (Or.inl ⟨by rfl, fun w _ => by go_simp⟩) hS ?_
    try simp only [Act.put, nz]
    refine tkI (i := 3) (v := .bool true) rfl (by kernel_rfl) (Or.inl ⟨by rfl, fun w _ => by go_simp⟩) hS ?_
    try simp only [Act.put, nz]
    refine tkI (i := 4) (v := .pointer (some ⟨w.heap.size, 2, none⟩)) rfl (by kernel_rfl) (Or.inl ⟨by rfl, fun w _ => by go_simp⟩) hS ?_
    try simp only [Act.put, nz]
    refine tkI (i := 5) (v := .int .i64 z) rfl (by kernel_rfl) (Or.inl ⟨by rfl, fun w h => by have c := row_at h.1 2 _ rfl; go_simp⟩) hS ?_
    try simp only [Act.put, nz]
    refine tkI (i := 6) (v := .bool false) rfl (by kernel_rfl) (Or.inl ⟨by rfl, fun w _ => by go_simp⟩) hS ?_
    try simp only [Act.put, nz]
    refine tkI (i := 7) (v := .bool false) rfl (by kernel_rfl) (Or.inl ⟨by rfl, fun w _ => by go_simp⟩) hS ?_
    try simp only [Act.put, nz]
    refine tkI (i := 8) (v := .bool false) rfl (by kernel_rfl) (Or.inl ⟨by rfl, fun w _ => by go_simp⟩) hS ?_
    try simp only [Act.put, nz]
    refine tkI (i := 9) (v := undef) rfl (by kernel_rfl) (Or.inr ⟨by rfl, rfl⟩) hS ?_
    try simp only [Act.put, nz]
    refine tkI (i := 10) (v := undef) rfl (by kernel_rfl) (Or.inr ⟨by rfl, rfl⟩) hS ?_
    try simp only [Act.put, nz]
    refine tkI (i := 11) (v := undef) rfl (by kernel_rfl) (Or.inr ⟨by rfl, rfl⟩) hS ?_
    try simp only [Act.put, nz]
    refine tkI (i := 12) (v := undef) rfl (by kernel_rfl) (Or.inr ⟨by rfl, rfl⟩) hS ?_
    try simp only [Act.put, nz]
    refine tkI (i := 13) (v := undef) rfl (by kernel_rfl) (Or.inr ⟨by rfl, rfl⟩) hS ?_
    try simp only [Act.put, nz]
    refine tkI (i := 14) (v := undef) rfl (by kernel_rfl) (Or.inr ⟨by rfl, rfl⟩) hS ?_
    try simp only [Act.put, nz]
    refine tkI (i := 15) (v := undef) rfl (by kernel_rfl) (Or.inr ⟨by rfl, rfl⟩) hS ?_
    try simp only [Act.put, nz]
    refine tkI (i := 16) (v := undef) rfl (by kernel_rfl) (Or.inr ⟨by rfl, rfl⟩) hS ?_
    try simp only [Act.put, nz]
    refine tkI (i := 17) (v := undef) rfl (by kernel_rfl) (Or.inr ⟨by rfl, rfl⟩) hS ?_
    try simp only [Act.put, nz]
    refine tkI (i := 18) (v := .bool false) rfl (by kernel_rfl) (Or.inl ⟨by rfl, fun w _ => by go_simp⟩) hS ?_
    try simp only [Act.put, nz]
    refine tkI (i := 19) (v := .bool false) rfl (by kernel_rfl) (Or.inl ⟨by rfl, fun w _ => by go_simp⟩) hS ?_
    try simp only [Act.put, nz]
    refine wpAnyH_done (by kernel_rfl) ?_ _
    go_wp2
    go_ret
    exact ⟨by rw [HK.out]; rfl, hS.2⟩
  have hw : IntKind.i64.wrap (n - z) = n - z := by rw [IntKind.wrap_i64]; omega
  by_cases h2 : a ≤ n - z
  · have HK : Hid (okR a z n = true) := by show _ = _; unfold okR; rw [decide_eq_true ha, decide_eq_true h1, decide_eq_true h2]; rfl
    refine wp_region_held_drew (S := fun w' => Row w' w.heap.size #[pd, .int .i64 a, .int .i64 z] 95 ∧ Below w.heap.size w w') (by kernel_rfl) ⟨r0, rb.drew⟩ fun hS => ?_
    clear r0 rb
    refine tkI (i := 0) (v := .pointer (some ⟨w.heap.size, 1, none⟩)) rfl (by kernel_rfl) (Or.inl ⟨by rfl, fun w _ => by go_simp⟩) hS ?_
    try simp only [Act.put, nz]
    refine tkI (i := 1) (v := .int .i64 a) rfl (by kernel_rfl) (Or.inl ⟨by rfl, fun w h => by have c := row_at h.1 1 _ rfl; go_simp⟩) hS ?_
    try simp only [Act.put, nz]
    refine tkI (i := 2) (v := .bool true) rfl (by kernel_rfl) (Or.inl ⟨by rfl, fun w _ => by go_simp⟩) hS ?_
    try simp only [Act.put, nz]
    refine tkI (i := 3) (v := .bool true) rfl (by kernel_rfl) (Or.inl ⟨by rfl, fun w _ => by go_simp⟩) hS ?_
    try simp only [Act.put, nz]
    refine tkI (i := 4) (v := .pointer (some ⟨w.heap.size, 2, none⟩)) rfl (by kernel_rfl) (Or.inl ⟨by rfl, fun w _ => by go_simp⟩) hS ?_
    try simp only [Act.put, nz]
    refine tkI (i := 5) (v := .int .i64 z) rfl (by kernel_rfl) (Or.inl ⟨by rfl, fun w h => by have c := row_at h.1 2 _ rfl; go_simp⟩) hS ?_
    try simp only [Act.put, nz]
    refine tkI (i := 6) (v := .bool true) rfl (by kernel_rfl) (Or.inl ⟨by rfl, fun w _ => by go_simp⟩) hS ?_
    try simp only [Act.put, nz]
    refine tkI (i := 7) (v := .bool true) rfl (by kernel_rfl) (Or.inl ⟨by rfl, fun w _ => by go_simp⟩) hS ?_
    try simp only [Act.put, nz]
    refine tkI (i := 8) (v := .bool true) rfl (by kernel_rfl) (Or.inl ⟨by rfl, fun w _ => by go_simp⟩) hS ?_
    try simp only [Act.put, nz]
    refine tkI (i := 9) (v := .pointer (some ⟨w.heap.size, 1, none⟩)) rfl (by kernel_rfl) (Or.inl ⟨by rfl, fun w _ => by go_simp⟩) hS ?_
    try simp only [Act.put, nz]
    refine tkI (i := 10) (v := .int .i64 a) rfl (by kernel_rfl) (Or.inl ⟨by rfl, fun w h => by have c := row_at h.1 1 _ rfl; go_simp⟩) hS ?_
    try simp only [Act.put, nz]
    refine tkI (i := 11) (v := .pointer (some ⟨w.heap.size, 0, none⟩)) rfl (by kernel_rfl) (Or.inl ⟨by rfl, fun w _ => by go_simp⟩) hS ?_
    try simp only [Act.put, nz]
    refine tkI (i := 12) (v := pd) rfl (by kernel_rfl) (Or.inl ⟨by rfl, fun w h => by have c := row_at h.1 0 _ rfl; go_simp⟩) hS ?_
    try simp only [Act.put, nz]
    refine tkI (i := 14) (v := .pointer (some ⟨w.heap.size, 2, none⟩)) rfl (by kernel_rfl) (Or.inl ⟨by rfl, fun w _ => by go_simp⟩) hS ?_
    try simp only [Act.put, nz]
    refine tkI (i := 15) (v := .int .i64 z) rfl (by kernel_rfl) (Or.inl ⟨by rfl, fun w h => by have c := row_at h.1 2 _ rfl; go_simp⟩) hS ?_
    try simp only [Act.put, nz]
    refine wpAnyH_ready (rs := [13]) (by kernel_rfl) (by simp) ?_
    refine AllReadyH.cons rfl (fun K hK => ?_) AllReadyH.nil
    go_simp
    go_at_call 62
    refine Calls.mono (HSZ.out _ hS.2) ?_
    rintro e wc ⟨rfl, rfl⟩
    refine hK.out _ _ (hS) fun hS => ?_
    try simp only [Act.put, nz]
    refine tkI (i := 16) (v := .int .i64 (n - z)) rfl (by kernel_rfl) (Or.inl ⟨by rfl, fun w _ => by go_simp⟩) hS ?_
    try simp only [Act.put, nz]
    refine tkI (i := 17) (v := .bool true) rfl (by kernel_rfl) (Or.inl ⟨by rfl, fun w _ => by go_simp⟩) hS ?_
    try simp only [Act.put, nz]
    refine tkI (i := 18) (v := .bool true) rfl (by kernel_rfl) (Or.inl ⟨by rfl, fun w _ => by go_simp⟩) hS ?_
    try simp only [Act.put, nz]
    refine tkI (i := 19) (v := .bool true) rfl (by kernel_rfl) (Or.inl ⟨by rfl, fun w _ => by go_simp⟩) hS ?_
    try simp only [Act.put, nz]
    refine wpAnyH_done (by kernel_rfl) ?_ _
    go_wp2
    go_ret
    exact ⟨by rw [HK.out]; rfl, hS.2⟩
  · have HK : Hid (okR a z n = false) := by show _ = _; unfold okR; rw [decide_eq_false h2]; simp
    refine wp_region_held_drew (S := fun w' => Row w' w.heap.size #[pd, .int .i64 a, .int .i64 z] 95 ∧ Below w.heap.size w w') (by kernel_rfl) ⟨r0, rb.drew⟩ fun hS => ?_
    clear r0 rb
    refine tkI (i := 0) (v := .pointer (some ⟨w.heap.size, 1, none⟩)) rfl (by kernel_rfl) (Or.inl ⟨by rfl, fun w _ => by go_simp⟩) hS ?_
    try simp only [Act.put, nz]
    refine tkI (i := 1) (v := .int .i64 a) rfl (by kernel_rfl) (Or.inl ⟨by rfl, fun w h => by have c := row_at h.1 1 _ rfl; go_simp⟩) hS ?_
    try simp only [Act.put, nz]
    refine tkI (i := 2) (v := .bool true) rfl (by kernel_rfl) (Or.inl ⟨by rfl, fun w _ => by go_simp⟩) hS ?_
    try simp only [Act.put, nz]
    refine tkI (i := 3) (v := .bool true) rfl (by kernel_rfl) (Or.inl ⟨by rfl, fun w _ => by go_simp⟩) hS ?_
    try simp only [Act.put, nz]
    refine tkI (i := 4) (v := .pointer (some ⟨w.heap.size, 2, none⟩)) rfl (by kernel_rfl) (Or.inl ⟨by rfl, fun w _ => by go_simp⟩) hS ?_
    try simp only [Act.put, nz]
    refine tkI (i := 5) (v := .int .i64 z) rfl (by kernel_rfl) (Or.inl ⟨by rfl, fun w h => by have c := row_at h.1 2 _ rfl; go_simp⟩) hS ?_
    try simp only [Act.put, nz]
    refine tkI (i := 6) (v := .bool true) rfl (by kernel_rfl) (Or.inl ⟨by rfl, fun w _ => by go_simp⟩) hS ?_
    try simp only [Act.put, nz]
    refine tkI (i := 7) (v := .bool true) rfl (by kernel_rfl) (Or.inl ⟨by rfl, fun w _ => by go_simp⟩) hS ?_
    try simp only [Act.put, nz]
    refine tkI (i := 8) (v := .bool true) rfl (by kernel_rfl) (Or.inl ⟨by rfl, fun w _ => by go_simp⟩) hS ?_
    try simp only [Act.put, nz]
    refine tkI (i := 9) (v := .pointer (some ⟨w.heap.size, 1, none⟩)) rfl (by kernel_rfl) (Or.inl ⟨by rfl, fun w _ => by go_simp⟩) hS ?_
    try simp only [Act.put, nz]
    refine tkI (i := 10) (v := .int .i64 a) rfl (by kernel_rfl) (Or.inl ⟨by rfl, fun w h => by have c := row_at h.1 1 _ rfl; go_simp⟩) hS ?_
    try simp only [Act.put, nz]
    refine tkI (i := 11) (v := .pointer (some ⟨w.heap.size, 0, none⟩)) rfl (by kernel_rfl) (Or.inl ⟨by rfl, fun w _ => by go_simp⟩) hS ?_
    try simp only [Act.put, nz]
    refine tkI (i := 12) (v := pd) rfl (by kernel_rfl) (Or.inl ⟨by rfl, fun w h => by have c := row_at h.1 0 _ rfl; go_simp⟩) hS ?_
    try simp only [Act.put, nz]
    refine tkI (i := 14) (v := .pointer (some ⟨w.heap.size, 2, none⟩)) rfl (by kernel_rfl) (Or.inl ⟨by rfl, fun w _ => by go_simp⟩) hS ?_
    try simp only [Act.put, nz]
    refine tkI (i := 15) (v := .int .i64 z) rfl (by kernel_rfl) (Or.inl ⟨by rfl, fun w h => by have c := row_at h.1 2 _ rfl; go_simp⟩) hS ?_
    try simp only [Act.put, nz]
    refine wpAnyH_ready (rs := [13]) (by kernel_rfl) (by simp) ?_
    refine AllReadyH.cons rfl (fun K hK => ?_) AllReadyH.nil
    go_simp
    go_at_call 62
    refine Calls.mono (HSZ.out _ hS.2) ?_
    rintro e wc ⟨rfl, rfl⟩
    refine hK.out _ _ (hS) fun hS => ?_
    try simp only [Act.put, nz]
    refine tkI (i := 16) (v := .int .i64 (n - z)) rfl (by kernel_rfl) (Or.inl ⟨by rfl, fun w _ => by go_simp⟩) hS ?_
    try simp only [Act.put, nz]
    refine tkI (i := 17) (v := .bool false) rfl (by kernel_rfl) (Or.inl ⟨by rfl, fun w _ => by go_simp⟩) hS ?_
    try simp only [Act.put, nz]
    refine tkI (i := 18) (v := .bool false) rfl (by kernel_rfl) (Or.inl ⟨by rfl, fun w _ => by go_simp⟩) hS ?_
    try simp only [Act.put, nz]
    refine tkI (i := 19) (v := .bool false) rfl (by kernel_rfl) (Or.inl ⟨by rfl, fun w _ => by go_simp⟩) hS ?_
    try simp only [Act.put, nz]
    refine wpAnyH_done (by kernel_rfl) ?_ _
    go_wp2
    go_ret
    exact ⟨by rw [HK.out]; rfl, hS.2⟩
def placeV (a z n : Int) : Int := a + n % z
set_option maxHeartbeats 2000000 in
theorem place_any (pd : Value) (a z n : Int) (w : World) (ha : 0 ≤ a ∧ a ≤ 4294967295) (hz : 1 ≤ z ∧ z ≤ 4294967295) (hn : 0 ≤ n ∧ n ≤ 4294967295) :
    Calls Try.prog 129 #[.agg #[pd, .int .i64 a, .int .i64 z], .int .u32 n] w fun e w' => e = .returned (.int .i64 (placeV a z n)) ∧ Below w.heap.size w w' := by
  have r0 : Row (w.alloc (.cells #[pd, .int .i64 a, .int .i64 z] 95)) w.heap.size #[pd, .int .i64 a, .int .i64 z] 95 := Row.new _ _ _
  have rb : Below w.heap.size w (w.alloc (.cells #[pd, .int .i64 a, .int .i64 z] 95)) := (Below.refl _ _).alloc (Nat.le_refl _) _
  have m0 : 0 ≤ n % z := Int.emod_nonneg _ (by omega)
  have m1 : n % z < z := Int.emod_lt_of_pos _ (by omega)
  have hrem : n.tmod z = n % z := Int.tmod_eq_emod_of_nonneg hn.1
  have w1 : IntKind.u64.wrap n = n := by rw [IntKind.wrap_u64]; omega
  have w2 : IntKind.u64.wrap z = z := by rw [IntKind.wrap_u64]; omega
  have w3 : IntKind.u64.wrap (n % z) = n % z := by rw [IntKind.wrap_u64]; omega
  have w4 : IntKind.i64.wrap (n % z) = n % z := by rw [IntKind.wrap_i64]; omega
  have w5 : IntKind.i64.wrap (a + n % z) = a + n % z := by rw [IntKind.wrap_i64]; omega
  have hz0 : ¬ z = 0 := by omega
  have HK : Hid (placeV a z n = a + n % z) := rfl
  go_enter Try.func129, Try.ntmps129
  go_upto_region 1 with fail
  generalize w.alloc (.cells #[pd, .int .i64 a, .int .i64 z] 95) = w1 at r0 rb ⊢
  refine wp_region_held_drew (S := fun w' => Row w' w.heap.size #[pd, .int .i64 a, .int .i64 z] 95 ∧ Below w.heap.size w w') (by kernel_rfl) ⟨r0, rb.drew⟩ fun hS => ?_
  clear r0 rb
  refine tkI (i := 0) (v := .pointer (some ⟨w.heap.size, 1, none⟩)) rfl (by kernel_rfl) (Or.inl ⟨by rfl, fun w _ => by go_simp⟩) hS ?_
  try simp only [Act.put, nz]
  refine tkI (i := 1) (v := .int .i64 a) rfl (by kernel_rfl) (Or.inl ⟨by rfl, fun w h => by have c := row_at h.1 1 _ rfl; go_simp⟩) hS ?_
  try simp only [Act.put, nz]
  refine tkI (i := 2) (v := .int .u32 n) rfl (by kernel_rfl) (Or.inl ⟨by rfl, fun w _ => by go_simp⟩) hS ?_
  try simp only [Act.put, nz]
  refine tkI (i := 3) (v := .int .u64 n) rfl (by kernel_rfl) (Or.inl ⟨by rfl, fun w _ => by go_simp⟩) hS ?_
  try simp only [Act.put, nz]
  refine tkI (i := 4) (v := .pointer (some ⟨w.heap.size, 2, none⟩)) rfl (by kernel_rfl) (Or.inl ⟨by rfl, fun w _ => by go_simp⟩) hS ?_
  try simp only [Act.put, nz]
  refine tkI (i := 5) (v := .int .i64 z) rfl (by kernel_rfl) (Or.inl ⟨by rfl, fun w h => by have c := row_at h.1 2 _ rfl; go_simp⟩) hS ?_
  try simp only [Act.put, nz]
  refine tkI (i := 6) (v := .int .u64 z) rfl (by kernel_rfl) (Or.inl ⟨by rfl, fun w _ => by go_simp⟩) hS ?_
  try simp only [Act.put, nz]
  refine tkI (i := 7) (v := .int .u64 (n % z)) rfl (by kernel_rfl) (Or.inl ⟨by rfl, fun w _ => by go_simp⟩) hS ?_
  try simp only [Act.put, nz]
  refine tkI (i := 8) (v := .int .i64 (n % z)) rfl (by kernel_rfl) (Or.inl ⟨by rfl, fun w _ => by go_simp⟩) hS ?_
  try simp only [Act.put, nz]
  refine tkI (i := 9) (v := .int .i64 (a + n % z)) rfl (by kernel_rfl) (Or.inl ⟨by rfl, fun w _ => by go_simp⟩) hS ?_
  try simp only [Act.put, nz]
  refine tkI (i := 10) (v := .int .i64 (a + n % z)) rfl (by kernel_rfl) (Or.inl ⟨by rfl, fun w _ => by go_simp⟩) hS ?_
  try simp only [Act.put, nz]
  refine wpAnyH_done (by kernel_rfl) ?_ _
  go_wp2
  go_ret
  exact ⟨by rw [HK.out]; rfl, hS.2⟩
set_option maxHeartbeats 2000000 in
theorem made_any (gl : Nat) (pd : Value) (l : Lg) (oa ob : Option Addr) (n m ca cb : Nat) (w : World) (hr : Row w gl (lcells pd (.slice oa n ca) (.slice ob m cb) l) 99) (hn : n ≤ 1000000000) (hm : m ≤ 1000000000) :
    Calls Try.prog 50 #[.pointer (some ⟨gl, 0, none⟩)] w fun e w' => e = .returned (.int .i64 ((n : Int) + m)) ∧ Below w.heap.size w w' := by
  have w1 : IntKind.i64.wrap ((n : Int) + m) = (n : Int) + m := by rw [IntKind.wrap_i64]; omega
  have rb : Below w.heap.size w w := Below.refl _ _
  unfold lcells at hr
  go_enter Try.func50, Try.ntmps50
  go_upto_region 1 with fail
  refine wp_region_held_drew (S := fun w' => Row w' gl #[pd, .int .i64 l.at_, .int .i64 l.size, .int .u32 l.ep, .slice oa n ca, .slice ob m cb, .string l.open_, .int .u32 l.next, .bool l.fresh, .int .u64 l.fin, .int .u64 l.dur] 99 ∧ Below w.heap.size w w') (by kernel_rfl) ⟨hr, rb.drew⟩ fun hS => ?_
  clear hr rb
  refine tkI (i := 0) (v := .pointer (some ⟨gl, 0, none⟩)) rfl (by kernel_rfl) (Or.inl ⟨by rfl, fun w _ => by go_simp⟩) hS ?_
  try simp only [Act.put, nz]
  refine tkI (i := 1) (v := .pointer (some ⟨gl, 0, none⟩)) rfl (by kernel_rfl) (Or.inl ⟨by rfl, fun w _ => by go_simp⟩) hS ?_
  try simp only [Act.put, nz]
  refine tkI (i := 2) (v := .pointer (some ⟨gl, 4, none⟩)) rfl (by kernel_rfl) (Or.inl ⟨by rfl, fun w _ => by go_simp⟩) hS ?_
  try simp only [Act.put, nz]
  refine tkI (i := 3) (v := .slice oa n ca) rfl (by kernel_rfl) (Or.inl ⟨by rfl, fun w h => by have c := row_at h.1 4 _ rfl; go_simp⟩) hS ?_
  try simp only [Act.put, nz]
  refine tkI (i := 4) (v := .int .i64 n) rfl (by kernel_rfl) (Or.inl ⟨by rfl, fun w _ => by go_simp⟩) hS ?_
  try simp only [Act.put, nz]
  refine tkI (i := 5) (v := .pointer (some ⟨gl, 0, none⟩)) rfl (by kernel_rfl) (Or.inl ⟨by rfl, fun w _ => by go_simp⟩) hS ?_
  try simp only [Act.put, nz]
  refine tkI (i := 6) (v := .pointer (some ⟨gl, 0, none⟩)) rfl (by kernel_rfl) (Or.inl ⟨by rfl, fun w _ => by go_simp⟩) hS ?_
  try simp only [Act.put, nz]
  refine tkI (i := 7) (v := .pointer (some ⟨gl, 5, none⟩)) rfl (by kernel_rfl) (Or.inl ⟨by rfl, fun w _ => by go_simp⟩) hS ?_
  try simp only [Act.put, nz]
  refine tkI (i := 8) (v := .slice ob m cb) rfl (by kernel_rfl) (Or.inl ⟨by rfl, fun w h => by have c := row_at h.1 5 _ rfl; go_simp⟩) hS ?_
  try simp only [Act.put, nz]
  refine tkI (i := 9) (v := .int .i64 m) rfl (by kernel_rfl) (Or.inl ⟨by rfl, fun w _ => by go_simp⟩) hS ?_
  try simp only [Act.put, nz]
  refine tkI (i := 10) (v := .int .i64 ((n : Int) + m)) rfl (by kernel_rfl) (Or.inl ⟨by rfl, fun w _ => by go_simp⟩) hS ?_
  try simp only [Act.put, nz]
  refine tkI (i := 11) (v := .int .i64 ((n : Int) + m)) rfl (by kernel_rfl) (Or.inl ⟨by rfl, fun w _ => by go_simp⟩) hS ?_
  try simp only [Act.put, nz]
  refine wpAnyH_done (by kernel_rfl) ?_ _
  go_wp2
  go_ret
  exact ⟨rfl, hS.2⟩
theorem wanted_any (b : Int) (w : World) (hb : 0 ≤ b ∧ b ≤ 1000000000000) : Calls Try.prog 51 #[.int .i64 b] w fun e w' => e = .returned (.int .i64 ((b + 213) / 214)) ∧ Below w.heap.size w w' := by
  have w1 : IntKind.i64.wrap (b + 214) = b + 214 := by rw [IntKind.wrap_i64]; omega
  have w2 : IntKind.i64.wrap (b + 214 - 1) = b + 213 := by rw [IntKind.wrap_i64]; omega
  have e1 : (b + 213).tdiv 214 = (b + 213) / 214 := Int.tdiv_eq_ediv_of_nonneg (by omega)
  have w3 : IntKind.i64.wrap ((b + 213) / 214) = (b + 213) / 214 := by rw [IntKind.wrap_i64]; omega
  go_enter Try.func51, Try.ntmps51
  go_wp2
  go_ret
  exact ⟨by simp, Below.refl _ _⟩
theorem built95 (x : Option Addr) (a z : Int) : Try.prog.built 95 [(0, .pointer x), (1, .int .i64 a), (2, .int .i64 z)] = some #[.pointer x, .int .i64 a, .int .i64 z] := by kernel_rfl
theorem built99 (x : Option Addr) (a z ep num fin : Int) : Try.prog.built 99 [(0, .agg #[.pointer x, .int .i64 a, .int .i64 z]), (1, .int .u32 ep), (5, .int .u32 num), (6, .bool true), (7, .int .u64 fin), (8, .int .u64 fin)] = some (lcells (.pointer x) (.slice none 0 0) (.slice none 0 0) ⟨a, z, ep, [], [], ByteArray.empty, num, true, fin, fin⟩) := by kernel_rfl
theorem follow_nil (num fin : Int) (w : World) : Calls Try.prog 68 #[.slice none 0 0, .int .u32 num, .int .u64 fin] w fun e w' => e = .returned (.bool true) ∧ Below w.heap.size w w' := by
  go_enter Try.func68, Try.ntmps68
  go_wp2
  go_loopw [12, 7] (fun i l wr => i = .int .i64 0 ∧ l = .int .u64 0 ∧ Below w.heap.size w wr) (fun _ _ _ => 0)
  case atStart => exact ⟨rfl, rfl, Below.refl _ _⟩
  case round =>
    obtain ⟨rfl, rfl, hb⟩ := hrel
    go_wp2
    go_ret
    exact ⟨rfl, hb⟩
def Made (w : World) (x : Option Addr) (a z ep num fin : Int) (ok : Bool) (e : Ending) (w' : World) : Prop :=
  Below w.heap.size w w' ∧ (ok = false → e = .returned (.pointer none)) ∧ (ok = true → ∃ gl, w.heap.size ≤ gl ∧ e = .returned (.pointer (some ⟨gl, 0, none⟩)) ∧ Row w' gl (lcells (.pointer x) (.slice none 0 0) (.slice none 0 0) ⟨a, z, ep, [], [], ByteArray.empty, num, true, fin, fin⟩) 99)
set_option maxHeartbeats 4000000 in
theorem lnew_nil (x : Option Addr) (a z ep num fin n : Int) (w : World) (hz : -9223372036854775808 ≤ z ∧ z ≤ 9223372036854775807) (hn : 0 ≤ n ∧ n ≤ 2048) (hs : ∀ wa, Below w.heap.size w wa → Calls Try.prog 62 #[.pointer x] wa fun e w' => e = .returned (.int .i64 n) ∧ w' = wa) :
    Calls Try.prog 35 #[.pointer x, .int .i64 a, .int .i64 z, .int .u32 ep, .slice none 0 0, .int .u32 num, .int .u64 fin] w fun e w' => Made w x a z ep num fin (okR a z n) e w' := by
  obtain ⟨PP, HPP⟩ : ∃ PP : Ending → World → Prop, Hid (PP = fun e w' => Made w x a z ep num fin (okR a z n) e w') := ⟨_, rfl⟩
  rw [← HPP.out]
  have hz98 := zero95
  have HRT : Hid (∀ wa, Below w.heap.size w wa → Calls Try.prog 67 #[.agg #[.pointer x, .int .i64 a, .int .i64 z]] wa fun e w' => e = .returned (.bool (okR a z n)) ∧ Below wa.heap.size wa w') := fun wa hb => right_any (.pointer x) a z n wa hz.2 ⟨hn.1, by omega⟩ (fun wb hb' => hs wb (hb.trans (hb'.mono hb.size)))
  have HFO : Hid _ := fun w => follow_nil num fin w
  have q0 : Row (w.alloc (.cells #[.pointer none, .int .i64 0, .int .i64 0] 95)) w.heap.size #[.pointer none, .int .i64 0, .int .i64 0] 95 := Row.new _ _ _
  have qb : Below w.heap.size w (w.alloc (.cells #[.pointer none, .int .i64 0, .int .i64 0] 95)) := (Below.refl _ _).alloc (Nat.le_refl _) _
  go_enter Try.func35, Try.ntmps35
  go_upto_region 2 with (first
  | (refine build_parts rfl 95 #[(0, .tmp 19), (1, .tmp 20), (2, .tmp 21)] rfl [(0, .pointer x), (1, .int .i64 a), (2, .int .i64 z)] rfl _ (built95 x a z) ?_)
  | (refine store_cells rfl 95 (.tmp 15) (.tmp 22) rfl w.heap.size #[.pointer x, .int .i64 a, .int .i64 z] rfl rfl 95 _ q0 3 size95 rfl rfl (by simp [Value.oneCell']) ?_))
  have r0 := q0.set #[.pointer x, .int .i64 a, .int .i64 z]
  have rb := below_setRow qb (Nat.le_refl _) #[.pointer x, .int .i64 a, .int .i64 z]
  clear q0 qb
  generalize (w.alloc (.cells #[.pointer none, .int .i64 0, .int .i64 0] 95)).setRow w.heap.size #[.pointer x, .int .i64 a, .int .i64 z] = w1 at r0 rb ⊢
  cases hk : okR a z n with
  | false =>
    have HK : Hid (∀ w', Below w.heap.size w w' → PP (.returned (.pointer none)) w') := fun w' h => by rw [HPP.out, hk]; exact ⟨h, fun _ => rfl, (fun h' => by cases h')⟩
    rw [hk] at HRT
    clear hk
    go_wp2_with (first
      | (refine load_cells rfl 95 (.tmp 15) rfl w.heap.size rfl 95 _ r0 3 Try.underlying95 rfl size95 rfl ?_)
      | (go_at_call 67; refine (HRT.out _ rb).mono ?_; clear HRT; rintro e w2 ⟨rfl, h2⟩))
    try go_ret
    exact HK.out _ (rb.trans (h2.mono rb.size))
  | true =>
    have h1 : 1 ≤ z := by unfold okR at hk; simp only [Bool.and_eq_true, decide_eq_true_eq] at hk; exact hk.2.1
    have hz0 : ¬ (0 : Int) > z := by omega
    have hz0' : ¬ z < 0 := by omega
    have HK : Hid (∀ w' gl, w.heap.size ≤ gl → Below w.heap.size w w' → Row w' gl (lcells (.pointer x) (.slice none 0 0) (.slice none 0 0) ⟨a, z, ep, [], [], ByteArray.empty, num, true, fin, fin⟩) 99 → PP (.returned (.pointer (some ⟨gl, 0, none⟩))) w') := fun w' gl hg h hr => by rw [HPP.out, hk]; exact ⟨h, (fun h' => by cases h'), fun _ => ⟨gl, hg, rfl, hr⟩⟩
    rw [hk] at HRT
    clear hk
    go_upto_region 4 with (first
      | (refine load_cells rfl 95 (.tmp 15) rfl w.heap.size rfl 95 _ r0 3 Try.underlying95 rfl size95 rfl ?_)
      | (go_at_call 67; refine (HRT.out _ rb).mono ?_; clear HRT; rintro e w2 ⟨rfl, h2⟩
         have s0 := r0.below h2 r0.lt
         have sb := rb.trans (h2.mono rb.size))
      | (go_at_call 68; refine (HFO.out _).mono ?_; clear HFO; rintro e w3 ⟨rfl, h3⟩
         have t0 := s0.below h3 s0.lt
         have tb := sb.trans (h3.mono sb.size)))
    go_upto_region 5 with (first
      | (refine load_cells rfl 95 (.tmp 15) rfl w.heap.size rfl 95 _ t0 3 Try.underlying95 rfl size95 rfl ?_)
      | (refine build_parts rfl 99 #[(0, .tmp 39), (1, .tmp 40), (5, .tmp 41), (6, .const (.bool true)), (7, .tmp 42), (8, .tmp 43)] rfl [(0, .agg #[.pointer x, .int .i64 a, .int .i64 z]), (1, .int .u32 ep), (5, .int .u32 num), (6, .bool true), (7, .int .u64 fin), (8, .int .u64 fin)] rfl _ (built99 x a z ep num fin) ?_))
    have u1 : Row (w3.alloc (.cells (lcells (.pointer x) (.slice none 0 0) (.slice none 0 0) ⟨a, z, ep, [], [], ByteArray.empty, num, true, fin, fin⟩) 99)) w3.heap.size (lcells (.pointer x) (.slice none 0 0) (.slice none 0 0) ⟨a, z, ep, [], [], ByteArray.empty, num, true, fin, fin⟩) 99 := Row.new _ _ _
    have ub := tb.alloc tb.size (.cells (lcells (.pointer x) (.slice none 0 0) (.slice none 0 0) ⟨a, z, ep, [], [], ByteArray.empty, num, true, fin, fin⟩) 99)
    have hle := tb.size
    clear r0 rb s0 sb t0 tb h2 h3
    generalize w3.alloc (.cells (lcells (.pointer x) (.slice none 0 0) (.slice none 0 0) ⟨a, z, ep, [], [], ByteArray.empty, num, true, fin, fin⟩) 99) = w4 at u1 ub ⊢
    generalize w3.heap.size = gl at u1 hle ⊢
    go_wp2
    go_loopw [48] (fun i wr => i = .int .i64 0 ∧ Row wr gl (lcells (.pointer x) (.slice none 0 0) (.slice none 0 0) ⟨a, z, ep, [], [], ByteArray.empty, num, true, fin, fin⟩) 99 ∧ Below w.heap.size w wr) (fun _ _ => 0)
    case atStart => exact ⟨rfl, u1, ub⟩
    case round =>
      clear u1 ub
      obtain ⟨rfl, u1, ub⟩ := hrel
      go_wp2
      try go_ret
      exact HK.out _ _ hle ub u1
end Go.Proofs.Ytehogiondcpbcaa
