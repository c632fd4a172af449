/-
  Proved here: what a log that isn't there answers, and a scan of a disk that isn't.
-/
import Derived.Test.YtgnedbagelhcbaaLgc
namespace Go.Proofs.Ytgnedbagelhcbaa
open Go.ChangeShapes Go.WideShapes Go.ChangeAt Go.RowKit
set_option linter.unusedVariables false
set_option linter.unusedSimpArgs false
set_option maxRecDepth 20000

theorem lapp_nil (s : ByteArray) (hs : s.size ≤ maxLen) (w : World) : Calls Try.prog 13 #[.pointer none, .string s] w fun e w' => e = .returned (.tuple #[.int .u64 0, .int .i64 1]) ∧ Below w.heap.size w w' := by
  have HFR : Hid (∀ w, Calls Try.prog 41 #[.string s] w fun ex w' => ex = .returned (.string (frS s)) ∧ Below w.heap.size w w') := fun w => frame_any s w hs
  generalize frS s = F at HFR
  go_enter Try.func13, Try.ntmps13
  go_wp2_with (go_at_call 41; refine Calls.mono (HFR.out _) ?_; clear HFR; rintro e w1 ⟨rfl, h1⟩)
  refine bodyPost_ret (results_tmp2 rfl _ _ _) rfl ?_
  exact ⟨rfl, h1⟩
theorem flush_nil (w : World) : Calls Try.prog 15 #[.pointer none] w fun e w' => e = .returned (.int .i64 1) ∧ Below w.heap.size w w' := by
  go_enter Try.func15, Try.ntmps15
  go_wp2
  first
    | (go_ret; exact ⟨rfl, Below.refl _ _⟩)
    | (refine bodyPost_ret (results_none rfl _ _ _) rfl ?_; exact ⟨rfl, Below.refl _ _⟩)
    | exact bodyPost_end (results_none rfl _ _ _) rfl ⟨rfl, Below.refl _ _⟩
theorem trim_nil (n : Int) (w : World) : Calls Try.prog 19 #[.pointer none, .int .u64 n] w fun e w' => e = .returned (.tuple #[]) ∧ Below w.heap.size w w' := by
  go_enter Try.func19, Try.ntmps19
  go_wp2
  first
    | (go_ret; exact ⟨rfl, Below.refl _ _⟩)
    | (refine bodyPost_ret (results_none rfl _ _ _) rfl ?_; exact ⟨rfl, Below.refl _ _⟩)
    | exact bodyPost_end (results_none rfl _ _ _) rfl ⟨rfl, Below.refl _ _⟩
theorem end_nil (w : World) : Calls Try.prog 23 #[.pointer none] w fun e w' => e = .returned (.int .u64 0) ∧ Below w.heap.size w w' := by
  go_enter Try.func23, Try.ntmps23
  go_wp2
  first
    | (go_ret; exact ⟨rfl, Below.refl _ _⟩)
    | (refine bodyPost_ret (results_none rfl _ _ _) rfl ?_; exact ⟨rfl, Below.refl _ _⟩)
    | exact bodyPost_end (results_none rfl _ _ _) rfl ⟨rfl, Below.refl _ _⟩
theorem dur_nil (w : World) : Calls Try.prog 24 #[.pointer none] w fun e w' => e = .returned (.int .u64 0) ∧ Below w.heap.size w w' := by
  go_enter Try.func24, Try.ntmps24
  go_wp2
  first
    | (go_ret; exact ⟨rfl, Below.refl _ _⟩)
    | (refine bodyPost_ret (results_none rfl _ _ _) rfl ?_; exact ⟨rfl, Below.refl _ _⟩)
    | exact bodyPost_end (results_none rfl _ _ _) rfl ⟨rfl, Below.refl _ _⟩
theorem free_nil (w : World) : Calls Try.prog 25 #[.pointer none] w fun e w' => e = .returned (.int .i64 0) ∧ Below w.heap.size w w' := by
  go_enter Try.func25, Try.ntmps25
  go_wp2
  first
    | (go_ret; exact ⟨rfl, Below.refl _ _⟩)
    | (refine bodyPost_ret (results_none rfl _ _ _) rfl ?_; exact ⟨rfl, Below.refl _ _⟩)
    | exact bodyPost_end (results_none rfl _ _ _) rfl ⟨rfl, Below.refl _ _⟩
theorem tail_nil (w : World) : Calls Try.prog 27 #[.pointer none] w fun e w' => e = .returned (.int .u32 0) ∧ Below w.heap.size w w' := by
  go_enter Try.func27, Try.ntmps27
  go_wp2
  first
    | (go_ret; exact ⟨rfl, Below.refl _ _⟩)
    | (refine bodyPost_ret (results_none rfl _ _ _) rfl ?_; exact ⟨rfl, Below.refl _ _⟩)
    | exact bodyPost_end (results_none rfl _ _ _) rfl ⟨rfl, Below.refl _ _⟩
theorem from_nil (n : Int) (w : World) : Calls Try.prog 17 #[.pointer none, .int .u64 n] w fun e w' => e = .returned (.int .u32 0) ∧ Below w.heap.size w w' := by
  go_enter Try.func17, Try.ntmps17
  go_wp2
  first
    | (go_ret; exact ⟨rfl, Below.refl _ _⟩)
    | (refine bodyPost_ret (results_none rfl _ _ _) rfl ?_; exact ⟨rfl, Below.refl _ _⟩)
    | exact bodyPost_end (results_none rfl _ _ _) rfl ⟨rfl, Below.refl _ _⟩
theorem okR_none (a z : Int) : okR a z 0 = false := by
  unfold okR
  by_cases h1 : 0 ≤ a
  · by_cases h2 : 1 ≤ z
    · rw [decide_eq_false (show ¬ a ≤ 0 - z by omega)]; simp
    · rw [decide_eq_false h2]; simp
  · rw [decide_eq_false h1]; rfl
theorem lnew_none (a z ep num fin : Int) (w : World) (hz : -9223372036854775808 ≤ z ∧ z ≤ 9223372036854775807) :
    Calls Try.prog 11 #[.pointer none, .int .i64 a, .int .i64 z, .int .u32 ep, .slice none 0 0, .int .u32 num, .int .u64 fin] w fun e w' => e = .returned (.pointer none) ∧ Below w.heap.size w w' := by
  refine (lnew_nil none a z ep num fin 0 w hz ⟨by omega, by omega⟩ (fun wa _ => size_nil wa)).mono ?_
  rintro e w' ⟨h1, h2, _⟩
  exact ⟨h2 (okR_none a z), h1⟩
set_option maxHeartbeats 2000000 in
theorem scan_none (a z fst : Int) (w : World) (hz : -9223372036854775808 ≤ z ∧ z ≤ 9223372036854775807) :
    Calls Try.prog 34 #[.pointer none, .int .i64 a, .int .i64 z, .int .u32 fst] w fun e w' => e = .returned (.tuple #[.slice none 0 0, .int .i64 1]) ∧ Below w.heap.size w w' := by
  have hz98 := zero98
  have HRT : Hid (∀ wa, Calls Try.prog 42 #[.agg #[.pointer none, .int .i64 a, .int .i64 z]] wa fun e w' => e = .returned (.bool false) ∧ Below wa.heap.size wa w') := fun wa => by
    have := right_any (.pointer none) a z 0 wa hz.2 ⟨by omega, by omega⟩ (fun wb _ => size_nil wb)
    rw [okR_none] at this
    exact this
  have q0 : Row (w.alloc (.cells #[.pointer none, .int .i64 0, .int .i64 0] 98)) w.heap.size #[.pointer none, .int .i64 0, .int .i64 0] 98 := Row.new _ _ _
  have qb : Below w.heap.size w (w.alloc (.cells #[.pointer none, .int .i64 0, .int .i64 0] 98)) := (Below.refl _ _).alloc (Nat.le_refl _) _
  go_enter Try.func34, Try.ntmps34
  go_upto_region 2 with (first
    | (refine build_parts rfl 98 #[(0, .tmp 18), (1, .tmp 19), (2, .tmp 20)] rfl [(0, .pointer none), (1, .int .i64 a), (2, .int .i64 z)] rfl _ (built98 _ a z) ?_)
    | (refine store_cells rfl 98 (.tmp 10) (.tmp 21) rfl w.heap.size #[.pointer none, .int .i64 a, .int .i64 z] rfl rfl 98 _ q0 3 size98 rfl rfl (by simp [Value.oneCell']) ?_))
  have r0 := q0.set #[.pointer none, .int .i64 a, .int .i64 z]
  have rb := below_setRow qb (Nat.le_refl _) #[.pointer none, .int .i64 a, .int .i64 z]
  clear q0 qb
  generalize (w.alloc (.cells #[.pointer none, .int .i64 0, .int .i64 0] 98)).setRow w.heap.size #[.pointer none, .int .i64 a, .int .i64 z] = w1 at r0 rb ⊢
  go_wp2_with (first
    | (refine load_cells rfl 98 (.tmp 10) rfl w.heap.size rfl 98 _ r0 3 Try.underlying98 rfl size98 rfl ?_)
    | (go_at_call 42; refine Calls.mono (HRT.out _) ?_; clear HRT; rintro e w2 ⟨rfl, h2⟩))
  refine bodyPost_ret (results_tmp2 rfl _ _ _) rfl ?_
  exact ⟨rfl, rb.trans (h2.mono rb.size)⟩
end Go.Proofs.Ytgnedbagelhcbaa
