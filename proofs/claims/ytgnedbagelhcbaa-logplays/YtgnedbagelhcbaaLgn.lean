/-
  Proved here: log.New of no starts.
-/
import Derived.Test.YtgnedbagelhcbaaLga
namespace Go.Proofs.Ytgnedbagelhcbaa
open Go.ChangeShapes Go.WideShapes Go.ChangeAt Go.RowKit
set_option linter.unusedVariables false
set_option linter.unusedSimpArgs false
set_option maxRecDepth 20000
theorem built98 (x : Option Addr) (a z : Int) : Try.prog.built 98 [(0, .pointer x), (1, .int .i64 a), (2, .int .i64 z)] = some #[.pointer x, .int .i64 a, .int .i64 z] := by kernel_rfl
theorem built102 (x : Option Addr) (a z ep num fin : Int) : Try.prog.built 102 [(0, .agg #[.pointer x, .int .i64 a, .int .i64 z]), (1, .int .u32 ep), (5, .int .u32 num), (6, .bool true), (7, .int .u64 fin), (8, .int .u64 fin)] = some (lcells (.pointer x) (.slice none 0 0) (.slice none 0 0) ⟨a, z, ep, [], [], ByteArray.empty, num, true, fin, fin⟩) := by kernel_rfl
theorem follow_nil (num fin : Int) (w : World) : Calls Try.prog 43 #[.slice none 0 0, .int .u32 num, .int .u64 fin] w fun e w' => e = .returned (.bool true) ∧ Below w.heap.size w w' := by
  go_enter Try.func43, Try.ntmps43
  go_wp2
  go_loopw [12, 7] (fun i l wr => i = .int .i64 0 ∧ l = .int .u64 0 ∧ Below w.heap.size w wr) (fun _ _ _ => 0)
  case atStart => exact ⟨rfl, rfl, Below.refl _ _⟩
  case round =>
    obtain ⟨rfl, rfl, hb⟩ := hrel
    go_wp2
    go_ret
    exact ⟨rfl, hb⟩
def Made (w : World) (x : Option Addr) (a z ep num fin : Int) (ok : Bool) (e : Ending) (w' : World) : Prop :=
  Below w.heap.size w w' ∧ (ok = false → e = .returned (.pointer none)) ∧ (ok = true → ∃ gl, w.heap.size ≤ gl ∧ e = .returned (.pointer (some ⟨gl, 0, none⟩)) ∧ Row w' gl (lcells (.pointer x) (.slice none 0 0) (.slice none 0 0) ⟨a, z, ep, [], [], ByteArray.empty, num, true, fin, fin⟩) 102)
set_option maxHeartbeats 4000000 in
theorem lnew_nil (x : Option Addr) (a z ep num fin n : Int) (w : World) (hz : -9223372036854775808 ≤ z ∧ z ≤ 9223372036854775807) (hn : 0 ≤ n ∧ n ≤ 2048) (hs : ∀ wa, Below w.heap.size w wa → Calls Try.prog 70 #[.pointer x] wa fun e w' => e = .returned (.int .i64 n) ∧ w' = wa) :
    Calls Try.prog 11 #[.pointer x, .int .i64 a, .int .i64 z, .int .u32 ep, .slice none 0 0, .int .u32 num, .int .u64 fin] w fun e w' => Made w x a z ep num fin (okR a z n) e w' := by
  obtain ⟨PP, HPP⟩ : ∃ PP : Ending → World → Prop, Hid (PP = fun e w' => Made w x a z ep num fin (okR a z n) e w') := ⟨_, rfl⟩
  rw [← HPP.out]
  have hz98 := zero98
  have HRT : Hid (∀ wa, Below w.heap.size w wa → Calls Try.prog 42 #[.agg #[.pointer x, .int .i64 a, .int .i64 z]] wa fun e w' => e = .returned (.bool (okR a z n)) ∧ Below wa.heap.size wa w') := fun wa hb => right_any (.pointer x) a z n wa hz.2 ⟨hn.1, by omega⟩ (fun wb hb' => hs wb (hb.trans (hb'.mono hb.size)))
  have HFO : Hid _ := fun w => follow_nil num fin w
  have q0 : Row (w.alloc (.cells #[.pointer none, .int .i64 0, .int .i64 0] 98)) w.heap.size #[.pointer none, .int .i64 0, .int .i64 0] 98 := Row.new _ _ _
  have qb : Below w.heap.size w (w.alloc (.cells #[.pointer none, .int .i64 0, .int .i64 0] 98)) := (Below.refl _ _).alloc (Nat.le_refl _) _
  go_enter Try.func11, Try.ntmps11
  go_upto_region 2 with (first
  | (refine build_parts rfl 98 #[(0, .tmp 19), (1, .tmp 20), (2, .tmp 21)] rfl [(0, .pointer x), (1, .int .i64 a), (2, .int .i64 z)] rfl _ (built98 x a z) ?_)
  | (refine store_cells rfl 98 (.tmp 15) (.tmp 22) rfl w.heap.size #[.pointer x, .int .i64 a, .int .i64 z] rfl rfl 98 _ q0 3 size98 rfl rfl (by simp [Value.oneCell']) ?_))
  have r0 := q0.set #[.pointer x, .int .i64 a, .int .i64 z]
  have rb := below_setRow qb (Nat.le_refl _) #[.pointer x, .int .i64 a, .int .i64 z]
  clear q0 qb
  generalize (w.alloc (.cells #[.pointer none, .int .i64 0, .int .i64 0] 98)).setRow w.heap.size #[.pointer x, .int .i64 a, .int .i64 z] = w1 at r0 rb ⊢
  cases hk : okR a z n with
  | false =>
    have HK : Hid (∀ w', Below w.heap.size w w' → PP (.returned (.pointer none)) w') := fun w' h => by rw [HPP.out, hk]; exact ⟨h, fun _ => rfl, (fun h' => by cases h')⟩
    rw [hk] at HRT
    clear hk
    go_wp2_with (first
      | (refine load_cells rfl 98 (.tmp 15) rfl w.heap.size rfl 98 _ r0 3 Try.underlying98 rfl size98 rfl ?_)
      | (go_at_call 42; refine (HRT.out _ rb).mono ?_; clear HRT; rintro e w2 ⟨rfl, h2⟩))
    try go_ret
    exact HK.out _ (rb.trans (h2.mono rb.size))
  | true =>
    have h1 : 1 ≤ z := by unfold okR at hk; simp only [Bool.and_eq_true, decide_eq_true_eq] at hk; exact hk.2.1
    have hz0 : ¬ (0 : Int) > z := by omega
    have hz0' : ¬ z < 0 := by omega
    have HK : Hid (∀ w' gl, w.heap.size ≤ gl → Below w.heap.size w w' → Row w' gl (lcells (.pointer x) (.slice none 0 0) (.slice none 0 0) ⟨a, z, ep, [], [], ByteArray.empty, num, true, fin, fin⟩) 102 → PP (.returned (.pointer (some ⟨gl, 0, none⟩))) w') := fun w' gl hg h hr => by rw [HPP.out, hk]; exact ⟨h, (fun h' => by cases h'), fun _ => ⟨gl, hg, rfl, hr⟩⟩
    rw [hk] at HRT
    clear hk
    go_upto_region 4 with (first
      | (refine load_cells rfl 98 (.tmp 15) rfl w.heap.size rfl 98 _ r0 3 Try.underlying98 rfl size98 rfl ?_)
      | (go_at_call 42; refine (HRT.out _ rb).mono ?_; clear HRT; rintro e w2 ⟨rfl, h2⟩
         have s0 := r0.below h2 r0.lt
         have sb := rb.trans (h2.mono rb.size))
      | (go_at_call 43; refine (HFO.out _).mono ?_; clear HFO; rintro e w3 ⟨rfl, h3⟩
         have t0 := s0.below h3 s0.lt
         have tb := sb.trans (h3.mono sb.size)))
    go_upto_region 5 with (first
      | (refine load_cells rfl 98 (.tmp 15) rfl w.heap.size rfl 98 _ t0 3 Try.underlying98 rfl size98 rfl ?_)
      | (refine build_parts rfl 102 #[(0, .tmp 39), (1, .tmp 40), (5, .tmp 41), (6, .const (.bool true)), (7, .tmp 42), (8, .tmp 43)] rfl [(0, .agg #[.pointer x, .int .i64 a, .int .i64 z]), (1, .int .u32 ep), (5, .int .u32 num), (6, .bool true), (7, .int .u64 fin), (8, .int .u64 fin)] rfl _ (built102 x a z ep num fin) ?_))
    have u1 : Row (w3.alloc (.cells (lcells (.pointer x) (.slice none 0 0) (.slice none 0 0) ⟨a, z, ep, [], [], ByteArray.empty, num, true, fin, fin⟩) 102)) w3.heap.size (lcells (.pointer x) (.slice none 0 0) (.slice none 0 0) ⟨a, z, ep, [], [], ByteArray.empty, num, true, fin, fin⟩) 102 := Row.new _ _ _
    have ub := tb.alloc tb.size (.cells (lcells (.pointer x) (.slice none 0 0) (.slice none 0 0) ⟨a, z, ep, [], [], ByteArray.empty, num, true, fin, fin⟩) 102)
    have hle := tb.size
    clear r0 rb s0 sb t0 tb h2 h3
    generalize w3.alloc (.cells (lcells (.pointer x) (.slice none 0 0) (.slice none 0 0) ⟨a, z, ep, [], [], ByteArray.empty, num, true, fin, fin⟩) 102) = w4 at u1 ub ⊢
    generalize w3.heap.size = gl at u1 hle ⊢
    go_wp2
    go_loopw [48] (fun i wr => i = .int .i64 0 ∧ Row wr gl (lcells (.pointer x) (.slice none 0 0) (.slice none 0 0) ⟨a, z, ep, [], [], ByteArray.empty, num, true, fin, fin⟩) 102 ∧ Below w.heap.size w wr) (fun _ _ => 0)
    case atStart => exact ⟨rfl, u1, ub⟩
    case round =>
      clear u1 ub
      obtain ⟨rfl, u1, ub⟩ := hrel
      go_wp2
      try go_ret
      exact HK.out _ _ hle ub u1
end Go.Proofs.Ytgnedbagelhcbaa
