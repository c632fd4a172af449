/-
  Proved here: a reader that takes bools, references and texts (rec.reader.flag, ref, sized).
-/
import Derived.Test.YtihjapfgllokgaaRdr
namespace Go.Proofs.Ytihjapfgllokgaa
open Go.ChangeShapes Go.WideShapes Go.ChangeAt Go.RowKit
set_option linter.unusedVariables false
set_option linter.unusedSimpArgs false

theorem pN_some {s : ByteArray} {n a : Nat} {v : Int} {b : Nat} (h : pN s n a = some (v, b)) : v = getN s a n ∧ b = a + n ∧ a + n ≤ s.size := by
  unfold pN at h
  split at h
  · rename_i q
    simp at h; exact ⟨h.1.symm, h.2.symm, q⟩
  · cases h
theorem pN_fits {s : ByteArray} {n a : Nat} {v : Int} {b : Nat} (h : pN s n a = some (v, b)) : 0 ≤ v ∧ v < 2 ^ (8 * n) := by rw [(pN_some h).1]; exact getN_fits s a n
theorem size29 : (Try.prog.info? 29).map (·.size) = some 2 := by kernel_rfl
theorem Rd.other {w : World} {g k : Nat} {s : ByteArray} {a : Nat} (h : Rd w g s a) (hk : g ≠ k) (cs : Array Value) : Rd (w.setRow k cs) g s a := Row.other h hk cs
theorem Rd.lt {w : World} {g : Nat} {s : ByteArray} {a : Nat} (h : Rd w g s a) : g < w.heap.size := Row.lt h
/-- A block that is new, set anew. -/
theorem grown_setRow {w w' : World} {g : Nat} (h : w.grownBy w' (some g)) (hg : g < w.heap.size) {k : Nat} (hk : w.heap.size ≤ k) (cs : Array Value) : w.grownBy (w'.setRow k cs) (some g) :=
  ⟨h.os, h.tape, h.output, by rw [size_setRow]; exact h.size, fun i hi hr => by rw [setRow_other w' k i cs (by omega)]; exact h.block i hi hr⟩
def pFlag (s : ByteArray) (a : Nat) : Option (Bool × Nat) :=
  match pN s 1 a with
  | some (v, b) => if v ≤ 1 then some (decide (v = 1), b) else none
  | none => none
def pRef (s : ByteArray) (a : Nat) : Option ((Int × Int) × Nat) :=
  match pN s 2 a with
  | some (p, b) => match pN s 1 b with
    | some (q, c) => some ((p, q), c)
    | none => none
  | none => none
def pSized (s : ByteArray) (most a : Nat) : Option (ByteArray × Nat) :=
  match pN s 1 a with
  | some (n, b) => if n ≤ (most : Int) ∧ n ≤ (s.size : Int) - b then some (s.extract b (b + n.toNat), b + n.toNat) else none
  | none => none
def eB (v : Bool) : Value := .bool v
def eR (v : Int × Int) : Value := .agg #[.int .u16 v.1, .int .u8 v.2]
def eS (v : ByteArray) : Value := .string v
set_option maxHeartbeats 1000000 in
theorem flag_read (g : Nat) (s : ByteArray) (a : Nat) (w : World) (h : Rd w g s a) (hs : s.size ≤ maxLen) (ha : a ≤ 100000) :
    Calls Try.prog 67 #[.pointer (some ⟨g, 0, none⟩)] w fun e w' => Got w g s eB (pFlag s a) e w' := by
  have HMU : Hid _ := fun b w => must_any (.pointer (some ⟨g, 0, none⟩)) b w
  have HN : Hid _ := fun w r => number_any g s a 1 w r hs ha (by decide)
  obtain ⟨PP, HP⟩ : ∃ P : Ending → World → Prop, Hid (P = fun e w' => Got w g s eB (pFlag s a) e w') := ⟨_, rfl⟩
  rw [show (fun e w' => Got w g s eB (pFlag s a) e w') = PP from HP.out.symm]
  cases hq : pN s 1 a with
  | none =>
    rw [hq] at HN
    have HRN : Hid (∀ w', w.grownBy w' (some g) → PP (.panicked gup) w') := fun w' gr => by
      rw [HP.out]; simp only [show pFlag s a = none from by unfold pFlag; rw [hq]]; exact ⟨rfl, gr⟩
    go_enter Try.func67, Try.ntmps67
    go_wp2_with (go_at_call 66; refine (HN.out _ h).mono ?_; clear HN; rintro e w1 ⟨rfl, gr_w1⟩)
    exact ⟨rfl, HRN.out _ gr_w1⟩
  | some x =>
    obtain ⟨v, b⟩ := x
    rw [hq] at HN
    have fv := pN_fits hq
    by_cases hv : v ≤ 1
    · have HRS : Hid (∀ w', Rd w' g s b → w.grownBy w' (some g) → PP (.returned (.bool (decide (v = 1)))) w') := fun w' r gr => by
        rw [HP.out]; simp only [show pFlag s a = some (decide (v = 1), b) from by unfold pFlag; rw [hq]; simp only [if_pos hv]]; exact ⟨rfl, r, gr⟩
      by_cases h1 : v = 1
      · have h1' : (v == 1) = true := by simp [h1]
        rw [decide_eq_true h1] at HRS
        clear h1
        unfold eN at HN
        go_enter Try.func67, Try.ntmps67
        go_wp2_with (first
          | (go_at_call 66; refine (HN.out _ h).mono ?_; clear HN; rintro e w1 ⟨rfl, r_w1, gr_w1⟩)
          | (go_at_call 47; refine (HMU.out _ _).mono ?_; clear HMU; rintro e wm ⟨he, rfl⟩; obtain rfl := he))
        exact HRS.out _ r_w1 gr_w1
      · have h1' : (v == 1) = false := by simp [h1]
        rw [decide_eq_false h1] at HRS
        clear h1
        unfold eN at HN
        go_enter Try.func67, Try.ntmps67
        go_wp2_with (first
          | (go_at_call 66; refine (HN.out _ h).mono ?_; clear HN; rintro e w1 ⟨rfl, r_w1, gr_w1⟩)
          | (go_at_call 47; refine (HMU.out _ _).mono ?_; clear HMU; rintro e wm ⟨he, rfl⟩; obtain rfl := he))
        exact HRS.out _ r_w1 gr_w1
    · have HRN : Hid (∀ w', w.grownBy w' (some g) → PP (.panicked gup) w') := fun w' gr => by
        rw [HP.out]; simp only [show pFlag s a = none from by unfold pFlag; rw [hq]; simp only [if_neg hv]]; exact ⟨rfl, gr⟩
      unfold eN at HN
      go_enter Try.func67, Try.ntmps67
      go_wp2_with (first
        | (go_at_call 66; refine (HN.out _ h).mono ?_; clear HN; rintro e w1 ⟨rfl, r_w1, gr_w1⟩)
        | (go_at_call 47; refine (HMU.out _ _).mono ?_; clear HMU; rintro e wm ⟨he, rfl⟩; rw [if_neg (by simpa using hv)] at he; obtain rfl := he))
      exact ⟨rfl, HRN.out _ gr_w1⟩
set_option maxHeartbeats 1000000 in
theorem ref_read (g : Nat) (s : ByteArray) (a : Nat) (w : World) (h : Rd w g s a) (hs : s.size ≤ maxLen) (ha : a ≤ 90000) :
    Calls Try.prog 69 #[.pointer (some ⟨g, 0, none⟩)] w fun e w' => Got w g s eR (pRef s a) e w' := by
  have hgl := h.lt
  have hz : ∀ w, (zeroValue 29).run Try.prog w = .ok (.agg #[.int .u16 0, .int .u8 0]) w := fun w => (zero_of_info (P := Try.prog) (t := 29) (v := .agg #[.int .u16 0, .int .u8 0]) (n := 2) (by kernel_rfl)).1 w
  have r0 : Rd (w.alloc (.cells #[.int .u16 0, .int .u8 0] 29)) g s a := Row.alloc h _
  have x0 : Row (w.alloc (.cells #[.int .u16 0, .int .u8 0] 29)) w.heap.size #[.int .u16 0, .int .u8 0] 29 := Row.new _ _ _
  have gr0 : w.grownBy (w.alloc (.cells #[.int .u16 0, .int .u8 0] 29)) (some g) := World.grownBy_alloc w _ _
  have HN : Hid _ := fun w r => number_any g s a 2 w r hs (by omega) (by decide)
  obtain ⟨PP, HP⟩ : ∃ P : Ending → World → Prop, Hid (P = fun e w' => Got w g s eR (pRef s a) e w') := ⟨_, rfl⟩
  rw [show (fun e w' => Got w g s eR (pRef s a) e w') = PP from HP.out.symm]
  unfold eN at HN
  cases hq : pN s 2 a with
  | none =>
    rw [hq] at HN
    have HRN : Hid (∀ w', w.grownBy w' (some g) → PP (.panicked gup) w') := fun w' gr => by
      rw [HP.out]; simp only [show pRef s a = none from by unfold pRef; rw [hq]]; exact ⟨rfl, gr⟩
    go_enter Try.func69, Try.ntmps69
    go_upto_region 1 with fail
    generalize w.alloc (.cells #[.int .u16 0, .int .u8 0] 29) = w9 at r0 x0 gr0 ⊢
    go_wp2_with (go_at_call 66; refine (HN.out _ r0).mono ?_; clear HN; rintro e w1 ⟨rfl, gr_w1⟩)
    exact ⟨rfl, HRN.out _ (grown_trans gr0 gr_w1)⟩
  | some x =>
    obtain ⟨p, b⟩ := x
    rw [hq] at HN
    have fv := pN_fits hq
    have hb := (pN_some hq).2.1
    have e1 : p % 65536 = p := by have : (2 : Int) ^ (8 * 2) = 65536 := by decide
                                  omega
    have HN2 : Hid _ := fun w r => number_any g s b 1 w r hs (by omega) (by decide)
    unfold eN at HN2
    cases hq2 : pN s 1 b with
    | none =>
      rw [hq2] at HN2
      have HRN : Hid (∀ w', w.grownBy w' (some g) → PP (.panicked gup) w') := fun w' gr => by
        rw [HP.out]; simp only [show pRef s a = none from by unfold pRef; simp only [hq, hq2]]; exact ⟨rfl, gr⟩
      clear hb
      go_enter Try.func69, Try.ntmps69
      go_upto_region 1 with fail
      generalize w.alloc (.cells #[.int .u16 0, .int .u8 0] 29) = w9 at r0 x0 gr0 ⊢
      go_upto_region 2 with (go_at_call 66; refine (HN.out _ r0).mono ?_; clear HN; rintro e w1 ⟨rfl, r_w1, gr_w1⟩)
      go_wp2_with (go_at_call 66; refine (HN2.out _ r_w1).mono ?_; clear HN2; rintro e w2 ⟨rfl, gr_w2⟩)
      exact ⟨rfl, HRN.out _ (grown_trans (grown_trans gr0 gr_w1) gr_w2)⟩
    | some y =>
      obtain ⟨q, c⟩ := y
      rw [hq2] at HN2
      have fv2 := pN_fits hq2
      have e2 : q % 256 = q := by have : (2 : Int) ^ (8 * 1) = 256 := by decide
                                  omega
      have HRS : Hid (∀ w', Rd w' g s c → w.grownBy w' (some g) → PP (.returned (.agg #[.int .u16 p, .int .u8 q])) w') := fun w' r gr => by
        rw [HP.out]; simp only [show pRef s a = some ((p, q), c) from by unfold pRef; simp only [hq, hq2]]; exact ⟨rfl, r, gr⟩
      clear hb fv fv2
      have hb29 : (Try.prog.built 29 [(0, .int .u16 p), (1, .int .u8 q)]) = some #[.int .u16 p, .int .u8 q] := by kernel_rfl
      go_enter Try.func69, Try.ntmps69
      go_upto_region 1 with fail
      generalize w.alloc (.cells #[.int .u16 0, .int .u8 0] 29) = w9 at r0 x0 gr0 ⊢
      go_upto_region 2 with (go_at_call 66; refine (HN.out _ r0).mono ?_; clear HN; rintro e w1 ⟨rfl, r_w1, gr_w1⟩)
      have x1 := Row.grown x0 gr_w1 (fun q => by cases q; omega)
      go_wp2_with (first
        | (go_at_call 66; refine (HN2.out _ r_w1).mono ?_; clear HN2; rintro e w2 ⟨rfl, r_w2, gr_w2⟩; have x2 := Row.grown x1 gr_w2 (fun q => by cases q; omega))
        | (refine build_parts rfl 29 #[(0, .tmp 7), (1, .tmp 10)] rfl [(0, .int .u16 p), (1, .int .u8 q)] rfl _ hb29 ?_)
        | (refine store_cells rfl 29 (.tmp 2) (.tmp 11) rfl w.heap.size #[.int .u16 p, .int .u8 q] rfl rfl 29 _ x2 2 size29 rfl rfl (by simp [Value.oneCell']) ?_))
      refine bodyPost_ret (v := .agg #[.int .u16 p, .int .u8 q]) ?_ rfl ?_
      · exact ret_cell (fn := Try.f69) rfl _ _ w.heap.size 29 #[.int .u16 p, .int .u8 q] _ rfl (x2.set _) Try.underlying29 rfl size29
      · exact HRS.out _ (r_w2.other (by omega) _) (grown_setRow (grown_trans (grown_trans gr0 gr_w1) gr_w2) hgl (Nat.le_refl _) _)
set_option maxHeartbeats 2000000 in
theorem sized_read (g : Nat) (s : ByteArray) (most a : Nat) (w : World) (h : Rd w g s a) (hs : s.size ≤ maxLen) (ha : a ≤ 90000) (hm : most ≤ 255) :
    Calls Try.prog 70 #[.pointer (some ⟨g, 0, none⟩), .int .i64 most] w fun e w' => Got w g s eS (pSized s most a) e w' := by
  have HMU : Hid _ := fun b w => must_any (.pointer (some ⟨g, 0, none⟩)) b w
  have HN : Hid _ := fun w r => number_any g s a 1 w r hs (by omega) (by decide)
  unfold eN at HN
  unfold maxLen at hs
  obtain ⟨PP, HP⟩ : ∃ P : Ending → World → Prop, Hid (P = fun e w' => Got w g s eS (pSized s most a) e w') := ⟨_, rfl⟩
  rw [show (fun e w' => Got w g s eS (pSized s most a) e w') = PP from HP.out.symm]
  cases hq : pN s 1 a with
  | none =>
    rw [hq] at HN
    have HRN : Hid (∀ w', w.grownBy w' (some g) → PP (.panicked gup) w') := fun w' gr => by
      rw [HP.out]; simp only [show pSized s most a = none from by unfold pSized; rw [hq]]; exact ⟨rfl, gr⟩
    go_enter Try.func70, Try.ntmps70
    go_wp2_with (go_at_call 66; refine (HN.out _ h).mono ?_; clear HN; rintro e w1 ⟨rfl, gr_w1⟩)
    exact ⟨rfl, HRN.out _ gr_w1⟩
  | some x =>
    obtain ⟨n, b⟩ := x
    rw [hq] at HN
    have fv := pN_fits hq
    have e256 : (2 : Int) ^ (8 * 1) = 256 := by decide
    rw [e256] at fv
    have hbb := (pN_some hq).2
    have hn63 : IntKind.i64.wrap n = n := by rw [IntKind.wrap_i64]; omega
    have hb1 : b ≤ 100000 := by omega
    have hb2 : b ≤ s.size := by omega
    have hw2 : IntKind.i64.wrap ((s.size : Int) - (b : Int)) = (s.size : Int) - (b : Int) := by rw [IntKind.wrap_i64]; omega
    clear hbb e256
    by_cases c1 : n ≤ (most : Int)
    · by_cases c2 : n ≤ (s.size : Int) - b
      · obtain ⟨N, hN⟩ : ∃ N : Nat, n = N := ⟨n.toNat, by omega⟩
        obtain ⟨X, HX⟩ : ∃ X, Hid (s.extract b (b + N) = X) := ⟨_, rfl⟩
        have hx := HX.out
        have HRS : Hid (∀ w', Rd w' g s (b + N) → w.grownBy w' (some g) → PP (.returned (.string X)) w') := fun w' r gr => by
          rw [HP.out]; simp only [show pSized s most a = some (X, (b + N)) from by unfold pSized; rw [hq]; simp only [if_pos (And.intro c1 c2)]; rw [hN, Int.toNat_natCast, hx]]; exact ⟨rfl, r, gr⟩
        subst hN
        go_enter Try.func70, Try.ntmps70
        go_upto_region 2 with (go_at_call 66; refine (HN.out _ h).mono ?_; clear HN; rintro e w1 ⟨rfl, r_w1, gr_w1⟩)
        refine wp_region_held_drew (S := fun w' => Row w' g #[.string s, .int .i64 (b : Nat)] 66 ∧ Below w1.heap.size w1 w') (by kernel_rfl) ⟨r_w1, (Below.refl w1.heap.size w1).drew⟩ fun hS => ?_
        refine wpAnyH_take (i := 0) (v := .pointer (some ⟨g, 0, none⟩)) rfl (by kernel_rfl) (by kernel_rfl) (by kernel_rfl) (fun _ _ _ h => h) (Or.inl ⟨by rfl, fun w _ => by go_simp⟩) hS ?_
        try simp only [Act.put, List.getElem_toArray, List.getElem_cons_zero, List.getElem_cons_succ, List.setIfInBounds_toArray, List.set_cons_zero, List.set_cons_succ]
        refine wpAnyH_take (i := 1) (v := .int .i64 (N : Nat)) rfl (by kernel_rfl) (by kernel_rfl) (by kernel_rfl) (fun _ _ _ h => h) (Or.inl ⟨by rfl, fun w _ => by go_simp⟩) hS ?_
        try simp only [Act.put, List.getElem_toArray, List.getElem_cons_zero, List.getElem_cons_succ, List.setIfInBounds_toArray, List.set_cons_zero, List.set_cons_succ]
        refine wpAnyH_take (i := 2) (v := .int .i64 (most : Nat)) rfl (by kernel_rfl) (by kernel_rfl) (by kernel_rfl) (fun _ _ _ h => h) (Or.inl ⟨by rfl, fun w _ => by go_simp⟩) hS ?_
        try simp only [Act.put, List.getElem_toArray, List.getElem_cons_zero, List.getElem_cons_succ, List.setIfInBounds_toArray, List.set_cons_zero, List.set_cons_succ]
        refine wpAnyH_take (i := 3) (v := .bool true) rfl (by kernel_rfl) (by kernel_rfl) (by kernel_rfl) (fun _ _ _ h => h) (Or.inl ⟨by rfl, fun w _ => by go_simp⟩) hS ?_
        try simp only [Act.put, List.getElem_toArray, List.getElem_cons_zero, List.getElem_cons_succ, List.setIfInBounds_toArray, List.set_cons_zero, List.set_cons_succ]
        refine wpAnyH_take (i := 4) (v := .bool true) rfl (by kernel_rfl) (by kernel_rfl) (by kernel_rfl) (fun _ _ _ h => h) (Or.inl ⟨by rfl, fun w _ => by go_simp⟩) hS ?_
        try simp only [Act.put, List.getElem_toArray, List.getElem_cons_zero, List.getElem_cons_succ, List.setIfInBounds_toArray, List.set_cons_zero, List.set_cons_succ]
        refine wpAnyH_take (i := 5) (v := .int .i64 (N : Nat)) rfl (by kernel_rfl) (by kernel_rfl) (by kernel_rfl) (fun _ _ _ h => h) (Or.inl ⟨by rfl, fun w _ => by go_simp⟩) hS ?_
        try simp only [Act.put, List.getElem_toArray, List.getElem_cons_zero, List.getElem_cons_succ, List.setIfInBounds_toArray, List.set_cons_zero, List.set_cons_succ]
        refine wpAnyH_take (i := 6) (v := .pointer (some ⟨g, 0, none⟩)) rfl (by kernel_rfl) (by kernel_rfl) (by kernel_rfl) (fun _ _ _ h => h) (Or.inl ⟨by rfl, fun w _ => by go_simp⟩) hS ?_
        try simp only [Act.put, List.getElem_toArray, List.getElem_cons_zero, List.getElem_cons_succ, List.setIfInBounds_toArray, List.set_cons_zero, List.set_cons_succ]
        refine wpAnyH_take (i := 7) (v := .pointer (some ⟨g, 0, none⟩)) rfl (by kernel_rfl) (by kernel_rfl) (by kernel_rfl) (fun _ _ _ h => h) (Or.inl ⟨by rfl, fun w _ => by go_simp⟩) hS ?_
        try simp only [Act.put, List.getElem_toArray, List.getElem_cons_zero, List.getElem_cons_succ, List.setIfInBounds_toArray, List.set_cons_zero, List.set_cons_succ]
        refine wpAnyH_take (i := 8) (v := .pointer (some ⟨g, 0, none⟩)) rfl (by kernel_rfl) (by kernel_rfl) (by kernel_rfl) (fun _ _ _ h => h) (Or.inl ⟨by rfl, fun w _ => by go_simp⟩) hS ?_
        try simp only [Act.put, List.getElem_toArray, List.getElem_cons_zero, List.getElem_cons_succ, List.setIfInBounds_toArray, List.set_cons_zero, List.set_cons_succ]
        refine wpAnyH_take (i := 9) (v := .string s) rfl (by kernel_rfl) (by kernel_rfl) (by kernel_rfl) (fun _ _ _ h => h) (Or.inl ⟨by rfl, fun w h => by have c := row_at h.1 0 _ rfl; go_simp⟩) hS ?_
        try simp only [Act.put, List.getElem_toArray, List.getElem_cons_zero, List.getElem_cons_succ, List.setIfInBounds_toArray, List.set_cons_zero, List.set_cons_succ]
        refine wpAnyH_take (i := 10) (v := .int .i64 s.size) rfl (by kernel_rfl) (by kernel_rfl) (by kernel_rfl) (fun _ _ _ h => h) (Or.inl ⟨by rfl, fun w _ => by go_simp⟩) hS ?_
        try simp only [Act.put, List.getElem_toArray, List.getElem_cons_zero, List.getElem_cons_succ, List.setIfInBounds_toArray, List.set_cons_zero, List.set_cons_succ]
        refine wpAnyH_take (i := 11) (v := .pointer (some ⟨g, 0, none⟩)) rfl (by kernel_rfl) (by kernel_rfl) (by kernel_rfl) (fun _ _ _ h => h) (Or.inl ⟨by rfl, fun w _ => by go_simp⟩) hS ?_
        try simp only [Act.put, List.getElem_toArray, List.getElem_cons_zero, List.getElem_cons_succ, List.setIfInBounds_toArray, List.set_cons_zero, List.set_cons_succ]
        refine wpAnyH_take (i := 12) (v := .pointer (some ⟨g, 0, none⟩)) rfl (by kernel_rfl) (by kernel_rfl) (by kernel_rfl) (fun _ _ _ h => h) (Or.inl ⟨by rfl, fun w _ => by go_simp⟩) hS ?_
        try simp only [Act.put, List.getElem_toArray, List.getElem_cons_zero, List.getElem_cons_succ, List.setIfInBounds_toArray, List.set_cons_zero, List.set_cons_succ]
        refine wpAnyH_take (i := 13) (v := .pointer (some ⟨g, 1, none⟩)) rfl (by kernel_rfl) (by kernel_rfl) (by kernel_rfl) (fun _ _ _ h => h) (Or.inl ⟨by rfl, fun w _ => by go_simp⟩) hS ?_
        try simp only [Act.put, List.getElem_toArray, List.getElem_cons_zero, List.getElem_cons_succ, List.setIfInBounds_toArray, List.set_cons_zero, List.set_cons_succ]
        refine wpAnyH_take (i := 14) (v := .int .i64 (b : Nat)) rfl (by kernel_rfl) (by kernel_rfl) (by kernel_rfl) (fun _ _ _ h => h) (Or.inl ⟨by rfl, fun w h => by have c := row_at h.1 1 _ rfl; go_simp⟩) hS ?_
        try simp only [Act.put, List.getElem_toArray, List.getElem_cons_zero, List.getElem_cons_succ, List.setIfInBounds_toArray, List.set_cons_zero, List.set_cons_succ]
        refine wpAnyH_take (i := 15) (v := .int .i64 ((s.size : Int) - (b : Nat))) rfl (by kernel_rfl) (by kernel_rfl) (by kernel_rfl) (fun _ _ _ h => h) (Or.inl ⟨by rfl, fun w _ => by go_simp⟩) hS ?_
        try simp only [Act.put, List.getElem_toArray, List.getElem_cons_zero, List.getElem_cons_succ, List.setIfInBounds_toArray, List.set_cons_zero, List.set_cons_succ]
        refine wpAnyH_take (i := 16) (v := .bool true) rfl (by kernel_rfl) (by kernel_rfl) (by kernel_rfl) (fun _ _ _ h => h) (Or.inl ⟨by rfl, fun w _ => by go_simp⟩) hS ?_
        try simp only [Act.put, List.getElem_toArray, List.getElem_cons_zero, List.getElem_cons_succ, List.setIfInBounds_toArray, List.set_cons_zero, List.set_cons_succ]
        refine wpAnyH_take (i := 17) (v := .bool true) rfl (by kernel_rfl) (by kernel_rfl) (by kernel_rfl) (fun _ _ _ h => h) (Or.inl ⟨by rfl, fun w _ => by go_simp⟩) hS ?_
        try simp only [Act.put, List.getElem_toArray, List.getElem_cons_zero, List.getElem_cons_succ, List.setIfInBounds_toArray, List.set_cons_zero, List.set_cons_succ]
        refine wpAnyH_ready (rs := [18]) (by kernel_rfl) (by simp) ?_
        refine AllReadyH.cons rfl (fun K hK => ?_) AllReadyH.nil
        go_simp
        go_at_call 47
        refine Calls.mono (HMU.out _ _) ?_
        rintro e wm ⟨he, hww⟩
        obtain rfl := he
        subst hww
        refine hK.out _ _ hS fun hS => ?_
        try simp only [Act.put, List.getElem_toArray, List.getElem_cons_zero, List.getElem_cons_succ, List.setIfInBounds_toArray, List.set_cons_zero, List.set_cons_succ]
        refine wpAnyH_done (by kernel_rfl) ?_ _
        have y0 := hS.1
        have gr1 := grown_below gr_w1 hS.2
        have d0 := row_at y0 0 _ rfl
        have d1 := row_at y0 1 _ rfl
        have f1 := row_frozen y0 1
        clear hS r_w1 gr_w1
        go_upto_region 5 with fail
        have rq0 := row_set y0 1 (.int .i64 ((b : Int) + N))
        have grq := grown_trans gr1 (grown_setCell _ g 1 (.int .i64 ((b : Int) + N)))
        clear d0 d1 f1 y0 gr1
        obtain ⟨M, hM⟩ : ∃ M : Nat, b + N = M := ⟨_, rfl⟩
        have rq : Rd (w1.setCell ⟨g, 1, none⟩ (.int .i64 ((b : Int) + N))).drew g s M := by
          unfold Rd
          rw [show ((M : Nat) : Int) = (b : Int) + N by omega]
          exact rq0
        have grq' : w.grownBy (w1.setCell ⟨g, 1, none⟩ (.int .i64 ((b : Int) + N))).drew (some g) := grq
        clear rq0 grq
        have grq := grq'
        clear grq'
        generalize (w1.setCell ⟨g, 1, none⟩ (.int .i64 ((b : Int) + N))).drew = wq at rq grq ⊢
        rw [hM] at hx HRS
        have hsl1 : (b : Int) ≤ (M : Int) := by omega
        have hsl2 : (M : Int) ≤ (s.size : Int) := by omega
        clear hM
        refine wp_region_held_drew (S := fun w' => Row w' g #[.string s, .int .i64 (M : Nat)] 66 ∧ Below wq.heap.size wq w') (by kernel_rfl) ⟨rq, (Below.refl wq.heap.size wq).drew⟩ fun hS => ?_
        refine wpAnyH_take (i := 0) (v := .pointer (some ⟨g, 0, none⟩)) rfl (by kernel_rfl) (by kernel_rfl) (by kernel_rfl) (fun _ _ _ h => h) (Or.inl ⟨by rfl, fun w _ => by go_simp⟩) hS ?_
        try simp only [Act.put, List.getElem_toArray, List.getElem_cons_zero, List.getElem_cons_succ, List.setIfInBounds_toArray, List.set_cons_zero, List.set_cons_succ]
        refine wpAnyH_take (i := 1) (v := .pointer (some ⟨g, 0, none⟩)) rfl (by kernel_rfl) (by kernel_rfl) (by kernel_rfl) (fun _ _ _ h => h) (Or.inl ⟨by rfl, fun w _ => by go_simp⟩) hS ?_
        try simp only [Act.put, List.getElem_toArray, List.getElem_cons_zero, List.getElem_cons_succ, List.setIfInBounds_toArray, List.set_cons_zero, List.set_cons_succ]
        refine wpAnyH_take (i := 2) (v := .pointer (some ⟨g, 0, none⟩)) rfl (by kernel_rfl) (by kernel_rfl) (by kernel_rfl) (fun _ _ _ h => h) (Or.inl ⟨by rfl, fun w _ => by go_simp⟩) hS ?_
        try simp only [Act.put, List.getElem_toArray, List.getElem_cons_zero, List.getElem_cons_succ, List.setIfInBounds_toArray, List.set_cons_zero, List.set_cons_succ]
        refine wpAnyH_take (i := 3) (v := .string s) rfl (by kernel_rfl) (by kernel_rfl) (by kernel_rfl) (fun _ _ _ h => h) (Or.inl ⟨by rfl, fun w h => by have c := row_at h.1 0 _ rfl; go_simp⟩) hS ?_
        try simp only [Act.put, List.getElem_toArray, List.getElem_cons_zero, List.getElem_cons_succ, List.setIfInBounds_toArray, List.set_cons_zero, List.set_cons_succ]
        refine wpAnyH_take (i := 4) (v := .int .i64 (b : Nat)) rfl (by kernel_rfl) (by kernel_rfl) (by kernel_rfl) (fun _ _ _ h => h) (Or.inl ⟨by rfl, fun w _ => by go_simp⟩) hS ?_
        try simp only [Act.put, List.getElem_toArray, List.getElem_cons_zero, List.getElem_cons_succ, List.setIfInBounds_toArray, List.set_cons_zero, List.set_cons_succ]
        refine wpAnyH_take (i := 5) (v := .pointer (some ⟨g, 0, none⟩)) rfl (by kernel_rfl) (by kernel_rfl) (by kernel_rfl) (fun _ _ _ h => h) (Or.inl ⟨by rfl, fun w _ => by go_simp⟩) hS ?_
        try simp only [Act.put, List.getElem_toArray, List.getElem_cons_zero, List.getElem_cons_succ, List.setIfInBounds_toArray, List.set_cons_zero, List.set_cons_succ]
        refine wpAnyH_take (i := 6) (v := .pointer (some ⟨g, 0, none⟩)) rfl (by kernel_rfl) (by kernel_rfl) (by kernel_rfl) (fun _ _ _ h => h) (Or.inl ⟨by rfl, fun w _ => by go_simp⟩) hS ?_
        try simp only [Act.put, List.getElem_toArray, List.getElem_cons_zero, List.getElem_cons_succ, List.setIfInBounds_toArray, List.set_cons_zero, List.set_cons_succ]
        refine wpAnyH_take (i := 7) (v := .pointer (some ⟨g, 1, none⟩)) rfl (by kernel_rfl) (by kernel_rfl) (by kernel_rfl) (fun _ _ _ h => h) (Or.inl ⟨by rfl, fun w _ => by go_simp⟩) hS ?_
        try simp only [Act.put, List.getElem_toArray, List.getElem_cons_zero, List.getElem_cons_succ, List.setIfInBounds_toArray, List.set_cons_zero, List.set_cons_succ]
        refine wpAnyH_take (i := 8) (v := .int .i64 (M : Nat)) rfl (by kernel_rfl) (by kernel_rfl) (by kernel_rfl) (fun _ _ _ h => h) (Or.inl ⟨by rfl, fun w h => by have c := row_at h.1 1 _ rfl; go_simp⟩) hS ?_
        try simp only [Act.put, List.getElem_toArray, List.getElem_cons_zero, List.getElem_cons_succ, List.setIfInBounds_toArray, List.set_cons_zero, List.set_cons_succ]
        refine wpAnyH_take (i := 9) (v := .string X) rfl (by kernel_rfl) (by kernel_rfl) (by kernel_rfl) (fun _ _ _ h => h) (Or.inl ⟨by rfl, fun w _ => by go_simp⟩) hS ?_
        try simp only [Act.put, List.getElem_toArray, List.getElem_cons_zero, List.getElem_cons_succ, List.setIfInBounds_toArray, List.set_cons_zero, List.set_cons_succ]
        refine wpAnyH_take (i := 10) (v := .string X) rfl (by kernel_rfl) (by kernel_rfl) (by kernel_rfl) (fun _ _ _ h => h) (Or.inl ⟨by rfl, fun w _ => by go_simp⟩) hS ?_
        try simp only [Act.put, List.getElem_toArray, List.getElem_cons_zero, List.getElem_cons_succ, List.setIfInBounds_toArray, List.set_cons_zero, List.set_cons_succ]
        refine wpAnyH_done (by kernel_rfl) ?_ _
        go_wp2
        exact HRS.out _ hS.1 (grown_below grq hS.2)
      · have HC : Hid (¬ (n ≤ (most : Int) ∧ n ≤ (s.size : Int) - b)) := fun q => c2 q.2
        have HRN : Hid (∀ w', w.grownBy w' (some g) → PP (.panicked gup) w') := fun w' gr => by
          rw [HP.out]; simp only [show pSized s most a = none from by unfold pSized; rw [hq]; simp only [if_neg HC.out]]; exact ⟨rfl, gr⟩
        go_enter Try.func70, Try.ntmps70
        go_upto_region 2 with (go_at_call 66; refine (HN.out _ h).mono ?_; clear HN; rintro e w1 ⟨rfl, r_w1, gr_w1⟩)
        refine wp_region_held_drew (S := fun w' => Row w' g #[.string s, .int .i64 (b : Nat)] 66 ∧ Below w1.heap.size w1 w') (by kernel_rfl) ⟨r_w1, (Below.refl w1.heap.size w1).drew⟩ fun hS => ?_
        refine wpAnyH_take (i := 0) (v := .pointer (some ⟨g, 0, none⟩)) rfl (by kernel_rfl) (by kernel_rfl) (by kernel_rfl) (fun _ _ _ h => h) (Or.inl ⟨by rfl, fun w _ => by go_simp⟩) hS ?_
        try simp only [Act.put, List.getElem_toArray, List.getElem_cons_zero, List.getElem_cons_succ, List.setIfInBounds_toArray, List.set_cons_zero, List.set_cons_succ]
        refine wpAnyH_take (i := 1) (v := .int .i64 n) rfl (by kernel_rfl) (by kernel_rfl) (by kernel_rfl) (fun _ _ _ h => h) (Or.inl ⟨by rfl, fun w _ => by go_simp⟩) hS ?_
        try simp only [Act.put, List.getElem_toArray, List.getElem_cons_zero, List.getElem_cons_succ, List.setIfInBounds_toArray, List.set_cons_zero, List.set_cons_succ]
        refine wpAnyH_take (i := 2) (v := .int .i64 (most : Nat)) rfl (by kernel_rfl) (by kernel_rfl) (by kernel_rfl) (fun _ _ _ h => h) (Or.inl ⟨by rfl, fun w _ => by go_simp⟩) hS ?_
        try simp only [Act.put, List.getElem_toArray, List.getElem_cons_zero, List.getElem_cons_succ, List.setIfInBounds_toArray, List.set_cons_zero, List.set_cons_succ]
        refine wpAnyH_take (i := 3) (v := .bool true) rfl (by kernel_rfl) (by kernel_rfl) (by kernel_rfl) (fun _ _ _ h => h) (Or.inl ⟨by rfl, fun w _ => by go_simp⟩) hS ?_
        try simp only [Act.put, List.getElem_toArray, List.getElem_cons_zero, List.getElem_cons_succ, List.setIfInBounds_toArray, List.set_cons_zero, List.set_cons_succ]
        refine wpAnyH_take (i := 4) (v := .bool true) rfl (by kernel_rfl) (by kernel_rfl) (by kernel_rfl) (fun _ _ _ h => h) (Or.inl ⟨by rfl, fun w _ => by go_simp⟩) hS ?_
        try simp only [Act.put, List.getElem_toArray, List.getElem_cons_zero, List.getElem_cons_succ, List.setIfInBounds_toArray, List.set_cons_zero, List.set_cons_succ]
        refine wpAnyH_take (i := 5) (v := .int .i64 n) rfl (by kernel_rfl) (by kernel_rfl) (by kernel_rfl) (fun _ _ _ h => h) (Or.inl ⟨by rfl, fun w _ => by go_simp⟩) hS ?_
        try simp only [Act.put, List.getElem_toArray, List.getElem_cons_zero, List.getElem_cons_succ, List.setIfInBounds_toArray, List.set_cons_zero, List.set_cons_succ]
        refine wpAnyH_take (i := 6) (v := .pointer (some ⟨g, 0, none⟩)) rfl (by kernel_rfl) (by kernel_rfl) (by kernel_rfl) (fun _ _ _ h => h) (Or.inl ⟨by rfl, fun w _ => by go_simp⟩) hS ?_
        try simp only [Act.put, List.getElem_toArray, List.getElem_cons_zero, List.getElem_cons_succ, List.setIfInBounds_toArray, List.set_cons_zero, List.set_cons_succ]
        refine wpAnyH_take (i := 7) (v := .pointer (some ⟨g, 0, none⟩)) rfl (by kernel_rfl) (by kernel_rfl) (by kernel_rfl) (fun _ _ _ h => h) (Or.inl ⟨by rfl, fun w _ => by go_simp⟩) hS ?_
        try simp only [Act.put, List.getElem_toArray, List.getElem_cons_zero, List.getElem_cons_succ, List.setIfInBounds_toArray, List.set_cons_zero, List.set_cons_succ]
        refine wpAnyH_take (i := 8) (v := .pointer (some ⟨g, 0, none⟩)) rfl (by kernel_rfl) (by kernel_rfl) (by kernel_rfl) (fun _ _ _ h => h) (Or.inl ⟨by rfl, fun w _ => by go_simp⟩) hS ?_
        try simp only [Act.put, List.getElem_toArray, List.getElem_cons_zero, List.getElem_cons_succ, List.setIfInBounds_toArray, List.set_cons_zero, List.set_cons_succ]
        refine wpAnyH_take (i := 9) (v := .string s) rfl (by kernel_rfl) (by kernel_rfl) (by kernel_rfl) (fun _ _ _ h => h) (Or.inl ⟨by rfl, fun w h => by have c := row_at h.1 0 _ rfl; go_simp⟩) hS ?_
        try simp only [Act.put, List.getElem_toArray, List.getElem_cons_zero, List.getElem_cons_succ, List.setIfInBounds_toArray, List.set_cons_zero, List.set_cons_succ]
        refine wpAnyH_take (i := 10) (v := .int .i64 s.size) rfl (by kernel_rfl) (by kernel_rfl) (by kernel_rfl) (fun _ _ _ h => h) (Or.inl ⟨by rfl, fun w _ => by go_simp⟩) hS ?_
        try simp only [Act.put, List.getElem_toArray, List.getElem_cons_zero, List.getElem_cons_succ, List.setIfInBounds_toArray, List.set_cons_zero, List.set_cons_succ]
        refine wpAnyH_take (i := 11) (v := .pointer (some ⟨g, 0, none⟩)) rfl (by kernel_rfl) (by kernel_rfl) (by kernel_rfl) (fun _ _ _ h => h) (Or.inl ⟨by rfl, fun w _ => by go_simp⟩) hS ?_
        try simp only [Act.put, List.getElem_toArray, List.getElem_cons_zero, List.getElem_cons_succ, List.setIfInBounds_toArray, List.set_cons_zero, List.set_cons_succ]
        refine wpAnyH_take (i := 12) (v := .pointer (some ⟨g, 0, none⟩)) rfl (by kernel_rfl) (by kernel_rfl) (by kernel_rfl) (fun _ _ _ h => h) (Or.inl ⟨by rfl, fun w _ => by go_simp⟩) hS ?_
        try simp only [Act.put, List.getElem_toArray, List.getElem_cons_zero, List.getElem_cons_succ, List.setIfInBounds_toArray, List.set_cons_zero, List.set_cons_succ]
        refine wpAnyH_take (i := 13) (v := .pointer (some ⟨g, 1, none⟩)) rfl (by kernel_rfl) (by kernel_rfl) (by kernel_rfl) (fun _ _ _ h => h) (Or.inl ⟨by rfl, fun w _ => by go_simp⟩) hS ?_
        try simp only [Act.put, List.getElem_toArray, List.getElem_cons_zero, List.getElem_cons_succ, List.setIfInBounds_toArray, List.set_cons_zero, List.set_cons_succ]
        refine wpAnyH_take (i := 14) (v := .int .i64 (b : Nat)) rfl (by kernel_rfl) (by kernel_rfl) (by kernel_rfl) (fun _ _ _ h => h) (Or.inl ⟨by rfl, fun w h => by have c := row_at h.1 1 _ rfl; go_simp⟩) hS ?_
        try simp only [Act.put, List.getElem_toArray, List.getElem_cons_zero, List.getElem_cons_succ, List.setIfInBounds_toArray, List.set_cons_zero, List.set_cons_succ]
        refine wpAnyH_take (i := 15) (v := .int .i64 ((s.size : Int) - (b : Nat))) rfl (by kernel_rfl) (by kernel_rfl) (by kernel_rfl) (fun _ _ _ h => h) (Or.inl ⟨by rfl, fun w _ => by go_simp⟩) hS ?_
        try simp only [Act.put, List.getElem_toArray, List.getElem_cons_zero, List.getElem_cons_succ, List.setIfInBounds_toArray, List.set_cons_zero, List.set_cons_succ]
        refine wpAnyH_take (i := 16) (v := .bool false) rfl (by kernel_rfl) (by kernel_rfl) (by kernel_rfl) (fun _ _ _ h => h) (Or.inl ⟨by rfl, fun w _ => by go_simp⟩) hS ?_
        try simp only [Act.put, List.getElem_toArray, List.getElem_cons_zero, List.getElem_cons_succ, List.setIfInBounds_toArray, List.set_cons_zero, List.set_cons_succ]
        refine wpAnyH_take (i := 17) (v := .bool false) rfl (by kernel_rfl) (by kernel_rfl) (by kernel_rfl) (fun _ _ _ h => h) (Or.inl ⟨by rfl, fun w _ => by go_simp⟩) hS ?_
        try simp only [Act.put, List.getElem_toArray, List.getElem_cons_zero, List.getElem_cons_succ, List.setIfInBounds_toArray, List.set_cons_zero, List.set_cons_succ]
        refine wpAnyH_ready (rs := [18]) (by kernel_rfl) (by simp) ?_
        refine AllReadyH.cons rfl (fun K hK => ?_) AllReadyH.nil
        go_simp
        go_at_call 47
        refine Calls.mono (HMU.out _ _) ?_
        rintro e wm ⟨he, hww⟩
        obtain rfl := he
        subst hww
        exact ⟨rfl, HRN.out _ (grown_below gr_w1 hS.2)⟩
    · have HC : Hid (¬ (n ≤ (most : Int) ∧ n ≤ (s.size : Int) - b)) := fun q => c1 q.1
      have HRN : Hid (∀ w', w.grownBy w' (some g) → PP (.panicked gup) w') := fun w' gr => by
        rw [HP.out]; simp only [show pSized s most a = none from by unfold pSized; rw [hq]; simp only [if_neg HC.out]]; exact ⟨rfl, gr⟩
      go_enter Try.func70, Try.ntmps70
      go_upto_region 2 with (go_at_call 66; refine (HN.out _ h).mono ?_; clear HN; rintro e w1 ⟨rfl, r_w1, gr_w1⟩)
      refine wp_region_held_drew (S := fun w' => Row w' g #[.string s, .int .i64 (b : Nat)] 66 ∧ Below w1.heap.size w1 w') (by kernel_rfl) ⟨r_w1, (Below.refl w1.heap.size w1).drew⟩ fun hS => ?_
      refine wpAnyH_take (i := 0) (v := .pointer (some ⟨g, 0, none⟩)) rfl (by kernel_rfl) (by kernel_rfl) (by kernel_rfl) (fun _ _ _ h => h) (Or.inl ⟨by rfl, fun w _ => by go_simp⟩) hS ?_
      try simp only [Act.put, List.getElem_toArray, List.getElem_cons_zero, List.getElem_cons_succ, List.setIfInBounds_toArray, List.set_cons_zero, List.set_cons_succ]
      refine wpAnyH_take (i := 1) (v := .int .i64 n) rfl (by kernel_rfl) (by kernel_rfl) (by kernel_rfl) (fun _ _ _ h => h) (Or.inl ⟨by rfl, fun w _ => by go_simp⟩) hS ?_
      try simp only [Act.put, List.getElem_toArray, List.getElem_cons_zero, List.getElem_cons_succ, List.setIfInBounds_toArray, List.set_cons_zero, List.set_cons_succ]
      refine wpAnyH_take (i := 2) (v := .int .i64 (most : Nat)) rfl (by kernel_rfl) (by kernel_rfl) (by kernel_rfl) (fun _ _ _ h => h) (Or.inl ⟨by rfl, fun w _ => by go_simp⟩) hS ?_
      try simp only [Act.put, List.getElem_toArray, List.getElem_cons_zero, List.getElem_cons_succ, List.setIfInBounds_toArray, List.set_cons_zero, List.set_cons_succ]
      refine wpAnyH_take (i := 3) (v := .bool false) rfl (by kernel_rfl) (by kernel_rfl) (by kernel_rfl) (fun _ _ _ h => h) (Or.inl ⟨by rfl, fun w _ => by go_simp⟩) hS ?_
      try simp only [Act.put, List.getElem_toArray, List.getElem_cons_zero, List.getElem_cons_succ, List.setIfInBounds_toArray, List.set_cons_zero, List.set_cons_succ]
      refine wpAnyH_take (i := 4) (v := .bool false) rfl (by kernel_rfl) (by kernel_rfl) (by kernel_rfl) (fun _ _ _ h => h) (Or.inl ⟨by rfl, fun w _ => by go_simp⟩) hS ?_
      try simp only [Act.put, List.getElem_toArray, List.getElem_cons_zero, List.getElem_cons_succ, List.setIfInBounds_toArray, List.set_cons_zero, List.set_cons_succ]
      refine wpAnyH_take (i := 5) (v := undef) rfl (by kernel_rfl) (by kernel_rfl) (by kernel_rfl) (fun _ _ _ h => h) (Or.inr ⟨by rfl, rfl⟩) hS ?_
      try simp only [Act.put, List.getElem_toArray, List.getElem_cons_zero, List.getElem_cons_succ, List.setIfInBounds_toArray, List.set_cons_zero, List.set_cons_succ]
      refine wpAnyH_take (i := 6) (v := undef) rfl (by kernel_rfl) (by kernel_rfl) (by kernel_rfl) (fun _ _ _ h => h) (Or.inr ⟨by rfl, rfl⟩) hS ?_
      try simp only [Act.put, List.getElem_toArray, List.getElem_cons_zero, List.getElem_cons_succ, List.setIfInBounds_toArray, List.set_cons_zero, List.set_cons_succ]
      refine wpAnyH_take (i := 7) (v := undef) rfl (by kernel_rfl) (by kernel_rfl) (by kernel_rfl) (fun _ _ _ h => h) (Or.inr ⟨by rfl, rfl⟩) hS ?_
      try simp only [Act.put, List.getElem_toArray, List.getElem_cons_zero, List.getElem_cons_succ, List.setIfInBounds_toArray, List.set_cons_zero, List.set_cons_succ]
      refine wpAnyH_take (i := 8) (v := undef) rfl (by kernel_rfl) (by kernel_rfl) (by kernel_rfl) (fun _ _ _ h => h) (Or.inr ⟨by rfl, rfl⟩) hS ?_
      try simp only [Act.put, List.getElem_toArray, List.getElem_cons_zero, List.getElem_cons_succ, List.setIfInBounds_toArray, List.set_cons_zero, List.set_cons_succ]
      refine wpAnyH_take (i := 9) (v := undef) rfl (by kernel_rfl) (by kernel_rfl) (by kernel_rfl) (fun _ _ _ h => h) (Or.inr ⟨by rfl, rfl⟩) hS ?_
      try simp only [Act.put, List.getElem_toArray, List.getElem_cons_zero, List.getElem_cons_succ, List.setIfInBounds_toArray, List.set_cons_zero, List.set_cons_succ]
      refine wpAnyH_take (i := 10) (v := undef) rfl (by kernel_rfl) (by kernel_rfl) (by kernel_rfl) (fun _ _ _ h => h) (Or.inr ⟨by rfl, rfl⟩) hS ?_
      try simp only [Act.put, List.getElem_toArray, List.getElem_cons_zero, List.getElem_cons_succ, List.setIfInBounds_toArray, List.set_cons_zero, List.set_cons_succ]
      refine wpAnyH_take (i := 11) (v := undef) rfl (by kernel_rfl) (by kernel_rfl) (by kernel_rfl) (fun _ _ _ h => h) (Or.inr ⟨by rfl, rfl⟩) hS ?_
      try simp only [Act.put, List.getElem_toArray, List.getElem_cons_zero, List.getElem_cons_succ, List.setIfInBounds_toArray, List.set_cons_zero, List.set_cons_succ]
      refine wpAnyH_take (i := 12) (v := undef) rfl (by kernel_rfl) (by kernel_rfl) (by kernel_rfl) (fun _ _ _ h => h) (Or.inr ⟨by rfl, rfl⟩) hS ?_
      try simp only [Act.put, List.getElem_toArray, List.getElem_cons_zero, List.getElem_cons_succ, List.setIfInBounds_toArray, List.set_cons_zero, List.set_cons_succ]
      refine wpAnyH_take (i := 13) (v := undef) rfl (by kernel_rfl) (by kernel_rfl) (by kernel_rfl) (fun _ _ _ h => h) (Or.inr ⟨by rfl, rfl⟩) hS ?_
      try simp only [Act.put, List.getElem_toArray, List.getElem_cons_zero, List.getElem_cons_succ, List.setIfInBounds_toArray, List.set_cons_zero, List.set_cons_succ]
      refine wpAnyH_take (i := 14) (v := undef) rfl (by kernel_rfl) (by kernel_rfl) (by kernel_rfl) (fun _ _ _ h => h) (Or.inr ⟨by rfl, rfl⟩) hS ?_
      try simp only [Act.put, List.getElem_toArray, List.getElem_cons_zero, List.getElem_cons_succ, List.setIfInBounds_toArray, List.set_cons_zero, List.set_cons_succ]
      refine wpAnyH_take (i := 15) (v := undef) rfl (by kernel_rfl) (by kernel_rfl) (by kernel_rfl) (fun _ _ _ h => h) (Or.inr ⟨by rfl, rfl⟩) hS ?_
      try simp only [Act.put, List.getElem_toArray, List.getElem_cons_zero, List.getElem_cons_succ, List.setIfInBounds_toArray, List.set_cons_zero, List.set_cons_succ]
      refine wpAnyH_take (i := 16) (v := undef) rfl (by kernel_rfl) (by kernel_rfl) (by kernel_rfl) (fun _ _ _ h => h) (Or.inr ⟨by rfl, rfl⟩) hS ?_
      try simp only [Act.put, List.getElem_toArray, List.getElem_cons_zero, List.getElem_cons_succ, List.setIfInBounds_toArray, List.set_cons_zero, List.set_cons_succ]
      refine wpAnyH_take (i := 17) (v := .bool false) rfl (by kernel_rfl) (by kernel_rfl) (by kernel_rfl) (fun _ _ _ h => h) (Or.inl ⟨by rfl, fun w _ => by go_simp⟩) hS ?_
      try simp only [Act.put, List.getElem_toArray, List.getElem_cons_zero, List.getElem_cons_succ, List.setIfInBounds_toArray, List.set_cons_zero, List.set_cons_succ]
      refine wpAnyH_ready (rs := [18]) (by kernel_rfl) (by simp) ?_
      refine AllReadyH.cons rfl (fun K hK => ?_) AllReadyH.nil
      go_simp
      go_at_call 47
      refine Calls.mono (HMU.out _ _) ?_
      rintro e wm ⟨he, hww⟩
      obtain rfl := he
      subst hww
      exact ⟨rfl, HRN.out _ (grown_below gr_w1 hS.2)⟩
end Go.Proofs.Ytihjapfgllokgaa
