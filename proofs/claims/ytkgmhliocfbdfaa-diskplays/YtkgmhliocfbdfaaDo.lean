/-
  Proved here: what the statements' own 'do' answers and leaves, by what the disk's calls do.
-/
import Derived.Test.YtkgmhliocfbdfaaSlice
namespace Go.Proofs.Ytkgmhliocfbdfaa
open Go.ChangeShapes Go.WideShapes Go.ChangeAt Go.RowKit
set_option linter.unusedVariables false
set_option linter.unusedSimpArgs false

theorem yields_built {P : Program} {ops : Array Oper} {S : World → Prop} {o : Oper} {a : Act} (hw : Region.wanted o (yielded ops a.tmps) = true) (t : TypeId) (ho : o.op = .build t #[]) (cs : Array Value) (hb : P.built t [] = some cs) : YieldsIf P ops S o (.agg cs) a := by
  refine Or.inl ⟨hw, fun w _ => ?_⟩
  unfold execOp
  have := run_build (P := P) w t #[] cs hb
  simp only [ho, Sem.run_bind]
  simp at this ⊢
  rw [this]; rfl
set_option maxRecDepth 20000 in
theorem do_read (v : Value) (b y : Int) (fs ks : Value) (w : World) (F : Nat → Prop) (hF : ∀ k, F k → k < w.heap.size) (T : World → World → Prop) (T' : World → Prop)
    (hT : ∀ wa w' j, T wa w' → w.heap.size ≤ j → j < wa.heap.size → ∀ cs, T' (w'.setRow j cs)) (C : List Int) (hC : C.length = 256) (E : Int)
    (hh : ∀ wa, Below w.heap.size w wa → Calls Try.prog 30 #[v, .int .i64 b] wa fun e w' => e = .returned (.tuple #[.agg (bs C), .int .i64 E]) ∧ Off F wa w' ∧ T wa w') :
    Calls Try.prog 11 #[v, .agg #[.int .i64 0, .int .i64 b, .int .u8 y, fs, ks]] w fun e w' => e = .returned (.tuple #[.agg (bs C), .int .i64 E]) ∧ Off F w w' ∧ T' w' := by
  have hz := zero35
  have r0 : Row ((w.alloc (.cells #[.int .i64 0, .int .i64 b, .int .u8 y, fs, ks] 33)).alloc (.cells (bs (zs 256)) 35)) w.heap.size #[.int .i64 0, .int .i64 b, .int .u8 y, fs, ks] 33 := (Row.new _ _ _).alloc _
  have r1 : Row ((w.alloc (.cells #[.int .i64 0, .int .i64 b, .int .u8 y, fs, ks] 33)).alloc (.cells (bs (zs 256)) 35)) (w.heap.size + 1) (bs (zs 256)) 35 := by have := Row.new (w.alloc (.cells #[.int .i64 0, .int .i64 b, .int .u8 y, fs, ks] 33)) (bs (zs 256)) 35; simpa using this
  have ab : Below w.heap.size w ((w.alloc (.cells #[.int .i64 0, .int .i64 b, .int .u8 y, fs, ks] 33)).alloc (.cells (bs (zs 256)) 35)) := ((Below.refl _ _).alloc (Nat.le_refl _) _).alloc (by simp) _
  have n0 : ¬ F w.heap.size := fun q => by have := hF _ q; omega
  have n1 : ¬ F (w.heap.size + 1) := fun q => by have := hF _ q; omega
  obtain ⟨cs, HC⟩ : ∃ cs, Hid (#[.int .i64 0, .int .i64 b, .int .u8 y, fs, ks] = cs) := ⟨_, rfl⟩
  have c0 := row_at r0 0 (.int .i64 0) rfl
  have c1 := row_at r0 1 (.int .i64 b) rfl
  have c2 := row_at r0 2 (.int .u8 y) rfl
  have c3 := row_at r0 3 fs rfl
  have c4 := row_at r0 4 ks rfl
  go_enter Try.func11, Try.ntmps11
  go_wp2_with (first
    | (go_at_call 30; refine (hh _ ab).mono ?_; rintro e w2 ⟨rfl, o2, t2⟩
       have q1 : Row w2 (w.heap.size + 1) (bs (zs 256)) 35 := r1.off o2 n1
       have BW := Nat.le_refl ((w.alloc (.cells #[.int .i64 0, .int .i64 b, .int .u8 y, fs, ks] 33)).alloc (.cells (bs (zs 256)) 35)).heap.size
       have o1 : Off F w w2 := (Off.of_below (F := F) (ab.mono (Nat.le_refl _))).trans o2 (fun j hj => Or.inl hj))
    | (refine store_row rfl 35 (.tmp 4) (.tmp 14) rfl (w.heap.size + 1) C rfl rfl 35 _ q1 256 size35 (by rw [bs_size, zs_length]) hC ?_))
  refine bodyPost_ret (v := .tuple #[.agg (bs C), .int .i64 E]) ?_ rfl ⟨rfl, ?_, hT _ _ _ t2 (by omega) (Nat.lt_of_lt_of_le r1.lt BW) _⟩
  · exact ret_two (fn := Try.f11) rfl _ _ (w.heap.size + 1) 35 (bs C) 256 5 (.int .i64 E) rfl rfl (q1.set _) Try.underlying35 size35 (by rw [bs_size, hC])
  · exact o1.trans (Off.of_setRow (F := (· = w.heap.size + 1)) _ _ _ rfl) (fun j hj => Or.inr (by omega))

set_option maxRecDepth 20000 in
theorem do_sync (v : Value) (b y : Int) (fs ks : Value) (w : World) (F : Nat → Prop) (hF : ∀ k, F k → k < w.heap.size) (T : World → World → Prop) (T' : World → Prop)
    (hT : ∀ wa w' j, T wa w' → w.heap.size ≤ j → j < wa.heap.size → ∀ cs, T' (w'.setRow j cs)) (E : Int)
    (hh : ∀ wa, Below w.heap.size w wa → Calls Try.prog 27 #[v] wa fun e w' => e = .returned (.int .i64 E) ∧ Off F wa w' ∧ T wa w') :
    Calls Try.prog 11 #[v, .agg #[.int .i64 2, .int .i64 b, .int .u8 y, fs, ks]] w fun e w' => e = .returned (.tuple #[.agg (bs (zs 256)), .int .i64 E]) ∧ Off F w w' ∧ T' w' := by
  have hz := zero35
  have r0 : Row ((w.alloc (.cells #[.int .i64 2, .int .i64 b, .int .u8 y, fs, ks] 33)).alloc (.cells (bs (zs 256)) 35)) w.heap.size #[.int .i64 2, .int .i64 b, .int .u8 y, fs, ks] 33 := (Row.new _ _ _).alloc _
  have r1 : Row ((w.alloc (.cells #[.int .i64 2, .int .i64 b, .int .u8 y, fs, ks] 33)).alloc (.cells (bs (zs 256)) 35)) (w.heap.size + 1) (bs (zs 256)) 35 := by have := Row.new (w.alloc (.cells #[.int .i64 2, .int .i64 b, .int .u8 y, fs, ks] 33)) (bs (zs 256)) 35; simpa using this
  have ab : Below w.heap.size w ((w.alloc (.cells #[.int .i64 2, .int .i64 b, .int .u8 y, fs, ks] 33)).alloc (.cells (bs (zs 256)) 35)) := ((Below.refl _ _).alloc (Nat.le_refl _) _).alloc (by simp) _
  have n0 : ¬ F w.heap.size := fun q => by have := hF _ q; omega
  have n1 : ¬ F (w.heap.size + 1) := fun q => by have := hF _ q; omega
  obtain ⟨cs, HC⟩ : ∃ cs, Hid (#[.int .i64 2, .int .i64 b, .int .u8 y, fs, ks] = cs) := ⟨_, rfl⟩
  have c0 := row_at r0 0 (.int .i64 2) rfl
  have c1 := row_at r0 1 (.int .i64 b) rfl
  have c2 := row_at r0 2 (.int .u8 y) rfl
  have c3 := row_at r0 3 fs rfl
  have c4 := row_at r0 4 ks rfl
  go_enter Try.func11, Try.ntmps11
  go_wp2_with (first
    | (refine build_none rfl 35 rfl (bs (zs 256)) built35 ?_)
    | (go_at_call 27; refine (hh _ ab).mono ?_; rintro e w2 ⟨rfl, o2, t2⟩
       have q1 : Row w2 (w.heap.size + 1) (bs (zs 256)) 35 := r1.off o2 n1
       have BW := Nat.le_refl ((w.alloc (.cells #[.int .i64 2, .int .i64 b, .int .u8 y, fs, ks] 33)).alloc (.cells (bs (zs 256)) 35)).heap.size
       have o1 : Off F w w2 := (Off.of_below (F := F) (ab.mono (Nat.le_refl _))).trans o2 (fun j hj => Or.inl hj))
    | (refine store_row rfl 35 (.tmp 4) (.tmp 28) rfl (w.heap.size + 1) (zs 256) rfl rfl 35 _ q1 256 size35 (by rw [bs_size, zs_length]) (zs_length 256) ?_))
  refine bodyPost_ret (v := .tuple #[.agg (bs (zs 256)), .int .i64 E]) ?_ rfl ⟨rfl, ?_, hT _ _ _ t2 (by omega) (Nat.lt_of_lt_of_le r1.lt BW) _⟩
  · exact ret_two (fn := Try.f11) rfl _ _ (w.heap.size + 1) 35 (bs (zs 256)) 256 5 (.int .i64 E) rfl rfl (q1.set _) Try.underlying35 size35 (by rw [bs_size, zs_length])
  · exact o1.trans (Off.of_setRow (F := (· = w.heap.size + 1)) _ _ _ rfl) (fun j hj => Or.inr (by omega))

set_option maxRecDepth 20000 in
theorem do_other (v : Value) (kd b y : Int) (fs ks : Value) (w : World) (F : Nat → Prop) (hF : ∀ k, F k → k < w.heap.size) (T : World → World → Prop) (T' : World → Prop)
    (hT : ∀ wa w' j, T wa w' → w.heap.size ≤ j → j < wa.heap.size → ∀ cs, T' (w'.setRow j cs)) (hk : ¬ (0 ≤ kd ∧ kd ≤ 4)) (ht : ∀ wa, Below w.heap.size w wa → T wa wa) :
    Calls Try.prog 11 #[v, .agg #[.int .i64 kd, .int .i64 b, .int .u8 y, fs, ks]] w fun e w' => e = .returned (.tuple #[.agg (bs (zs 256)), .int .i64 0]) ∧ Off F w w' ∧ T' w' := by
  have hz := zero35
  have r0 : Row ((w.alloc (.cells #[.int .i64 kd, .int .i64 b, .int .u8 y, fs, ks] 33)).alloc (.cells (bs (zs 256)) 35)) w.heap.size #[.int .i64 kd, .int .i64 b, .int .u8 y, fs, ks] 33 := (Row.new _ _ _).alloc _
  have r1 : Row ((w.alloc (.cells #[.int .i64 kd, .int .i64 b, .int .u8 y, fs, ks] 33)).alloc (.cells (bs (zs 256)) 35)) (w.heap.size + 1) (bs (zs 256)) 35 := by have := Row.new (w.alloc (.cells #[.int .i64 kd, .int .i64 b, .int .u8 y, fs, ks] 33)) (bs (zs 256)) 35; simpa using this
  have ab : Below w.heap.size w ((w.alloc (.cells #[.int .i64 kd, .int .i64 b, .int .u8 y, fs, ks] 33)).alloc (.cells (bs (zs 256)) 35)) := ((Below.refl _ _).alloc (Nat.le_refl _) _).alloc (by simp) _
  have n0 : ¬ F w.heap.size := fun q => by have := hF _ q; omega
  have n1 : ¬ F (w.heap.size + 1) := fun q => by have := hF _ q; omega
  obtain ⟨cs, HC⟩ : ∃ cs, Hid (#[.int .i64 kd, .int .i64 b, .int .u8 y, fs, ks] = cs) := ⟨_, rfl⟩
  have c0 := row_at r0 0 (.int .i64 kd) rfl
  have c1 := row_at r0 1 (.int .i64 b) rfl
  have c2 := row_at r0 2 (.int .u8 y) rfl
  have c3 := row_at r0 3 fs rfl
  have c4 := row_at r0 4 ks rfl
  go_enter Try.func11, Try.ntmps11
  have k0 : ¬ kd = 0 := by omega
  have k1 : ¬ kd = 1 := by omega
  have k2 : ¬ kd = 2 := by omega
  have k3 : ¬ kd = 3 := by omega
  have k4 : ¬ kd = 4 := by omega
  clear hk
  have BW : ((w.alloc (.cells #[.int .i64 kd, .int .i64 b, .int .u8 y, fs, ks] 33)).alloc (.cells (bs (zs 256)) 35)).heap.size ≤ ((w.alloc (.cells #[.int .i64 kd, .int .i64 b, .int .u8 y, fs, ks] 33)).alloc (.cells (bs (zs 256)) 35)).heap.size := Nat.le_refl _
  have o1 : Off F w ((w.alloc (.cells #[.int .i64 kd, .int .i64 b, .int .u8 y, fs, ks] 33)).alloc (.cells (bs (zs 256)) 35)) := Off.of_below (F := F) ab
  go_wp2_with (first
    | (refine build_none rfl 35 rfl (bs (zs 256)) built35 ?_)
    | (refine store_row rfl 35 (.tmp 4) (.tmp 48) rfl (w.heap.size + 1) (zs 256) rfl rfl 35 _ r1 256 size35 (by rw [bs_size, zs_length]) (zs_length 256) ?_))
  refine bodyPost_ret (v := .tuple #[.agg (bs (zs 256)), .int .i64 0]) ?_ rfl ⟨rfl, ?_, hT _ _ _ (ht _ ab) (by omega) (Nat.lt_of_lt_of_le r1.lt BW) _⟩
  · exact ret_two (fn := Try.f11) rfl _ _ (w.heap.size + 1) 35 (bs (zs 256)) 256 5 (.int .i64 0) rfl rfl (r1.set _) Try.underlying35 size35 (by rw [bs_size, zs_length])
  · exact o1.trans (Off.of_setRow (F := (· = w.heap.size + 1)) _ _ _ rfl) (fun j hj => Or.inr (by omega))

set_option maxRecDepth 20000 in
theorem do_crash (v : Value) (b y : Int) (fs ks : Value) (w : World) (F : Nat → Prop) (hF : ∀ k, F k → k < w.heap.size) (T : World → World → Prop) (T' : World → Prop)
    (hT : ∀ wa w' j, T wa w' → w.heap.size ≤ j → j < wa.heap.size → ∀ cs, T' (w'.setRow j cs)) (bl : List Bool) (hb : Cel w ks (bl.map .bool)) (hbl : bl.length ≤ 140737488355328)
    (hh : ∀ wa k, Below w.heap.size w wa → Cel wa k (bl.map .bool) → High w.heap.size k → Calls Try.prog 28 #[v, k] wa fun e w' => e = .returned (.tuple #[]) ∧ Off F wa w' ∧ T wa w') :
    Calls Try.prog 11 #[v, .agg #[.int .i64 4, .int .i64 b, .int .u8 y, fs, ks]] w fun e w' => e = .returned (.tuple #[.agg (bs (zs 256)), .int .i64 0]) ∧ Off F w w' ∧ T' w' := by
  have hz := zero35
  have r0 : Row ((w.alloc (.cells #[.int .i64 4, .int .i64 b, .int .u8 y, fs, ks] 33)).alloc (.cells (bs (zs 256)) 35)) w.heap.size #[.int .i64 4, .int .i64 b, .int .u8 y, fs, ks] 33 := (Row.new _ _ _).alloc _
  have r1 : Row ((w.alloc (.cells #[.int .i64 4, .int .i64 b, .int .u8 y, fs, ks] 33)).alloc (.cells (bs (zs 256)) 35)) (w.heap.size + 1) (bs (zs 256)) 35 := by have := Row.new (w.alloc (.cells #[.int .i64 4, .int .i64 b, .int .u8 y, fs, ks] 33)) (bs (zs 256)) 35; simpa using this
  have ab : Below w.heap.size w ((w.alloc (.cells #[.int .i64 4, .int .i64 b, .int .u8 y, fs, ks] 33)).alloc (.cells (bs (zs 256)) 35)) := ((Below.refl _ _).alloc (Nat.le_refl _) _).alloc (by simp) _
  have n0 : ¬ F w.heap.size := fun q => by have := hF _ q; omega
  have n1 : ¬ F (w.heap.size + 1) := fun q => by have := hF _ q; omega
  obtain ⟨cs, HC⟩ : ∃ cs, Hid (#[.int .i64 4, .int .i64 b, .int .u8 y, fs, ks] = cs) := ⟨_, rfl⟩
  have c0 := row_at r0 0 (.int .i64 4) rfl
  have c1 := row_at r0 1 (.int .i64 b) rfl
  have c2 := row_at r0 2 (.int .u8 y) rfl
  have c3 := row_at r0 3 fs rfl
  have c4 := row_at r0 4 ks rfl
  go_enter Try.func11, Try.ntmps11
  have cb : Cel ((w.alloc (.cells #[.int .i64 4, .int .i64 b, .int .u8 y, fs, ks] 33)).alloc (.cells (bs (zs 256)) 35)) ks (bl.map .bool) := hb.keep ab
  have hcop := copied_any ks bl _ cb hbl
  go_wp2_with (first
    | (go_at_call 29; refine hcop.mono ?_; rintro e w2 ⟨k2, rfl, cel2, low2', b2⟩
       have low2 : High w.heap.size k2 := fun a n c e => Nat.le_trans ab.size (low2' a n c e)
       have B2 : Below w.heap.size w w2 := ab.trans (b2.mono ab.size)
       have BW := b2.size)
    | (go_at_call 28; refine (hh _ _ B2 cel2 low2).mono ?_; rintro e w3 ⟨rfl, o3, t3⟩
       have q1 : Row w3 (w.heap.size + 1) (bs (zs 256)) 35 := (r1.below b2 r1.lt).off o3 n1
       have o1 : Off F w w3 := (Off.of_below (F := F) B2).trans o3 (fun j hj => Or.inl hj))
    | (refine build_none rfl 35 rfl (bs (zs 256)) built35 ?_)
    | (refine store_row rfl 35 (.tmp 4) (.tmp 48) rfl (w.heap.size + 1) (zs 256) rfl rfl 35 _ q1 256 size35 (by rw [bs_size, zs_length]) (zs_length 256) ?_))
  refine bodyPost_ret (v := .tuple #[.agg (bs (zs 256)), .int .i64 0]) ?_ rfl ⟨rfl, ?_, hT _ _ _ t3 (by omega) (Nat.lt_of_lt_of_le r1.lt BW) _⟩
  · exact ret_two (fn := Try.f11) rfl _ _ (w.heap.size + 1) 35 (bs (zs 256)) 256 5 (.int .i64 0) rfl rfl (q1.set _) Try.underlying35 size35 (by rw [bs_size, zs_length])
  · exact o1.trans (Off.of_setRow (F := (· = w.heap.size + 1)) _ _ _ rfl) (fun j hj => Or.inr (by omega))

set_option maxRecDepth 20000 in
theorem do_write (v : Value) (b y : Int) (fs ks : Value) (w : World) (F : Nat → Prop) (hF : ∀ k, F k → k < w.heap.size) (T : World → World → Prop) (T' : World → Prop)
    (hT : ∀ wa w' j, T wa w' → w.heap.size ≤ j → j < wa.heap.size → ∀ cs, T' (w'.setRow j cs)) (E : Int) (hy : 0 ≤ y ∧ y ≤ 255)
    (hh : ∀ wa, Below w.heap.size w wa → Calls Try.prog 26 #[v, .int .i64 b, .agg (bs (filled y))] wa fun e w' => e = .returned (.int .i64 E) ∧ Off F wa w' ∧ T wa w') :
    Calls Try.prog 11 #[v, .agg #[.int .i64 1, .int .i64 b, .int .u8 y, fs, ks]] w fun e w' => e = .returned (.tuple #[.agg (bs (zs 256)), .int .i64 E]) ∧ Off F w w' ∧ T' w' := by
  have hz := zero35
  have r0 : Row ((w.alloc (.cells #[.int .i64 1, .int .i64 b, .int .u8 y, fs, ks] 33)).alloc (.cells (bs (zs 256)) 35)) w.heap.size #[.int .i64 1, .int .i64 b, .int .u8 y, fs, ks] 33 := (Row.new _ _ _).alloc _
  have r1 : Row ((w.alloc (.cells #[.int .i64 1, .int .i64 b, .int .u8 y, fs, ks] 33)).alloc (.cells (bs (zs 256)) 35)) (w.heap.size + 1) (bs (zs 256)) 35 := by have := Row.new (w.alloc (.cells #[.int .i64 1, .int .i64 b, .int .u8 y, fs, ks] 33)) (bs (zs 256)) 35; simpa using this
  have ab : Below w.heap.size w ((w.alloc (.cells #[.int .i64 1, .int .i64 b, .int .u8 y, fs, ks] 33)).alloc (.cells (bs (zs 256)) 35)) := ((Below.refl _ _).alloc (Nat.le_refl _) _).alloc (by simp) _
  have n0 : ¬ F w.heap.size := fun q => by have := hF _ q; omega
  have n1 : ¬ F (w.heap.size + 1) := fun q => by have := hF _ q; omega
  obtain ⟨cs, HC⟩ : ∃ cs, Hid (#[.int .i64 1, .int .i64 b, .int .u8 y, fs, ks] = cs) := ⟨_, rfl⟩
  have c0 := row_at r0 0 (.int .i64 1) rfl
  have c1 := row_at r0 1 (.int .i64 b) rfl
  have c2 := row_at r0 2 (.int .u8 y) rfl
  have c3 := row_at r0 3 fs rfl
  have c4 := row_at r0 4 ks rfl
  go_enter Try.func11, Try.ntmps11
  go_wp2
  generalize (w.alloc (.cells #[.int .i64 1, .int .i64 b, .int .u8 y, fs, ks] 33)).alloc (.cells (bs (zs 256)) 35) = w1 at r0 r1 ab c0 c1 c2 c3 c4 ⊢
  have abd : Below w.heap.size w w1.drew := ab.drew
  refine wp_region_held_drew (S := fun w' => Row w' w.heap.size #[.int .i64 1, .int .i64 b, .int .u8 y, fs, ks] 33 ∧ Row w' (w.heap.size + 1) (bs (zs 256)) 35) (by kernel_rfl) ⟨r0, r1⟩ fun hS => ?_
  refine wpAnyH_take (i := 0) (v := .agg (bs (zs 256))) rfl (by kernel_rfl) (by kernel_rfl) (by kernel_rfl) (fun _ _ _ h => h) (yields_built (by rfl) 35 rfl (bs (zs 256)) built35) hS ?_
  try simp only [Act.put, List.getElem_toArray, List.getElem_cons_zero, List.getElem_cons_succ, List.setIfInBounds_toArray, List.set_cons_zero, List.set_cons_succ]
  refine wpAnyH_take (i := 1) (v := v) rfl (by kernel_rfl) (by kernel_rfl) (by kernel_rfl) (fun _ _ _ h => h) (Or.inl ⟨by rfl, fun w _ => by rfl⟩) hS ?_
  try simp only [Act.put, List.getElem_toArray, List.getElem_cons_zero, List.getElem_cons_succ, List.setIfInBounds_toArray, List.set_cons_zero, List.set_cons_succ]
  refine wpAnyH_take (i := 2) (v := .pointer (some ⟨w.heap.size, 1, none⟩)) rfl (by kernel_rfl) (by kernel_rfl) (by kernel_rfl) (fun _ _ _ h => h) (Or.inl ⟨by rfl, fun w _ => by go_simp⟩) hS ?_
  try simp only [Act.put, List.getElem_toArray, List.getElem_cons_zero, List.getElem_cons_succ, List.setIfInBounds_toArray, List.set_cons_zero, List.set_cons_succ]
  refine wpAnyH_take (i := 3) (v := .int .i64 b) rfl (by kernel_rfl) (by kernel_rfl) (by kernel_rfl) (fun _ _ _ h => h) (Or.inl ⟨by rfl, fun w h => by have c := (row_at h.1 1 (.int .i64 b) rfl); go_simp⟩) hS ?_
  try simp only [Act.put, List.getElem_toArray, List.getElem_cons_zero, List.getElem_cons_succ, List.setIfInBounds_toArray, List.set_cons_zero, List.set_cons_succ]
  refine wpAnyH_take (i := 4) (v := .pointer (some ⟨w.heap.size, 2, none⟩)) rfl (by kernel_rfl) (by kernel_rfl) (by kernel_rfl) (fun _ _ _ h => h) (Or.inl ⟨by rfl, fun w _ => by go_simp⟩) hS ?_
  try simp only [Act.put, List.getElem_toArray, List.getElem_cons_zero, List.getElem_cons_succ, List.setIfInBounds_toArray, List.set_cons_zero, List.set_cons_succ]
  refine wpAnyH_take (i := 5) (v := .int .u8 y) rfl (by kernel_rfl) (by kernel_rfl) (by kernel_rfl) (fun _ _ _ h => h) (Or.inl ⟨by rfl, fun w h => by have c := (row_at h.1 2 (.int .u8 y) rfl); go_simp⟩) hS ?_
  try simp only [Act.put, List.getElem_toArray, List.getElem_cons_zero, List.getElem_cons_succ, List.setIfInBounds_toArray, List.set_cons_zero, List.set_cons_succ]
  refine wpAnyH_ready (rs := [6]) (by kernel_rfl) (by simp) ?_
  refine AllReadyH.cons rfl (fun K hK => ?_) AllReadyH.nil
  go_simp
  go_at_call 14
  refine (filled_any y hy _).mono ?_
  rintro e w2 ⟨rfl, b2⟩
  refine hK.out _ _ (⟨hS.1.below b2 hS.1.lt, hS.2.below b2 hS.2.lt⟩) fun hS => ?_
  try simp only [Act.put, List.getElem_toArray, List.getElem_cons_zero, List.getElem_cons_succ, List.setIfInBounds_toArray, List.set_cons_zero, List.set_cons_succ]
  have B2 : Below w.heap.size w w2 := abd.trans (b2.mono abd.size)
  refine wpAnyH_ready (rs := [7]) (by kernel_rfl) (by simp) ?_
  refine AllReadyH.cons rfl (fun K hK => ?_) AllReadyH.nil
  go_simp
  go_at_call 26
  refine (hh _ B2).mono ?_
  rintro e w3 ⟨rfl, o3, t3⟩
  refine hK.out _ _ (⟨hS.1.off o3 n0, hS.2.off o3 n1⟩) fun hS => ?_
  try simp only [Act.put, List.getElem_toArray, List.getElem_cons_zero, List.getElem_cons_succ, List.setIfInBounds_toArray, List.set_cons_zero, List.set_cons_succ]
  have q1 := hS.2
  have BW : w1.heap.size ≤ w2.heap.size := b2.size
  have o1 : Off F w w3 := (Off.of_below (F := F) B2).trans o3 (fun j hj => Or.inl hj)
  refine wpAnyH_ready (rs := [8]) (by kernel_rfl) (by simp) ?_
  refine AllReadyH.cons rfl (fun K hK => step_store rfl 35 (.tmp 4) (.tmp 18) rfl (w.heap.size + 1) (zs 256) rfl rfl 35 _ hS.2 256 size35 (by rw [bs_size, zs_length]) (zs_length 256) (hK.out _ _ (⟨hS.1.other (by omega) _, hS.2.set _⟩) fun hS => ?_)) AllReadyH.nil
  try simp only [Act.put, List.getElem_toArray, List.getElem_cons_zero, List.getElem_cons_succ, List.setIfInBounds_toArray, List.set_cons_zero, List.set_cons_succ]
  refine wpAnyH_take (i := 9) (v := .int .i64 E) rfl (by kernel_rfl) (by kernel_rfl) (by kernel_rfl) (fun _ _ _ h => h) (Or.inl ⟨by rfl, fun w _ => by rfl⟩) hS ?_
  try simp only [Act.put, List.getElem_toArray, List.getElem_cons_zero, List.getElem_cons_succ, List.setIfInBounds_toArray, List.set_cons_zero, List.set_cons_succ]
  refine wpAnyH_done (by kernel_rfl) ?_ _
  go_wp2
  refine bodyPost_ret (v := .tuple #[.agg (bs (zs 256)), .int .i64 E]) ?_ rfl ⟨rfl, ?_, hT _ _ _ t3 (by omega) (Nat.lt_of_lt_of_le r1.lt BW) _⟩
  · exact ret_two (fn := Try.f11) rfl _ _ (w.heap.size + 1) 35 (bs (zs 256)) 256 5 (.int .i64 E) rfl rfl (q1.set _) Try.underlying35 size35 (by rw [bs_size, zs_length])
  · exact o1.trans (Off.of_setRow (F := (· = w.heap.size + 1)) _ _ _ rfl) (fun j hj => Or.inr (by omega))

set_option maxRecDepth 20000 in
theorem do_plan (v : Value) (b y : Int) (fs ks : Value) (w : World) (F : Nat → Prop) (hF : ∀ k, F k → k < w.heap.size) (T : World → World → Prop) (T' : World → Prop)
    (hT : ∀ wa w' j, T wa w' → w.heap.size ≤ j → j < wa.heap.size → ∀ cs, T' (w'.setRow j cs)) (zl : List Int) (hb : Cel w fs (zl.map (.int .i64))) (hzl : zl.length * 8 ≤ 140737488355328)
    (hh : ∀ wa k, Below w.heap.size w wa → Cel wa k (zl.map (.int .i64)) → High w.heap.size k → Calls Try.prog 31 #[v, k, .int .i64 b] wa fun e w' => e = .returned (.tuple #[]) ∧ Off F wa w' ∧ T wa w') :
    Calls Try.prog 11 #[v, .agg #[.int .i64 3, .int .i64 b, .int .u8 y, fs, ks]] w fun e w' => e = .returned (.tuple #[.agg (bs (zs 256)), .int .i64 0]) ∧ Off F w w' ∧ T' w' := by
  have hz := zero35
  have r0 : Row ((w.alloc (.cells #[.int .i64 3, .int .i64 b, .int .u8 y, fs, ks] 33)).alloc (.cells (bs (zs 256)) 35)) w.heap.size #[.int .i64 3, .int .i64 b, .int .u8 y, fs, ks] 33 := (Row.new _ _ _).alloc _
  have r1 : Row ((w.alloc (.cells #[.int .i64 3, .int .i64 b, .int .u8 y, fs, ks] 33)).alloc (.cells (bs (zs 256)) 35)) (w.heap.size + 1) (bs (zs 256)) 35 := by have := Row.new (w.alloc (.cells #[.int .i64 3, .int .i64 b, .int .u8 y, fs, ks] 33)) (bs (zs 256)) 35; simpa using this
  have ab : Below w.heap.size w ((w.alloc (.cells #[.int .i64 3, .int .i64 b, .int .u8 y, fs, ks] 33)).alloc (.cells (bs (zs 256)) 35)) := ((Below.refl _ _).alloc (Nat.le_refl _) _).alloc (by simp) _
  have n0 : ¬ F w.heap.size := fun q => by have := hF _ q; omega
  have n1 : ¬ F (w.heap.size + 1) := fun q => by have := hF _ q; omega
  obtain ⟨cs, HC⟩ : ∃ cs, Hid (#[.int .i64 3, .int .i64 b, .int .u8 y, fs, ks] = cs) := ⟨_, rfl⟩
  have c0 := row_at r0 0 (.int .i64 3) rfl
  have c1 := row_at r0 1 (.int .i64 b) rfl
  have c2 := row_at r0 2 (.int .u8 y) rfl
  have c3 := row_at r0 3 fs rfl
  have c4 := row_at r0 4 ks rfl
  go_enter Try.func11, Try.ntmps11
  obtain ⟨i, hi, hzz, hs, hbb⟩ := info_parts info3
  go_wp2
  generalize (w.alloc (.cells #[.int .i64 3, .int .i64 b, .int .u8 y, fs, ks] 33)).alloc (.cells (bs (zs 256)) 35) = w1 at r0 r1 ab c0 c1 c2 c3 c4 ⊢
  have abd : Below w.heap.size w w1.drew := ab.drew
  have cb : Cel w1.drew fs (zl.map (.int .i64)) := hb.keep abd
  have HR : Hid _ := fun ty => run_copy (P := Try.prog) w1.drew 28 ty 3 i _ 8 Try.underlying28 hi hzz hs hbb rfl fs (zl.map (.int .i64)) cb (by intro u hu; obtain ⟨z, _, rfl⟩ := List.mem_map.1 hu; rfl) (by simpa using hzl) (by decide)
  have r0 : Row w1.drew w.heap.size #[.int .i64 3, .int .i64 b, .int .u8 y, fs, ks] 33 := r0
  have r1 : Row w1.drew (w.heap.size + 1) (bs (zs 256)) 35 := r1
  refine wp_region_held_drew (S := fun w' => Row w' w.heap.size #[.int .i64 3, .int .i64 b, .int .u8 y, fs, ks] 33 ∧ Row w' (w.heap.size + 1) (bs (zs 256)) 35) (by kernel_rfl) ⟨r0, r1⟩ fun hS => ?_
  refine wpAnyH_take (i := 0) (v := v) rfl (by kernel_rfl) (by kernel_rfl) (by kernel_rfl) (fun _ _ _ h => h) (Or.inl ⟨by rfl, fun w _ => by rfl⟩) hS ?_
  try simp only [Act.put, List.getElem_toArray, List.getElem_cons_zero, List.getElem_cons_succ, List.setIfInBounds_toArray, List.set_cons_zero, List.set_cons_succ]
  refine wpAnyH_take (i := 2) (v := .pointer (some ⟨w.heap.size, 3, none⟩)) rfl (by kernel_rfl) (by kernel_rfl) (by kernel_rfl) (fun _ _ _ h => h) (Or.inl ⟨by rfl, fun w _ => by go_simp⟩) hS ?_
  try simp only [Act.put, List.getElem_toArray, List.getElem_cons_zero, List.getElem_cons_succ, List.setIfInBounds_toArray, List.set_cons_zero, List.set_cons_succ]
  refine wpAnyH_take (i := 3) (v := fs) rfl (by kernel_rfl) (by kernel_rfl) (by kernel_rfl) (fun _ _ _ h => h) (Or.inl ⟨by rfl, fun w h => by have c := (row_at h.1 3 (fs) rfl); go_simp⟩) hS ?_
  try simp only [Act.put, List.getElem_toArray, List.getElem_cons_zero, List.getElem_cons_succ, List.setIfInBounds_toArray, List.set_cons_zero, List.set_cons_succ]
  refine wpAnyH_take (i := 5) (v := .pointer (some ⟨w.heap.size, 1, none⟩)) rfl (by kernel_rfl) (by kernel_rfl) (by kernel_rfl) (fun _ _ _ h => h) (Or.inl ⟨by rfl, fun w _ => by go_simp⟩) hS ?_
  try simp only [Act.put, List.getElem_toArray, List.getElem_cons_zero, List.getElem_cons_succ, List.setIfInBounds_toArray, List.set_cons_zero, List.set_cons_succ]
  refine wpAnyH_take (i := 6) (v := .int .i64 b) rfl (by kernel_rfl) (by kernel_rfl) (by kernel_rfl) (fun _ _ _ h => h) (Or.inl ⟨by rfl, fun w h => by have c := (row_at h.1 1 (.int .i64 b) rfl); go_simp⟩) hS ?_
  try simp only [Act.put, List.getElem_toArray, List.getElem_cons_zero, List.getElem_cons_succ, List.setIfInBounds_toArray, List.set_cons_zero, List.set_cons_succ]
  refine wpAnyH_ready (rs := [1]) (by kernel_rfl) (by simp) ?_
  refine AllReadyH.cons rfl (fun K hK => ?_) AllReadyH.nil
  go_simp
  refine hK.out _ _ ⟨hS.1.alloc _, hS.2.alloc _⟩ fun hS => ?_
  try simp only [Act.put, List.getElem_toArray, List.getElem_cons_zero, List.getElem_cons_succ, List.setIfInBounds_toArray, List.set_cons_zero, List.set_cons_succ]
  refine wpAnyH_ready (rs := [4]) (by kernel_rfl) (by simp) ?_
  refine AllReadyH.cons rfl (fun K hK => step_of rfl (wp_copy (.tmp 34) (.tmp 36) 28 rfl _ _ rfl rfl (T := fun v' w' => Cel w' v' (zl.map (.int .i64)) ∧ High w1.drew.heap.size v' ∧ Below w1.drew.heap.size w1.drew w') (fun ty => HR.out ty) ?_)) AllReadyH.nil
  rintro v2 w2 ⟨cel2, low2', b2⟩
  have low2 : High w.heap.size v2 := fun a n c e => Nat.le_trans abd.size (low2' a n c e)
  refine hK.out _ _ ⟨r0.below b2 r0.lt, r1.below b2 r1.lt⟩ fun hS => ?_
  try simp only [Act.put, List.getElem_toArray, List.getElem_cons_zero, List.getElem_cons_succ, List.setIfInBounds_toArray, List.set_cons_zero, List.set_cons_succ]
  have B2 : Below w.heap.size w w2 := abd.trans (b2.mono abd.size)
  refine wpAnyH_ready (rs := [7]) (by kernel_rfl) (by simp) ?_
  refine AllReadyH.cons rfl (fun K hK => ?_) AllReadyH.nil
  go_simp
  go_at_call 31
  refine (hh _ _ B2 cel2 low2).mono ?_
  rintro e w3 ⟨rfl, o3, t3⟩
  refine hK.out _ _ (⟨hS.1.off o3 n0, hS.2.off o3 n1⟩) fun hS => ?_
  try simp only [Act.put, List.getElem_toArray, List.getElem_cons_zero, List.getElem_cons_succ, List.setIfInBounds_toArray, List.set_cons_zero, List.set_cons_succ]
  have q1 := hS.2
  have BW : w1.heap.size ≤ w2.heap.size := b2.size
  have o1 : Off F w w3 := (Off.of_below (F := F) B2).trans o3 (fun j hj => Or.inl hj)
  refine wpAnyH_done (by kernel_rfl) ?_ _
  go_wp2_with (first
    | (refine build_none rfl 35 rfl (bs (zs 256)) built35 ?_)
    | (refine store_row rfl 35 (.tmp 4) (.tmp 48) rfl (w.heap.size + 1) (zs 256) rfl rfl 35 _ q1 256 size35 (by rw [bs_size, zs_length]) (zs_length 256) ?_))
  refine bodyPost_ret (v := .tuple #[.agg (bs (zs 256)), .int .i64 0]) ?_ rfl ⟨rfl, ?_, hT _ _ _ t3 (by omega) (Nat.lt_of_lt_of_le r1.lt BW) _⟩
  · exact ret_two (fn := Try.f11) rfl _ _ (w.heap.size + 1) 35 (bs (zs 256)) 256 5 (.int .i64 0) rfl rfl (q1.set _) Try.underlying35 size35 (by rw [bs_size, zs_length])
  · exact o1.trans (Off.of_setRow (F := (· = w.heap.size + 1)) _ _ _ rfl) (fun j hj => Or.inr (by omega))

end Go.Proofs.Ytkgmhliocfbdfaa
