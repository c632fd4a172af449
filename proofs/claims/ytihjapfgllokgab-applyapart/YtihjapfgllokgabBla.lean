/-
  Proved here: two data pages are alike just if all they hold is; page.Blank and page.Right of data pages; the statements' fixed run (awake).
-/
import Derived.Test.YtihjapfgllokgabFact
namespace Go.Proofs.Ytihjapfgllokgab
open Go.ChangeShapes Go.WideShapes Go.ChangeAt Go.RowKit
set_option linter.unusedVariables false
set_option linter.unusedSimpArgs false
set_option maxRecDepth 20000
theorem equal53 (xs ys : List Int) (hx : xs.length = 64) (hy : ys.length = 64) (w : World) : (Op.equalIn 9999 53 (.agg (bs xs)) (.agg (bs ys))).run Try.prog w = .ok (decide (xs = ys)) w := by
  cases hq : Try.prog.info? 5 with
  | none => have := size5; simp [hq] at this
  | some inf =>
    have h1 := run_equalIn_array (P := Try.prog) (w := w) 9998 (bs xs) (bs ys) Try.underlying53 hq
    have h2 := eqItems_bytes (P := Try.prog) 9997 5 Try.underlying5 size5 cells5 xs ys w (List.range 64) (fun i hi => by have := List.mem_range.1 hi; omega)
    rw [all_range xs ys 64 hx hy] at h2
    exact h1.trans h2
theorem load_cells_g {P : Program} {ops : Array Oper} {rest : List Oper} {o : Oper} {a : Act} {w : World} {Q : Exit → Act → World → Prop} (hw : Region.wanted o (yielded ops a.tmps) = true) (ty : TypeId) (x : Operand) (ho : o.op = .load ty x)
    (g : Nat) (hx : a.eval x = .pointer (some ⟨g, 0, none⟩)) (t : TypeId) (cs : Array Value) (hg : Row w g cs t) (n : Nat) {d : TypeDesc}
    (hu : P.underlying ty = some d) (hd : (match d with | .struct _ | .array _ _ => true | _ => false) = true) (hi : (P.info? ty).map (·.size) = some n) (hn : cs.size = n)
    (h : wpList P ops Q rest (a.put o.dst (.agg cs)) w) : wpList P ops Q (o :: rest) a w :=
  BigFrame.wpList_want hw fun _ hK => wp_load_row ty x ho g hx t cs (0, 0) _ hg hu hd (by rw [hi, hn]) (hK _ _ h)
instance : DecidableEq D := fun a b => by
  cases a; cases b
  simp only [D.mk.injEq]
  exact inferInstance
theorem equal55 (a b : D) (ha : a.Ok) (hb : b.Ok) (w : World) : (Op.equalIn 10000 55 (.agg a.arr) (.agg b.arr)).run Try.prog w = .ok (decide (a = b)) w := by
  obtain ⟨l, t, p, s, xs⟩ := a
  obtain ⟨l', t', p', s', ys⟩ := b
  have h28 := equal53 xs ys ha.len hb.len
  unfold D.arr
  go_simp
  have e1 : (List.take 64 (List.map (Value.int .u8) xs)).toArray = bs xs := by unfold bs; rw [List.take_of_length_le (by have := ha.len; simp at this ⊢; omega)]
  have e2 : (List.take 64 (List.map (Value.int .u8) ys)).toArray = bs ys := by unfold bs; rw [List.take_of_length_le (by have := hb.len; simp at this ⊢; omega)]
  rw [e1, e2, h28]
  by_cases h1 : l = l' <;> by_cases h2 : t = t' <;> by_cases h3 : p = p' <;> by_cases h4 : s = s' <;> by_cases h5 : xs = ys <;> simp [h1, h2, h3, h4, h5]
theorem built24 (no : Int) : (Try.prog.built 24 [(1, .int .u16 no)]) = some #[.bool false, .int .u16 no] := by kernel_rfl
set_option maxHeartbeats 1000000 in
theorem blank_data (no : Int) (w : World) (hno : 0 ≤ no ∧ no ≤ 65535) :
    Calls Try.prog 14 #[.agg #[.bool false, .int .u16 no]] w fun e w' => e = .returned (.agg (bs (putD no D.zero))) ∧ Below w.heap.size w w' := by
  have hz := zero26
  have r0 : Row ((w.alloc (.cells #[.bool false, .int .u16 no] 24)).alloc (.cells (bs (zs 224)) 26)) w.heap.size #[.bool false, .int .u16 no] 24 := (Row.new _ _ _).alloc _
  have r1 : Row ((w.alloc (.cells #[.bool false, .int .u16 no] 24)).alloc (.cells (bs (zs 224)) 26)) (w.heap.size + 1) (bs (zs 224)) 26 := by have := Row.new (w.alloc (.cells #[.bool false, .int .u16 no] 24)) (bs (zs 224)) 26; simpa using this
  have ab : Below w.heap.size w ((w.alloc (.cells #[.bool false, .int .u16 no] 24)).alloc (.cells (bs (zs 224)) 26)) := ((Below.refl _ _).alloc (Nat.le_refl _) _).alloc (by simp) _
  have HP : Hid _ := fun w => putData_any no D.zero w hno D.zero_ok
  have hlen := putD_length no D.zero (zs_length _)
  obtain ⟨R, HR⟩ : ∃ R, Hid (putD no D.zero = R) := ⟨_, rfl⟩
  rw [HR.out] at HP hlen ⊢
  have c0 := row_at r0 0 _ rfl
  have c1 := row_at r0 1 _ rfl
  go_enter Try.func14, Try.ntmps14
  go_upto_region 1 with fail
  generalize (w.alloc (.cells #[.bool false, .int .u16 no] 24)).alloc (.cells (bs (zs 224)) 26) = w1 at r0 r1 ab c0 c1 ⊢
  go_wp2_with (first
    | (refine build_none rfl 55 rfl _ built55 ?_)
    | (go_at_call 27; refine (HP.out _).mono ?_; clear HP; rintro e w3 ⟨rfl, h3⟩)
    | (refine store_row rfl 26 (.tmp 2) (.tmp 18) rfl (w.heap.size + 1) R rfl rfl 26 _ (r1.below h3 r1.lt) 224 size26 (by rw [bs_size, zs_length]) hlen ?_))
  refine bodyPost_ret (v := .agg (bs R)) ?_ rfl ⟨rfl, below_setRow (ab.trans (h3.mono ab.size)) (by omega) _⟩
  exact ret_row (fn := Try.f14) rfl _ _ (w.heap.size + 1) 26 (bs R) 224 5 rfl ((r1.below h3 r1.lt).set _) Try.underlying26 size26 (by rw [bs_size, hlen])
theorem gotD_ok (no : Int) (p : List Int) (hp : p.length = 224) (hb : Bytes p) : (gotD no p).Ok := by
  unfold gotD; split
  · exact dOf_ok p hp hb
  · exact D.zero_ok
set_option maxHeartbeats 1000000 in
theorem right_data (no : Int) (p : List Int) (w : World) (hno : 0 ≤ no ∧ no ≤ 65535) (hp : p.length = 224) (hb : Bytes p) :
    Calls Try.prog 11 #[.agg #[.bool false, .int .u16 no], .agg (bs p)] w fun e w' => e = .returned (.bool (isD no p)) ∧ Below w.heap.size w w' := by
  have hz := zero55
  have r0 : Row ((w.alloc (.cells #[.bool false, .int .u16 no] 24)).alloc (.cells (bs p) 26)) w.heap.size #[.bool false, .int .u16 no] 24 := (Row.new _ _ _).alloc _
  have r1 : Row ((w.alloc (.cells #[.bool false, .int .u16 no] 24)).alloc (.cells (bs p) 26)) (w.heap.size + 1) (bs p) 26 := by have := Row.new (w.alloc (.cells #[.bool false, .int .u16 no] 24)) (bs p) 26; simpa using this
  have ab : Below w.heap.size w ((w.alloc (.cells #[.bool false, .int .u16 no] 24)).alloc (.cells (bs p) 26)) := ((Below.refl _ _).alloc (Nat.le_refl _) _).alloc (by simp) _
  have HP : Hid _ := fun w => getData_any no p w hno hp hb
  have hok := gotD_ok no p hp hb
  have hsz := D.arr_size (gotD no p) hok.len
  have hone := D.arr_one (gotD no p)
  have HE : Hid (errD no p = 0 ↔ isD no p = true) := by
    show _ ↔ _
    unfold errD
    split <;> simp_all
  obtain ⟨X, HX⟩ : ∃ R, Hid ((gotD no p).arr = R) := ⟨_, rfl⟩
  obtain ⟨E, HEE⟩ : ∃ R, Hid (errD no p = R) := ⟨_, rfl⟩
  rw [HX.out] at HP hsz hone
  rw [HEE.out] at HP HE
  have HB : Hid ((E == 0) = isD no p) := by
    show _ = _
    rw [Bool.eq_iff_iff, ← HE.out]; simp
  have hpb : (bs p).size = 224 := by rw [bs_size, hp]
  have c0 := row_at r0 0 _ rfl
  have c1 := row_at r0 1 _ rfl
  go_enter Try.func11, Try.ntmps11
  go_upto_region 1 with fail
  generalize (w.alloc (.cells #[.bool false, .int .u16 no] 24)).alloc (.cells (bs p) 26) = w1 at r0 r1 ab c0 c1 ⊢
  go_wp2_with (first
    | (refine load_row rfl 26 (.tmp 3) rfl (w.heap.size + 1) rfl 26 (bs p) r1 224 5 Try.underlying26 size26 hpb ?_)
    | (go_at_call 15; refine (HP.out _).mono ?_; clear HP; rintro e w3 ⟨rfl, h3⟩
       have q3 : Row (w3.alloc (.cells D.zero.arr 55)) w3.heap.size D.zero.arr 55 := Row.new _ _ _)
    | (refine store_cells rfl 55 (.tmp 7) (.tmp 25) rfl w3.heap.size X rfl rfl 55 _ q3 68 size55 rfl hsz hone ?_))
  have b3 : Below w.heap.size w w3 := ab.trans (h3.mono ab.size)
  go_ret
  exact ⟨ret_bool HB.out, below_setRow (b3.alloc b3.size _) b3.size _⟩
end Go.Proofs.Ytihjapfgllokgab
