/-
  Proved here: two data pages are alike just if all they hold is; page.Blank and page.Right of data pages; the statements' fixed run (awake).
-/
import Derived.Test.YtomlbkdagaldoaaFact
namespace Go.Proofs.Ytomlbkdagaldoaa
open Go.ChangeShapes Go.WideShapes Go.ChangeAt Go.RowKit
set_option linter.unusedVariables false
set_option linter.unusedSimpArgs false
theorem equal28 (xs ys : List Int) (hx : xs.length = 64) (hy : ys.length = 64) (w : World) : (Op.equalIn 9999 28 (.agg (bs xs)) (.agg (bs ys))).run Try.prog w = .ok (decide (xs = ys)) w := by
  cases hq : Try.prog.info? 5 with
  | none => have := size5; simp [hq] at this
  | some inf =>
    have h1 := run_equalIn_array (P := Try.prog) (w := w) 9998 (bs xs) (bs ys) Try.underlying28 hq
    have h2 := eqItems_bytes (P := Try.prog) 9997 5 Try.underlying5 size5 cells5 xs ys w (List.range 64) (fun i hi => by have := List.mem_range.1 hi; omega)
    rw [all_range xs ys 64 hx hy] at h2
    exact h1.trans h2
theorem load_cells_g {P : Program} {ops : Array Oper} {rest : List Oper} {o : Oper} {a : Act} {w : World} {Q : Exit → Act → World → Prop} (hw : Region.wanted o (yielded ops a.tmps) = true) (ty : TypeId) (x : Operand) (ho : o.op = .load ty x)
    (g : Nat) (hx : a.eval x = .pointer (some ⟨g, 0, none⟩)) (t : TypeId) (cs : Array Value) (hg : Row w g cs t) (n : Nat) {d : TypeDesc}
    (hu : P.underlying ty = some d) (hd : (match d with | .struct _ | .array _ _ => true | _ => false) = true) (hi : (P.info? ty).map (·.size) = some n) (hn : cs.size = n)
    (h : wpList P ops Q rest (a.put o.dst (.agg cs)) w) : wpList P ops Q (o :: rest) a w :=
  BigFrame.wpList_want hw fun _ hK => wp_load_row ty x ho g hx t cs (0, 0) _ hg hu hd (by rw [hi, hn]) (hK _ _ h)
instance : DecidableEq D := fun a b => by
  cases a; cases b
  simp only [D.mk.injEq]
  exact inferInstance
theorem equal30 (a b : D) (ha : a.Ok) (hb : b.Ok) (w : World) : (Op.equalIn 10000 30 (.agg a.arr) (.agg b.arr)).run Try.prog w = .ok (decide (a = b)) w := by
  obtain ⟨l, t, p, s, xs⟩ := a
  obtain ⟨l', t', p', s', ys⟩ := b
  have h28 := equal28 xs ys ha.len hb.len
  unfold D.arr
  go_simp
  have e1 : (List.take 64 (List.map (Value.int .u8) xs)).toArray = bs xs := by unfold bs; rw [List.take_of_length_le (by have := ha.len; simp at this ⊢; omega)]
  have e2 : (List.take 64 (List.map (Value.int .u8) ys)).toArray = bs ys := by unfold bs; rw [List.take_of_length_le (by have := hb.len; simp at this ⊢; omega)]
  rw [e1, e2, h28]
  by_cases h1 : l = l' <;> by_cases h2 : t = t' <;> by_cases h3 : p = p' <;> by_cases h4 : s = s' <;> by_cases h5 : xs = ys <;> simp [h1, h2, h3, h4, h5]
theorem built59 (no : Int) : (Try.prog.built 59 [(1, .int .u16 no)]) = some #[.bool false, .int .u16 no] := by kernel_rfl
set_option maxHeartbeats 1000000 in
theorem blank_data (no : Int) (w : World) (hno : 0 ≤ no ∧ no ≤ 65535) :
    Calls Try.prog 25 #[.agg #[.bool false, .int .u16 no]] w fun e w' => e = .returned (.agg (bs (putD no D.zero))) ∧ Below w.heap.size w w' := by
  have hz := zero32
  have r0 : Row ((w.alloc (.cells #[.bool false, .int .u16 no] 59)).alloc (.cells (bs (zs 224)) 32)) w.heap.size #[.bool false, .int .u16 no] 59 := (Row.new _ _ _).alloc _
  have r1 : Row ((w.alloc (.cells #[.bool false, .int .u16 no] 59)).alloc (.cells (bs (zs 224)) 32)) (w.heap.size + 1) (bs (zs 224)) 32 := by have := Row.new (w.alloc (.cells #[.bool false, .int .u16 no] 59)) (bs (zs 224)) 32; simpa using this
  have ab : Below w.heap.size w ((w.alloc (.cells #[.bool false, .int .u16 no] 59)).alloc (.cells (bs (zs 224)) 32)) := ((Below.refl _ _).alloc (Nat.le_refl _) _).alloc (by simp) _
  have HP : Hid _ := fun w => putData_any no D.zero w hno D.zero_ok
  have hlen := putD_length no D.zero (zs_length _)
  obtain ⟨R, HR⟩ : ∃ R, Hid (putD no D.zero = R) := ⟨_, rfl⟩
  rw [HR.out] at HP hlen ⊢
  have c0 := row_at r0 0 _ rfl
  have c1 := row_at r0 1 _ rfl
  go_enter Try.func25, Try.ntmps25
  go_upto_region 1 with fail
  generalize (w.alloc (.cells #[.bool false, .int .u16 no] 59)).alloc (.cells (bs (zs 224)) 32) = w1 at r0 r1 ab c0 c1 ⊢
  go_wp2_with (first
    | (refine build_none rfl 30 rfl _ built30 ?_)
    | (go_at_call 11; refine (HP.out _).mono ?_; clear HP; rintro e w3 ⟨rfl, h3⟩)
    | (refine store_row rfl 32 (.tmp 2) (.tmp 18) rfl (w.heap.size + 1) R rfl rfl 32 _ (r1.below h3 r1.lt) 224 size32 (by rw [bs_size, zs_length]) hlen ?_))
  refine bodyPost_ret (v := .agg (bs R)) ?_ rfl ⟨rfl, below_setRow (ab.trans (h3.mono ab.size)) (by omega) _⟩
  exact ret_row (fn := Try.f25) rfl _ _ (w.heap.size + 1) 32 (bs R) 224 5 rfl ((r1.below h3 r1.lt).set _) Try.underlying32 size32 (by rw [bs_size, hlen])
theorem gotD_ok (no : Int) (p : List Int) (hp : p.length = 224) (hb : Bytes p) : (gotD no p).Ok := by
  unfold gotD; split
  · exact dOf_ok p hp hb
  · exact D.zero_ok
set_option maxHeartbeats 1000000 in
theorem right_data (no : Int) (p : List Int) (w : World) (hno : 0 ≤ no ∧ no ≤ 65535) (hp : p.length = 224) (hb : Bytes p) :
    Calls Try.prog 27 #[.agg #[.bool false, .int .u16 no], .agg (bs p)] w fun e w' => e = .returned (.bool (isD no p)) ∧ Below w.heap.size w w' := by
  have hz := zero30
  have r0 : Row ((w.alloc (.cells #[.bool false, .int .u16 no] 59)).alloc (.cells (bs p) 32)) w.heap.size #[.bool false, .int .u16 no] 59 := (Row.new _ _ _).alloc _
  have r1 : Row ((w.alloc (.cells #[.bool false, .int .u16 no] 59)).alloc (.cells (bs p) 32)) (w.heap.size + 1) (bs p) 32 := by have := Row.new (w.alloc (.cells #[.bool false, .int .u16 no] 59)) (bs p) 32; simpa using this
  have ab : Below w.heap.size w ((w.alloc (.cells #[.bool false, .int .u16 no] 59)).alloc (.cells (bs p) 32)) := ((Below.refl _ _).alloc (Nat.le_refl _) _).alloc (by simp) _
  have HP : Hid _ := fun w => getData_any no p w hno hp hb
  have hok := gotD_ok no p hp hb
  have hsz := D.arr_size (gotD no p) hok.len
  have hone := D.arr_one (gotD no p)
  have HE : Hid (errD no p = 0 ↔ isD no p = true) := by
    show _ ↔ _
    unfold errD
    split <;> simp_all
  obtain ⟨X, HX⟩ : ∃ R, Hid ((gotD no p).arr = R) := ⟨_, rfl⟩
  obtain ⟨E, HEE⟩ : ∃ R, Hid (errD no p = R) := ⟨_, rfl⟩
  rw [HX.out] at HP hsz hone
  rw [HEE.out] at HP HE
  have HB : Hid ((E == 0) = isD no p) := by
    show _ = _
    rw [Bool.eq_iff_iff, ← HE.out]; simp
  have hpb : (bs p).size = 224 := by rw [bs_size, hp]
  have c0 := row_at r0 0 _ rfl
  have c1 := row_at r0 1 _ rfl
  go_enter Try.func27, Try.ntmps27
  go_upto_region 1 with fail
  generalize (w.alloc (.cells #[.bool false, .int .u16 no] 59)).alloc (.cells (bs p) 32) = w1 at r0 r1 ab c0 c1 ⊢
  go_wp2_with (first
    | (refine load_row rfl 32 (.tmp 3) rfl (w.heap.size + 1) rfl 32 (bs p) r1 224 5 Try.underlying32 size32 hpb ?_)
    | (go_at_call 9; refine (HP.out _).mono ?_; clear HP; rintro e w3 ⟨rfl, h3⟩
       have q3 : Row (w3.alloc (.cells D.zero.arr 30)) w3.heap.size D.zero.arr 30 := Row.new _ _ _)
    | (refine store_cells rfl 30 (.tmp 7) (.tmp 25) rfl w3.heap.size X rfl rfl 30 _ q3 68 size30 rfl hsz hone ?_))
  have b3 : Below w.heap.size w w3 := ab.trans (h3.mono ab.size)
  go_ret
  exact ⟨ret_bool HB.out, below_setRow (b3.alloc b3.size _) b3.size _⟩
set_option maxHeartbeats 2000000 in
theorem awake_any (w : World) : Calls Try.prog 15 #[] w fun e w' => e = .returned (.bool true) ∧ Below w.heap.size w w' := by
  have hz := zero32
  have hz1 := zero30
  have hok := D.zero_ok
  have hlen := putD_length 3 D.zero (zs_length _)
  have hby := putD_bytes 3 D.zero (zs_bytes _)
  have HBL : Hid _ := fun w => blank_data 3 w (by decide)
  have HGT : Hid _ := fun w => getData_any 3 (putD 3 D.zero) w (by decide) hlen hby
  have HRT : Hid _ := fun w => right_data 3 (putD 3 D.zero) w (by decide) hlen hby
  have hk := putD_kind 3 D.zero hok
  have h1 : isD 3 (putD 3 D.zero) = true := isD_putD 3 D.zero hok
  have h2 : gotD 3 (putD 3 D.zero) = D.zero := by unfold gotD; rw [h1, if_pos rfl, dOf_putD 3 _ hok]
  have h3 : errD 3 (putD 3 D.zero) = 0 := by unfold errD; rw [h1]; rfl
  rw [h2, h3] at HGT
  rw [h1] at HRT
  clear h1 h2 h3
  have heq := fun w => equal30 D.zero D.zero hok hok w
  rw [decide_eq_true (p := D.zero = D.zero) rfl] at heq
  obtain ⟨R, HR⟩ : ∃ R, Hid (putD 3 D.zero = R) := ⟨_, rfl⟩
  rw [HR.out] at HBL HGT HRT hlen hk
  have hX : D.zero.arr.size = 68 := D.arr_size _ (zs_length _)
  have hX1 := D.arr_one D.zero
  have hbl30 := built30
  generalize D.zero.arr = X at HGT heq hX hX1 hz1 hbl30
  have hRb : (bs R).size = 224 := by rw [bs_size, hlen]
  go_enter Try.func15, Try.ntmps15
  go_upto_region 2 with (first
    | (go_at_call 25; refine (HBL.out _).mono ?_; clear HBL; rintro e w1 ⟨rfl, h1⟩
       have q1 : Row (w1.alloc (.cells (bs (zs 224)) 32)) w1.heap.size (bs (zs 224)) 32 := Row.new _ _ _)
    | (refine store_row rfl 32 (.tmp 1) (.tmp 5) rfl w1.heap.size R rfl rfl 32 _ q1 224 size32 (by rw [bs_size, zs_length]) hlen ?_))
  have a1 := q1.set (bs R)
  have ab : Below w.heap.size w ((w1.alloc (.cells (bs (zs 224)) 32)).setRow w1.heap.size (bs R)) := below_setRow (h1.alloc h1.size _) h1.size _
  have hg1 := h1.size
  clear q1 h1
  generalize (w1.alloc (.cells (bs (zs 224)) 32)).setRow w1.heap.size (bs R) = w2 at a1 ab ⊢
  generalize w1.heap.size = g1 at a1 hg1 ⊢
  go_upto_region 3 with (first
    | (refine load_row rfl 32 (.tmp 1) rfl g1 rfl 32 (bs R) a1 224 5 Try.underlying32 size32 hRb ?_)
    | (go_at_call 9; refine (HGT.out _).mono ?_; clear HGT; rintro e w3 ⟨rfl, h3⟩
       have q3 : Row (w3.alloc (.cells X 30)) w3.heap.size X 30 := Row.new _ _ _)
    | (refine store_cells rfl 30 (.tmp 2) (.tmp 9) rfl w3.heap.size X rfl rfl 30 _ q3 68 size30 hX hX hX1 ?_))
  have b3 : Below w.heap.size w w3 := ab.trans (h3.mono ab.size)
  have l3 : Row w3 g1 (bs R) 32 := a1.below h3 a1.lt
  have l3' := l3.lt
  have m1 : Row ((w3.alloc (.cells X 30)).setRow w3.heap.size X) g1 (bs R) 32 := (l3.alloc _).other (by omega) _
  have m2 := q3.set X
  have mb : Below w.heap.size w ((w3.alloc (.cells X 30)).setRow w3.heap.size X) := below_setRow (b3.alloc b3.size _) b3.size _
  clear a1 ab h3 q3 b3 l3
  generalize (w3.alloc (.cells X 30)).setRow w3.heap.size X = w4 at m1 m2 mb ⊢
  generalize w3.heap.size = g2 at m2 l3' ⊢
  have t1 : Hid (1 = 1) := rfl
  have t2 : Hid (2 = 2) := rfl
  have p1 : Hid (1 = 1) := rfl
  go_wp2_with (first
    | (have hh := t1; clear hh t1; refine load_cells_g rfl 30 (.tmp 2) rfl g2 rfl 30 X m2 68 Try.underlying30 rfl size30 hX ?_)
    | (have hh := t2; clear hh t2; refine build_none_g rfl 30 rfl _ hbl30 ?_)
    | (have hh := p1; clear hh p1; refine load_row_g rfl 32 (.tmp 1) rfl g1 rfl 32 (bs R) m1 224 5 Try.underlying32 size32 hRb ?_)
    | (go_at_call 27; refine (HRT.out _).mono ?_; clear HRT; rintro e w5 ⟨rfl, h5⟩
       have m5 := m1.below h5 m1.lt
       have c5 := row_cell m5 0 (by omega)
       rw [hk] at c5))
  go_ret
  exact ⟨rfl, mb.trans (h5.mono mb.size)⟩
end Go.Proofs.Ytomlbkdagaldoaa
