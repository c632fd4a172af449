/-
  Proved here: page.Blank and page.Right of undo pages, the document's Blank and Right (varveref06); a blank page is that page's and no other one's.
-/
import Derived.Test.YtomlbkdagaldoaaRefW
import Derived.Test.YtomlbkdagaldoaaOpnD
namespace Go.Proofs.Ytomlbkdagaldoaa
open Go.ChangeShapes Go.WideShapes Go.ChangeAt Go.RowKit
open Go.Deep
set_option linter.unusedVariables false
set_option linter.unusedSimpArgs false

theorem may_nil : may [] = true := by decide
/-- A blank page's payload. -/
def blankP (u : Bool) (no : Int) : List Int := if u then putU no 0 [] else putD no D.zero
/-- Whether a payload is that page's. -/
def isP (u : Bool) (no : Int) (p : List Int) : Bool := if u then isU no p else isD no p
theorem blankP_length (u : Bool) (no : Int) : (blankP u no).length = 224 := by
  cases u
  · exact putD_length _ _ (zs_length _)
  · show (putU no 0 []).length = 224
    exact putU_length _ _ _
theorem blankP_bytes (u : Bool) (no : Int) : Bytes (blankP u no) := by
  cases u
  · exact putD_bytes _ _ (zs_bytes _)
  · show Bytes (putU no 0 [])
    exact putU_bytes _ _ _
theorem isP_blank (u u2 : Bool) (no on : Int) (h1 : 0 ≤ no ∧ no ≤ 65535) (h2 : 0 ≤ on ∧ on ≤ 65535) : isP u2 on (blankP u no) = (decide (u = u2) && decide (no = on)) := by
  cases u <;> cases u2
  · show isD on (putD no D.zero) = _
    rw [isD_other no on D.zero D.zero_ok h1 h2]; simp
  · show isU on (putD no D.zero) = _
    rw [isU_data no on D.zero D.zero_ok]; simp
  · show isD on (putU no 0 []) = _
    rw [putU_may _ _ _ may_nil, isD_undo no on 0 [] may_nil]; simp
  · show isU on (putU no 0 []) = _
    rw [putU_may _ _ _ may_nil, isU_put no on 0 [] may_nil (by simp) (by decide) h1 h2]; simp
set_option maxHeartbeats 1000000 in
theorem blank_undo (no : Int) (w : World) (hno : 0 ≤ no ∧ no ≤ 65535) :
    Calls Try.prog 25 #[.agg #[.bool true, .int .u16 no]] w fun e w' => e = .returned (.agg (bs (putU no 0 []))) ∧ Below w.heap.size w w' := by
  have hz := zero32
  have r0 : Row ((w.alloc (.cells #[.bool true, .int .u16 no] 59)).alloc (.cells (bs (zs 224)) 32)) w.heap.size #[.bool true, .int .u16 no] 59 := (Row.new _ _ _).alloc _
  have r1 : Row ((w.alloc (.cells #[.bool true, .int .u16 no] 59)).alloc (.cells (bs (zs 224)) 32)) (w.heap.size + 1) (bs (zs 224)) 32 := by have := Row.new (w.alloc (.cells #[.bool true, .int .u16 no] 59)) (bs (zs 224)) 32; simpa using this
  have ab : Below w.heap.size w ((w.alloc (.cells #[.bool true, .int .u16 no] 59)).alloc (.cells (bs (zs 224)) 32)) := ((Below.refl _ _).alloc (Nat.le_refl _) _).alloc (by simp) _
  have HP : Hid _ := fun w => putUndo_any no 0 (.slice none 0 0) [] w (Or.inl ⟨rfl, rfl⟩) (by simp) hno (by decide)
  have hlen := putU_length no 0 []
  have e0 : errU [] = 0 := by unfold errU; rw [may_nil]; rfl
  rw [e0] at HP
  obtain ⟨R, HR⟩ : ∃ R, Hid (putU no 0 [] = R) := ⟨_, rfl⟩
  rw [HR.out] at HP hlen ⊢
  have hRb : (bs R).size = 224 := by rw [bs_size, hlen]
  have c0 := row_at r0 0 _ rfl
  have c1 := row_at r0 1 _ rfl
  go_enter Try.func25, Try.ntmps25
  go_upto_region 1 with fail
  generalize (w.alloc (.cells #[.bool true, .int .u16 no] 59)).alloc (.cells (bs (zs 224)) 32) = w1 at r0 r1 ab c0 c1 ⊢
  go_upto_region 3 with (first
    | (refine build_none rfl 44 rfl _ built44 ?_)
    | (go_at_call 16; refine (HP.out _).mono ?_; clear HP; rintro e w3 ⟨rfl, h3⟩
       have q3 : Row (w3.alloc (.cells (bs (zs 224)) 32)) w3.heap.size (bs (zs 224)) 32 := Row.new _ _ _)
    | (refine store_row rfl 32 (.tmp 3) (.tmp 12) rfl w3.heap.size R rfl rfl 32 _ q3 224 size32 (by rw [bs_size, zs_length]) hlen ?_))
  have r1 := r1.below h3 r1.lt
  have l3 := r1.lt
  have ab := ab.trans (h3.mono ab.size)
  have r1 := (r1.alloc (.cells (bs (zs 224)) 32)).other (g := w3.heap.size) (by omega) (bs R)
  have q3 := q3.set (bs R)
  have ab := below_setRow (ab.alloc ab.size (.cells (bs (zs 224)) 32)) ab.size (bs R)
  clear h3
  generalize (w3.alloc (.cells (bs (zs 224)) 32)).setRow w3.heap.size (bs R) = w4 at r1 q3 ab ⊢
  generalize w3.heap.size = g3 at q3 l3 ⊢
  go_wp2_with (first
    | (refine load_row rfl 32 (.tmp 3) rfl g3 rfl 32 (bs R) q3 224 5 Try.underlying32 size32 hRb ?_)
    | (refine store_row rfl 32 (.tmp 2) (.tmp 14) rfl (w.heap.size + 1) R rfl rfl 32 _ r1 224 size32 (by rw [bs_size, zs_length]) hlen ?_))
  refine bodyPost_ret (v := .agg (bs R)) ?_ rfl ⟨rfl, below_setRow ab (by omega) _⟩
  exact ret_row (fn := Try.f25) rfl _ _ (w.heap.size + 1) 32 (bs R) 224 5 rfl (r1.set _) Try.underlying32 size32 hRb
theorem blank_any (u : Bool) (no : Int) (w : World) (hno : 0 ≤ no ∧ no ≤ 65535) :
    Calls Try.prog 25 #[.agg #[.bool u, .int .u16 no]] w fun e w' => e = .returned (.agg (bs (blankP u no))) ∧ Below w.heap.size w w' := by
  cases u
  · exact blank_data no w hno
  · exact blank_undo no w hno
set_option maxHeartbeats 1000000 in
theorem rblank_any (u : Bool) (no : Int) (w : World) (hno : 0 ≤ no ∧ no ≤ 65535) :
    Calls Try.prog 26 #[.agg #[.bool u, .int .u16 no]] w fun e w' => e = .returned (.agg (bs (blankP u no))) ∧ Below w.heap.size w w' := by
  have hz := zero32
  have r0 : Row ((w.alloc (.cells #[.bool u, .int .u16 no] 59)).alloc (.cells (bs (zs 224)) 32)) w.heap.size #[.bool u, .int .u16 no] 59 := (Row.new _ _ _).alloc _
  have r1 : Row ((w.alloc (.cells #[.bool u, .int .u16 no] 59)).alloc (.cells (bs (zs 224)) 32)) (w.heap.size + 1) (bs (zs 224)) 32 := by have := Row.new (w.alloc (.cells #[.bool u, .int .u16 no] 59)) (bs (zs 224)) 32; simpa using this
  have ab : Below w.heap.size w ((w.alloc (.cells #[.bool u, .int .u16 no] 59)).alloc (.cells (bs (zs 224)) 32)) := ((Below.refl _ _).alloc (Nat.le_refl _) _).alloc (by simp) _
  have hlen := blankP_length u no
  have c0 := row_at r0 0 _ rfl
  have c1 := row_at r0 1 _ rfl
  go_enter Try.func26, Try.ntmps26
  go_upto_region 1 with fail
  generalize (w.alloc (.cells #[.bool u, .int .u16 no] 59)).alloc (.cells (bs (zs 224)) 32) = w1 at r0 r1 ab c0 c1 ⊢
  cases u
  · have HP : Hid _ := fun w => rputData_any no D.zero w hno D.zero_ok
    have hlen : (putD no D.zero).length = 224 := hlen
    obtain ⟨R, HR⟩ : ∃ R, Hid (putD no D.zero = R) := ⟨_, rfl⟩
    have HR' : Hid (blankP false no = R) := HR.out
    rw [HR.out] at HP hlen
    go_wp2_with (first
      | (refine build_none rfl 30 rfl _ built30 ?_)
      | (go_at_call 12; refine (HP.out _).mono ?_; clear HP; rintro e w3 ⟨rfl, h3⟩)
      | (refine store_row rfl 32 (.tmp 2) (.tmp 18) rfl (w.heap.size + 1) R rfl rfl 32 _ (r1.below h3 r1.lt) 224 size32 (by rw [bs_size, zs_length]) hlen ?_))
    refine bodyPost_ret (v := .agg (bs R)) ?_ rfl ⟨by rw [HR'.out], below_setRow (ab.trans (h3.mono ab.size)) (by omega) _⟩
    exact ret_row (fn := Try.f26) rfl _ _ (w.heap.size + 1) 32 (bs R) 224 5 rfl ((r1.below h3 r1.lt).set _) Try.underlying32 size32 (by rw [bs_size, hlen])
  · have HP : Hid _ := fun w => rputUndo_any no 0 (.slice none 0 0) [] w (Or.inl ⟨rfl, rfl⟩) (by simp) hno (by decide)
    have hlen : (putU no 0 []).length = 224 := hlen
    rw [may_nil] at HP
    obtain ⟨R, HR⟩ : ∃ R, Hid (putU no 0 [] = R) := ⟨_, rfl⟩
    have HR' : Hid (blankP true no = R) := HR.out
    rw [HR.out] at HP hlen
    have hRb : (bs R).size = 224 := by rw [bs_size, hlen]
    go_upto_region 3 with (first
      | (refine build_none rfl 44 rfl _ built44 ?_)
      | (go_at_call 18; refine (HP.out _).mono ?_; clear HP; rintro e w3 ⟨rfl, h3⟩
         have q3 : Row (w3.alloc (.cells (bs (zs 224)) 32)) w3.heap.size (bs (zs 224)) 32 := Row.new _ _ _)
      | (refine store_row rfl 32 (.tmp 3) (.tmp 12) rfl w3.heap.size R rfl rfl 32 _ q3 224 size32 (by rw [bs_size, zs_length]) hlen ?_))
    have r1 := r1.below h3 r1.lt
    have l3 := r1.lt
    have ab := ab.trans (h3.mono ab.size)
    have r1 := (r1.alloc (.cells (bs (zs 224)) 32)).other (g := w3.heap.size) (by omega) (bs R)
    have q3 := q3.set (bs R)
    have ab := below_setRow (ab.alloc ab.size (.cells (bs (zs 224)) 32)) ab.size (bs R)
    clear h3
    generalize (w3.alloc (.cells (bs (zs 224)) 32)).setRow w3.heap.size (bs R) = w4 at r1 q3 ab ⊢
    generalize w3.heap.size = g3 at q3 l3 ⊢
    go_wp2_with (first
      | (refine load_row rfl 32 (.tmp 3) rfl g3 rfl 32 (bs R) q3 224 5 Try.underlying32 size32 hRb ?_)
      | (refine store_row rfl 32 (.tmp 2) (.tmp 14) rfl (w.heap.size + 1) R rfl rfl 32 _ r1 224 size32 (by rw [bs_size, zs_length]) hlen ?_))
    refine bodyPost_ret (v := .agg (bs R)) ?_ rfl ⟨by rw [HR'.out], below_setRow ab (by omega) _⟩
    exact ret_row (fn := Try.f26) rfl _ _ (w.heap.size + 1) 32 (bs R) 224 5 rfl (r1.set _) Try.underlying32 size32 hRb
set_option maxHeartbeats 1000000 in
theorem right_undo (no : Int) (p : List Int) (w : World) (hno : 0 ≤ no ∧ no ≤ 65535) (hp : p.length = 224) (hb : Bytes p) :
    Calls Try.prog 27 #[.agg #[.bool true, .int .u16 no], .agg (bs p)] w fun e w' => e = .returned (.bool (isU no p)) ∧ Below w.heap.size w w' := by
  have hz := zero44
  have r0 : Row ((w.alloc (.cells #[.bool true, .int .u16 no] 59)).alloc (.cells (bs p) 32)) w.heap.size #[.bool true, .int .u16 no] 59 := (Row.new _ _ _).alloc _
  have r1 : Row ((w.alloc (.cells #[.bool true, .int .u16 no] 59)).alloc (.cells (bs p) 32)) (w.heap.size + 1) (bs p) 32 := by have := Row.new (w.alloc (.cells #[.bool true, .int .u16 no] 59)) (bs p) 32; simpa using this
  have ab : Below w.heap.size w ((w.alloc (.cells #[.bool true, .int .u16 no] 59)).alloc (.cells (bs p) 32)) := ((Below.refl _ _).alloc (Nat.le_refl _) _).alloc (by simp) _
  have HP : Hid (∀ w, Calls Try.prog 19 #[.int .u16 no, .agg (bs p)] w fun e w' => ∃ L oa n cap, e = .returned (.tuple #[.agg #[.int .u64 L, .slice oa n cap], .int .i64 (if isU no p then 0 else 2)]) ∧ Below w.heap.size w w') := fun w => (getUndo_any no p w hno hp hb).mono fun e w' h => by
    obtain ⟨v', h1, h2, h3⟩ := h
    obtain ⟨oa, cap, rfl, _⟩ := h2.open
    exact ⟨_, _, _, _, h1, h3⟩
  have hpb : (bs p).size = 224 := by rw [bs_size, hp]
  have c0 := row_at r0 0 _ rfl
  have c1 := row_at r0 1 _ rfl
  have HB : Hid (((if isU no p then (0 : Int) else 2) == 0) = isU no p) := by show _ = _; cases isU no p <;> rfl
  generalize (if isU no p then (0 : Int) else 2) = E at HP HB
  clear hp hb
  go_enter Try.func27, Try.ntmps27
  go_upto_region 1 with fail
  generalize (w.alloc (.cells #[.bool true, .int .u16 no] 59)).alloc (.cells (bs p) 32) = w1 at r0 r1 ab c0 c1 ⊢
  go_wp2_with (first
    | (refine load_row rfl 32 (.tmp 3) rfl (w.heap.size + 1) rfl 32 (bs p) r1 224 5 Try.underlying32 size32 hpb ?_)
    | (go_at_call 19; refine (HP.out _).mono ?_; clear HP; rintro e w3 ⟨L, oa, n, cap, rfl, h3⟩
       have q3 : Row (w3.alloc (.cells #[.int .u64 0, .slice none 0 0] 44)) w3.heap.size #[.int .u64 0, .slice none 0 0] 44 := Row.new _ _ _)
    | (refine store_cells rfl 44 (.tmp 5) (.tmp 16) rfl w3.heap.size #[.int .u64 L, .slice oa n cap] rfl rfl 44 _ q3 2 size44 rfl rfl (by simp [Value.oneCell']) ?_))
  have b3 : Below w.heap.size w w3 := ab.trans (h3.mono ab.size)
  go_ret
  exact ⟨ret_bool HB.out, below_setRow (b3.alloc b3.size _) b3.size _⟩
theorem right_any (u : Bool) (no : Int) (p : List Int) (w : World) (hno : 0 ≤ no ∧ no ≤ 65535) (hp : p.length = 224) (hb : Bytes p) :
    Calls Try.prog 27 #[.agg #[.bool u, .int .u16 no], .agg (bs p)] w fun e w' => e = .returned (.bool (isP u no p)) ∧ Below w.heap.size w w' := by
  cases u
  · exact right_data no p w hno hp hb
  · exact right_undo no p w hno hp hb
set_option maxHeartbeats 1000000 in
theorem rright_any (u : Bool) (no : Int) (p : List Int) (w : World) (hno : 0 ≤ no ∧ no ≤ 65535) (hp : p.length = 224) (hb : Bytes p) :
    Calls Try.prog 28 #[.agg #[.bool u, .int .u16 no], .agg (bs p)] w fun e w' => e = .returned (.bool (isP u no p)) ∧ Below w.heap.size w w' := by
  have hz := zero44
  have hz2 := zero30
  have r0 : Row ((w.alloc (.cells #[.bool u, .int .u16 no] 59)).alloc (.cells (bs p) 32)) w.heap.size #[.bool u, .int .u16 no] 59 := (Row.new _ _ _).alloc _
  have r1 : Row ((w.alloc (.cells #[.bool u, .int .u16 no] 59)).alloc (.cells (bs p) 32)) (w.heap.size + 1) (bs p) 32 := by have := Row.new (w.alloc (.cells #[.bool u, .int .u16 no] 59)) (bs p) 32; simpa using this
  have ab : Below w.heap.size w ((w.alloc (.cells #[.bool u, .int .u16 no] 59)).alloc (.cells (bs p) 32)) := ((Below.refl _ _).alloc (Nat.le_refl _) _).alloc (by simp) _
  have HP : Hid (∀ w, Calls Try.prog 20 #[.int .u16 no, .agg (bs p)] w fun e w' => ∃ L oa n cap, e = .returned (.tuple #[.agg #[.int .u64 L, .slice oa n cap], .bool (isU no p)]) ∧ Below w.heap.size w w') := fun w => (rgetUndo_any no p w hno hp hb).mono fun e w' h => by
    obtain ⟨v', h1, h2, h3⟩ := h
    obtain ⟨oa, cap, rfl, _⟩ := h2.open
    exact ⟨_, _, _, _, h1, h3⟩
  have HD : Hid _ := fun w => rgetData_any no p w hno hp hb
  have hok := gotD_ok no p hp hb
  have hsz := D.arr_size (gotD no p) hok.len
  have hone := D.arr_one (gotD no p)
  have hpb : (bs p).size = 224 := by rw [bs_size, hp]
  have c0 := row_at r0 0 _ rfl
  have c1 := row_at r0 1 _ rfl
  have HI1 : Hid (isP true no p = isU no p) := rfl
  have HI2 : Hid (isP false no p = isD no p) := rfl
  generalize isU no p = I1 at HP HI1
  generalize isD no p = I2 at HD HI2
  generalize (gotD no p).arr = X at HD hsz hone
  clear hp hb hok
  have hDz : D.zero.arr.size = 68 := D.arr_size _ (zs_length _)
  go_enter Try.func28, Try.ntmps28
  go_upto_region 1 with fail
  generalize (w.alloc (.cells #[.bool u, .int .u16 no] 59)).alloc (.cells (bs p) 32) = w1 at r0 r1 ab c0 c1 ⊢
  cases u
  · go_wp2_with (first
      | (refine load_row rfl 32 (.tmp 3) rfl (w.heap.size + 1) rfl 32 (bs p) r1 224 5 Try.underlying32 size32 hpb ?_)
      | (go_at_call 10; refine (HD.out _).mono ?_; clear HD; rintro e w3 ⟨rfl, h3⟩
         have q3 : Row (w3.alloc (.cells D.zero.arr 30)) w3.heap.size D.zero.arr 30 := Row.new _ _ _)
      | (refine store_cells rfl 30 (.tmp 7) (.tmp 24) rfl w3.heap.size X rfl rfl 30 _ q3 68 size30 hDz hsz hone ?_))
    have b3 : Below w.heap.size w w3 := ab.trans (h3.mono ab.size)
    go_ret
    exact ⟨ret_bool HI2.out.symm, below_setRow (b3.alloc b3.size _) b3.size _⟩
  · go_wp2_with (first
      | (refine load_row rfl 32 (.tmp 3) rfl (w.heap.size + 1) rfl 32 (bs p) r1 224 5 Try.underlying32 size32 hpb ?_)
      | (go_at_call 20; refine (HP.out _).mono ?_; clear HP; rintro e w3 ⟨L, oa, n, cap, rfl, h3⟩
         have q3 : Row (w3.alloc (.cells #[.int .u64 0, .slice none 0 0] 44)) w3.heap.size #[.int .u64 0, .slice none 0 0] 44 := Row.new _ _ _)
      | (refine store_cells rfl 44 (.tmp 5) (.tmp 16) rfl w3.heap.size #[.int .u64 L, .slice oa n cap] rfl rfl 44 _ q3 2 size44 rfl rfl (by simp [Value.oneCell']) ?_))
    have b3 : Below w.heap.size w w3 := ab.trans (h3.mono ab.size)
    go_ret
    exact ⟨ret_bool HI1.out.symm, below_setRow (b3.alloc b3.size _) b3.size _⟩
theorem equal59 (u u2 : Bool) (no on : Int) (w : World) : (Op.equalIn 10000 59 (.agg #[.bool u, .int .u16 no]) (.agg #[.bool u2, .int .u16 on])).run Try.prog w = .ok (decide (u = u2) && decide (no = on)) w := by
  go_simp
  cases u <;> cases u2 <;> by_cases h : no = on <;> simp [h]
theorem cells59 : Try.prog.cellsOf 59 = 2 := by kernel_rfl
theorem size59 : (Try.prog.info? 59).map (·.size) = some 2 := by kernel_rfl
section
variable {H : Type} {enc : TypeId × Value → H}
theorem open_pidv {w : World} {base : Nat} {v : Value} {d : DataW H} {p : List MemPlace} (hv : Value.okWide Try.prog w .any base 59 v) (h : DataW.Trod enc Try.prog w 0 (fun _ => true) true 59 v d p) :
    ∃ (u : Bool) (no : Int), v = .agg #[.bool u, .int .u16 no] ∧ 0 ≤ no ∧ no ≤ 65535 := by
  obtain ⟨cs, rfl, hsz⟩ := okWide_struct Try.underlying59 hv
  obtain ⟨fuel, hf⟩ := h
  have hf' : DataW.trod enc Try.prog w 0 (fun _ => true) true fuel 59 cs.toList = some (d, p) := hf
  have hc : ∃ (u : Bool) (no : Int), cs.toList = [.bool u, .int .u16 no] ∧ 0 ≤ no ∧ no ≤ 65535 := by
    generalize cs.toList = l at hf'
    cases fuel with
    | zero => simp [DataW.trod] at hf'
    | succ n =>
      unfold DataW.trod at hf'
      rw [Try.underlying59] at hf'
      simp only [cells59] at hf'
      by_cases hl : l.length = 2
      · match l, hl with
        | [c0, c1], _ =>
          simp [List.mapM_cons, cells4, cells22] at hf'
          cases t0 : DataW.trod enc Try.prog w 0 (fun _ => true) true n 4 [c0] with
          | none => simp [t0] at hf'
          | some x0 =>
          cases t1 : DataW.trod enc Try.prog w 0 (fun _ => true) true n 22 [c1] with
          | none => simp [t0, t1] at hf'
          | some x1 =>
          obtain ⟨k0, e0, _⟩ := DataW.trod_bool Try.underlying4 t0
          obtain ⟨k1, e1, _, u1⟩ := DataW.trod_int Try.underlying22 t1
          simp at e0 e1
          exact ⟨k0, k1, by rw [e0, e1], bounds_u16 u1⟩
      · simp [hl] at hf'
  obtain ⟨u, no, h1, h2⟩ := hc
  refine ⟨u, no, ?_, h2⟩
  show Value.agg cs = Value.agg [Value.bool u, .int .u16 no].toArray
  rw [← h1]
end
end Go.Proofs.Ytomlbkdagaldoaa
