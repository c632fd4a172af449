/-
  Proved here: page.Blank and page.Right of undo pages, the document's Blank and Right (varveref06); a blank page is that page's and no other one's.
-/
import Derived.Test.YtihjapfgllokgabBack
import Derived.Test.YtihjapfgllokgabBla
import Derived.SizedLaws
import Derived.Deep.Grids
import Derived.Deep.Slices
import Derived.Lib.SmallJoins
import Derived.Carry
namespace Go.Proofs.Ytihjapfgllokgab
open Go.ChangeShapes Go.WideShapes Go.ChangeAt Go.RowKit
open Go.Deep
set_option linter.unusedVariables false
set_option linter.unusedSimpArgs false
set_option maxRecDepth 20000

theorem may_nil : may [] = true := by decide
/-- A blank page's payload. -/
def blankP (u : Bool) (no : Int) : List Int := if u then putU no 0 [] else putD no D.zero
/-- Whether a payload is that page's. -/
def isP (u : Bool) (no : Int) (p : List Int) : Bool := if u then isU no p else isD no p
theorem blankP_length (u : Bool) (no : Int) : (blankP u no).length = 224 := by
  cases u
  · exact putD_length _ _ (zs_length _)
  · show (putU no 0 []).length = 224
    exact putU_length _ _ _
theorem blankP_bytes (u : Bool) (no : Int) : Bytes (blankP u no) := by
  cases u
  · exact putD_bytes _ _ (zs_bytes _)
  · show Bytes (putU no 0 [])
    exact putU_bytes _ _ _
theorem isP_blank (u u2 : Bool) (no on : Int) (h1 : 0 ≤ no ∧ no ≤ 65535) (h2 : 0 ≤ on ∧ on ≤ 65535) : isP u2 on (blankP u no) = (decide (u = u2) && decide (no = on)) := by
  cases u <;> cases u2
  · show isD on (putD no D.zero) = _
    rw [isD_other no on D.zero D.zero_ok h1 h2]; simp
  · show isU on (putD no D.zero) = _
    rw [isU_data no on D.zero D.zero_ok]; simp
  · show isD on (putU no 0 []) = _
    rw [putU_may _ _ _ may_nil, isD_undo no on 0 [] may_nil]; simp
  · show isU on (putU no 0 []) = _
    rw [putU_may _ _ _ may_nil, isU_put no on 0 [] may_nil (by simp) (by decide) h1 h2]; simp
set_option maxHeartbeats 1000000 in
theorem blank_undo (no : Int) (w : World) (hno : 0 ≤ no ∧ no ≤ 65535) :
    Calls Try.prog 14 #[.agg #[.bool true, .int .u16 no]] w fun e w' => e = .returned (.agg (bs (putU no 0 []))) ∧ Below w.heap.size w w' := by
  have hz := zero26
  have r0 : Row ((w.alloc (.cells #[.bool true, .int .u16 no] 24)).alloc (.cells (bs (zs 224)) 26)) w.heap.size #[.bool true, .int .u16 no] 24 := (Row.new _ _ _).alloc _
  have r1 : Row ((w.alloc (.cells #[.bool true, .int .u16 no] 24)).alloc (.cells (bs (zs 224)) 26)) (w.heap.size + 1) (bs (zs 224)) 26 := by have := Row.new (w.alloc (.cells #[.bool true, .int .u16 no] 24)) (bs (zs 224)) 26; simpa using this
  have ab : Below w.heap.size w ((w.alloc (.cells #[.bool true, .int .u16 no] 24)).alloc (.cells (bs (zs 224)) 26)) := ((Below.refl _ _).alloc (Nat.le_refl _) _).alloc (by simp) _
  have HP : Hid _ := fun w => putUndo_any no 0 (.slice none 0 0) [] w (Or.inl ⟨rfl, rfl⟩) (by simp) hno (by decide)
  have hlen := putU_length no 0 []
  have e0 : errU [] = 0 := by unfold errU; rw [may_nil]; rfl
  rw [e0] at HP
  obtain ⟨R, HR⟩ : ∃ R, Hid (putU no 0 [] = R) := ⟨_, rfl⟩
  rw [HR.out] at HP hlen ⊢
  have hRb : (bs R).size = 224 := by rw [bs_size, hlen]
  have c0 := row_at r0 0 _ rfl
  have c1 := row_at r0 1 _ rfl
  go_enter Try.func14, Try.ntmps14
  go_upto_region 1 with fail
  generalize (w.alloc (.cells #[.bool true, .int .u16 no] 24)).alloc (.cells (bs (zs 224)) 26) = w1 at r0 r1 ab c0 c1 ⊢
  go_upto_region 3 with (first
    | (refine build_none rfl 64 rfl _ built64 ?_)
    | (go_at_call 26; refine (HP.out _).mono ?_; clear HP; rintro e w3 ⟨rfl, h3⟩
       have q3 : Row (w3.alloc (.cells (bs (zs 224)) 26)) w3.heap.size (bs (zs 224)) 26 := Row.new _ _ _)
    | (refine store_row rfl 26 (.tmp 3) (.tmp 12) rfl w3.heap.size R rfl rfl 26 _ q3 224 size26 (by rw [bs_size, zs_length]) hlen ?_))
  have r1 := r1.below h3 r1.lt
  have l3 := r1.lt
  have ab := ab.trans (h3.mono ab.size)
  have r1 := (r1.alloc (.cells (bs (zs 224)) 26)).other (g := w3.heap.size) (by omega) (bs R)
  have q3 := q3.set (bs R)
  have ab := below_setRow (ab.alloc ab.size (.cells (bs (zs 224)) 26)) ab.size (bs R)
  clear h3
  generalize (w3.alloc (.cells (bs (zs 224)) 26)).setRow w3.heap.size (bs R) = w4 at r1 q3 ab ⊢
  generalize w3.heap.size = g3 at q3 l3 ⊢
  go_wp2_with (first
    | (refine load_row rfl 26 (.tmp 3) rfl g3 rfl 26 (bs R) q3 224 5 Try.underlying26 size26 hRb ?_)
    | (refine store_row rfl 26 (.tmp 2) (.tmp 14) rfl (w.heap.size + 1) R rfl rfl 26 _ r1 224 size26 (by rw [bs_size, zs_length]) hlen ?_))
  refine bodyPost_ret (v := .agg (bs R)) ?_ rfl ⟨rfl, below_setRow ab (by omega) _⟩
  exact ret_row (fn := Try.f14) rfl _ _ (w.heap.size + 1) 26 (bs R) 224 5 rfl (r1.set _) Try.underlying26 size26 hRb
theorem blank_any (u : Bool) (no : Int) (w : World) (hno : 0 ≤ no ∧ no ≤ 65535) :
    Calls Try.prog 14 #[.agg #[.bool u, .int .u16 no]] w fun e w' => e = .returned (.agg (bs (blankP u no))) ∧ Below w.heap.size w w' := by
  cases u
  · exact blank_data no w hno
  · exact blank_undo no w hno
set_option maxHeartbeats 1000000 in
theorem right_undo (no : Int) (p : List Int) (w : World) (hno : 0 ≤ no ∧ no ≤ 65535) (hp : p.length = 224) (hb : Bytes p) :
    Calls Try.prog 11 #[.agg #[.bool true, .int .u16 no], .agg (bs p)] w fun e w' => e = .returned (.bool (isU no p)) ∧ Below w.heap.size w w' := by
  have hz := zero64
  have r0 : Row ((w.alloc (.cells #[.bool true, .int .u16 no] 24)).alloc (.cells (bs p) 26)) w.heap.size #[.bool true, .int .u16 no] 24 := (Row.new _ _ _).alloc _
  have r1 : Row ((w.alloc (.cells #[.bool true, .int .u16 no] 24)).alloc (.cells (bs p) 26)) (w.heap.size + 1) (bs p) 26 := by have := Row.new (w.alloc (.cells #[.bool true, .int .u16 no] 24)) (bs p) 26; simpa using this
  have ab : Below w.heap.size w ((w.alloc (.cells #[.bool true, .int .u16 no] 24)).alloc (.cells (bs p) 26)) := ((Below.refl _ _).alloc (Nat.le_refl _) _).alloc (by simp) _
  have HP : Hid (∀ w, Calls Try.prog 21 #[.int .u16 no, .agg (bs p)] w fun e w' => ∃ L oa n cap, e = .returned (.tuple #[.agg #[.int .u64 L, .slice oa n cap], .int .i64 (if isU no p then 0 else 2)]) ∧ Below w.heap.size w w') := fun w => (getUndo_any no p w hno hp hb).mono fun e w' h => by
    obtain ⟨v', h1, h2, h3⟩ := h
    obtain ⟨oa, cap, rfl, _⟩ := h2.open
    exact ⟨_, _, _, _, h1, h3⟩
  have hpb : (bs p).size = 224 := by rw [bs_size, hp]
  have c0 := row_at r0 0 _ rfl
  have c1 := row_at r0 1 _ rfl
  have HB : Hid (((if isU no p then (0 : Int) else 2) == 0) = isU no p) := by show _ = _; cases isU no p <;> rfl
  generalize (if isU no p then (0 : Int) else 2) = E at HP HB
  clear hp hb
  go_enter Try.func11, Try.ntmps11
  go_upto_region 1 with fail
  generalize (w.alloc (.cells #[.bool true, .int .u16 no] 24)).alloc (.cells (bs p) 26) = w1 at r0 r1 ab c0 c1 ⊢
  go_wp2_with (first
    | (refine load_row rfl 26 (.tmp 3) rfl (w.heap.size + 1) rfl 26 (bs p) r1 224 5 Try.underlying26 size26 hpb ?_)
    | (go_at_call 21; refine (HP.out _).mono ?_; clear HP; rintro e w3 ⟨L, oa, n, cap, rfl, h3⟩
       have q3 : Row (w3.alloc (.cells #[.int .u64 0, .slice none 0 0] 64)) w3.heap.size #[.int .u64 0, .slice none 0 0] 64 := Row.new _ _ _)
    | (refine store_cells rfl 64 (.tmp 5) (.tmp 16) rfl w3.heap.size #[.int .u64 L, .slice oa n cap] rfl rfl 64 _ q3 2 size64 rfl rfl (by simp [Value.oneCell']) ?_))
  have b3 : Below w.heap.size w w3 := ab.trans (h3.mono ab.size)
  go_ret
  exact ⟨ret_bool HB.out, below_setRow (b3.alloc b3.size _) b3.size _⟩
theorem right_any (u : Bool) (no : Int) (p : List Int) (w : World) (hno : 0 ≤ no ∧ no ≤ 65535) (hp : p.length = 224) (hb : Bytes p) :
    Calls Try.prog 11 #[.agg #[.bool u, .int .u16 no], .agg (bs p)] w fun e w' => e = .returned (.bool (isP u no p)) ∧ Below w.heap.size w w' := by
  cases u
  · exact right_data no p w hno hp hb
  · exact right_undo no p w hno hp hb
theorem equal24 (u u2 : Bool) (no on : Int) (w : World) : (Op.equalIn 10000 24 (.agg #[.bool u, .int .u16 no]) (.agg #[.bool u2, .int .u16 on])).run Try.prog w = .ok (decide (u = u2) && decide (no = on)) w := by
  go_simp
  cases u <;> cases u2 <;> by_cases h : no = on <;> simp [h]
theorem cells24 : Try.prog.cellsOf 24 = 2 := by kernel_rfl
theorem size24 : (Try.prog.info? 24).map (·.size) = some 2 := by kernel_rfl
end Go.Proofs.Ytihjapfgllokgab
