/-
  Proved here: the document's Right: whether a payload is that page's.
-/
import Derived.Test.YtihjapfgllokgabQMf
import Derived.Test.YtihjapfgllokgabQRefG
import Derived.Test.YtihjapfgllokgabQMh
namespace Go.Proofs.Ytihjapfgllokgab
open Go.ChangeShapes Go.WideShapes Go.ChangeAt Go.RowKit
set_option linter.unusedVariables false
set_option linter.unusedSimpArgs false
set_option maxRecDepth 20000

set_option maxHeartbeats 1000000 in
theorem rright_any (u : Bool) (no : Int) (p : List Int) (w : World) (hno : 0 ≤ no ∧ no ≤ 65535) (hp : p.length = 224) (hb : Bytes p) :
    Calls Try.prog 18 #[.agg #[.bool u, .int .u16 no], .agg (bs p)] w fun e w' => e = .returned (.bool (isP u no p)) ∧ Below w.heap.size w w' := by
  have hz := zero64
  have hz2 := zero55
  have r0 : Row ((w.alloc (.cells #[.bool u, .int .u16 no] 24)).alloc (.cells (bs p) 26)) w.heap.size #[.bool u, .int .u16 no] 24 := (Row.new _ _ _).alloc _
  have r1 : Row ((w.alloc (.cells #[.bool u, .int .u16 no] 24)).alloc (.cells (bs p) 26)) (w.heap.size + 1) (bs p) 26 := by have := Row.new (w.alloc (.cells #[.bool u, .int .u16 no] 24)) (bs p) 26; simpa using this
  have ab : Below w.heap.size w ((w.alloc (.cells #[.bool u, .int .u16 no] 24)).alloc (.cells (bs p) 26)) := ((Below.refl _ _).alloc (Nat.le_refl _) _).alloc (by simp) _
  have HP : Hid (∀ w, Calls Try.prog 31 #[.int .u16 no, .agg (bs p)] w fun e w' => ∃ L oa n cap, e = .returned (.tuple #[.agg #[.int .u64 L, .slice oa n cap], .bool (isU no p)]) ∧ Below w.heap.size w w') := fun w => (rgetUndo_any no p w hno hp hb).mono fun e w' h => by
    obtain ⟨v', h1, h2, h3⟩ := h
    obtain ⟨oa, cap, rfl, _⟩ := h2.open
    exact ⟨_, _, _, _, h1, h3⟩
  have HD : Hid _ := fun w => rgetData_any no p w hno hp hb
  have hok := gotD_ok no p hp hb
  have hsz := D.arr_size (gotD no p) hok.len
  have hone := D.arr_one (gotD no p)
  have hpb : (bs p).size = 224 := by rw [bs_size, hp]
  have c0 := row_at r0 0 _ rfl
  have c1 := row_at r0 1 _ rfl
  have HI1 : Hid (isP true no p = isU no p) := rfl
  have HI2 : Hid (isP false no p = isD no p) := rfl
  generalize isU no p = I1 at HP HI1
  generalize isD no p = I2 at HD HI2
  generalize (gotD no p).arr = X at HD hsz hone
  clear hp hb hok
  have hDz : D.zero.arr.size = 68 := D.arr_size _ (zs_length _)
  go_enter Try.func18, Try.ntmps18
  go_upto_region 1 with fail
  generalize (w.alloc (.cells #[.bool u, .int .u16 no] 24)).alloc (.cells (bs p) 26) = w1 at r0 r1 ab c0 c1 ⊢
  cases u
  · go_wp2_with (first
      | (refine load_row rfl 26 (.tmp 3) rfl (w.heap.size + 1) rfl 26 (bs p) r1 224 5 Try.underlying26 size26 hpb ?_)
      | (go_at_call 32; refine (HD.out _).mono ?_; clear HD; rintro e w3 ⟨rfl, h3⟩
         have q3 : Row (w3.alloc (.cells D.zero.arr 55)) w3.heap.size D.zero.arr 55 := Row.new _ _ _)
      | (refine store_cells rfl 55 (.tmp 7) (.tmp 24) rfl w3.heap.size X rfl rfl 55 _ q3 68 size55 hDz hsz hone ?_))
    have b3 : Below w.heap.size w w3 := ab.trans (h3.mono ab.size)
    go_ret
    exact ⟨ret_bool HI2.out.symm, below_setRow (b3.alloc b3.size _) b3.size _⟩
  · go_wp2_with (first
      | (refine load_row rfl 26 (.tmp 3) rfl (w.heap.size + 1) rfl 26 (bs p) r1 224 5 Try.underlying26 size26 hpb ?_)
      | (go_at_call 31; refine (HP.out _).mono ?_; clear HP; rintro e w3 ⟨L, oa, n, cap, rfl, h3⟩
         have q3 : Row (w3.alloc (.cells #[.int .u64 0, .slice none 0 0] 64)) w3.heap.size #[.int .u64 0, .slice none 0 0] 64 := Row.new _ _ _)
      | (refine store_cells rfl 64 (.tmp 5) (.tmp 16) rfl w3.heap.size #[.int .u64 L, .slice oa n cap] rfl rfl 64 _ q3 2 size64 rfl rfl (by simp [Value.oneCell']) ?_))
    have b3 : Below w.heap.size w w3 := ab.trans (h3.mono ab.size)
    go_ret
    exact ⟨ret_bool HI1.out.symm, below_setRow (b3.alloc b3.size _) b3.size _⟩
end Go.Proofs.Ytihjapfgllokgab
