/-
  Proved here: page.Blank and page.Right of undo pages, the document's Blank and Right (varveref06); a blank page is that page's and no other one's. Proved here: cache.opened: a page as its block tells it. Plain facts: a page taken into a frame, new or vacated. A block read beside a cache; a page opened is a page. A frame more in memory. A frame laid anew as a whole.
-/
import Derived.Test.YtehogiondcpbcaaJq29
import Derived.SizedLaws
import Derived.Deep.Grids
import Derived.Deep.Slices
import Derived.Lib.SmallJoins
import Derived.Carry
import Derived.Test.YtehogiondcpbcaaJq16
import Derived.Test.YtehogiondcpbcaaJq09
import Derived.Test.YtehogiondcpbcaaJq06
import Derived.Test.YtehogiondcpbcaaJq19
import Derived.Test.YtehogiondcpbcaaJq21
import Derived.Test.YtehogiondcpbcaaJq17
import Derived.Test.YtehogiondcpbcaaJq12
namespace Go.Proofs.Ytehogiondcpbcaa
open Go.ChangeShapes Go.WideShapes Go.ChangeAt Go.RowKit
open Go.Deep
set_option linter.unusedVariables false
set_option linter.unusedSimpArgs false
set_option maxRecDepth 20000
theorem may_nil : may [] = true := by decide
def blankP (u : Bool) (no : Int) : List Int := if u then putU no 0 [] else putD no D.zero
def isP (u : Bool) (no : Int) (p : List Int) : Bool := if u then isU no p else isD no p
theorem blankP_length (u : Bool) (no : Int) : (blankP u no).length = 224 := by
  cases u
  · exact putD_length _ _ (zs_length _)
  · show (putU no 0 []).length = 224
    exact putU_length _ _ _
theorem blankP_bytes (u : Bool) (no : Int) : Bytes (blankP u no) := by
  cases u
  · exact putD_bytes _ _ (zs_bytes _)
  · show Bytes (putU no 0 [])
    exact putU_bytes _ _ _
set_option maxHeartbeats 1000000 in
theorem blank_undo (no : Int) (w : World) (hno : 0 ≤ no ∧ no ≤ 65535) :
    Calls Try.prog 15 #[.agg #[.bool true, .int .u16 no]] w fun e w' => e = .returned (.agg (bs (putU no 0 []))) ∧ Below w.heap.size w w' := by
  have hz := zero34
  have r0 : Row ((w.alloc (.cells #[.bool true, .int .u16 no] 31)).alloc (.cells (bs (zs 224)) 34)) w.heap.size #[.bool true, .int .u16 no] 31 := (Row.new _ _ _).alloc _
  have r1 : Row ((w.alloc (.cells #[.bool true, .int .u16 no] 31)).alloc (.cells (bs (zs 224)) 34)) (w.heap.size + 1) (bs (zs 224)) 34 := by have := Row.new (w.alloc (.cells #[.bool true, .int .u16 no] 31)) (bs (zs 224)) 34; simpa using this
  have ab : Below w.heap.size w ((w.alloc (.cells #[.bool true, .int .u16 no] 31)).alloc (.cells (bs (zs 224)) 34)) := ((Below.refl _ _).alloc (Nat.le_refl _) _).alloc (by simp) _
  have HP : Hid _ := fun w => putUndo_any no 0 (.slice none 0 0) [] w (Or.inl ⟨rfl, rfl⟩) (by simp) hno (by decide)
  have hlen := putU_length no 0 []
  have e0 : errU [] = 0 := by unfold errU; rw [may_nil]; rfl
  rw [e0] at HP
  obtain ⟨R, HR⟩ : ∃ R, Hid (putU no 0 [] = R) := ⟨_, rfl⟩
  rw [HR.out] at HP hlen ⊢
  have hRb : (bs R).size = 224 := by rw [bs_size, hlen]
  have c0 := row_at r0 0 _ rfl
  have c1 := row_at r0 1 _ rfl
  go_enter Try.func15, Try.ntmps15
  go_upto_region 1 with fail
  generalize (w.alloc (.cells #[.bool true, .int .u16 no] 31)).alloc (.cells (bs (zs 224)) 34) = w1 at r0 r1 ab c0 c1 ⊢
  go_upto_region 3 with (first
    | (refine build_none rfl 103 rfl _ built103 ?_)
    | (go_at_call 43; refine (HP.out _).mono ?_; clear HP; rintro e w3 ⟨rfl, h3⟩
       have q3 : Row (w3.alloc (.cells (bs (zs 224)) 34)) w3.heap.size (bs (zs 224)) 34 := Row.new _ _ _)
    | (refine store_row rfl 34 (.tmp 3) (.tmp 12) rfl w3.heap.size R rfl rfl 34 _ q3 224 size34 (by rw [bs_size, zs_length]) hlen ?_))
  have r1 := r1.below h3 r1.lt
  have l3 := r1.lt
  have ab := ab.trans (h3.mono ab.size)
  have r1 := (r1.alloc (.cells (bs (zs 224)) 34)).other (g := w3.heap.size) (by omega) (bs R)
  have q3 := q3.set (bs R)
  have ab := below_setRow (ab.alloc ab.size (.cells (bs (zs 224)) 34)) ab.size (bs R)
  clear h3
  generalize (w3.alloc (.cells (bs (zs 224)) 34)).setRow w3.heap.size (bs R) = w4 at r1 q3 ab ⊢
  generalize w3.heap.size = g3 at q3 l3 ⊢
  go_wp2_with (first
    | (refine load_row rfl 34 (.tmp 3) rfl g3 rfl 34 (bs R) q3 224 5 Try.underlying34 size34 hRb ?_)
    | (refine store_row rfl 34 (.tmp 2) (.tmp 14) rfl (w.heap.size + 1) R rfl rfl 34 _ r1 224 size34 (by rw [bs_size, zs_length]) hlen ?_))
  refine bodyPost_ret (v := .agg (bs R)) ?_ rfl ⟨rfl, below_setRow ab (by omega) _⟩
  exact ret_row (fn := Try.f15) rfl _ _ (w.heap.size + 1) 34 (bs R) 224 5 rfl (r1.set _) Try.underlying34 size34 hRb
theorem blank_any (u : Bool) (no : Int) (w : World) (hno : 0 ≤ no ∧ no ≤ 65535) :
    Calls Try.prog 15 #[.agg #[.bool u, .int .u16 no]] w fun e w' => e = .returned (.agg (bs (blankP u no))) ∧ Below w.heap.size w w' := by
  cases u
  · exact blank_data no w hno
  · exact blank_undo no w hno
set_option maxHeartbeats 1000000 in
theorem rblank_any (u : Bool) (no : Int) (w : World) (hno : 0 ≤ no ∧ no ≤ 65535) :
    Calls Try.prog 33 #[.agg #[.bool u, .int .u16 no]] w fun e w' => e = .returned (.agg (bs (blankP u no))) ∧ Below w.heap.size w w' := by
  have hz := zero34
  have r0 : Row ((w.alloc (.cells #[.bool u, .int .u16 no] 31)).alloc (.cells (bs (zs 224)) 34)) w.heap.size #[.bool u, .int .u16 no] 31 := (Row.new _ _ _).alloc _
  have r1 : Row ((w.alloc (.cells #[.bool u, .int .u16 no] 31)).alloc (.cells (bs (zs 224)) 34)) (w.heap.size + 1) (bs (zs 224)) 34 := by have := Row.new (w.alloc (.cells #[.bool u, .int .u16 no] 31)) (bs (zs 224)) 34; simpa using this
  have ab : Below w.heap.size w ((w.alloc (.cells #[.bool u, .int .u16 no] 31)).alloc (.cells (bs (zs 224)) 34)) := ((Below.refl _ _).alloc (Nat.le_refl _) _).alloc (by simp) _
  have hlen := blankP_length u no
  have c0 := row_at r0 0 _ rfl
  have c1 := row_at r0 1 _ rfl
  go_enter Try.func33, Try.ntmps33
  go_upto_region 1 with fail
  generalize (w.alloc (.cells #[.bool u, .int .u16 no] 31)).alloc (.cells (bs (zs 224)) 34) = w1 at r0 r1 ab c0 c1 ⊢
  cases u
  · have HP : Hid _ := fun w => rputData_any no D.zero w hno D.zero_ok
    have hlen : (putD no D.zero).length = 224 := hlen
    obtain ⟨R, HR⟩ : ∃ R, Hid (putD no D.zero = R) := ⟨_, rfl⟩
    have HR' : Hid (blankP false no = R) := HR.out
    rw [HR.out] at HP hlen
    go_wp2_with (first
      | (refine build_none rfl 109 rfl _ built109 ?_)
      | (go_at_call 55; refine (HP.out _).mono ?_; clear HP; rintro e w3 ⟨rfl, h3⟩)
      | (refine store_row rfl 34 (.tmp 2) (.tmp 18) rfl (w.heap.size + 1) R rfl rfl 34 _ (r1.below h3 r1.lt) 224 size34 (by rw [bs_size, zs_length]) hlen ?_))
    refine bodyPost_ret (v := .agg (bs R)) ?_ rfl ⟨by rw [HR'.out], below_setRow (ab.trans (h3.mono ab.size)) (by omega) _⟩
    exact ret_row (fn := Try.f33) rfl _ _ (w.heap.size + 1) 34 (bs R) 224 5 rfl ((r1.below h3 r1.lt).set _) Try.underlying34 size34 (by rw [bs_size, hlen])
  · have HP : Hid _ := fun w => rputUndo_any no 0 (.slice none 0 0) [] w (Or.inl ⟨rfl, rfl⟩) (by simp) hno (by decide)
    have hlen : (putU no 0 []).length = 224 := hlen
    rw [may_nil] at HP
    obtain ⟨R, HR⟩ : ∃ R, Hid (putU no 0 [] = R) := ⟨_, rfl⟩
    have HR' : Hid (blankP true no = R) := HR.out
    rw [HR.out] at HP hlen
    have hRb : (bs R).size = 224 := by rw [bs_size, hlen]
    go_upto_region 3 with (first
      | (refine build_none rfl 103 rfl _ built103 ?_)
      | (go_at_call 54; refine (HP.out _).mono ?_; clear HP; rintro e w3 ⟨rfl, h3⟩
         have q3 : Row (w3.alloc (.cells (bs (zs 224)) 34)) w3.heap.size (bs (zs 224)) 34 := Row.new _ _ _)
      | (refine store_row rfl 34 (.tmp 3) (.tmp 12) rfl w3.heap.size R rfl rfl 34 _ q3 224 size34 (by rw [bs_size, zs_length]) hlen ?_))
    have r1 := r1.below h3 r1.lt
    have l3 := r1.lt
    have ab := ab.trans (h3.mono ab.size)
    have r1 := (r1.alloc (.cells (bs (zs 224)) 34)).other (g := w3.heap.size) (by omega) (bs R)
    have q3 := q3.set (bs R)
    have ab := below_setRow (ab.alloc ab.size (.cells (bs (zs 224)) 34)) ab.size (bs R)
    clear h3
    generalize (w3.alloc (.cells (bs (zs 224)) 34)).setRow w3.heap.size (bs R) = w4 at r1 q3 ab ⊢
    generalize w3.heap.size = g3 at q3 l3 ⊢
    go_wp2_with (first
      | (refine load_row rfl 34 (.tmp 3) rfl g3 rfl 34 (bs R) q3 224 5 Try.underlying34 size34 hRb ?_)
      | (refine store_row rfl 34 (.tmp 2) (.tmp 14) rfl (w.heap.size + 1) R rfl rfl 34 _ r1 224 size34 (by rw [bs_size, zs_length]) hlen ?_))
    refine bodyPost_ret (v := .agg (bs R)) ?_ rfl ⟨by rw [HR'.out], below_setRow ab (by omega) _⟩
    exact ret_row (fn := Try.f33) rfl _ _ (w.heap.size + 1) 34 (bs R) 224 5 rfl (r1.set _) Try.underlying34 size34 hRb
set_option maxHeartbeats 1000000 in
theorem right_undo (no : Int) (p : List Int) (w : World) (hno : 0 ≤ no ∧ no ≤ 65535) (hp : p.length = 224) (hb : Bytes p) :
    Calls Try.prog 53 #[.agg #[.bool true, .int .u16 no], .agg (bs p)] w fun e w' => e = .returned (.bool (isU no p)) ∧ Below w.heap.size w w' := by
  have hz := zero103
  have r0 : Row ((w.alloc (.cells #[.bool true, .int .u16 no] 31)).alloc (.cells (bs p) 34)) w.heap.size #[.bool true, .int .u16 no] 31 := (Row.new _ _ _).alloc _
  have r1 : Row ((w.alloc (.cells #[.bool true, .int .u16 no] 31)).alloc (.cells (bs p) 34)) (w.heap.size + 1) (bs p) 34 := by have := Row.new (w.alloc (.cells #[.bool true, .int .u16 no] 31)) (bs p) 34; simpa using this
  have ab : Below w.heap.size w ((w.alloc (.cells #[.bool true, .int .u16 no] 31)).alloc (.cells (bs p) 34)) := ((Below.refl _ _).alloc (Nat.le_refl _) _).alloc (by simp) _
  have HP : Hid (∀ w, Calls Try.prog 82 #[.int .u16 no, .agg (bs p)] w fun e w' => ∃ L oa n cap, e = .returned (.tuple #[.agg #[.int .u64 L, .slice oa n cap], .int .i64 (if isU no p then 0 else 2)]) ∧ Below w.heap.size w w') := fun w => (getUndo_any no p w hno hp hb).mono fun e w' h => by
    obtain ⟨v', h1, h2, h3⟩ := h
    obtain ⟨oa, cap, rfl, _⟩ := h2.open
    exact ⟨_, _, _, _, h1, h3⟩
  have hpb : (bs p).size = 224 := by rw [bs_size, hp]
  have c0 := row_at r0 0 _ rfl
  have c1 := row_at r0 1 _ rfl
  have HB : Hid (((if isU no p then (0 : Int) else 2) == 0) = isU no p) := by show _ = _; cases isU no p <;> rfl
  generalize (if isU no p then (0 : Int) else 2) = E at HP HB
  clear hp hb
  go_enter Try.func53, Try.ntmps53
  go_upto_region 1 with fail
  generalize (w.alloc (.cells #[.bool true, .int .u16 no] 31)).alloc (.cells (bs p) 34) = w1 at r0 r1 ab c0 c1 ⊢
  go_wp2_with (first
    | (refine load_row rfl 34 (.tmp 3) rfl (w.heap.size + 1) rfl 34 (bs p) r1 224 5 Try.underlying34 size34 hpb ?_)
    | (go_at_call 82; refine (HP.out _).mono ?_; clear HP; rintro e w3 ⟨L, oa, n, cap, rfl, h3⟩
       have q3 : Row (w3.alloc (.cells #[.int .u64 0, .slice none 0 0] 103)) w3.heap.size #[.int .u64 0, .slice none 0 0] 103 := Row.new _ _ _)
    | (refine store_cells rfl 103 (.tmp 5) (.tmp 16) rfl w3.heap.size #[.int .u64 L, .slice oa n cap] rfl rfl 103 _ q3 2 size103 rfl rfl (by simp [Value.oneCell']) ?_))
  have b3 : Below w.heap.size w w3 := ab.trans (h3.mono ab.size)
  go_ret
  exact ⟨ret_bool HB.out, below_setRow (b3.alloc b3.size _) b3.size _⟩
theorem right_anyP (u : Bool) (no : Int) (p : List Int) (w : World) (hno : 0 ≤ no ∧ no ≤ 65535) (hp : p.length = 224) (hb : Bytes p) :
    Calls Try.prog 53 #[.agg #[.bool u, .int .u16 no], .agg (bs p)] w fun e w' => e = .returned (.bool (isP u no p)) ∧ Below w.heap.size w w' := by
  cases u
  · exact right_data no p w hno hp hb
  · exact right_undo no p w hno hp hb
set_option maxHeartbeats 1000000 in
theorem rright_any (u : Bool) (no : Int) (p : List Int) (w : World) (hno : 0 ≤ no ∧ no ≤ 65535) (hp : p.length = 224) (hb : Bytes p) :
    Calls Try.prog 31 #[.agg #[.bool u, .int .u16 no], .agg (bs p)] w fun e w' => e = .returned (.bool (isP u no p)) ∧ Below w.heap.size w w' := by
  have hz := zero103
  have hz2 := zero109
  have r0 : Row ((w.alloc (.cells #[.bool u, .int .u16 no] 31)).alloc (.cells (bs p) 34)) w.heap.size #[.bool u, .int .u16 no] 31 := (Row.new _ _ _).alloc _
  have r1 : Row ((w.alloc (.cells #[.bool u, .int .u16 no] 31)).alloc (.cells (bs p) 34)) (w.heap.size + 1) (bs p) 34 := by have := Row.new (w.alloc (.cells #[.bool u, .int .u16 no] 31)) (bs p) 34; simpa using this
  have ab : Below w.heap.size w ((w.alloc (.cells #[.bool u, .int .u16 no] 31)).alloc (.cells (bs p) 34)) := ((Below.refl _ _).alloc (Nat.le_refl _) _).alloc (by simp) _
  have HP : Hid (∀ w, Calls Try.prog 65 #[.int .u16 no, .agg (bs p)] w fun e w' => ∃ L oa n cap, e = .returned (.tuple #[.agg #[.int .u64 L, .slice oa n cap], .bool (isU no p)]) ∧ Below w.heap.size w w') := fun w => (rgetUndo_any no p w hno hp hb).mono fun e w' h => by
    obtain ⟨v', h1, h2, h3⟩ := h
    obtain ⟨oa, cap, rfl, _⟩ := h2.open
    exact ⟨_, _, _, _, h1, h3⟩
  have HD : Hid _ := fun w => rgetData_any no p w hno hp hb
  have hok := gotD_ok no p hp hb
  have hsz := D.arr_size (gotD no p) hok.len
  have hone := D.arr_one (gotD no p)
  have hpb : (bs p).size = 224 := by rw [bs_size, hp]
  have c0 := row_at r0 0 _ rfl
  have c1 := row_at r0 1 _ rfl
  have HI1 : Hid (isP true no p = isU no p) := rfl
  have HI2 : Hid (isP false no p = isD no p) := rfl
  generalize isU no p = I1 at HP HI1
  generalize isD no p = I2 at HD HI2
  generalize (gotD no p).arr = X at HD hsz hone
  clear hp hb hok
  have hDz : D.zero.arr.size = 68 := D.arr_size _ (zs_length _)
  go_enter Try.func31, Try.ntmps31
  go_upto_region 1 with fail
  generalize (w.alloc (.cells #[.bool u, .int .u16 no] 31)).alloc (.cells (bs p) 34) = w1 at r0 r1 ab c0 c1 ⊢
  cases u
  · go_wp2_with (first
      | (refine load_row rfl 34 (.tmp 3) rfl (w.heap.size + 1) rfl 34 (bs p) r1 224 5 Try.underlying34 size34 hpb ?_)
      | (go_at_call 66; refine (HD.out _).mono ?_; clear HD; rintro e w3 ⟨rfl, h3⟩
         have q3 : Row (w3.alloc (.cells D.zero.arr 109)) w3.heap.size D.zero.arr 109 := Row.new _ _ _)
      | (refine store_cells rfl 109 (.tmp 7) (.tmp 24) rfl w3.heap.size X rfl rfl 109 _ q3 68 size109 hDz hsz hone ?_))
    have b3 : Below w.heap.size w w3 := ab.trans (h3.mono ab.size)
    go_ret
    exact ⟨ret_bool HI2.out.symm, below_setRow (b3.alloc b3.size _) b3.size _⟩
  · go_wp2_with (first
      | (refine load_row rfl 34 (.tmp 3) rfl (w.heap.size + 1) rfl 34 (bs p) r1 224 5 Try.underlying34 size34 hpb ?_)
      | (go_at_call 65; refine (HP.out _).mono ?_; clear HP; rintro e w3 ⟨L, oa, n, cap, rfl, h3⟩
         have q3 : Row (w3.alloc (.cells #[.int .u64 0, .slice none 0 0] 103)) w3.heap.size #[.int .u64 0, .slice none 0 0] 103 := Row.new _ _ _)
      | (refine store_cells rfl 103 (.tmp 5) (.tmp 16) rfl w3.heap.size #[.int .u64 L, .slice oa n cap] rfl rfl 103 _ q3 2 size103 rfl rfl (by simp [Value.oneCell']) ?_))
    have b3 : Below w.heap.size w w3 := ab.trans (h3.mono ab.size)
    go_ret
    exact ⟨ret_bool HI1.out.symm, below_setRow (b3.alloc b3.size _) b3.size _⟩
end Go.Proofs.Ytehogiondcpbcaa
namespace Go.Proofs.Ytehogiondcpbcaa
open Go.ChangeShapes Go.WideShapes Go.ChangeAt Go.RowKit
set_option linter.unusedVariables false
set_option linter.unusedSimpArgs false
set_option maxRecDepth 20000
def wholeB (b : List Int) : Bool := decide (Sl.stampAt b 1 = Sl.stampAt b 0 ∧ Sl.stampAt b 2 = Sl.stampAt b 0 ∧ Sl.stampAt b 3 = Sl.stampAt b 0)
def openF (u : Bool) (k : Int) (b : List Int) : Fm := if wholeB b = true ∧ isP u k (Sl.payN b 4) = true then ⟨u, k, Sl.payN b 4, false, false, 0⟩ else ⟨u, k, blankP u k, true, false, 0⟩
theorem payC_bytes (b : List Int) (h : Bytes b) (hb : b.length = 256) : Bytes (Sl.payN b 4) := by
  unfold Sl.payN
  refine Sl.fl_bytes _ _ fun j hj => ?_
  rw [if_pos (by omega)]
  have hi : 64 * (j / 56) + j % 56 < b.length := by omega
  rw [List.getD_eq_getElem?_getD, List.getElem?_eq_getElem hi]
  exact h _ (List.getElem_mem _)
set_option maxHeartbeats 2000000 in
theorem opened_any (u : Bool) (k : Int) (hk : WfU k) (b : List Int) (hb : b.length = 256) (hy : Bytes b) (w : World) : Calls Try.prog 78 #[idv u k, .agg (bs b)] w fun e w' => e = .returned (.agg (openF u k b).arr) ∧ Below w.heap.size w w' := by
  unfold idv
  have hk2 := wfu hk
  have hop : ∀ W, Calls Try.prog 10 #[.agg (bs b)] W fun e w' => e = .returned (.tuple #[.int .u64 (if wholeB b = true then Sl.stampAt b 0 else 0), .agg (bs (if wholeB b = true then Sl.payN b 4 else zs 224)), .bool (wholeB b)]) ∧ Below W.heap.size W w' := fun W => by
    have := Sl.open_any b hb hy W
    unfold Sl.opened at this
    unfold wholeB
    by_cases q : Sl.stampAt b 1 = Sl.stampAt b 0 ∧ Sl.stampAt b 2 = Sl.stampAt b 0 ∧ Sl.stampAt b 3 = Sl.stampAt b 0
    · rw [if_pos q] at this
      rw [decide_eq_true q, if_pos rfl, if_pos rfl]
      exact this
    · rw [if_neg q] at this
      rw [decide_eq_false q, if_neg (by simp), if_neg (by simp)]
      exact this
  have HPL : Hid ((if wholeB b = true then Sl.payN b 4 else zs 224).length = 224) := by show _ = _; split; exact Sl.payN_length _ _; exact zs_length _
  have HRI : Hid (∀ W, Calls Try.prog 53 #[.agg #[.bool u, .int .u16 k], .agg (bs (Sl.payN b 4))] W fun e w' => e = .returned (.bool (isP u k (Sl.payN b 4))) ∧ Below W.heap.size W w') := fun W => right_anyP u k _ W hk2 (Sl.payN_length _ _) (payC_bytes b hy hb)
  have HBL : Hid (∀ W, Calls Try.prog 15 #[.agg #[.bool u, .int .u16 k]] W fun e w' => e = .returned (.agg (bs (blankP u k))) ∧ Below W.heap.size W w') := fun W => blank_any u k W hk2
  have HOF1 : Hid (wholeB b = true → isP u k (Sl.payN b 4) = true → openF u k b = ⟨u, k, Sl.payN b 4, false, false, 0⟩) := fun q1 q2 => by unfold openF; rw [if_pos ⟨q1, q2⟩]
  have HOF2 : Hid (wholeB b = false ∨ isP u k (Sl.payN b 4) = false → openF u k b = ⟨u, k, blankP u k, true, false, 0⟩) := fun q => by unfold openF; rw [if_neg (fun z => by rcases q with q | q <;> rw [q] at z <;> simp at z)]
  have HBS : Hid ((bs b).size = 256) := by rw [bs_size]; exact hb
  obtain ⟨BB, HBB⟩ : ∃ BB, Hid (bs b = BB) := ⟨_, rfl⟩
  rw [HBB.out] at hop HBS
  rw [HBB.out]
  obtain ⟨PP, HPP⟩ : ∃ PP : Ending → World → Prop, Hid (PP = fun e w' => e = .returned (.agg (openF u k b).arr) ∧ Below w.heap.size w w') := ⟨_, rfl⟩
  rw [← HPP.out]
  have hz122 := zero122
  have HZF : Hid (Fm.zero.arr.size = 229) := fz
  generalize Fm.zero.arr = Z at hz122 HZF
  have hz34 := zero34
  have HZP : Hid ((bs (zs 224)).size = 224) := by rw [bs_size]; exact zs_length _
  obtain ⟨ZP, HZPD⟩ : ∃ ZP, Hid (bs (zs 224) = ZP) := ⟨_, rfl⟩
  rw [HZPD.out] at hz34 HZP
  have e1 : (w.alloc (.cells #[.bool u, .int .u16 k] 31)).heap.size = w.heap.size + 1 := Array.size_push ..
  have e2 : ((w.alloc (.cells #[.bool u, .int .u16 k] 31)).alloc (.cells BB 41)).heap.size = w.heap.size + 1 + 1 := by rw [← e1]; exact Array.size_push ..
  have ab0 : Below w.heap.size w (w.alloc (.cells #[.bool u, .int .u16 k] 31)) := (Below.refl _ _).alloc (Nat.le_refl _) _
  have ab1 : Below w.heap.size w ((w.alloc (.cells #[.bool u, .int .u16 k] 31)).alloc (.cells BB 41)) := ab0.alloc ab0.size _
  have ab : Below w.heap.size w (((w.alloc (.cells #[.bool u, .int .u16 k] 31)).alloc (.cells BB 41)).alloc (.cells Z 122)) := ab1.alloc ab1.size _
  have r0 : Row (((w.alloc (.cells #[.bool u, .int .u16 k] 31)).alloc (.cells BB 41)).alloc (.cells Z 122)) w.heap.size #[.bool u, .int .u16 k] 31 := ((Row.new _ _ _).alloc _).alloc _
  have r1 : Row (((w.alloc (.cells #[.bool u, .int .u16 k] 31)).alloc (.cells BB 41)).alloc (.cells Z 122)) (w.heap.size + 1) BB 41 := by have := Row.new (w.alloc (.cells #[.bool u, .int .u16 k] 31)) BB 41; rw [e1] at this; exact this.alloc _
  have r2 : Row (((w.alloc (.cells #[.bool u, .int .u16 k] 31)).alloc (.cells BB 41)).alloc (.cells Z 122)) (w.heap.size + 1 + 1) Z 122 := by have := Row.new ((w.alloc (.cells #[.bool u, .int .u16 k] 31)).alloc (.cells BB 41)) Z 122; rw [e2] at this; exact this
  clear ab0 ab1 e1 e2 hk hk2 hb hy
  go_enter Try.func78, Try.ntmps78
  go_upto_region 1 with fail
  generalize ((w.alloc (.cells #[.bool u, .int .u16 k] 31)).alloc (.cells BB 41)).alloc (.cells Z 122) = W at ab r0 r1 r2 ⊢
  obtain ⟨A0, HA0⟩ : ∃ A0, Hid (w.heap.size = A0) := ⟨_, rfl⟩
  rw [HA0.out] at r0 r1 r2 ⊢
  have ho := hop W
  obtain ⟨P1, HP1⟩ : ∃ P1, Hid (bs (if wholeB b = true then Sl.payN b 4 else zs 224) = P1) := ⟨_, rfl⟩
  have HPS : Hid (P1.size = 224) := by rw [← HP1.out, bs_size]; exact HPL.out
  have hpo : P1.all (·.oneCell') = true := by rw [← HP1.out]; exact bs_one _
  rw [HP1.out] at ho
  obtain ⟨bw, HBW⟩ : ∃ bw, Hid (wholeB b = bw) := ⟨_, rfl⟩
  rw [HBW.out] at ho
  clear hop
  have tl : Hid (1 = 1) := rfl
  have ts : Hid (1 = 1) := rfl
  go_upto_region 2 with (first
    | (have hh := tl; clear hh tl; refine load_cells rfl 41 (.tmp 3) rfl (A0 + 1) rfl 41 BB r1 256 Try.underlying41 rfl size41 HBS.out ?_)
    | (go_at_call 10; refine Calls.mono ho ?_; clear ho; rintro e W1 ⟨he, hb1⟩; obtain rfl := he; have rn : Row (W1.alloc (.cells ZP 34)) W1.heap.size ZP 34 := Row.new _ _ _)
    | (have hh := ts; clear hh ts; refine store_cells rfl 34 (.tmp 6) (.tmp 12) rfl W1.heap.size P1 rfl rfl 34 _ rn 224 size34 HZP.out HPS.out hpo ?_))
  have bn : Below W1.heap.size W1 ((W1.alloc (.cells ZP 34)).setRow W1.heap.size P1) := below_setRow ((Below.refl _ _).alloc (Nat.le_refl _) _) (Nat.le_refl _) _
  have b2 := hb1.trans (bn.mono hb1.size)
  have rP : Row ((W1.alloc (.cells ZP 34)).setRow W1.heap.size P1) W1.heap.size P1 34 := rn.set _
  have s0 := r0.below b2 r0.lt
  have s2 := r2.below b2 r2.lt
  have sb := ab.trans (b2.mono ab.size)
  have hlt : A0 + 1 + 1 < W1.heap.size := Nat.lt_of_lt_of_le r2.lt hb1.size
  clear rn bn b2 hb1 r0 r1 r2 ab
  generalize (W1.alloc (.cells ZP 34)).setRow W1.heap.size P1 = W2 at rP s0 s2 sb ⊢
  generalize W1.heap.size = X at rP hlt ⊢
  have BODY : 1 = 1 := rfl
  cases bw with
  | true =>
    have HPE : Hid (P1 = bs (Sl.payN b 4)) := by show _ = _; rw [← HP1.out, if_pos HBW.out]
    have hri := HRI.out W2
    rw [← HPE.out] at hri
    obtain ⟨br, HBR⟩ : ∃ br, Hid (isP u k (Sl.payN b 4) = br) := ⟨_, rfl⟩
    rw [HBR.out] at hri
    have tl : Hid (1 = 1) := rfl
    have tm : Hid (1 = 1) := rfl
    cases br with
    | true =>
      have HOF := HOF1.out HBW.out HBR.out
      have HOG : Hid (openF u k b = ⟨u, k, Sl.payN b 4, false, false, 0⟩) := HOF
      have bu := built122_two u k (Sl.payN b 4) (Sl.payN_length _ _)
      rw [← HPE.out] at bu
      have HFS : Hid ((Fm.mk u k (Sl.payN b 4) false false 0).arr.size = 229) := Fm.arr_size (Sl.payN_length _ _)
      have fo := (Fm.mk u k (Sl.payN b 4) false false 0).one
      obtain ⟨FA, HFA⟩ : ∃ FA, Hid ((Fm.mk u k (Sl.payN b 4) false false 0).arr = FA) := ⟨_, rfl⟩
      rw [HFA.out] at bu HFS fo
      clear HOF
      unfold idv at bu
      go_upto_region 3 with (first
        | (have hh := tl; clear hh tl; refine load_cells_g (by rfl) 31 (.tmp 2) rfl A0 rfl 31 #[.bool u, .int .u16 k] s0 2 Try.underlying31 rfl size31 rfl ?_)
        | (have hh := tm; clear hh tm; refine load_cells_g (by rfl) 34 (.tmp 6) rfl X rfl 34 P1 rP 224 Try.underlying34 rfl size34 HPS.out ?_)
        | (go_at_call 53; refine Calls.mono hri ?_; clear hri; rintro e W3 ⟨he, hb3⟩; obtain rfl := he))
      have s0' := s0.below hb3 s0.lt
      have s2' := s2.below hb3 s2.lt
      have rP' := rP.below hb3 rP.lt
      have sb' := sb.trans (hb3.mono sb.size)
      clear s0 s2 rP sb hb3
      have tl : Hid (1 = 1) := rfl
      have tm : Hid (1 = 1) := rfl
      have tb : Hid (1 = 1) := rfl
      have ts : Hid (1 = 1) := rfl
      go_wp2_with (first
        | (have hh := tl; clear hh tl; refine load_cells rfl 31 (.tmp 2) rfl A0 rfl 31 #[.bool u, .int .u16 k] s0' 2 Try.underlying31 rfl size31 rfl ?_)
        | (have hh := tm; clear hh tm; refine load_cells rfl 34 (.tmp 6) rfl X rfl 34 P1 rP' 224 Try.underlying34 rfl size34 HPS.out ?_)
        | (have hh := tb; clear hh tb; refine build_parts rfl 122 #[(0, .tmp 20), (1, .tmp 21)] rfl [(0, .agg #[.bool u, .int .u16 k]), (1, .agg P1)] rfl FA bu ?_)
        | (have hh := ts; clear hh ts; refine store_cells rfl 122 (.tmp 4) (.tmp 22) rfl (A0 + 1 + 1) FA rfl rfl 122 _ s2' 229 size122 HZF.out HFS.out fo ?_))
      refine bodyPost_ret (v := .agg FA) (ret_cell (fn := Try.f78) rfl _ _ (A0 + 1 + 1) 122 FA _ rfl (s2'.set _) Try.underlying122 rfl (by rw [size122, HFS.out])) rfl ?_
      rw [HPP.out]
      exact ⟨by rw [HOG.out, HFA.out], below_setRow sb' (by rw [HA0.out]; omega) _⟩
    | false =>
      have HOF := HOF2.out (Or.inr HBR.out)
      have HOG : Hid (openF u k b = ⟨u, k, blankP u k, true, false, 0⟩) := HOF
      clear HOF
      go_upto_region 4 with (first
        | (have hh := tl; clear hh tl; refine load_cells_g (by rfl) 31 (.tmp 2) rfl A0 rfl 31 #[.bool u, .int .u16 k] s0 2 Try.underlying31 rfl size31 rfl ?_)
        | (have hh := tm; clear hh tm; refine load_cells_g (by rfl) 34 (.tmp 6) rfl X rfl 34 P1 rP 224 Try.underlying34 rfl size34 HPS.out ?_)
        | (go_at_call 53; refine Calls.mono hri ?_; clear hri; rintro e W3 ⟨he, hb3⟩; obtain rfl := he))
      have s0' := s0.below hb3 s0.lt
      have s2' := s2.below hb3 s2.lt
      have sb' := sb.trans (hb3.mono sb.size)
      clear s0 s2 rP sb hb3
      have bu := built122_torn u k (blankP u k) (blankP_length u k)
      have HFS : Hid ((Fm.mk u k (blankP u k) true false 0).arr.size = 229) := Fm.arr_size (blankP_length u k)
      have fo := (Fm.mk u k (blankP u k) true false 0).one
      obtain ⟨FA, HFA⟩ : ∃ FA, Hid ((Fm.mk u k (blankP u k) true false 0).arr = FA) := ⟨_, rfl⟩
      obtain ⟨PB, HPB⟩ : ∃ PB, Hid (bs (blankP u k) = PB) := ⟨_, rfl⟩
      rw [HFA.out] at bu HFS fo
      have hbl := HBL.out
      rw [HPB.out] at bu hbl
      unfold idv at bu
      refine wp_region_last (S := fun w' => Row w' A0 #[.bool u, .int .u16 k] 31) 4 (by kernel_rfl) s0' fun hS => ?_
      have s2d : Row W3.drew (A0 + 1 + 1) Z 122 := s2'
      have sbd := sb'.drew
      clear s0' s2' sb'
      generalize W3.drew = W5 at hS s2d sbd ⊢
      refine wpAnyL_take (i := 0) (v := .agg #[.bool u, .int .u16 k]) rfl (by kernel_rfl) (by kernel_rfl) (by kernel_rfl) (by kernel_rfl) (fun _ _ _ h => h) (yields_cells (by rfl) 31 (.tmp 2) rfl A0 rfl 31 #[.bool u, .int .u16 k] (fun w h => h) 2 Try.underlying31 rfl size31 rfl) hS ?_
      try simp only [Act.put, nz0, nz1, nz2, nz3, nz4, nz5]
      refine wpAnyL_take (i := 1) (v := .agg #[.bool u, .int .u16 k]) rfl (by kernel_rfl) (by kernel_rfl) (by kernel_rfl) (by kernel_rfl) (fun _ _ _ h => h) (yields_cells (by rfl) 31 (.tmp 2) rfl A0 rfl 31 #[.bool u, .int .u16 k] (fun w h => h) 2 Try.underlying31 rfl size31 rfl) hS ?_
      try simp only [Act.put, nz0, nz1, nz2, nz3, nz4, nz5]
      refine wpAnyL_ready (rs := [2]) (by kernel_rfl) (by simp) ?_
      refine AllReadyL.cons rfl (fun K hK => ?_) AllReadyL.nil
      have hbq := hbl W5
      go_simp
      go_at_call 15
      refine Calls.mono hbq ?_
      clear hbq hbl
      rintro e W6 ⟨he, hb6⟩
      obtain rfl := he
      have s26 := s2d.below hb6 s2d.lt
      have sb6 := sbd.trans (hb6.mono sbd.size)
      refine hK.out _ _ (fun _ => hS.below hb6 hS.lt) ?_
      try simp only [Act.put, nz0, nz1, nz2, nz3, nz4, nz5]
      have hS6 := hS.below hb6 hS.lt
      clear hS s2d sbd hb6
      refine wpAnyL_take (i := 3) (v := .agg FA) rfl (by kernel_rfl) (by kernel_rfl) (by kernel_rfl) (by kernel_rfl) (fun _ _ _ h => h) (yields_build (by rfl) 122 #[(0, .tmp 23), (1, .tmp 25), (2, .const (.bool true))] rfl [(0, .agg #[.bool u, .int .u16 k]), (1, .agg PB), (2, .bool true)] rfl _ bu) hS6 ?_
      try simp only [Act.put, nz0, nz1, nz2, nz3, nz4, nz5]
      refine wpAnyL_ready (rs := [4]) (by kernel_rfl) (by simp) ?_
      refine AllReadyL.cons rfl (fun K hK => ?_) AllReadyL.nil
      refine step_cells rfl 122 (.tmp 4) (.tmp 26) rfl (A0 + 1 + 1) FA rfl rfl 122 _ s26 229 size122 HZF.out HFS.out fo (hK.out _ _ (fun q => absurd rfl q) ?_)
      try simp only [Act.put, nz0, nz1, nz2, nz3, nz4, nz5]
      refine wpAnyL_done (by kernel_rfl) ?_ _
      go_wp2
      refine bodyPost_ret (v := .agg FA) (ret_cell (fn := Try.f78) rfl _ _ (A0 + 1 + 1) 122 FA _ rfl (s26.set _) Try.underlying122 rfl (by rw [size122, HFS.out])) rfl ?_
      rw [HPP.out]
      exact ⟨by rw [HOG.out, HFA.out], below_setRow sb6 (by rw [HA0.out]; omega) _⟩
  | false =>
    have HOF := HOF2.out (Or.inl HBW.out)
    have HOG : Hid (openF u k b = ⟨u, k, blankP u k, true, false, 0⟩) := HOF
    have s0' := s0
    have s2' := s2
    have sb' := sb
    clear HOF s0 s2 sb
    go_upto_region 4 with fail
    have bu := built122_torn u k (blankP u k) (blankP_length u k)
    have HFS : Hid ((Fm.mk u k (blankP u k) true false 0).arr.size = 229) := Fm.arr_size (blankP_length u k)
    have fo := (Fm.mk u k (blankP u k) true false 0).one
    obtain ⟨FA, HFA⟩ : ∃ FA, Hid ((Fm.mk u k (blankP u k) true false 0).arr = FA) := ⟨_, rfl⟩
    obtain ⟨PB, HPB⟩ : ∃ PB, Hid (bs (blankP u k) = PB) := ⟨_, rfl⟩
    rw [HFA.out] at bu HFS fo
    have hbl := HBL.out
    rw [HPB.out] at bu hbl
    unfold idv at bu
    refine wp_region_last (S := fun w' => Row w' A0 #[.bool u, .int .u16 k] 31) 4 (by kernel_rfl) s0' fun hS => ?_
    have s2d : Row W2.drew (A0 + 1 + 1) Z 122 := s2'
    have sbd := sb'.drew
    clear s0' s2' sb'
    generalize W2.drew = W5 at hS s2d sbd ⊢
    refine wpAnyL_take (i := 0) (v := .agg #[.bool u, .int .u16 k]) rfl (by kernel_rfl) (by kernel_rfl) (by kernel_rfl) (by kernel_rfl) (fun _ _ _ h => h) (yields_cells (by rfl) 31 (.tmp 2) rfl A0 rfl 31 #[.bool u, .int .u16 k] (fun w h => h) 2 Try.underlying31 rfl size31 rfl) hS ?_
    try simp only [Act.put, nz0, nz1, nz2, nz3, nz4, nz5]
    refine wpAnyL_take (i := 1) (v := .agg #[.bool u, .int .u16 k]) rfl (by kernel_rfl) (by kernel_rfl) (by kernel_rfl) (by kernel_rfl) (fun _ _ _ h => h) (yields_cells (by rfl) 31 (.tmp 2) rfl A0 rfl 31 #[.bool u, .int .u16 k] (fun w h => h) 2 Try.underlying31 rfl size31 rfl) hS ?_
    try simp only [Act.put, nz0, nz1, nz2, nz3, nz4, nz5]
    refine wpAnyL_ready (rs := [2]) (by kernel_rfl) (by simp) ?_
    refine AllReadyL.cons rfl (fun K hK => ?_) AllReadyL.nil
    have hbq := hbl W5
    go_simp
    go_at_call 15
    refine Calls.mono hbq ?_
    clear hbq hbl
    rintro e W6 ⟨he, hb6⟩
    obtain rfl := he
    have s26 := s2d.below hb6 s2d.lt
    have sb6 := sbd.trans (hb6.mono sbd.size)
    refine hK.out _ _ (fun _ => hS.below hb6 hS.lt) ?_
    try simp only [Act.put, nz0, nz1, nz2, nz3, nz4, nz5]
    have hS6 := hS.below hb6 hS.lt
    clear hS s2d sbd hb6
    refine wpAnyL_take (i := 3) (v := .agg FA) rfl (by kernel_rfl) (by kernel_rfl) (by kernel_rfl) (by kernel_rfl) (fun _ _ _ h => h) (yields_build (by rfl) 122 #[(0, .tmp 23), (1, .tmp 25), (2, .const (.bool true))] rfl [(0, .agg #[.bool u, .int .u16 k]), (1, .agg PB), (2, .bool true)] rfl _ bu) hS6 ?_
    try simp only [Act.put, nz0, nz1, nz2, nz3, nz4, nz5]
    refine wpAnyL_ready (rs := [4]) (by kernel_rfl) (by simp) ?_
    refine AllReadyL.cons rfl (fun K hK => ?_) AllReadyL.nil
    refine step_cells rfl 122 (.tmp 4) (.tmp 26) rfl (A0 + 1 + 1) FA rfl rfl 122 _ s26 229 size122 HZF.out HFS.out fo (hK.out _ _ (fun q => absurd rfl q) ?_)
    try simp only [Act.put, nz0, nz1, nz2, nz3, nz4, nz5]
    refine wpAnyL_done (by kernel_rfl) ?_ _
    go_wp2
    refine bodyPost_ret (v := .agg FA) (ret_cell (fn := Try.f78) rfl _ _ (A0 + 1 + 1) 122 FA _ rfl (s26.set _) Try.underlying122 rfl (by rw [size122, HFS.out])) rfl ?_
    rw [HPP.out]
    exact ⟨by rw [HOG.out, HFA.out], below_setRow sb6 (by rw [HA0.out]; omega) _⟩
theorem posF_iff {fs : List Fm} (one : OneF fs) {u : Bool} {k : Int} {j : Nat} : posF fs u k = some j ↔ ∃ g, fs[j]? = some g ∧ g.un = u ∧ g.no = k := by
  constructor
  · exact posF_some
  · rintro ⟨g, hg, rfl, rfl⟩
    exact posF_is one hg
theorem posF_no {fs : List Fm} {u : Bool} {k : Int} (h : ∀ f ∈ fs, ¬ (f.un = u ∧ f.no = k)) : posF fs u k = none := by
  unfold posF
  rw [List.findIdx?_eq_none_iff]
  intro f hf
  have := h f hf
  simpa using this
theorem OneF.more {fs : List Fm} (one : OneF fs) {f : Fm} (hn : posF fs f.un f.no = none) : OneF (fs ++ [f]) := by
  intro i j x y hx hy e1 e2
  have at_ : ∀ (p : Nat) (z : Fm), (fs ++ [f])[p]? = some z → (fs[p]? = some z) ∨ (p = fs.length ∧ z = f) := fun p z hz => by
    rw [List.getElem?_append] at hz
    split at hz
    · exact Or.inl hz
    · rename_i q
      have : p - fs.length = 0 := by
        have := (List.getElem?_eq_some_iff.1 hz).1
        simpa using this
      rw [this] at hz
      simp at hz
      exact Or.inr ⟨by omega, hz.symm⟩
  rcases at_ i x hx with a | ⟨a, a2⟩
  · rcases at_ j y hy with b | ⟨b, b2⟩
    · exact one i j x y a b e1 e2
    · subst b2
      exact absurd ⟨e1, e2⟩ (posF_none hn (List.mem_of_getElem? a))
  · rcases at_ j y hy with b | ⟨b, b2⟩
    · subst a2
      exact absurd ⟨e1.symm, e2.symm⟩ (posF_none hn (List.mem_of_getElem? b))
    · rw [a, b]
theorem where_more {fs : List Fm} {f : Fm} (hn : posF fs f.un f.no = none) : whereF (fs ++ [f]) = (whereF fs).put f.un f.no fs.length := by
  funext u k
  unfold whereF Ids.put posF
  rw [List.findIdx?_append]
  by_cases q : u = f.un ∧ k = f.no
  · rw [if_pos q]
    obtain ⟨rfl, rfl⟩ := q
    unfold posF at hn
    rw [hn]
    simp [List.findIdx?_cons]
  · rw [if_neg q]
    have : [f].findIdx? (fun g => decide (g.un = u ∧ g.no = k)) = none := by
      rw [List.findIdx?_eq_none_iff]
      intro g hg
      simp at hg; subst hg
      simpa using fun a b => q ⟨a.symm, b.symm⟩
    rw [this]
    simp
theorem set_at {fs : List Fm} {i : Nat} {f' : Fm} {p : Nat} {z : Fm} (hz : (fs.set i f')[p]? = some z) : (p ≠ i ∧ fs[p]? = some z) ∨ (p = i ∧ z = f') := by
  rw [List.getElem?_set] at hz
  split at hz
  · rename_i e
    split at hz
    · cases hz; exact Or.inr ⟨e.symm, rfl⟩
    · cases hz
  · rename_i e
    exact Or.inl ⟨fun h => e h.symm, hz⟩
theorem OneF.swap {fs : List Fm} (one : OneF fs) {i : Nat} {f' : Fm} (hn : posF fs f'.un f'.no = none) : OneF (fs.set i f') := by
  intro p q x y hx hy e1 e2
  rcases set_at hx with ⟨_, a⟩ | ⟨a, a2⟩
  · rcases set_at hy with ⟨_, b⟩ | ⟨b, b2⟩
    · exact one p q x y a b e1 e2
    · subst b2
      exact absurd ⟨e1, e2⟩ (posF_none hn (List.mem_of_getElem? a))
  · rcases set_at hy with ⟨_, b⟩ | ⟨b, b2⟩
    · subst a2
      exact absurd ⟨e1.symm, e2.symm⟩ (posF_none hn (List.mem_of_getElem? b))
    · rw [a, b]
theorem where_swap {fs : List Fm} (one : OneF fs) {i : Nat} {f f' : Fm} (h : fs[i]? = some f) (hn : posF fs f'.un f'.no = none) : whereF (fs.set i f') = ((whereF fs).del f.un f.no).put f'.un f'.no i := by
  have one' := one.swap (i := i) hn
  have hil := (List.getElem?_eq_some_iff.1 h).1
  funext u k
  unfold Ids.put Ids.del whereF
  by_cases q : u = f'.un ∧ k = f'.no
  · rw [if_pos q]
    obtain ⟨rfl, rfl⟩ := q
    rw [posF_is one' (i := i) (f := f') (by rw [List.getElem?_set_self hil])]
    rfl
  · rw [if_neg q]
    by_cases q2 : u = f.un ∧ k = f.no
    · rw [if_pos q2]
      obtain ⟨rfl, rfl⟩ := q2
      rw [posF_no]
      · rfl
      · intro g hg e
        obtain ⟨p, hp, hpe⟩ := List.mem_iff_getElem.1 hg
        have hp2 : (fs.set i f')[p]? = some g := by rw [← hpe]; exact List.getElem?_eq_getElem hp
        rcases set_at hp2 with ⟨a, b⟩ | ⟨a, b⟩
        · exact a (one p i g f b h e.1 e.2)
        · rw [b] at e; exact q ⟨e.1.symm, e.2.symm⟩
    · rw [if_neg q2]
      suffices key : posF (fs.set i f') u k = posF fs u k by rw [key]
      cases hp : posF fs u k with
      | some j =>
        obtain ⟨g, hg, e1, e2⟩ := posF_some hp
        have hji : j ≠ i := fun e => by
          rw [e, h] at hg; cases hg
          exact q2 ⟨e1.symm, e2.symm⟩
        exact (posF_iff one').2 ⟨g, by rw [List.getElem?_set_ne (Ne.symm hji)]; exact hg, e1, e2⟩
      | none =>
        refine posF_no fun g hg e => ?_
        obtain ⟨p, hp', hpe⟩ := List.mem_iff_getElem.1 hg
        have hp2 : (fs.set i f')[p]? = some g := by rw [← hpe]; exact List.getElem?_eq_getElem hp'
        rcases set_at hp2 with ⟨a, b⟩ | ⟨a, b⟩
        · exact posF_none hp (List.mem_of_getElem? b) e
        · rw [b] at e; exact q ⟨e.1.symm, e.2.symm⟩
def takeF (fs : List Fm) (i : Nat) (f' : Fm) : List Fm := if i = fs.length then fs ++ [f'] else fs.set i f'
theorem Cs.Ok.take {s : Cs} (ok : s.Ok) {i : Nat} {f' : Fm} (hi : i < s.most) (hif : i ≤ s.fs.length) (fo : f'.Ok) (hn : posF s.fs f'.un f'.no = none) (hp : if f'.un = true then f'.no < s.undo else f'.no < s.pages) (ck' : List Cl.Fr) (h' : Nat) (hc : ck'.length = s.ck.length) :
    Cs.Ok { s with fs := takeF s.fs i f', ck := ck', hand := h' } := by
  have hm : ∀ g ∈ takeF s.fs i f', g ∈ s.fs ∨ g = f' := fun g hg => by
    unfold takeF at hg
    split at hg
    · simpa using hg
    · exact List.mem_or_eq_of_mem_set hg
  refine ⟨ok.pages, ok.undo, ok.most, fun g hg => ?_, ?_, ?_, by show ck'.length = _; rw [hc]; exact ok.ck, fun g hg => ?_⟩
  · rcases hm g hg with y | y
    · exact ok.fs g y
    · rw [y]; exact fo
  · show (takeF s.fs i f').length ≤ s.most
    have := ok.few
    unfold takeF
    split
    · simp; omega
    · rw [List.length_set]; exact ok.few
  · show OneF (takeF s.fs i f')
    unfold takeF
    split
    · exact ok.one.more hn
    · exact ok.one.swap hn
  · rcases hm g hg with y | y
    · exact ok.page g y
    · rw [y]; exact hp
theorem openF_un (u : Bool) (k : Int) (b : List Int) : (openF u k b).un = u := by unfold openF; split <;> rfl
theorem openF_no (u : Bool) (k : Int) (b : List Int) : (openF u k b).no = k := by unfold openF; split <;> rfl
theorem openF_ok (u : Bool) (k : Int) (hk : WfU k) (b : List Int) (hb : b.length = 256) (hy : Bytes b) : (openF u k b).Ok := by
  unfold openF
  split
  · exact ⟨Sl.payN_length _ _, payC_bytes b hy hb, hk, by show (0 : Int) ≤ 0 ∧ (0 : Int) ≤ _; omega⟩
  · exact ⟨blankP_length u k, blankP_bytes u k, hk, by show (0 : Int) ≤ 0 ∧ (0 : Int) ≤ _; omega⟩
theorem CL.self {w : World} {F : Nat → Prop} {gc gd gl gk ak : Nat} {s : Cs} {l : Lg} {d : Dsk} {M : Int} {N : Nat} (c : CL w F gc gd gl gk ak s l d M N) : ∃ fv m n vl vs L, CA w gc gd gl gk ak fv m n s M ∧ LStep w gl gd (fun j => lfoot gl gd vl vs L j) l d N w ∧ LD w gl gd vl vs L l d N ∧ (∀ j, lfoot gl gd vl vs L j → ¬ cfoot gc gk ak fv m j) ∧ (∀ j, lfoot gl gd vl vs L j ∨ cfoot gc gk ak fv m j → F j) := by
  obtain ⟨fv, m, n, vl, vs, L, cA, lD, hdis, hF⟩ := c.ex
  exact ⟨fv, m, n, vl, vs, L, cA, ⟨vl, vs, L, lD, Off.refl _ _, fun j q => Or.inl q⟩, lD, hdis, hF⟩
theorem CL.read {w : World} {F : Nat → Prop} {gc gd gl gk ak : Nat} {s : Cs} {l : Lg} {d : Dsk} {M : Int} {N : Nat} (c : CL w F gc gd gl gk ak s l d M N) (ho : d.ops < 9223372036854775806) (b : Int) : Calls Try.prog 77 #[.pointer (some ⟨gd, 0, none⟩), .int .i64 b] w fun e w' => e = .returned (.tuple #[.agg (bs (read d b).1), .int .i64 (read d b).2.1]) ∧ CStep w F gc gd gl gk ak s l (Ytehogiondcpbcaa.read d b).2.2 M N w' := by
  obtain ⟨fv, m, n, vl, vs, L, cA, hst, lD, hdis, hF⟩ := c.self
  refine (hst.read ho b).mono ?_
  rintro e w' ⟨q1, q2⟩
  refine ⟨q1, CStep.logd hdis hF (fun j q => cA.lt q) (q2.off.mono fun j q => Or.inl (hF j (Or.inl q))) q2 (cA.off q2.off fun k q q2 => hdis k q2 q) c.ok⟩
theorem flatF_one : ∀ (fs : List Fm) (u : Value), u ∈ flatF fs → u.oneCell' = true := by
  intro fs u hu
  unfold flatF at hu
  rw [List.mem_flatMap] at hu
  obtain ⟨f, _, h⟩ := hu
  have := f.one
  unfold Fm.arr at this
  rw [Array.all_eq_true'] at this
  exact this u (by simpa using h)
theorem more_run {w : World} {base : Nat} {v : Value} {fs : List Fm} (h : w.ownsRow base 122 229 v fs.length (flatF fs)) (ty : TypeId) (X : Nat) (p : Fm) (hp : p.p.length = 224) (hX : Row w X p.arr 122) (hb : base ≤ w.heap.size) (hn : fs.length ≤ 1000000) :
    ∃ v' w', (Builtin.append_ #[114, 114] ty #[v, .slice (some ⟨X, 0, none⟩) 1 1]).run Try.prog w = .ok v' w' ∧ (w'.ownsRow base 122 229 v' (fs ++ [p]).length (flatF (fs ++ [p])) ∧ w.grownBy w' v.ownBlock ∧ (v'.ownBlock = v.ownBlock ∨ v'.ownBlock = some w.heap.size)) := by
  obtain ⟨i, hi, hz, hs, hby⟩ := Ck.info_parts info122
  obtain ⟨v', w', hr, h2, h3, h4, h5⟩ := run_append_own_at (P := Try.prog) w base 114 ty 122 i _ 229 240 Try.underlying114 hi hz hs hby rfl (by decide) v fs.length (flatF fs) h ⟨X, 0, none⟩ 1 1 p.cells (by rw [Fm.cells_length hp]) (fun j u hj => by rw [Addr.add_mid, Nat.zero_add, cell_of_row w X j _ _ _ hX, ← hj]; show p.cells.toArray[j]? = _; rw [List.getElem?_toArray]) (fun u hu => flatF_one [p] u (by simpa [flatF] using hu)) (by unfold maxLen; omega) (by omega) hb
  refine ⟨v', w', hr, ?_, h3, h5⟩
  rw [flatF_append, List.length_append]
  have e : flatF [p] = p.cells := by simp [flatF]
  rw [e]
  exact h2
theorem splice_next {α : Type} (L : List α) (o : Nat) (v : α) (r : List α) (h : o < L.length) : splice (L.set o v) (o + 1) r = splice L o (v :: r) := by
  have e : L.set o v = (L.take o ++ [v]) ++ L.drop (o + 1) := by
    rw [List.set_eq_take_append_cons_drop, if_pos h]; simp
  have hl : (L.take o ++ [v]).length = o + 1 := by simp; omega
  have := splice_right (L.take o ++ [v]) (L.drop (o + 1)) r 0
  rw [hl, Nat.add_zero] at this
  rw [e, this]
  unfold splice
  simp [List.drop_drop, Nat.add_comm, Nat.add_left_comm, Nat.add_assoc]
theorem splice_all {α : Type} (L r : List α) (h : r.length = L.length) : splice L 0 r = r := by
  unfold splice
  simp [h]
theorem Off.of_setCells (g : Nat) : ∀ (vs : List Value) (o : Nat) (w : World), Off (· = g) w (w.setCells g o vs)
  | [], _, w => Off.refl _ w
  | v :: r, o, w => (Off.of_setCell (F := (· = g)) w ⟨g, o, none⟩ v rfl).trans (Off.of_setCells g r (o + 1) _) fun _ q => Or.inl q
theorem ownsRow_cells {base : Nat} {e : TypeId} {size g n cap : Nat} : ∀ (vs : List Value) (o : Nat) (w : World) (xs : List Value), w.ownsRow base e size (.slice (some ⟨g, 0, none⟩) n cap) n xs → o + vs.length ≤ xs.length → (w.setCells g o vs).ownsRow base e size (.slice (some ⟨g, 0, none⟩) n cap) n (splice xs o vs)
  | [], o, w, xs, h, _ => by
    have : splice xs o [] = xs := by unfold splice; simp
    rw [this]; exact h
  | v :: r, o, w, xs, h, hl => by
    simp only [List.length_cons] at hl
    rw [← splice_next xs o v r (by omega)]
    exact ownsRow_cells r (o + 1) _ _ (h.stored o v).1 (by rw [List.length_set]; omega)
theorem own_put {w : World} {a cap : Nat} {fs : List Fm} (ok : ∀ f ∈ fs, f.Ok) (h : w.ownsRow 0 122 229 (.slice (some ⟨a, 0, none⟩) fs.length cap) fs.length (flatF fs)) {i : Nat} {f : Fm} (hf : fs[i]? = some f) (f' : Fm) (hp : f'.p.length = 224) :
    (w.setCells a (i * 229) f'.cells).ownsRow 0 122 229 (.slice (some ⟨a, 0, none⟩) fs.length cap) fs.length (flatF (fs.set i f')) ∧ Off (· = a) w (w.setCells a (i * 229) f'.cells) := by
  have hc := Fm.cells_length hp
  have hc0 := Fm.cells_length (ok f (List.mem_of_getElem? hf)).len
  have hil := (List.getElem?_eq_some_iff.1 hf).1
  have hfl := flatF_length ok
  refine ⟨?_, Off.of_setCells _ _ _ _⟩
  have := ownsRow_cells f'.cells (i * 229) w (flatF fs) h (by rw [hfl, hc]; omega)
  have e := flatF_splice ok i 0 f f' f'.cells hf (by rw [hc]; omega) (splice_all _ _ (by rw [hc, hc0]))
  rw [Nat.add_zero] at e
  rw [e] at this
  exact this
end Go.Proofs.Ytehogiondcpbcaa
