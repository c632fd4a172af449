/-
  Plain facts of deltas (delta's own, in rec's seat). Proved here: the document's Read (varveref03) tells of a text which places its pieces have and which bytes, or that it is no delta. Proved here: the document's Apply (varveref03) makes of a body what the pieces of a text make, or tells that there are none.
-/
import Derived.Test.YtihjapfgllokgabDlt
namespace Go.Proofs.Ytihjapfgllokgab
open Go.ChangeShapes Go.WideShapes Go.ChangeAt Go.RowKit
set_option linter.unusedVariables false
set_option linter.unusedSimpArgs false
set_option maxRecDepth 20000

theorem zero103 (w : World) : (zeroValue 103).run Try.prog w = .ok (.agg (bl fs)) w := (zero_of_info (P := Try.prog) (t := 103) (v := .agg (bl fs)) (n := 64) (by kernel_rfl)).1 w
theorem size103 : (Try.prog.info? 103).map (·.size) = some 64 := by kernel_rfl
/-- Places with n more of them, from a on. -/
def addP (H : List Bool) (a n : Nat) : List Bool := bf 64 fun j => H.getD j false || (decide (a ≤ j) && decide (j < a + n))
theorem addP_length (H : List Bool) (a n : Nat) : (addP H a n).length = 64 := bf_length _ _
theorem addP_zero (H : List Bool) (a : Nat) (hl : H.length = 64) : addP H a 0 = H := by
  symm; apply eq_bf _ _ _ hl
  intro j hj
  have : (decide (a ≤ j) && decide (j < a + 0)) = false := by simp
  rw [this, Bool.or_false]
theorem addP_step (H : List Bool) (a k : Nat) : (addP H a k).set (a + k) true = addP H a (k + 1) := by
  unfold addP
  rw [set_bf]
  apply bf_congr
  intro j hj
  by_cases e : j = a + k
  · rw [if_pos e]
    have : (decide (a ≤ j) && decide (j < a + (k + 1))) = true := by simp; omega
    rw [this, Bool.or_true]
  · rw [if_neg e]
    congr 1
    have : decide (j < a + k) = decide (j < a + (k + 1)) ∨ ¬ a ≤ j := by
      by_cases h : a ≤ j
      · left; congr 1; apply propext; omega
      · right; exact h
    rcases this with h | h
    · rw [h]
    · simp [h]
theorem same_list (l m : List Int) (hl : l.length = 64) (hm : m.length = 64) (h : ∀ j, j < 64 → l.getD j 0 = m.getD j 0) : l = m := by
  apply List.ext_getElem (by omega)
  intro j h1 h2
  have := h j (by omega)
  simpa [List.getD, h1, h2] using this
theorem addP_at (H : List Bool) (a n j : Nat) (hj : j < 64) : (addP H a n).getD j false = (H.getD j false || (decide (a ≤ j) && decide (j < a + n))) := bf_at _ _ _ hj
/-- The places that pieces have, beside some. -/
def hasAll (H : List Bool) (ps : List (Nat × List Int)) : List Bool := ps.foldl (fun H p => addP H p.1 p.2.length) H
theorem hasAll_snoc (H : List Bool) (ps : List (Nat × List Int)) (p : Nat × List Int) : hasAll H (ps ++ [p]) = addP (hasAll H ps) p.1 p.2.length := by
  unfold hasAll; rw [List.foldl_append]; rfl
theorem hasAll_length (H : List Bool) (hl : H.length = 64) : ∀ ps : List (Nat × List Int), (hasAll H ps).length = 64 := by
  intro ps
  induction ps generalizing H with
  | nil => exact hl
  | cons p ps ih => exact ih (addP H p.1 p.2.length) (addP_length _ _ _)
theorem fs_length : fs.length = 64 := by simp [fs]
def BytesP (ps : List (Nat × List Int)) : Prop := ∀ p ∈ ps, Bytes p.2
theorem parse_ok : ∀ f nx l ps, Bytes l → parse f nx l = some ps → Fits ps ∧ BytesP ps
  | 0, nx, l, ps, _, h => by cases h
  | f + 1, nx, [], ps, _, h => by cases h; exact ⟨(fun p hp => nomatch hp), (fun p hp => nomatch hp)⟩
  | f + 1, nx, [_], ps, _, h => by cases h
  | f + 1, nx, a :: n :: r, ps, hb, h => by
    rw [parse_cons2] at h
    split at h
    · cases h
    · rename_i hc
      have ha := hb a (by simp)
      have hn := hb n (by simp)
      have hr : Bytes r := fun y hy => hb y (by simp [hy])
      cases hq : parse f (a + n + 1).toNat (r.drop n.toNat) with
      | none => rw [hq] at h; cases h
      | some qs =>
        rw [hq] at h
        have h' : ps = (a.toNat, r.take n.toNat) :: qs := by cases h; rfl
        subst h'
        have ih := parse_ok f _ _ qs (fun y hy => hr y (List.mem_of_mem_drop hy)) hq
        refine ⟨fun p hp => ?_, fun p hp => ?_⟩
        · rcases List.mem_cons.1 hp with rfl | hp
          · simp only [List.length_take]; omega
          · exact ih.1 p hp
        · rcases List.mem_cons.1 hp with rfl | hp
          · exact fun y hy => hr y (List.mem_of_mem_take hy)
          · exact ih.2 p hp
theorem pieces_ok (s : ByteArray) (ps : List (Nat × List Int)) (h : pieces s = some ps) : Fits ps ∧ BytesP ps := parse_ok _ _ _ _ (nums_bytes s) h
/-- Pieces laid into two bodies that are alike at some places: place by place. -/
theorem apply_like : ∀ (ps : List (Nat × List Int)) (b z b0 : List Int) (H : List Bool), Fits ps → b.length = 64 → z.length = 64 →
    (∀ j, j < 64 → b.getD j 0 = if H.getD j false = true then z.getD j 0 else b0.getD j 0) →
    ∀ j, j < 64 → (applyAll b ps).getD j 0 = if (hasAll H ps).getD j false = true then (applyAll z ps).getD j 0 else b0.getD j 0
  | [], b, z, b0, H, _, _, _, h => h
  | p :: ps, b, z, b0, H, hf, hb, hz, h => by
    have hp := hf p (by simp)
    refine apply_like ps (splice b p.1 p.2) (splice z p.1 p.2) b0 (addP H p.1 p.2.length) (fun q hq => hf q (by simp [hq])) (by rw [length_splice _ _ _ (by omega)]; exact hb) (by rw [length_splice _ _ _ (by omega)]; exact hz) ?_
    intro j hj
    rw [splice_getD _ _ _ _ (by omega), splice_getD _ _ _ _ (by omega), addP_at _ _ _ _ hj]
    by_cases h1 : j < p.1
    · have e : (decide (p.1 ≤ j) && decide (j < p.1 + p.2.length)) = false := by simp; omega
      rw [if_pos h1, if_pos h1, e, Bool.or_false]; exact h j hj
    · rw [if_neg h1, if_neg h1]
      by_cases h2 : j < p.1 + p.2.length
      · have e : (decide (p.1 ≤ j) && decide (j < p.1 + p.2.length)) = true := by simp; omega
        rw [if_pos h2, if_pos h2, e, Bool.or_true, if_pos rfl]
      · have e : (decide (p.1 ≤ j) && decide (j < p.1 + p.2.length)) = false := by simp; omega
        rw [if_neg h2, if_neg h2, e, Bool.or_false]; exact h j hj
theorem apply_has (ps : List (Nat × List Int)) (hf : Fits ps) (b : List Int) (hb : b.length = 64) (j : Nat) (hj : j < 64) :
    (applyAll b ps).getD j 0 = if (hasAll fs ps).getD j false = true then (applyAll (zs 64) ps).getD j 0 else b.getD j 0 := by
  refine apply_like ps b (zs 64) b fs hf hb (zs_length _) ?_ j hj
  intro j hj
  have : fs.getD j false = false := by rw [fs_is, bf_at _ _ _ hj]
  rw [this, if_neg (by simp)]
end Go.Proofs.Ytihjapfgllokgab
namespace Go.Proofs.Ytihjapfgllokgab
open Go.ChangeShapes Go.WideShapes Go.ChangeAt Go.RowKit
set_option linter.unusedVariables false
set_option linter.unusedSimpArgs false
set_option maxRecDepth 20000

theorem splice_take (b : List Int) (a k : Nat) (t : List Int) (hk : k < t.length) (h : a + t.length ≤ b.length) : (splice b a (t.take k)).set (a + k) (t.getD k 0) = splice b a (t.take (k + 1)) := by
  have l1 : (t.take k).length = k := by simp; omega
  have l2 : (t.take (k + 1)).length = k + 1 := by simp; omega
  have hl1 : (splice b a (t.take k)).length = b.length := length_splice _ _ _ (by omega)
  have hl2 : (splice b a (t.take (k + 1))).length = b.length := length_splice _ _ _ (by omega)
  rw [eq_fl (splice b a (t.take (k + 1))) b.length _ hl2 (fun j _ => rfl)]
  apply eq_fl
  · rw [List.length_set, hl1]
  · intro j hj
    rw [splice_getD _ _ _ _ (by omega), l2]
    by_cases e : j = a + k
    · subst e
      have : ((splice b a (t.take k)).set (a + k) (t.getD k 0)).getD (a + k) 0 = t.getD k 0 := by
        simp only [List.getD]; rw [List.getElem?_set_self (by omega)]; rfl
      rw [this, if_neg (by omega), if_pos (by omega), show a + k - a = k by omega]
      simp only [List.getD]; rw [List.getElem?_take, if_pos (by omega)]
    · have : ((splice b a (t.take k)).set (a + k) (t.getD k 0)).getD j 0 = (splice b a (t.take k)).getD j 0 := by
        simp only [List.getD]; rw [List.getElem?_set_ne (by omega)]
      rw [this, splice_getD _ _ _ _ (by omega), l1]
      by_cases h1 : j < a
      · rw [if_pos h1, if_pos h1]
      · rw [if_neg h1, if_neg h1]
        by_cases h2 : j < a + k
        · rw [if_pos h2, if_pos (by omega)]
          simp only [List.getD]; rw [List.getElem?_take, List.getElem?_take, if_pos (by omega), if_pos (by omega)]
        · rw [if_neg h2, if_neg (by omega)]
theorem splice_nil (b : List Int) (a : Nat) : splice b a [] = b := by simp [splice]
theorem built52 : (Try.prog.built 52 []) = some (bs (zs 64)) := by kernel_rfl
theorem built103 : (Try.prog.built 103 []) = some (bl fs) := by kernel_rfl
theorem ret_rr {P : Program} {fn : Func} {p q c : Tmp} {ty ty2 : TypeId} (h : fn.results = #[.cell p ty, .cell q ty2, .tmp c]) (tmps : Array Value) (w : World) (g g2 : Nat) (t t2 : TypeId) (cs cs2 : Array Value) (n : Nat) (e e2 : TypeId) (y : Value)
    (hp : tmps.getD p undef = .pointer (some ⟨g, 0, none⟩)) (hq : tmps.getD q undef = .pointer (some ⟨g2, 0, none⟩)) (hc : tmps.getD c undef = y) (hg : Row w g cs t) (hg2 : Row w g2 cs2 t2)
    (hu : P.underlying ty = some (.array n e)) (hi : (P.info? ty).map (·.size) = some n) (hn : cs.size = n) (hu2 : P.underlying ty2 = some (.array n e2)) (hi2 : (P.info? ty2).map (·.size) = some n) (hn2 : cs2.size = n) :
    (results fn tmps).run P w = .ok (.tuple #[.agg cs, .agg cs2, y]) w := by
  have hp' : tmps[p]?.getD undef = .pointer (some ⟨g, 0, none⟩) := by simpa using hp
  have hq' : tmps[q]?.getD undef = .pointer (some ⟨g2, 0, none⟩) := by simpa using hq
  have hc' : tmps[c]?.getD undef = y := by simpa using hc
  simp [results, h, hp', hq', hc', asAddr, run_loadVar_row w g t ty cs (0, 0) _ hg hu rfl (by rw [hi, hn]), run_loadVar_row w g2 t2 ty2 cs2 (0, 0) _ hg2 hu2 rfl (by rw [hi2, hn2])]
/-- What Read answers. -/
def readV (s : ByteArray) : Value :=
  match pieces s with
  | some ps => .tuple #[.agg (bs (applyAll (zs 64) ps)), .agg (bl (hasAll fs ps)), .bool true]
  | none => .tuple #[.agg (bs (zs 64)), .agg (bl fs), .bool false]
/-- What stands in Read's variables. -/
def RInv (w : World) (A : List Int) (H : List Bool) (w' : World) : Prop :=
  Row w' w.heap.size (bs (zs 64)) 52 ∧ Row w' (w.heap.size + 1) (bl fs) 103 ∧ Row w' (w.heap.size + 1 + 1) (bs A) 52 ∧ Row w' (w.heap.size + 1 + 1 + 1) (bl H) 103 ∧ Below w.heap.size w w'
theorem RInv.start (w : World) : RInv w (zs 64) fs ((((w.alloc (.cells (bs (zs 64)) 52)).alloc (.cells (bl fs) 103)).alloc (.cells (bs (zs 64)) 52)).alloc (.cells (bl fs) 103)) := by
  refine ⟨(((Row.new _ _ _).alloc _).alloc _).alloc _, ?_, ?_, ?_, ?_⟩
  · have := ((Row.new (w.alloc (.cells (bs (zs 64)) 52)) (bl fs) 103).alloc (.cells (bs (zs 64)) 52)).alloc (.cells (bl fs) 103); simpa using this
  · have := (Row.new ((w.alloc (.cells (bs (zs 64)) 52)).alloc (.cells (bl fs) 103)) (bs (zs 64)) 52).alloc (.cells (bl fs) 103); simpa using this
  · have := (Row.new (((w.alloc (.cells (bs (zs 64)) 52)).alloc (.cells (bl fs) 103)).alloc (.cells (bs (zs 64)) 52)) (bl fs) 103); simpa using this
  · exact ((((Below.refl _ _).alloc (Nat.le_refl _) _).alloc (by simp) _).alloc (by simp; omega) _).alloc (by simp; omega) _
theorem RInv.drew {w : World} {A : List Int} {H : List Bool} {w' : World} (h : RInv w A H w') : RInv w A H w'.drew := ⟨h.1, h.2.1, h.2.2.1, h.2.2.2.1, h.2.2.2.2.drew⟩
theorem RInv.byte {w : World} {A : List Int} {H : List Bool} {w' : World} (h : RInv w A H w') (j : Nat) (x : Int) : RInv w (A.set j x) H (w'.setCell ⟨w.heap.size + 1 + 1, j, none⟩ (.int .u8 x)) :=
  ⟨row_setCell_other h.1 (by omega) _ _, row_setCell_other h.2.1 (by omega) _ _, row_setCell h.2.2.1 j x, row_setCell_other h.2.2.2.1 (by omega) _ _, h.2.2.2.2.setCell (by show w.heap.size ≤ w.heap.size + 1 + 1; omega) _⟩
theorem RInv.flag {w : World} {A : List Int} {H : List Bool} {w' : World} (h : RInv w A H w') (j : Nat) : RInv w A (H.set j true) (w'.setCell ⟨w.heap.size + 1 + 1 + 1, j, none⟩ (.bool true)) :=
  ⟨row_setCell_other h.1 (by omega) _ _, row_setCell_other h.2.1 (by omega) _ _, row_setCell_other h.2.2.1 (by omega) _ _, brow_setCell h.2.2.2.1 j true, h.2.2.2.2.setCell (by show w.heap.size ≤ w.heap.size + 1 + 1 + 1; omega) _⟩

set_option maxHeartbeats 2000000 in
theorem read_any (s0 : ByteArray) (hs0 : s0.size ≤ maxLen) (w : World) :
    Calls Try.prog 51 #[.string s0] w fun e w' => e = .returned (readV s0) ∧ Below w.heap.size w w' := by
  unfold maxLen at hs0
  have hz := zero52
  have hz' := zero103
  have h0 := RInv.start w
  go_enter Try.func51, Try.ntmps51
  go_wp2
  go_loopw [0, 7] (fun t i wr => ∃ (s : ByteArray) (nx : Nat) (done : List (Nat × List Int)), t = .string s ∧ i = .int .i64 ((nx : Int) - 1) ∧ s.size ≤ s0.size ∧ nx ≤ 65 ∧ Left s0 nx s done ∧ Fits done ∧ RInv w (applyAll (zs 64) done) (hasAll fs done) wr) (fun t _ _ => sizeStr t)
  case atStart => exact ⟨s0, 0, [], rfl, rfl, Nat.le_refl _, by omega, Left.start s0, (fun p hp => nomatch hp), h0⟩
  case round =>
    clear h0
    obtain ⟨s, nx, done, rfl, rfl, hss, hnx, hL, hF, rI⟩ := hrel
    have hmx : s.size ≤ 9223372036854775807 := by omega
    have hAl := applyAll_length (zs 64) (zs_length _) done hF
    have hHl := hasAll_length fs fs_length done
    by_cases hz0 : s.size = 0
    · have hR : readV s0 = .tuple #[.agg (bs (applyAll (zs 64) done)), .agg (bl (hasAll fs done)), .bool true] := by unfold readV; rw [hL.stop hz0]
      obtain ⟨A, HA⟩ : ∃ A, Hid (applyAll (zs 64) done = A) := ⟨_, rfl⟩
      obtain ⟨H, HH⟩ : ∃ H, Hid (hasAll fs done = H) := ⟨_, rfl⟩
      rw [HA.out] at hR hAl rI
      rw [HH.out] at hR hHl rI
      have HR := show Hid _ from hR
      clear hR
      have hz1 : ¬ 0 < (s.size : Int) := by omega
      go_wp2
      refine wp_region_held_drew (S := fun w' => Row w' (w.heap.size + 1 + 1) (bs A) 52 ∧ Row w' (w.heap.size + 1 + 1 + 1) (bl H) 103) (by kernel_rfl) ⟨rI.2.2.1, rI.2.2.2.1⟩ fun hS => ?_
      refine wpAnyH_take (i := 0) (v := .agg (bs A)) rfl (by kernel_rfl) (by kernel_rfl) (by kernel_rfl) (fun _ _ _ h => h) (yields_row (by rfl) 52 (.tmp 5) rfl (w.heap.size + 1 + 1) rfl 52 (bs A) (fun w h => h.1) 64 5 Try.underlying52 size52 (by rw [bs_size, hAl])) hS ?_
      try simp only [Act.put, List.getElem_toArray, List.getElem_cons_zero, List.getElem_cons_succ, List.setIfInBounds_toArray, List.set_cons_zero, List.set_cons_succ]
      refine wpAnyH_take (i := 1) (v := .agg (bl H)) rfl (by kernel_rfl) (by kernel_rfl) (by kernel_rfl) (fun _ _ _ h => h) (yields_row (by rfl) 103 (.tmp 6) rfl (w.heap.size + 1 + 1 + 1) rfl 103 (bl H) (fun w h => h.2) 64 4 Try.underlying103 size103 (by rw [bl_size, hHl])) hS ?_
      try simp only [Act.put, List.getElem_toArray, List.getElem_cons_zero, List.getElem_cons_succ, List.setIfInBounds_toArray, List.set_cons_zero, List.set_cons_succ]
      have y0 : Row wr.drew w.heap.size (bs (zs 64)) 52 := rI.1
      have y1 : Row wr.drew (w.heap.size + 1) (bl fs) 103 := rI.2.1
      have yb : Below w.heap.size w wr.drew := rI.2.2.2.2.drew
      refine wpAnyH_ready (rs := [2]) (by kernel_rfl) (by simp) ?_
      refine AllReadyH.cons rfl (fun K hK => step_cells rfl 52 (.tmp 2) (.tmp 71) rfl w.heap.size (bs A) rfl rfl 52 (bs (zs 64)) y0 64 size52 (by rw [bs_size, zs_length]) (by rw [bs_size, hAl]) (bs_one _) (hK.out _ _ ⟨hS.1.other (by omega) _, hS.2.other (by omega) _⟩ fun hS => ?_)) AllReadyH.nil
      try simp only [Act.put, List.getElem_toArray, List.getElem_cons_zero, List.getElem_cons_succ, List.setIfInBounds_toArray, List.set_cons_zero, List.set_cons_succ]
      have z0 := y0.set (bs A)
      have z1 := y1.other (show w.heap.size + 1 ≠ w.heap.size by omega) (bs A)
      have zb := below_setRow yb (Nat.le_refl _) (bs A)
      refine wpAnyH_ready (rs := [3]) (by kernel_rfl) (by simp) ?_
      refine AllReadyH.cons rfl (fun K hK => step_cells rfl 103 (.tmp 3) (.tmp 72) rfl (w.heap.size + 1) (bl H) rfl rfl 103 (bl fs) z1 64 size103 (by rw [bl_size, fs_length]) (by rw [bl_size, hHl]) (bl_one _) (hK.out _ _ ⟨hS.1.other (by omega) _, hS.2.other (by omega) _⟩ fun hS => ?_)) AllReadyH.nil
      try simp only [Act.put, List.getElem_toArray, List.getElem_cons_zero, List.getElem_cons_succ, List.setIfInBounds_toArray, List.set_cons_zero, List.set_cons_succ]
      have x0 := z0.other (show w.heap.size ≠ w.heap.size + 1 by omega) (bl H)
      have x1 := z1.set (bl H)
      have xb := below_setRow zb (show w.heap.size ≤ w.heap.size + 1 by omega) (bl H)
      refine wpAnyH_take (i := 4) (v := .bool true) rfl (by kernel_rfl) (by kernel_rfl) (by kernel_rfl) (fun _ _ _ h => h) (Or.inl ⟨by rfl, fun w _ => by rfl⟩) hS ?_
      try simp only [Act.put, List.getElem_toArray, List.getElem_cons_zero, List.getElem_cons_succ, List.setIfInBounds_toArray, List.set_cons_zero, List.set_cons_succ]
      refine wpAnyH_done (by kernel_rfl) ?_ _
      go_wp2
      refine bodyPost_ret (v := .tuple #[.agg (bs A), .agg (bl H), .bool true]) ?_ rfl ⟨by rw [HR.out], xb⟩
      exact ret_rr (fn := Try.f51) rfl _ _ w.heap.size (w.heap.size + 1) 52 103 (bs A) (bl H) 64 5 4 _ rfl rfl rfl x0 x1 Try.underlying52 size52 (by rw [bs_size, hAl]) Try.underlying103 size103 (by rw [bl_size, hHl])
    · have hz1 : 0 < (s.size : Int) := by omega
      by_cases h2 : (s.size : Int) < 2
      · have HR : Hid (readV s0 = .tuple #[.agg (bs (zs 64)), .agg (bl fs), .bool false]) := by show _ = _; unfold readV; rw [hL.bad1 (by omega)]
        go_wp2_with (first
          | (refine build_none rfl 52 rfl (bs (zs 64)) built52 ?_)
          | (refine build_none rfl 103 rfl (bl fs) built103 ?_)
          | (refine store_cells rfl 52 (.tmp 2) (.tmp 17) rfl w.heap.size (bs (zs 64)) rfl rfl 52 (bs (zs 64)) rI.1 64 size52 (by rw [bs_size, zs_length]) (by rw [bs_size, zs_length]) (bs_one _) ?_
             have y0 := rI.1.set (bs (zs 64))
             have y1 := rI.2.1.other (show w.heap.size + 1 ≠ w.heap.size by omega) (bs (zs 64))
             have yb := below_setRow rI.2.2.2.2 (Nat.le_refl _) (bs (zs 64))
             clear rI)
          | (refine store_cells rfl 103 (.tmp 3) (.tmp 18) rfl (w.heap.size + 1) (bl fs) rfl rfl 103 (bl fs) y1 64 size103 (by rw [bl_size, fs_length]) (by rw [bl_size, fs_length]) (bl_one _) ?_
             have z0 := y0.other (show w.heap.size ≠ w.heap.size + 1 by omega) (bl fs)
             have z1 := y1.set (bl fs)
             have zb := below_setRow yb (show w.heap.size ≤ w.heap.size + 1 by omega) (bl fs)
             clear y0 y1 yb))
        refine bodyPost_ret (v := .tuple #[.agg (bs (zs 64)), .agg (bl fs), .bool false]) ?_ rfl ⟨by rw [HR.out], zb⟩
        exact ret_rr (fn := Try.f51) rfl _ _ w.heap.size (w.heap.size + 1) 52 103 (bs (zs 64)) (bl fs) 64 5 4 _ rfl rfl rfl z0 z1 Try.underlying52 size52 (by rw [bs_size, zs_length]) Try.underlying103 size103 (by rw [bl_size, fs_length])
      · have hs2 : 2 ≤ s.size := by omega
        have e0 := nums_at s 0 (by omega)
        have e1 := nums_at s 1 (by omega)
        obtain ⟨a, ha⟩ : ∃ a, (s[0]'(by omega)).toNat = a := ⟨_, rfl⟩
        obtain ⟨n, hn⟩ : ∃ n, (s[1]'(by omega)).toNat = n := ⟨_, rfl⟩
        have ha255 : a < 256 := by rw [← ha]; exact (s[0]'(by omega)).toNat_lt
        have hn255 : n < 256 := by rw [← hn]; exact (s[1]'(by omega)).toNat_lt
        rw [ha] at e0
        rw [hn] at e1
        have E0 : Hid ((nums s).getD 0 0 = (a : Int)) := e0
        have E1 : Hid ((nums s).getD 1 0 = (n : Int)) := e1
        clear e0 e1
        by_cases hb : a < nx ∨ n = 0 ∨ 64 < a + n ∨ s.size < 2 + n
        · have HR : Hid (readV s0 = .tuple #[.agg (bs (zs 64)), .agg (bl fs), .bool false]) := by show _ = _; unfold readV; rw [hL.bad hs2 a n E0.out E1.out (by omega)]
          by_cases b2 : n = 0
          · have b2' : ((n : Int) == 0) = true := by simp; exact b2
            have rI := rI.drew
            go_wp2
            go_region
            all_goals
              go_wp2_with (first
                | (refine build_none rfl 52 rfl (bs (zs 64)) built52 ?_)
                | (refine build_none rfl 103 rfl (bl fs) built103 ?_)
                | (refine store_cells rfl 52 (.tmp 2) (.tmp 45) rfl w.heap.size (bs (zs 64)) rfl rfl 52 (bs (zs 64)) rI.1 64 size52 (by rw [bs_size, zs_length]) (by rw [bs_size, zs_length]) (bs_one _) ?_
                   have y0 := rI.1.set (bs (zs 64))
                   have y1 := rI.2.1.other (show w.heap.size + 1 ≠ w.heap.size by omega) (bs (zs 64))
                   have yb := below_setRow rI.2.2.2.2 (Nat.le_refl _) (bs (zs 64))
                   clear rI)
                | (refine store_cells rfl 103 (.tmp 3) (.tmp 46) rfl (w.heap.size + 1) (bl fs) rfl rfl 103 (bl fs) y1 64 size103 (by rw [bl_size, fs_length]) (by rw [bl_size, fs_length]) (bl_one _) ?_
                   have z0 := y0.other (show w.heap.size ≠ w.heap.size + 1 by omega) (bl fs)
                   have z1 := y1.set (bl fs)
                   have zb := below_setRow yb (show w.heap.size ≤ w.heap.size + 1 by omega) (bl fs)
                   clear y0 y1 yb))
              refine bodyPost_ret (v := .tuple #[.agg (bs (zs 64)), .agg (bl fs), .bool false]) ?_ rfl ⟨by rw [HR.out], zb⟩
              exact ret_rr (fn := Try.f51) rfl _ _ w.heap.size (w.heap.size + 1) 52 103 (bs (zs 64)) (bl fs) 64 5 4 _ rfl rfl rfl z0 z1 Try.underlying52 size52 (by rw [bs_size, zs_length]) Try.underlying103 size103 (by rw [bl_size, fs_length])
          · have b2' : ((n : Int) == 0) = false := by simp; exact b2
            by_cases b4 : (s.size : Int) - 2 < (n : Int)
            · skip
              have rI := rI.drew
              go_wp2
              go_region
              all_goals
                go_wp2_with (first
                  | (refine build_none rfl 52 rfl (bs (zs 64)) built52 ?_)
                  | (refine build_none rfl 103 rfl (bl fs) built103 ?_)
                  | (refine store_cells rfl 52 (.tmp 2) (.tmp 45) rfl w.heap.size (bs (zs 64)) rfl rfl 52 (bs (zs 64)) rI.1 64 size52 (by rw [bs_size, zs_length]) (by rw [bs_size, zs_length]) (bs_one _) ?_
                     have y0 := rI.1.set (bs (zs 64))
                     have y1 := rI.2.1.other (show w.heap.size + 1 ≠ w.heap.size by omega) (bs (zs 64))
                     have yb := below_setRow rI.2.2.2.2 (Nat.le_refl _) (bs (zs 64))
                     clear rI)
                  | (refine store_cells rfl 103 (.tmp 3) (.tmp 46) rfl (w.heap.size + 1) (bl fs) rfl rfl 103 (bl fs) y1 64 size103 (by rw [bl_size, fs_length]) (by rw [bl_size, fs_length]) (bl_one _) ?_
                     have z0 := y0.other (show w.heap.size ≠ w.heap.size + 1 by omega) (bl fs)
                     have z1 := y1.set (bl fs)
                     have zb := below_setRow yb (show w.heap.size ≤ w.heap.size + 1 by omega) (bl fs)
                     clear y0 y1 yb))
                refine bodyPost_ret (v := .tuple #[.agg (bs (zs 64)), .agg (bl fs), .bool false]) ?_ rfl ⟨by rw [HR.out], zb⟩
                exact ret_rr (fn := Try.f51) rfl _ _ w.heap.size (w.heap.size + 1) 52 103 (bs (zs 64)) (bl fs) 64 5 4 _ rfl rfl rfl z0 z1 Try.underlying52 size52 (by rw [bs_size, zs_length]) Try.underlying103 size103 (by rw [bl_size, fs_length])
            · by_cases b3 : 64 < (a : Int) + (n : Int)
              · skip
                have rI := rI.drew
                go_wp2
                go_region
                all_goals
                  go_wp2_with (first
                    | (refine build_none rfl 52 rfl (bs (zs 64)) built52 ?_)
                    | (refine build_none rfl 103 rfl (bl fs) built103 ?_)
                    | (refine store_cells rfl 52 (.tmp 2) (.tmp 45) rfl w.heap.size (bs (zs 64)) rfl rfl 52 (bs (zs 64)) rI.1 64 size52 (by rw [bs_size, zs_length]) (by rw [bs_size, zs_length]) (bs_one _) ?_
                       have y0 := rI.1.set (bs (zs 64))
                       have y1 := rI.2.1.other (show w.heap.size + 1 ≠ w.heap.size by omega) (bs (zs 64))
                       have yb := below_setRow rI.2.2.2.2 (Nat.le_refl _) (bs (zs 64))
                       clear rI)
                    | (refine store_cells rfl 103 (.tmp 3) (.tmp 46) rfl (w.heap.size + 1) (bl fs) rfl rfl 103 (bl fs) y1 64 size103 (by rw [bl_size, fs_length]) (by rw [bl_size, fs_length]) (bl_one _) ?_
                       have z0 := y0.other (show w.heap.size ≠ w.heap.size + 1 by omega) (bl fs)
                       have z1 := y1.set (bl fs)
                       have zb := below_setRow yb (show w.heap.size ≤ w.heap.size + 1 by omega) (bl fs)
                       clear y0 y1 yb))
                  refine bodyPost_ret (v := .tuple #[.agg (bs (zs 64)), .agg (bl fs), .bool false]) ?_ rfl ⟨by rw [HR.out], zb⟩
                  exact ret_rr (fn := Try.f51) rfl _ _ w.heap.size (w.heap.size + 1) 52 103 (bs (zs 64)) (bl fs) 64 5 4 _ rfl rfl rfl z0 z1 Try.underlying52 size52 (by rw [bs_size, zs_length]) Try.underlying103 size103 (by rw [bl_size, fs_length])
              · have b1 : (a : Int) ≤ (nx : Int) - 1 := by omega
                have rI := rI.drew
                go_wp2
                go_region
                all_goals
                  go_wp2_with (first
                    | (refine build_none rfl 52 rfl (bs (zs 64)) built52 ?_)
                    | (refine build_none rfl 103 rfl (bl fs) built103 ?_)
                    | (refine store_cells rfl 52 (.tmp 2) (.tmp 45) rfl w.heap.size (bs (zs 64)) rfl rfl 52 (bs (zs 64)) rI.1 64 size52 (by rw [bs_size, zs_length]) (by rw [bs_size, zs_length]) (bs_one _) ?_
                       have y0 := rI.1.set (bs (zs 64))
                       have y1 := rI.2.1.other (show w.heap.size + 1 ≠ w.heap.size by omega) (bs (zs 64))
                       have yb := below_setRow rI.2.2.2.2 (Nat.le_refl _) (bs (zs 64))
                       clear rI)
                    | (refine store_cells rfl 103 (.tmp 3) (.tmp 46) rfl (w.heap.size + 1) (bl fs) rfl rfl 103 (bl fs) y1 64 size103 (by rw [bl_size, fs_length]) (by rw [bl_size, fs_length]) (bl_one _) ?_
                       have z0 := y0.other (show w.heap.size ≠ w.heap.size + 1 by omega) (bl fs)
                       have z1 := y1.set (bl fs)
                       have zb := below_setRow yb (show w.heap.size ≤ w.heap.size + 1 by omega) (bl fs)
                       clear y0 y1 yb))
                  refine bodyPost_ret (v := .tuple #[.agg (bs (zs 64)), .agg (bl fs), .bool false]) ?_ rfl ⟨by rw [HR.out], zb⟩
                  exact ret_rr (fn := Try.f51) rfl _ _ w.heap.size (w.heap.size + 1) 52 103 (bs (zs 64)) (bl fs) 64 5 4 _ rfl rfl rfl z0 z1 Try.underlying52 size52 (by rw [bs_size, zs_length]) Try.underlying103 size103 (by rw [bl_size, fs_length])
        · have hL' := hL.step hs2 a n E0.out E1.out hb
          have b1 : ¬ (a : Int) ≤ (nx : Int) - 1 := by omega
          have b2 : ((n : Int) == 0) = false := by simp; omega
          have b3 : ¬ 64 < (a : Int) + (n : Int) := by omega
          have b4 : ¬ (s.size : Int) - 2 < (n : Int) := by omega
          have hsz2 : (s.extract (2 + n) s.size).size = s.size - (2 + n) := by rw [ByteArray.size_extract]; omega
          have hNl : (nums (s.extract 2 (2 + n))).length = n := by rw [nums_length, ByteArray.size_extract]; omega
          have hNat : ∀ k (hk : k < n), (nums (s.extract 2 (2 + n))).getD k 0 = ((s[2 + k]'(by omega)).toNat : Int) := by
            intro k hk
            rw [nums_extract s _ _ (by omega), ← nums_at s (2 + k) (by omega)]
            simp only [List.getD]
            rw [List.getElem?_take, if_pos (by omega), List.getElem?_drop]
          have hF' : Fits (done ++ [(a, nums (s.extract 2 (2 + n)))]) := hF.snoc _ (by show a + _ ≤ 64; rw [hNl]; omega)
          obtain ⟨T, HT⟩ : ∃ T, Hid (nums (s.extract 2 (2 + n)) = T) := ⟨_, rfl⟩
          rw [HT.out] at hNl hL' hF'
          have HNat : Hid (∀ k (hk : k < n), T.getD k 0 = ((s[2 + k]'(by omega)).toNat : Int)) := fun k hk => by have := hNat k hk; rw [HT.out] at this; exact this
          clear hNat
          have rA : applyAll (zs 64) (done ++ [(a, T)]) = splice (applyAll (zs 64) done) a (T.take n) := by rw [applyAll_snoc, ← hNl, List.take_length]
          have rH : hasAll fs (done ++ [(a, T)]) = addP (hasAll fs done) a n := by rw [hasAll_snoc]; show addP _ a T.length = _; rw [hNl]
          have RA := show Hid _ from rA
          have RH := show Hid _ from rH
          clear rA rH
          obtain ⟨A, HA⟩ : ∃ A, Hid (applyAll (zs 64) done = A) := ⟨_, rfl⟩
          obtain ⟨H, HH⟩ : ∃ H, Hid (hasAll fs done = H) := ⟨_, rfl⟩
          rw [HA.out] at hAl rI
          rw [HH.out] at hHl rI
          have rI := rI.drew
          go_wp2
          go_region
          all_goals
            go_wp2
            go_loopw [10] (fun i wq => ∃ k : Nat, k ≤ n ∧ i = .int .i64 k ∧ RInv w (splice A a (T.take k)) (addP H a k) wq) (fun i _ => n - (intOf i).toNat)
            case atStart => exact ⟨0, by omega, rfl, by rw [List.take_zero, splice_nil, addP_zero H a hHl]; exact rI⟩
            case round =>
              obtain ⟨k, hk, rfl, kI⟩ := hrel
              by_cases hlt : k < n
              · have hSl : (splice A a (T.take k)).length = 64 := by rw [length_splice _ _ _ (by simp; omega)]; exact hAl
                have hc := row_cell kI.2.2.1 (a + k) (by omega)
                have hf := row_frozen kI.2.2.1 (a + k)
                have kI1 := kI.byte (a + k) (T.getD k 0)
                rw [splice_take A a k T (by omega) (by omega), HNat.out k hlt] at kI1
                have hx : (s[2 + k]'(by omega)).toNat < 256 := (s[2 + k]'(by omega)).toNat_lt
                obtain ⟨x, hxx⟩ : ∃ x, (s[2 + k]'(by omega)).toNat = x := ⟨_, rfl⟩
                rw [hxx] at kI1 hx
                have hc2 := brow_cell kI1.2.2.2.1 (a + k) (by rw [addP_length]; omega)
                have hf2 := row_frozen kI1.2.2.2.1 (a + k)
                have kI2 := kI1.flag (a + k)
                rw [addP_step] at kI2
                generalize (splice A a (T.take k)).getD (a + k) 0 = y1 at hc
                generalize (addP H a k).getD (a + k) false = y2 at hc2
                have hkn : (k : Int) < (n : Int) := by omega
                go_wp2
                go_roundw
                case rel => exact ⟨k + 1, by omega, by go_num, kI2⟩
                case measure => simp [intOf]; omega
              · have ek : k = n := by omega
                subst ek
                go_wp2
                go_roundw
                all_goals first
                  | exact ⟨s.extract (2 + k) s.size, a + k + 1, _, rfl, by go_num, by rw [hsz2]; omega, by omega, hL', hF', by rw [RA.out, RH.out, HA.out, HH.out]; exact kI⟩
                  | (simp only [sizeStr]; rw [hsz2]; omega)
end Go.Proofs.Ytihjapfgllokgab
namespace Go.Proofs.Ytihjapfgllokgab
open Go.ChangeShapes Go.WideShapes Go.ChangeAt Go.RowKit
set_option linter.unusedVariables false
set_option linter.unusedSimpArgs false
set_option maxRecDepth 20000

/-- A body of which the first k places are gone through. -/
def mixB (b A : List Int) (H : List Bool) (k : Nat) : List Int := fl 64 fun j => if j < k ∧ H.getD j false = true then A.getD j 0 else b.getD j 0
theorem mixB_length (b A : List Int) (H : List Bool) (k : Nat) : (mixB b A H k).length = 64 := fl_length _ _
theorem mixB_zero (b A : List Int) (H : List Bool) (hb : b.length = 64) : b = mixB b A H 0 := by
  apply eq_fl _ _ _ hb
  intro j hj
  rw [if_neg (by omega)]
theorem mixB_on (b A : List Int) (H : List Bool) (k : Nat) (h : H.getD k false = true) : (mixB b A H k).set k (A.getD k 0) = mixB b A H (k + 1) := by
  unfold mixB
  rw [set_fl]
  apply eq_fl _ _ _ (fl_length _ _)
  intro j hj
  rw [fl_at _ _ _ hj]
  by_cases e : j = k
  · subst e; rw [if_pos rfl, if_pos ⟨by omega, h⟩]
  · rw [if_neg e]
    by_cases h2 : j < k ∧ H.getD j false = true
    · rw [if_pos h2, if_pos ⟨by omega, h2.2⟩]
    · rw [if_neg h2, if_neg (fun q => h2 ⟨by omega, q.2⟩)]
theorem mixB_off (b A : List Int) (H : List Bool) (k : Nat) (h : H.getD k false = false) : mixB b A H k = mixB b A H (k + 1) := by
  unfold mixB
  apply eq_fl _ _ _ (fl_length _ _)
  intro j hj
  rw [fl_at _ _ _ hj]
  by_cases h2 : j < k ∧ H.getD j false = true
  · rw [if_pos h2, if_pos ⟨by omega, h2.2⟩]
  · rw [if_neg h2, if_neg]
    rintro ⟨q1, q2⟩
    by_cases e : j = k
    · subst e; rw [h] at q2; cases q2
    · exact h2 ⟨by omega, q2⟩
theorem mixB_whole (b : List Int) (hb : b.length = 64) (ps : List (Nat × List Int)) (hf : Fits ps) : mixB b (applyAll (zs 64) ps) (hasAll fs ps) 64 = applyAll b ps := by
  apply same_list _ _ (mixB_length _ _ _ _) (applyAll_length b hb ps hf)
  intro j hj
  unfold mixB
  rw [fl_at _ _ _ hj, apply_has ps hf b hb j hj]
  by_cases h : (hasAll fs ps).getD j false = true
  · rw [if_pos ⟨hj, h⟩, if_pos h]
  · rw [if_neg (fun q => h q.2), if_neg h]
def rapplied (b : List Int) (s : ByteArray) : Value :=
  match pieces s with
  | some ps => .tuple #[.agg (bs (applyAll b ps)), .bool true]
  | none => .tuple #[.agg (bs (zs 64)), .bool false]

set_option maxHeartbeats 1000000 in
theorem rapply_any (b : List Int) (hb : b.length = 64) (s : ByteArray) (hs : s.size ≤ maxLen) (w : World) :
    Calls Try.prog 35 #[.agg (bs b), .string s] w fun e w' => e = .returned (rapplied b s) ∧ Below w.heap.size w w' := by
  have HS : Hid (s.size ≤ maxLen) := hs
  clear hs
  have hz := zero52
  have hz' := zero103
  have a0 : Row ((w.alloc (.cells (bs b) 52)).alloc (.cells (bs (zs 64)) 52)) w.heap.size (bs b) 52 := (Row.new _ _ _).alloc _
  have a1 : Row ((w.alloc (.cells (bs b) 52)).alloc (.cells (bs (zs 64)) 52)) (w.heap.size + 1) (bs (zs 64)) 52 := by have := Row.new (w.alloc (.cells (bs b) 52)) (bs (zs 64)) 52; simpa using this
  have ab : Below w.heap.size w ((w.alloc (.cells (bs b) 52)).alloc (.cells (bs (zs 64)) 52)) := ((Below.refl _ _).alloc (Nat.le_refl _) _).alloc (by simp) _
  cases hp : pieces s with
  | none =>
    have HO : Hid (rapplied b s = .tuple #[.agg (bs (zs 64)), .bool false]) := by show _ = _; unfold rapplied; rw [hp]
    have HV : Hid (readV s = .tuple #[.agg (bs (zs 64)), .agg (bl fs), .bool false]) := by show _ = _; unfold readV; rw [hp]
    clear hp
    go_enter Try.func35, Try.ntmps35
    go_wp2_with (first
      | (go_at_call 51; refine (read_any s HS.out _).mono ?_; rw [HV.out]; rintro e w1 ⟨rfl, h1⟩
         have b0 := a0.below h1 a0.lt
         have b1 := a1.below h1 a1.lt
         have bb := ab.trans (h1.mono (Nat.le_of_lt a0.lt))
         clear a0 a1 ab h1)
      | (refine store_cells rfl 52 (.tmp 6) (.tmp 13) rfl w1.heap.size (bs (zs 64)) rfl rfl 52 (bs (zs 64)) ((Row.new w1 (bs (zs 64)) 52).alloc _) 64 size52 (by rw [bs_size, zs_length]) (by rw [bs_size, zs_length]) (bs_one _) ?_
         have c1 := ((b1.alloc (.cells (bs (zs 64)) 52)).alloc (.cells (bl fs) 103)).other (Nat.ne_of_lt b1.lt) (bs (zs 64))
         have c3 : Row ((((w1.alloc (.cells (bs (zs 64)) 52)).alloc (.cells (bl fs) 103))).setRow w1.heap.size (bs (zs 64))) (w1.heap.size + 1) (bl fs) 103 := by
           have := (Row.new (w1.alloc (.cells (bs (zs 64)) 52)) (bl fs) 103).other (show (w1.alloc (.cells (bs (zs 64)) 52)).heap.size ≠ w1.heap.size by simp) (bs (zs 64)); simpa using this
         have cb := below_setRow ((bb.alloc (Nat.le_of_lt b0.lt) (.cells (bs (zs 64)) 52)).alloc (by simp; have := b0.lt; omega) (.cells (bl fs) 103)) (Nat.le_of_lt b0.lt) (bs (zs 64))
         have l1 := b1.lt
         generalize ((w1.alloc (.cells (bs (zs 64)) 52)).alloc (.cells (bl fs) 103)).setRow w1.heap.size (bs (zs 64)) = w2 at c1 c3 cb ⊢
         clear b0 b1 bb)
      | (refine store_cells rfl 103 (.tmp 7) (.tmp 14) rfl (w1.heap.size + 1) (bl fs) rfl rfl 103 (bl fs) c3 64 size103 (by rw [bl_size, fs_length]) (by rw [bl_size, fs_length]) (bl_one _) ?_
         have d1 := c1.other (show w.heap.size + 1 ≠ w1.heap.size + 1 by omega) (bl fs)
         have db := below_setRow cb (show w.heap.size ≤ w1.heap.size + 1 by omega) (bl fs)
         clear c1 c3 cb)
      | (refine build_none rfl 52 rfl (bs (zs 64)) built52 ?_)
      | (refine store_cells rfl 52 (.tmp 4) (.tmp 18) rfl (w.heap.size + 1) (bs (zs 64)) rfl rfl 52 (bs (zs 64)) d1 64 size52 (by rw [bs_size, zs_length]) (by rw [bs_size, zs_length]) (bs_one _) ?_))
    refine bodyPost_ret (v := .tuple #[.agg (bs (zs 64)), .bool false]) ?_ rfl ⟨by rw [HO.out], below_setRow db (by omega) _⟩
    exact ret_two (fn := Try.f35) rfl _ _ (w.heap.size + 1) 52 (bs (zs 64)) 64 5 _ rfl rfl (d1.set _) Try.underlying52 size52 (by rw [bs_size, zs_length])
  | some ps =>
    obtain ⟨hf, _⟩ := pieces_ok s ps hp
    have hO : rapplied b s = .tuple #[.agg (bs (applyAll b ps)), .bool true] := by unfold rapplied; rw [hp]
    have hV : readV s = .tuple #[.agg (bs (applyAll (zs 64) ps)), .agg (bl (hasAll fs ps)), .bool true] := by unfold readV; rw [hp]
    rw [← mixB_whole b hb ps hf] at hO
    have hAl := applyAll_length (zs 64) (zs_length _) ps hf
    have hHl := hasAll_length fs fs_length ps
    clear hp
    obtain ⟨A, HA⟩ : ∃ A, Hid (applyAll (zs 64) ps = A) := ⟨_, rfl⟩
    obtain ⟨H, HH⟩ : ∃ H, Hid (hasAll fs ps = H) := ⟨_, rfl⟩
    rw [HA.out, HH.out] at hO hV
    rw [HA.out] at hAl
    rw [HH.out] at hHl
    have HO := show Hid _ from hO
    have HV := show Hid _ from hV
    clear hO hV
    go_enter Try.func35, Try.ntmps35
    go_wp2_with (first
      | (go_at_call 51; refine (read_any s HS.out _).mono ?_; rw [HV.out]; rintro e w1 ⟨rfl, h1⟩
         have b0 := a0.below h1 a0.lt
         have b1 := a1.below h1 a1.lt
         have bb := ab.trans (h1.mono (Nat.le_of_lt a0.lt))
         clear a0 a1 ab h1)
      | (refine store_cells rfl 52 (.tmp 6) (.tmp 13) rfl w1.heap.size (bs A) rfl rfl 52 (bs (zs 64)) ((Row.new w1 (bs (zs 64)) 52).alloc _) 64 size52 (by rw [bs_size, zs_length]) (by rw [bs_size, hAl]) (bs_one _) ?_
         have c0 := ((b0.alloc (.cells (bs (zs 64)) 52)).alloc (.cells (bl fs) 103)).other (Nat.ne_of_lt b0.lt) (bs A)
         have c1 := ((b1.alloc (.cells (bs (zs 64)) 52)).alloc (.cells (bl fs) 103)).other (Nat.ne_of_lt b1.lt) (bs A)
         have c2 := ((Row.new w1 (bs (zs 64)) 52).alloc (.cells (bl fs) 103)).set (bs A)
         have c3 : Row ((((w1.alloc (.cells (bs (zs 64)) 52)).alloc (.cells (bl fs) 103))).setRow w1.heap.size (bs A)) (w1.heap.size + 1) (bl fs) 103 := by
           have := (Row.new (w1.alloc (.cells (bs (zs 64)) 52)) (bl fs) 103).other (show (w1.alloc (.cells (bs (zs 64)) 52)).heap.size ≠ w1.heap.size by simp) (bs A); simpa using this
         have cb := below_setRow ((bb.alloc (Nat.le_of_lt b0.lt) (.cells (bs (zs 64)) 52)).alloc (by simp; have := b0.lt; omega) (.cells (bl fs) 103)) (Nat.le_of_lt b0.lt) (bs A)
         have l1 := b1.lt
         generalize ((w1.alloc (.cells (bs (zs 64)) 52)).alloc (.cells (bl fs) 103)).setRow w1.heap.size (bs A) = w2 at c0 c1 c2 c3 cb ⊢
         clear b0 b1 bb)
      | (refine store_cells rfl 103 (.tmp 7) (.tmp 14) rfl (w1.heap.size + 1) (bl H) rfl rfl 103 (bl fs) c3 64 size103 (by rw [bl_size, fs_length]) (by rw [bl_size, hHl]) (bl_one _) ?_
         have d0 := c0.other (show w.heap.size ≠ w1.heap.size + 1 by omega) (bl H)
         have d1 := c1.other (show w.heap.size + 1 ≠ w1.heap.size + 1 by omega) (bl H)
         have d2 := c2.other (show w1.heap.size ≠ w1.heap.size + 1 by omega) (bl H)
         have d3 := c3.set (bl H)
         have db := below_setRow cb (show w.heap.size ≤ w1.heap.size + 1 by omega) (bl H)
         generalize w2.setRow (w1.heap.size + 1) (bl H) = w3 at d0 d1 d2 d3 db ⊢
         clear c0 c1 c2 c3 cb))
    obtain ⟨g, hg⟩ : ∃ g, g = w1.heap.size := ⟨_, rfl⟩
    rw [← hg] at d2 d3 l1 ⊢
    clear hg
    go_loopw [9] (fun i wr => ∃ k : Nat, k ≤ 64 ∧ i = .int .i64 k ∧ Row wr w.heap.size (bs (mixB b A H k)) 52 ∧ Row wr (w.heap.size + 1) (bs (zs 64)) 52 ∧ Row wr g (bs A) 52 ∧ Row wr (g + 1) (bl H) 103 ∧ Below w.heap.size w wr) (fun i _ => 64 - (intOf i).toNat)
    case atStart => exact ⟨0, by omega, rfl, by rw [← mixB_zero b A H hb]; exact d0, d1, d2, d3, db⟩
    case round =>
      clear d0 d1 d2 d3 db
      obtain ⟨k, hk, rfl, r0, r1, r2, r3, rb⟩ := hrel
      by_cases hlt : k < 64
      · have ch := brow_cell r3 k (by omega)
        by_cases hH : H.getD k false = true
        · rw [hH] at ch
          have cx := row_cell r2 k (by omega)
          have c0 := row_cell r0 k (by rw [mixB_length]; omega)
          have f0 := row_frozen r0 k
          have z0 := row_setCell r0 k (A.getD k 0)
          rw [mixB_on b A H k hH] at z0
          obtain ⟨x, HX⟩ : ∃ x, Hid (A.getD k 0 = x) := ⟨_, rfl⟩
          rw [HX.out] at cx z0
          have z1 := row_setCell_other r1 (show w.heap.size + 1 ≠ w.heap.size by omega) k (.int .u8 x)
          have z2 := row_setCell_other r2 (show g ≠ w.heap.size by omega) k (.int .u8 x)
          have z3 := row_setCell_other r3 (show g + 1 ≠ w.heap.size by omega) k (.int .u8 x)
          have zb := rb.setCell (p := ⟨w.heap.size, k, none⟩) (by show w.heap.size ≤ w.heap.size; omega) (.int .u8 x)
          generalize (mixB b A H k).getD k 0 = y at c0
          go_wp2
          go_roundw
          case rel => exact ⟨k + 1, by omega, by go_num, z0, z1, z2, z3, zb⟩
          case measure => simp [intOf]; omega
        · have hH' : H.getD k false = false := by simpa using hH
          rw [hH'] at ch
          rw [mixB_off b A H k hH'] at r0
          go_wp2
          go_roundw
          case rel => exact ⟨k + 1, by omega, by go_num, r0, r1, r2, r3, rb⟩
          case measure => simp [intOf]; omega
      · have e4 : k = 64 := by omega
        subst e4
        have hl := mixB_length b A H 64
        have HO2 := HO.out
        obtain ⟨Z, HZ⟩ : ∃ Z, Hid (mixB b A H 64 = Z) := ⟨_, rfl⟩
        rw [HZ.out] at r0 hl HO2
        have HO3 := show Hid _ from HO2
        clear HO2
        go_wp2_with (first
          | (refine load_row rfl 52 (.tmp 2) rfl w.heap.size rfl 52 (bs Z) r0 64 5 Try.underlying52 size52 (by rw [bs_size, hl]) ?_)
          | (refine store_row rfl 52 (.tmp 4) (.tmp 31) rfl (w.heap.size + 1) Z rfl rfl 52 _ r1 64 size52 (by rw [bs_size, zs_length]) hl ?_))
        refine bodyPost_ret (v := .tuple #[.agg (bs Z), .bool true]) ?_ rfl ⟨by rw [HO3.out], below_setRow rb (by omega) _⟩
        exact ret_two (fn := Try.f35) rfl _ _ (w.heap.size + 1) 52 (bs Z) 64 5 _ rfl rfl (r1.set _) Try.underlying52 size52 (by rw [bs_size, hl])
end Go.Proofs.Ytihjapfgllokgab
