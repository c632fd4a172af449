/-
  Proved here: the document's Read (varveref03) tells of a text which places its pieces have and which bytes, or that it is no delta.
-/
import Derived.Test.YtdopghiconcjlaaTwo
namespace Go.Proofs.Ytdopghiconcjlaa
open Go.ChangeShapes Go.WideShapes Go.ChangeAt Go.RowKit
set_option linter.unusedVariables false
set_option linter.unusedSimpArgs false

theorem splice_take (b : List Int) (a k : Nat) (t : List Int) (hk : k < t.length) (h : a + t.length ≤ b.length) : (splice b a (t.take k)).set (a + k) (t.getD k 0) = splice b a (t.take (k + 1)) := by
  have l1 : (t.take k).length = k := by simp; omega
  have l2 : (t.take (k + 1)).length = k + 1 := by simp; omega
  have hl1 : (splice b a (t.take k)).length = b.length := length_splice _ _ _ (by omega)
  have hl2 : (splice b a (t.take (k + 1))).length = b.length := length_splice _ _ _ (by omega)
  rw [eq_fl (splice b a (t.take (k + 1))) b.length _ hl2 (fun j _ => rfl)]
  apply eq_fl
  · rw [List.length_set, hl1]
  · intro j hj
    rw [splice_getD _ _ _ _ (by omega), l2]
    by_cases e : j = a + k
    · subst e
      have : ((splice b a (t.take k)).set (a + k) (t.getD k 0)).getD (a + k) 0 = t.getD k 0 := by
        simp only [List.getD]; rw [List.getElem?_set_self (by omega)]; rfl
      rw [this, if_neg (by omega), if_pos (by omega), show a + k - a = k by omega]
      simp only [List.getD]; rw [List.getElem?_take, if_pos (by omega)]
    · have : ((splice b a (t.take k)).set (a + k) (t.getD k 0)).getD j 0 = (splice b a (t.take k)).getD j 0 := by
        simp only [List.getD]; rw [List.getElem?_set_ne (by omega)]
      rw [this, splice_getD _ _ _ _ (by omega), l1]
      by_cases h1 : j < a
      · rw [if_pos h1, if_pos h1]
      · rw [if_neg h1, if_neg h1]
        by_cases h2 : j < a + k
        · rw [if_pos h2, if_pos (by omega)]
          simp only [List.getD]; rw [List.getElem?_take, List.getElem?_take, if_pos (by omega), if_pos (by omega)]
        · rw [if_neg h2, if_neg (by omega)]
theorem splice_nil (b : List Int) (a : Nat) : splice b a [] = b := by simp [splice]
theorem built22 : (Try.prog.built 22 []) = some (bs (zs 64)) := by kernel_rfl
theorem built42 : (Try.prog.built 42 []) = some (bl fs) := by kernel_rfl
theorem ret_rr {P : Program} {fn : Func} {p q c : Tmp} {ty ty2 : TypeId} (h : fn.results = #[.cell p ty, .cell q ty2, .tmp c]) (tmps : Array Value) (w : World) (g g2 : Nat) (t t2 : TypeId) (cs cs2 : Array Value) (n : Nat) (e e2 : TypeId) (y : Value)
    (hp : tmps.getD p undef = .pointer (some ⟨g, 0, none⟩)) (hq : tmps.getD q undef = .pointer (some ⟨g2, 0, none⟩)) (hc : tmps.getD c undef = y) (hg : Row w g cs t) (hg2 : Row w g2 cs2 t2)
    (hu : P.underlying ty = some (.array n e)) (hi : (P.info? ty).map (·.size) = some n) (hn : cs.size = n) (hu2 : P.underlying ty2 = some (.array n e2)) (hi2 : (P.info? ty2).map (·.size) = some n) (hn2 : cs2.size = n) :
    (results fn tmps).run P w = .ok (.tuple #[.agg cs, .agg cs2, y]) w := by
  have hp' : tmps[p]?.getD undef = .pointer (some ⟨g, 0, none⟩) := by simpa using hp
  have hq' : tmps[q]?.getD undef = .pointer (some ⟨g2, 0, none⟩) := by simpa using hq
  have hc' : tmps[c]?.getD undef = y := by simpa using hc
  simp [results, h, hp', hq', hc', asAddr, run_loadVar_row w g t ty cs (0, 0) _ hg hu rfl (by rw [hi, hn]), run_loadVar_row w g2 t2 ty2 cs2 (0, 0) _ hg2 hu2 rfl (by rw [hi2, hn2])]
theorem step_cells {P : Program} {ops : Array Oper} {o : Oper} {a : Act} {w : World} {K : Act → World → Prop} {Q : Exit → Act → World → Prop} {E : Prop} (hgd : o.guard = none) (ty : TypeId) (x y : Operand) (ho : o.op = .store ty x y)
    (g : Nat) (cs : Array Value) (hx : a.eval x = .pointer (some ⟨g, 0, none⟩)) (hy : a.eval y = .agg cs)
    (t : TypeId) (old : Array Value) (hg : Row w g old t) (n : Nat) (hi : (P.info? ty).map (·.size) = some n)
    (hold : old.size = n) (hn : cs.size = n) (h1 : cs.all (·.oneCell') = true) (h : K (a.put o.dst undef) (w.setRow g cs)) :
    if Region.wanted o (yielded ops a.tmps) = true then Oper.wp P o a w K Q else E := by
  have hw : Region.wanted o (yielded ops a.tmps) = true := by simp [Region.wanted, hgd]
  rw [if_pos hw]
  exact wp_store_row ty x y ho g cs hx hy t old hg (by rw [hi, hn]) (by rw [hold, hn]) h1 h
/-- What Read answers. -/
def readV (s : ByteArray) : Value :=
  match pieces s with
  | some ps => .tuple #[.agg (bs (applyAll (zs 64) ps)), .agg (bl (hasAll fs ps)), .bool true]
  | none => .tuple #[.agg (bs (zs 64)), .agg (bl fs), .bool false]
/-- What stands in Read's variables. -/
def RInv (w : World) (A : List Int) (H : List Bool) (w' : World) : Prop :=
  Row w' w.heap.size (bs (zs 64)) 22 ∧ Row w' (w.heap.size + 1) (bl fs) 42 ∧ Row w' (w.heap.size + 1 + 1) (bs A) 22 ∧ Row w' (w.heap.size + 1 + 1 + 1) (bl H) 42 ∧ Below w.heap.size w w'
theorem RInv.start (w : World) : RInv w (zs 64) fs ((((w.alloc (.cells (bs (zs 64)) 22)).alloc (.cells (bl fs) 42)).alloc (.cells (bs (zs 64)) 22)).alloc (.cells (bl fs) 42)) := by
  refine ⟨(((Row.new _ _ _).alloc _).alloc _).alloc _, ?_, ?_, ?_, ?_⟩
  · have := ((Row.new (w.alloc (.cells (bs (zs 64)) 22)) (bl fs) 42).alloc (.cells (bs (zs 64)) 22)).alloc (.cells (bl fs) 42); simpa using this
  · have := (Row.new ((w.alloc (.cells (bs (zs 64)) 22)).alloc (.cells (bl fs) 42)) (bs (zs 64)) 22).alloc (.cells (bl fs) 42); simpa using this
  · have := (Row.new (((w.alloc (.cells (bs (zs 64)) 22)).alloc (.cells (bl fs) 42)).alloc (.cells (bs (zs 64)) 22)) (bl fs) 42); simpa using this
  · exact ((((Below.refl _ _).alloc (Nat.le_refl _) _).alloc (by simp) _).alloc (by simp; omega) _).alloc (by simp; omega) _
theorem RInv.drew {w : World} {A : List Int} {H : List Bool} {w' : World} (h : RInv w A H w') : RInv w A H w'.drew := ⟨h.1, h.2.1, h.2.2.1, h.2.2.2.1, h.2.2.2.2.drew⟩
theorem RInv.byte {w : World} {A : List Int} {H : List Bool} {w' : World} (h : RInv w A H w') (j : Nat) (x : Int) : RInv w (A.set j x) H (w'.setCell ⟨w.heap.size + 1 + 1, j, none⟩ (.int .u8 x)) :=
  ⟨row_setCell_other h.1 (by omega) _ _, row_setCell_other h.2.1 (by omega) _ _, row_setCell h.2.2.1 j x, row_setCell_other h.2.2.2.1 (by omega) _ _, h.2.2.2.2.setCell (by show w.heap.size ≤ w.heap.size + 1 + 1; omega) _⟩
theorem RInv.flag {w : World} {A : List Int} {H : List Bool} {w' : World} (h : RInv w A H w') (j : Nat) : RInv w A (H.set j true) (w'.setCell ⟨w.heap.size + 1 + 1 + 1, j, none⟩ (.bool true)) :=
  ⟨row_setCell_other h.1 (by omega) _ _, row_setCell_other h.2.1 (by omega) _ _, row_setCell_other h.2.2.1 (by omega) _ _, brow_setCell h.2.2.2.1 j true, h.2.2.2.2.setCell (by show w.heap.size ≤ w.heap.size + 1 + 1 + 1; omega) _⟩

set_option maxHeartbeats 2000000 in
theorem read_any (s0 : ByteArray) (hs0 : s0.size ≤ maxLen) (w : World) :
    Calls Try.prog 22 #[.string s0] w fun e w' => e = .returned (readV s0) ∧ Below w.heap.size w w' := by
  unfold maxLen at hs0
  have hz := zero22
  have hz' := zero42
  have h0 := RInv.start w
  go_enter Try.func22, Try.ntmps22
  go_wp2
  go_loopw [0, 7] (fun t i wr => ∃ (s : ByteArray) (nx : Nat) (done : List (Nat × List Int)), t = .string s ∧ i = .int .i64 ((nx : Int) - 1) ∧ s.size ≤ s0.size ∧ nx ≤ 65 ∧ Left s0 nx s done ∧ Fits done ∧ RInv w (applyAll (zs 64) done) (hasAll fs done) wr) (fun t _ _ => sizeStr t)
  case atStart => exact ⟨s0, 0, [], rfl, rfl, Nat.le_refl _, by omega, Left.start s0, (fun p hp => nomatch hp), h0⟩
  case round =>
    clear h0
    obtain ⟨s, nx, done, rfl, rfl, hss, hnx, hL, hF, rI⟩ := hrel
    have hmx : s.size ≤ 9223372036854775807 := by omega
    have hAl := applyAll_length (zs 64) (zs_length _) done hF
    have hHl := hasAll_length fs fs_length done
    by_cases hz0 : s.size = 0
    · have hR : readV s0 = .tuple #[.agg (bs (applyAll (zs 64) done)), .agg (bl (hasAll fs done)), .bool true] := by unfold readV; rw [hL.stop hz0]
      obtain ⟨A, HA⟩ : ∃ A, Hid (applyAll (zs 64) done = A) := ⟨_, rfl⟩
      obtain ⟨H, HH⟩ : ∃ H, Hid (hasAll fs done = H) := ⟨_, rfl⟩
      rw [HA.out] at hR hAl rI
      rw [HH.out] at hR hHl rI
      have HR := show Hid _ from hR
      clear hR
      have hz1 : ¬ 0 < (s.size : Int) := by omega
      go_wp2
      refine wp_region_held_drew (S := fun w' => Row w' (w.heap.size + 1 + 1) (bs A) 22 ∧ Row w' (w.heap.size + 1 + 1 + 1) (bl H) 42) (by kernel_rfl) ⟨rI.2.2.1, rI.2.2.2.1⟩ fun hS => ?_
      refine wpAnyH_take (i := 0) (v := .agg (bs A)) rfl (by kernel_rfl) (by kernel_rfl) (by kernel_rfl) (fun _ _ _ h => h) (yields_row (by rfl) 22 (.tmp 5) rfl (w.heap.size + 1 + 1) rfl 22 (bs A) (fun w h => h.1) 64 5 Try.underlying22 size22 (by rw [bs_size, hAl])) hS ?_
      try simp only [Act.put, List.getElem_toArray, List.getElem_cons_zero, List.getElem_cons_succ, List.setIfInBounds_toArray, List.set_cons_zero, List.set_cons_succ]
      refine wpAnyH_take (i := 1) (v := .agg (bl H)) rfl (by kernel_rfl) (by kernel_rfl) (by kernel_rfl) (fun _ _ _ h => h) (yields_row (by rfl) 42 (.tmp 6) rfl (w.heap.size + 1 + 1 + 1) rfl 42 (bl H) (fun w h => h.2) 64 4 Try.underlying42 size42 (by rw [bl_size, hHl])) hS ?_
      try simp only [Act.put, List.getElem_toArray, List.getElem_cons_zero, List.getElem_cons_succ, List.setIfInBounds_toArray, List.set_cons_zero, List.set_cons_succ]
      have y0 : Row wr.drew w.heap.size (bs (zs 64)) 22 := rI.1
      have y1 : Row wr.drew (w.heap.size + 1) (bl fs) 42 := rI.2.1
      have yb : Below w.heap.size w wr.drew := rI.2.2.2.2.drew
      refine wpAnyH_ready (rs := [2]) (by kernel_rfl) (by simp) ?_
      refine AllReadyH.cons rfl (fun K hK => step_cells rfl 22 (.tmp 2) (.tmp 71) rfl w.heap.size (bs A) rfl rfl 22 (bs (zs 64)) y0 64 size22 (by rw [bs_size, zs_length]) (by rw [bs_size, hAl]) (bs_one _) (hK.out _ _ ⟨hS.1.other (by omega) _, hS.2.other (by omega) _⟩ fun hS => ?_)) AllReadyH.nil
      try simp only [Act.put, List.getElem_toArray, List.getElem_cons_zero, List.getElem_cons_succ, List.setIfInBounds_toArray, List.set_cons_zero, List.set_cons_succ]
      have z0 := y0.set (bs A)
      have z1 := y1.other (show w.heap.size + 1 ≠ w.heap.size by omega) (bs A)
      have zb := below_setRow yb (Nat.le_refl _) (bs A)
      refine wpAnyH_ready (rs := [3]) (by kernel_rfl) (by simp) ?_
      refine AllReadyH.cons rfl (fun K hK => step_cells rfl 42 (.tmp 3) (.tmp 72) rfl (w.heap.size + 1) (bl H) rfl rfl 42 (bl fs) z1 64 size42 (by rw [bl_size, fs_length]) (by rw [bl_size, hHl]) (bl_one _) (hK.out _ _ ⟨hS.1.other (by omega) _, hS.2.other (by omega) _⟩ fun hS => ?_)) AllReadyH.nil
      try simp only [Act.put, List.getElem_toArray, List.getElem_cons_zero, List.getElem_cons_succ, List.setIfInBounds_toArray, List.set_cons_zero, List.set_cons_succ]
      have x0 := z0.other (show w.heap.size ≠ w.heap.size + 1 by omega) (bl H)
      have x1 := z1.set (bl H)
      have xb := below_setRow zb (show w.heap.size ≤ w.heap.size + 1 by omega) (bl H)
      refine wpAnyH_take (i := 4) (v := .bool true) rfl (by kernel_rfl) (by kernel_rfl) (by kernel_rfl) (fun _ _ _ h => h) (Or.inl ⟨by rfl, fun w _ => by rfl⟩) hS ?_
      try simp only [Act.put, List.getElem_toArray, List.getElem_cons_zero, List.getElem_cons_succ, List.setIfInBounds_toArray, List.set_cons_zero, List.set_cons_succ]
      refine wpAnyH_done (by kernel_rfl) ?_ _
      go_wp2
      refine bodyPost_ret (v := .tuple #[.agg (bs A), .agg (bl H), .bool true]) ?_ rfl ⟨by rw [HR.out], xb⟩
      exact ret_rr (fn := Try.f22) rfl _ _ w.heap.size (w.heap.size + 1) 22 42 (bs A) (bl H) 64 5 4 _ rfl rfl rfl x0 x1 Try.underlying22 size22 (by rw [bs_size, hAl]) Try.underlying42 size42 (by rw [bl_size, hHl])
    · have hz1 : 0 < (s.size : Int) := by omega
      by_cases h2 : (s.size : Int) < 2
      · have HR : Hid (readV s0 = .tuple #[.agg (bs (zs 64)), .agg (bl fs), .bool false]) := by show _ = _; unfold readV; rw [hL.bad1 (by omega)]
        go_wp2_with (first
          | (refine build_none rfl 22 rfl (bs (zs 64)) built22 ?_)
          | (refine build_none rfl 42 rfl (bl fs) built42 ?_)
          | (refine store_cells rfl 22 (.tmp 2) (.tmp 17) rfl w.heap.size (bs (zs 64)) rfl rfl 22 (bs (zs 64)) rI.1 64 size22 (by rw [bs_size, zs_length]) (by rw [bs_size, zs_length]) (bs_one _) ?_
             have y0 := rI.1.set (bs (zs 64))
             have y1 := rI.2.1.other (show w.heap.size + 1 ≠ w.heap.size by omega) (bs (zs 64))
             have yb := below_setRow rI.2.2.2.2 (Nat.le_refl _) (bs (zs 64))
             clear rI)
          | (refine store_cells rfl 42 (.tmp 3) (.tmp 18) rfl (w.heap.size + 1) (bl fs) rfl rfl 42 (bl fs) y1 64 size42 (by rw [bl_size, fs_length]) (by rw [bl_size, fs_length]) (bl_one _) ?_
             have z0 := y0.other (show w.heap.size ≠ w.heap.size + 1 by omega) (bl fs)
             have z1 := y1.set (bl fs)
             have zb := below_setRow yb (show w.heap.size ≤ w.heap.size + 1 by omega) (bl fs)
             clear y0 y1 yb))
        refine bodyPost_ret (v := .tuple #[.agg (bs (zs 64)), .agg (bl fs), .bool false]) ?_ rfl ⟨by rw [HR.out], zb⟩
        exact ret_rr (fn := Try.f22) rfl _ _ w.heap.size (w.heap.size + 1) 22 42 (bs (zs 64)) (bl fs) 64 5 4 _ rfl rfl rfl z0 z1 Try.underlying22 size22 (by rw [bs_size, zs_length]) Try.underlying42 size42 (by rw [bl_size, fs_length])
      · have hs2 : 2 ≤ s.size := by omega
        have e0 := nums_at s 0 (by omega)
        have e1 := nums_at s 1 (by omega)
        obtain ⟨a, ha⟩ : ∃ a, (s[0]'(by omega)).toNat = a := ⟨_, rfl⟩
        obtain ⟨n, hn⟩ : ∃ n, (s[1]'(by omega)).toNat = n := ⟨_, rfl⟩
        have ha255 : a < 256 := by rw [← ha]; exact (s[0]'(by omega)).toNat_lt
        have hn255 : n < 256 := by rw [← hn]; exact (s[1]'(by omega)).toNat_lt
        rw [ha] at e0
        rw [hn] at e1
        have E0 : Hid ((nums s).getD 0 0 = (a : Int)) := e0
        have E1 : Hid ((nums s).getD 1 0 = (n : Int)) := e1
        clear e0 e1
        by_cases hb : a < nx ∨ n = 0 ∨ 64 < a + n ∨ s.size < 2 + n
        · have HR : Hid (readV s0 = .tuple #[.agg (bs (zs 64)), .agg (bl fs), .bool false]) := by show _ = _; unfold readV; rw [hL.bad hs2 a n E0.out E1.out (by omega)]
          by_cases b2 : n = 0
          · have b2' : ((n : Int) == 0) = true := by simp; exact b2
            have rI := rI.drew
            go_wp2
            go_region
            all_goals
              go_wp2_with (first
                | (refine build_none rfl 22 rfl (bs (zs 64)) built22 ?_)
                | (refine build_none rfl 42 rfl (bl fs) built42 ?_)
                | (refine store_cells rfl 22 (.tmp 2) (.tmp 45) rfl w.heap.size (bs (zs 64)) rfl rfl 22 (bs (zs 64)) rI.1 64 size22 (by rw [bs_size, zs_length]) (by rw [bs_size, zs_length]) (bs_one _) ?_
                   have y0 := rI.1.set (bs (zs 64))
                   have y1 := rI.2.1.other (show w.heap.size + 1 ≠ w.heap.size by omega) (bs (zs 64))
                   have yb := below_setRow rI.2.2.2.2 (Nat.le_refl _) (bs (zs 64))
                   clear rI)
                | (refine store_cells rfl 42 (.tmp 3) (.tmp 46) rfl (w.heap.size + 1) (bl fs) rfl rfl 42 (bl fs) y1 64 size42 (by rw [bl_size, fs_length]) (by rw [bl_size, fs_length]) (bl_one _) ?_
                   have z0 := y0.other (show w.heap.size ≠ w.heap.size + 1 by omega) (bl fs)
                   have z1 := y1.set (bl fs)
                   have zb := below_setRow yb (show w.heap.size ≤ w.heap.size + 1 by omega) (bl fs)
                   clear y0 y1 yb))
              refine bodyPost_ret (v := .tuple #[.agg (bs (zs 64)), .agg (bl fs), .bool false]) ?_ rfl ⟨by rw [HR.out], zb⟩
              exact ret_rr (fn := Try.f22) rfl _ _ w.heap.size (w.heap.size + 1) 22 42 (bs (zs 64)) (bl fs) 64 5 4 _ rfl rfl rfl z0 z1 Try.underlying22 size22 (by rw [bs_size, zs_length]) Try.underlying42 size42 (by rw [bl_size, fs_length])
          · have b2' : ((n : Int) == 0) = false := by simp; exact b2
            by_cases b4 : (s.size : Int) - 2 < (n : Int)
            · skip
              have rI := rI.drew
              go_wp2
              go_region
              all_goals
                go_wp2_with (first
                  | (refine build_none rfl 22 rfl (bs (zs 64)) built22 ?_)
                  | (refine build_none rfl 42 rfl (bl fs) built42 ?_)
                  | (refine store_cells rfl 22 (.tmp 2) (.tmp 45) rfl w.heap.size (bs (zs 64)) rfl rfl 22 (bs (zs 64)) rI.1 64 size22 (by rw [bs_size, zs_length]) (by rw [bs_size, zs_length]) (bs_one _) ?_
                     have y0 := rI.1.set (bs (zs 64))
                     have y1 := rI.2.1.other (show w.heap.size + 1 ≠ w.heap.size by omega) (bs (zs 64))
                     have yb := below_setRow rI.2.2.2.2 (Nat.le_refl _) (bs (zs 64))
                     clear rI)
                  | (refine store_cells rfl 42 (.tmp 3) (.tmp 46) rfl (w.heap.size + 1) (bl fs) rfl rfl 42 (bl fs) y1 64 size42 (by rw [bl_size, fs_length]) (by rw [bl_size, fs_length]) (bl_one _) ?_
                     have z0 := y0.other (show w.heap.size ≠ w.heap.size + 1 by omega) (bl fs)
                     have z1 := y1.set (bl fs)
                     have zb := below_setRow yb (show w.heap.size ≤ w.heap.size + 1 by omega) (bl fs)
                     clear y0 y1 yb))
                refine bodyPost_ret (v := .tuple #[.agg (bs (zs 64)), .agg (bl fs), .bool false]) ?_ rfl ⟨by rw [HR.out], zb⟩
                exact ret_rr (fn := Try.f22) rfl _ _ w.heap.size (w.heap.size + 1) 22 42 (bs (zs 64)) (bl fs) 64 5 4 _ rfl rfl rfl z0 z1 Try.underlying22 size22 (by rw [bs_size, zs_length]) Try.underlying42 size42 (by rw [bl_size, fs_length])
            · by_cases b3 : 64 < (a : Int) + (n : Int)
              · skip
                have rI := rI.drew
                go_wp2
                go_region
                all_goals
                  go_wp2_with (first
                    | (refine build_none rfl 22 rfl (bs (zs 64)) built22 ?_)
                    | (refine build_none rfl 42 rfl (bl fs) built42 ?_)
                    | (refine store_cells rfl 22 (.tmp 2) (.tmp 45) rfl w.heap.size (bs (zs 64)) rfl rfl 22 (bs (zs 64)) rI.1 64 size22 (by rw [bs_size, zs_length]) (by rw [bs_size, zs_length]) (bs_one _) ?_
                       have y0 := rI.1.set (bs (zs 64))
                       have y1 := rI.2.1.other (show w.heap.size + 1 ≠ w.heap.size by omega) (bs (zs 64))
                       have yb := below_setRow rI.2.2.2.2 (Nat.le_refl _) (bs (zs 64))
                       clear rI)
                    | (refine store_cells rfl 42 (.tmp 3) (.tmp 46) rfl (w.heap.size + 1) (bl fs) rfl rfl 42 (bl fs) y1 64 size42 (by rw [bl_size, fs_length]) (by rw [bl_size, fs_length]) (bl_one _) ?_
                       have z0 := y0.other (show w.heap.size ≠ w.heap.size + 1 by omega) (bl fs)
                       have z1 := y1.set (bl fs)
                       have zb := below_setRow yb (show w.heap.size ≤ w.heap.size + 1 by omega) (bl fs)
                       clear y0 y1 yb))
                  refine bodyPost_ret (v := .tuple #[.agg (bs (zs 64)), .agg (bl fs), .bool false]) ?_ rfl ⟨by rw [HR.out], zb⟩
                  exact ret_rr (fn := Try.f22) rfl _ _ w.heap.size (w.heap.size + 1) 22 42 (bs (zs 64)) (bl fs) 64 5 4 _ rfl rfl rfl z0 z1 Try.underlying22 size22 (by rw [bs_size, zs_length]) Try.underlying42 size42 (by rw [bl_size, fs_length])
              · have b1 : (a : Int) ≤ (nx : Int) - 1 := by omega
                have rI := rI.drew
                go_wp2
                go_region
                all_goals
                  go_wp2_with (first
                    | (refine build_none rfl 22 rfl (bs (zs 64)) built22 ?_)
                    | (refine build_none rfl 42 rfl (bl fs) built42 ?_)
                    | (refine store_cells rfl 22 (.tmp 2) (.tmp 45) rfl w.heap.size (bs (zs 64)) rfl rfl 22 (bs (zs 64)) rI.1 64 size22 (by rw [bs_size, zs_length]) (by rw [bs_size, zs_length]) (bs_one _) ?_
                       have y0 := rI.1.set (bs (zs 64))
                       have y1 := rI.2.1.other (show w.heap.size + 1 ≠ w.heap.size by omega) (bs (zs 64))
                       have yb := below_setRow rI.2.2.2.2 (Nat.le_refl _) (bs (zs 64))
                       clear rI)
                    | (refine store_cells rfl 42 (.tmp 3) (.tmp 46) rfl (w.heap.size + 1) (bl fs) rfl rfl 42 (bl fs) y1 64 size42 (by rw [bl_size, fs_length]) (by rw [bl_size, fs_length]) (bl_one _) ?_
                       have z0 := y0.other (show w.heap.size ≠ w.heap.size + 1 by omega) (bl fs)
                       have z1 := y1.set (bl fs)
                       have zb := below_setRow yb (show w.heap.size ≤ w.heap.size + 1 by omega) (bl fs)
                       clear y0 y1 yb))
                  refine bodyPost_ret (v := .tuple #[.agg (bs (zs 64)), .agg (bl fs), .bool false]) ?_ rfl ⟨by rw [HR.out], zb⟩
                  exact ret_rr (fn := Try.f22) rfl _ _ w.heap.size (w.heap.size + 1) 22 42 (bs (zs 64)) (bl fs) 64 5 4 _ rfl rfl rfl z0 z1 Try.underlying22 size22 (by rw [bs_size, zs_length]) Try.underlying42 size42 (by rw [bl_size, fs_length])
        · have hL' := hL.step hs2 a n E0.out E1.out hb
          have b1 : ¬ (a : Int) ≤ (nx : Int) - 1 := by omega
          have b2 : ((n : Int) == 0) = false := by simp; omega
          have b3 : ¬ 64 < (a : Int) + (n : Int) := by omega
          have b4 : ¬ (s.size : Int) - 2 < (n : Int) := by omega
          have hsz2 : (s.extract (2 + n) s.size).size = s.size - (2 + n) := by rw [ByteArray.size_extract]; omega
          have hNl : (nums (s.extract 2 (2 + n))).length = n := by rw [nums_length, ByteArray.size_extract]; omega
          have hNat : ∀ k (hk : k < n), (nums (s.extract 2 (2 + n))).getD k 0 = ((s[2 + k]'(by omega)).toNat : Int) := by
            intro k hk
            rw [nums_extract s _ _ (by omega), ← nums_at s (2 + k) (by omega)]
            simp only [List.getD]
            rw [List.getElem?_take, if_pos (by omega), List.getElem?_drop]
          have hF' : Fits (done ++ [(a, nums (s.extract 2 (2 + n)))]) := hF.snoc _ (by show a + _ ≤ 64; rw [hNl]; omega)
          obtain ⟨T, HT⟩ : ∃ T, Hid (nums (s.extract 2 (2 + n)) = T) := ⟨_, rfl⟩
          rw [HT.out] at hNl hL' hF'
          have HNat : Hid (∀ k (hk : k < n), T.getD k 0 = ((s[2 + k]'(by omega)).toNat : Int)) := fun k hk => by have := hNat k hk; rw [HT.out] at this; exact this
          clear hNat
          have rA : applyAll (zs 64) (done ++ [(a, T)]) = splice (applyAll (zs 64) done) a (T.take n) := by rw [applyAll_snoc, ← hNl, List.take_length]
          have rH : hasAll fs (done ++ [(a, T)]) = addP (hasAll fs done) a n := by rw [hasAll_snoc]; show addP _ a T.length = _; rw [hNl]
          have RA := show Hid _ from rA
          have RH := show Hid _ from rH
          clear rA rH
          obtain ⟨A, HA⟩ : ∃ A, Hid (applyAll (zs 64) done = A) := ⟨_, rfl⟩
          obtain ⟨H, HH⟩ : ∃ H, Hid (hasAll fs done = H) := ⟨_, rfl⟩
          rw [HA.out] at hAl rI
          rw [HH.out] at hHl rI
          have rI := rI.drew
          go_wp2
          go_region
          all_goals
            go_wp2
            go_loopw [10] (fun i wq => ∃ k : Nat, k ≤ n ∧ i = .int .i64 k ∧ RInv w (splice A a (T.take k)) (addP H a k) wq) (fun i _ => n - (intOf i).toNat)
            case atStart => exact ⟨0, by omega, rfl, by rw [List.take_zero, splice_nil, addP_zero H a hHl]; exact rI⟩
            case round =>
              obtain ⟨k, hk, rfl, kI⟩ := hrel
              by_cases hlt : k < n
              · have hSl : (splice A a (T.take k)).length = 64 := by rw [length_splice _ _ _ (by simp; omega)]; exact hAl
                have hc := row_cell kI.2.2.1 (a + k) (by omega)
                have hf := row_frozen kI.2.2.1 (a + k)
                have kI1 := kI.byte (a + k) (T.getD k 0)
                rw [splice_take A a k T (by omega) (by omega), HNat.out k hlt] at kI1
                have hx : (s[2 + k]'(by omega)).toNat < 256 := (s[2 + k]'(by omega)).toNat_lt
                obtain ⟨x, hxx⟩ : ∃ x, (s[2 + k]'(by omega)).toNat = x := ⟨_, rfl⟩
                rw [hxx] at kI1 hx
                have hc2 := brow_cell kI1.2.2.2.1 (a + k) (by rw [addP_length]; omega)
                have hf2 := row_frozen kI1.2.2.2.1 (a + k)
                have kI2 := kI1.flag (a + k)
                rw [addP_step] at kI2
                generalize (splice A a (T.take k)).getD (a + k) 0 = y1 at hc
                generalize (addP H a k).getD (a + k) false = y2 at hc2
                have hkn : (k : Int) < (n : Int) := by omega
                go_wp2
                go_roundw
                case rel => exact ⟨k + 1, by omega, by go_num, kI2⟩
                case measure => simp [intOf]; omega
              · have ek : k = n := by omega
                subst ek
                go_wp2
                go_roundw
                all_goals first
                  | exact ⟨s.extract (2 + k) s.size, a + k + 1, _, rfl, by go_num, by rw [hsz2]; omega, by omega, hL', hF', by rw [RA.out, RH.out, HA.out, HH.out]; exact kI⟩
                  | (simp only [sizeStr]; rw [hsz2]; omega)
end Go.Proofs.Ytdopghiconcjlaa
