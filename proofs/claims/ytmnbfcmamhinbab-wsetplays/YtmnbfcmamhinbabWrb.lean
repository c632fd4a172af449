/-
  Proved here: what the document's Write does.
-/
import Derived.Test.YtmnbfcmamhinbabWra
import Derived.Test.YtmnbfcmamhinbabLst
namespace Go.Proofs.Ytmnbfcmamhinbab.Ws
open Go.ChangeShapes Go.WideShapes Go.ChangeAt Go.RowKit
open Go.Deep Go.Maps
set_option linter.unusedVariables false
set_option linter.unusedSimpArgs false
set_option maxRecDepth 20000

theorem yields_stW {P : Program} {ops : Array Oper} {S : World → Prop} {o : Oper} {a : Act} (hw : Region.wanted o (yielded ops a.tmps) = true) (ty : TypeId) (x : Operand) (ho : o.op = .load ty x)
    (g : Nat) (hx : a.eval x = .pointer (some ⟨g, 0, none⟩)) (t : TypeId) (cs : Array Value) (hg : ∀ w, S w → Row w g cs t) {d : TypeDesc}
    (hu : P.underlying ty = some d) (hd : (match d with | .struct _ | .array _ _ => true | _ => false) = true) (hi : (P.info? ty).map (·.size) = some cs.size) : YieldsIf P ops S o (.agg cs) a := by
  refine Or.inl ⟨hw, fun w hS => ?_⟩
  unfold execOp
  simp only [ho, hx, Instr.loadAt, Instr.sureAddr, Sem.run_bind, Sem.run_pure, Result.andThen_ok, run_loadVar_row w g t ty cs (0, 0) _ (hg w hS) hu hd hi]
theorem woW_at {w : World} {N : Nat} {OA : Array Value} {o : Wo} (h : Row w N OA 49) (e : o.cells.toArray = OA) (ho : o.b.length = 64) :
    w.cell? ⟨N, 0, none⟩ = some (.int .u16 o.pg) ∧ w.cell? ⟨N, 65, none⟩ = some (.int .i64 o.off) ∧ w.cell? ⟨N, 66, none⟩ = some (.string o.t) := by
  subst e
  exact ⟨row_at h 0 _ (by rw [List.getElem?_toArray]; exact o.c0), row_at h 65 _ (by rw [List.getElem?_toArray]; exact o.c65 ho), row_at h 66 _ (by rw [List.getElem?_toArray]; exact o.c66 ho)⟩
theorem step_of {P : Program} {ops : Array Oper} {o : Oper} {a : Act} {w : World} {K : Act → World → Prop} {Q : Exit → Act → World → Prop} {E : Prop} (hgd : o.guard = none) (h : Oper.wp P o a w K Q) :
    if Region.wanted o (yielded ops a.tmps) = true then Oper.wp P o a w K Q else E := by
  have hw : Region.wanted o (yielded ops a.tmps) = true := by simp [Region.wanted, hgd]
  rw [if_pos hw]; exact h
theorem wp_wo_one {o : Oper} {a : Act} {w : World} {K : Act → World → Prop} {Q : Exit → Act → World → Prop} (x : Operand) (ho : o.op = .buildSlice 37 1 #[(0, x)]) (b : List Value) (hb : b.length = 67) (hx : a.eval x = .agg b.toArray)
    (h : K (a.put o.dst (.slice (some ⟨w.heap.size, 0, none⟩) 1 1)) (w.alloc (.cells b.toArray 49))) : Oper.wp Try.prog o a w K Q := by
  obtain ⟨i, hi, hz, hs, _⟩ := info_parts info49
  refine wp_buildSlice 37 49 1 _ ho b.toArray i _ Try.underlying37 hi hz (by rw [hs]; decide) (by rw [hs]; decide) ?_ h
  have e1 : (#[(0, x)].map fun (i, x) => (i, a.eval x)).toList = [(0, .agg b.toArray)] := by simp [hx]
  rw [e1, fill_step _ _ 0 (.agg b.toArray) _ 0 67 (by simp [hs]) (by show b.toArray.size = 67; rw [List.size_toArray, hb]) (by simp [hs])]
  unfold Instr.fill
  congr 1
  show (⟨splice _ 0 b⟩ : Array Value) = b.toArray
  unfold splice
  rw [List.take_zero, List.nil_append, hb, List.drop_of_length_le (by simp [hs]), List.append_nil]
/-- Whether a writing is the first one of its page. -/
def newW (os : List Wo) (i : Nat) : Bool := match os[i]? with | some o => !hasW (os.take i) o.pg | none => false
/-- How many pages there are among the first ones. -/
def cntN (os : List Wo) (k : Nat) : Nat := ((List.range k).filter (newW os)).length
theorem cntN_succ (os : List Wo) (k : Nat) : cntN os (k + 1) = cntN os k + if newW os k = true then 1 else 0 := by
  unfold cntN
  rw [List.range_succ, List.filter_append, List.length_append]
  cases h : newW os k <;> simp [h]
theorem cntN_le (os : List Wo) (k : Nat) : cntN os k ≤ k := by
  unfold cntN
  exact Nat.le_trans (List.length_filter_le _ _) (by simp)
theorem hasW_succ (os : List Wo) (j : Nat) (x : Wo) (h : os[j]? = some x) (p : Int) : hasW (os.take (j + 1)) p = (hasW (os.take j) p || decide (x.pg = p)) := by
  unfold hasW
  rw [List.take_add_one, h, List.any_append]
  simp
def wE (os : List Wo) (o : Wo) : Int := if okW o.off o.t then (if hasW os o.pg = true ∨ cntN os os.length < 4 then 0 else 10) else 1
def wL (os : List Wo) (o : Wo) : List Wo := if wE os o = 0 then os ++ [o] else os
/-- What is left by a Write. -/
def Wrt (w : World) (r base : Nat) (v : Value) (os : List Wo) (o : Wo) (e : Ending) (w' : World) : Prop := ∃ v', e = .returned (.int .i64 (wE os o)) ∧ DAt w' r base v' (wL os o) ∧ Off (fun k => k = r ∨ v.ownBlock = some k) w w'
set_option maxHeartbeats 8000000 in
theorem wwrite_any {w : World} {r base : Nat} {v : Value} {os : List Wo} (d : DAt w r base v os) (hb : base ≤ w.heap.size) (hf : os.length ≤ 99) (o : Wo) (ho : o.Ok) :
    Calls Try.prog 17 #[.pointer (some ⟨r, 0, none⟩), .agg o.cells.toArray] w fun e w' => Wrt w r base v os o e w' := by
  have HOB0 := World.ownsRow.lt d.own.2
  obtain ⟨oa, cap, rfl, hc⟩ := d.own.form
  have HC : Hid _ := hc
  have HO : Hid o.Ok := ho
  have HOK : Hid (∀ o ∈ os, o.Ok) := d.ok
  have HCL : Hid (o.cells.length = 67) := o.lenW ho.2.1
  have HD : Hid _ := d
  clear hc ho
  obtain ⟨n, HN⟩ : ∃ n, Hid (os.length = n) := ⟨_, rfl⟩
  rw [HN.out] at d HD hf HOB0 ⊢
  have HOB : Hid (∀ k, Value.ownBlock (.slice oa n cap) = some k → k < w.heap.size) := fun k hk => (HOB0 k hk).2
  have HRL : Hid (r < w.heap.size ∧ base ≤ w.heap.size) := ⟨d.row.lt, hb⟩
  clear HOB0
  obtain ⟨OA, HOA⟩ : ∃ OA, Hid (o.cells.toArray = OA) := ⟨_, rfl⟩
  have HOS : Hid (OA.size = 67) := by show _ = _; rw [← HOA.out, List.size_toArray, HCL.out]
  rw [HOA.out]
  have r0 : Row (w.alloc (.cells OA 49)) w.heap.size OA 49 := Row.new _ _ _
  have ab : Below w.heap.size w (w.alloc (.cells OA 49)) := (Below.refl _ _).alloc (Nat.le_refl _) _
  have d1 := d.below ab
  obtain ⟨e0, e65, e66⟩ := woW_at r0 HOA.out HO.out.2.1
  have hob := bounds_i64 HO.out.2.2.2.1
  clear d
  by_cases hk : okW o.off o.t
  · have hk0 := hk.1
    have hk1 := hk.2.1
    have hk2 := hk.2.2
    have y1 : ¬ o.off < 0 := by omega
    have y2 : ¬ o.off > 64 := by omega
    have y3 : IntKind.i64.wrap (64 - o.off) = 64 - o.off := by rw [IntKind.wrap_i64]; omega
    have y4 : ¬ (o.t.size : Int) > 64 - o.off := by omega
    have hhs := whas_any d1 o.pg
    cases hh : hasW os o.pg with
    | true =>
      have hE : wE os o = 0 := by unfold wE; rw [if_pos hk, if_pos (Or.inl hh)]
      rw [hh] at hhs
      go_enter Try.func17, Try.ntmps17
      go_upto_region 18 with (go_at_call 31; refine hhs.mono ?_; clear hhs; rintro e WH ⟨rfl, hbh⟩)
      have dW := d1.below hbh
      have rW := r0.below hbh r0.lt
      have bW := ab.trans (hbh.mono ab.size)
      clear hbh d1 r0 ab e0 e65 e66
      go_upto_region 18 with fail
      have own0 : OwnW WH.drew base (.slice oa n cap) os := dW.own.keep (Below.refl _ _).drew
      refine wp_region_last (S := fun w' => Row w' r #[.slice oa n cap] 39 ∧ Row w' w.heap.size OA 49 ∧ Off (fun k => k = r ∨ Value.ownBlock (.slice oa n cap) = some k) w w') 10 (by kernel_rfl) ⟨dW.row, rW, Off.of_below bW.drew⟩ fun hS => ?_
      refine wpAnyL_take (i := 0) (v := .pointer (some ⟨r, 0, none⟩)) rfl (by kernel_rfl) (by kernel_rfl) (by kernel_rfl) (by kernel_rfl) (fun _ _ _ h => h) (Or.inl ⟨by rfl, fun w _ => by go_simp⟩) hS ?_
      try simp only [Act.put, List.getElem_toArray, List.getElem_cons_zero, List.getElem_cons_succ, List.setIfInBounds_toArray, List.set_cons_zero, List.set_cons_succ]
      refine wpAnyL_take (i := 1) (v := .pointer (some ⟨r, 0, none⟩)) rfl (by kernel_rfl) (by kernel_rfl) (by kernel_rfl) (by kernel_rfl) (fun _ _ _ h => h) (Or.inl ⟨by rfl, fun w _ => by go_simp⟩) hS ?_
      try simp only [Act.put, List.getElem_toArray, List.getElem_cons_zero, List.getElem_cons_succ, List.setIfInBounds_toArray, List.set_cons_zero, List.set_cons_succ]
      refine wpAnyL_take (i := 2) (v := .pointer (some ⟨r, 0, none⟩)) rfl (by kernel_rfl) (by kernel_rfl) (by kernel_rfl) (by kernel_rfl) (fun _ _ _ h => h) (Or.inl ⟨by rfl, fun w _ => by go_simp⟩) hS ?_
      try simp only [Act.put, List.getElem_toArray, List.getElem_cons_zero, List.getElem_cons_succ, List.setIfInBounds_toArray, List.set_cons_zero, List.set_cons_succ]
      refine wpAnyL_take (i := 3) (v := .pointer (some ⟨r, 0, none⟩)) rfl (by kernel_rfl) (by kernel_rfl) (by kernel_rfl) (by kernel_rfl) (fun _ _ _ h => h) (Or.inl ⟨by rfl, fun w _ => by go_simp⟩) hS ?_
      try simp only [Act.put, List.getElem_toArray, List.getElem_cons_zero, List.getElem_cons_succ, List.setIfInBounds_toArray, List.set_cons_zero, List.set_cons_succ]
      refine wpAnyL_take (i := 4) (v := .slice oa n cap) rfl (by kernel_rfl) (by kernel_rfl) (by kernel_rfl) (by kernel_rfl) (fun _ _ _ h => h) (Or.inl ⟨by rfl, fun w h => by have c := row_at h.1 0 _ rfl; go_simp⟩) hS ?_
      try simp only [Act.put, List.getElem_toArray, List.getElem_cons_zero, List.getElem_cons_succ, List.setIfInBounds_toArray, List.set_cons_zero, List.set_cons_succ]
      refine wpAnyL_take (i := 5) (v := .agg OA) rfl (by kernel_rfl) (by kernel_rfl) (by kernel_rfl) (by kernel_rfl) (fun _ _ _ h => h) (yields_stW (by rfl) 49 (.tmp 3) rfl (w.heap.size) rfl 49 OA (fun w h => h.2.1) Try.underlying49 rfl (by rw [size49, HOS.out])) hS ?_
      try simp only [Act.put, List.getElem_toArray, List.getElem_cons_zero, List.getElem_cons_succ, List.setIfInBounds_toArray, List.set_cons_zero, List.set_cons_succ]
      have hrlt : Hid (r < w.heap.size ∧ base ≤ w.heap.size) := HRL.out
      have hWs := bW.size
      clear dW rW bW
      generalize WH.drew = W0 at hS own0 ⊢
      refine wpAnyL_ready (rs := [6]) (by kernel_rfl) (by simp) ?_
      refine AllReadyL.cons rfl (fun K hK => step_of rfl (wp_wo_one (.tmp 75) rfl o.cells HCL.out (by rw [HOA.out]; rfl) ?_)) AllReadyL.nil
      have hab : Below W0.heap.size W0 (W0.alloc (.cells o.cells.toArray 49)) := (Below.refl _ _).alloc (Nat.le_refl _) _
      have rX : Row (W0.alloc (.cells o.cells.toArray 49)) W0.heap.size o.cells.toArray 49 := Row.new _ _ _
      have own1 := own0.keep hab
      have hS2 : Row (W0.alloc (.cells o.cells.toArray 49)) r #[.slice oa n cap] 39 ∧ Row (W0.alloc (.cells o.cells.toArray 49)) w.heap.size OA 49 ∧ Off (fun k => k = r ∨ Value.ownBlock (.slice oa n cap) = some k) w (W0.alloc (.cells o.cells.toArray 49)) := ⟨hS.1.alloc _, hS.2.1.alloc _, hS.2.2.trans (Off.of_below (F := fun _ => False) hab) (fun j q => q.elim)⟩
      have hbs : base ≤ (W0.alloc (.cells o.cells.toArray 49)).heap.size := by have := hS.2.2.size; have := hrlt.out.2; have := hab.size; omega
      refine hK.out _ _ (fun _ => hS2) ?_
      try simp only [Act.put, List.getElem_toArray, List.getElem_cons_zero, List.getElem_cons_succ, List.setIfInBounds_toArray, List.set_cons_zero, List.set_cons_succ]
      have HR : Hid (∀ ty, ∃ v' w', (Builtin.append_ #[37, 37] ty #[.slice oa n cap, .slice (some ⟨W0.heap.size, 0, none⟩) 1 1]).run Try.prog (W0.alloc (.cells o.cells.toArray 49)) = .ok v' w' ∧ (OwnW w' base v' (os ++ [o]) ∧ (W0.alloc (.cells o.cells.toArray 49)).grownBy w' (Value.ownBlock (.slice oa n cap)))) := fun ty => own1.snoc ty W0.heap.size o HO.out.2.1 rX hbs (by rw [HN.out]; omega)
      have HOW : Hid (∀ k, Value.ownBlock (.slice oa n cap) = some k → ∃ cs, Row (W0.alloc (.cells o.cells.toArray 49)) k cs 49) := own1.row
      have HOL : Hid (∀ k, Value.ownBlock (.slice oa n cap) = some k → k < w.heap.size) := HOB.out
      clear own0 own1 hS hab rX
      generalize W0.alloc (.cells o.cells.toArray 49) = W1 at hS2 HR HOW ⊢
      have hS := hS2
      clear hS2
      generalize W0.heap.size = X at HR ⊢
      refine wpAnyL_ready (rs := [7]) (by kernel_rfl) (by simp) ?_
      refine AllReadyL.cons rfl (fun K hK => step_of rfl (wp_copy' (.tmp 74) (.tmp 76) 37 rfl _ _ rfl rfl (fun ty => HR.out ty) ?_)) AllReadyL.nil
      rintro v15 w15 ⟨own15, gr15⟩
      have o15 : Off (fun k => Value.ownBlock (.slice oa n cap) = some k) W1 w15 := Off.of_grown gr15 (fun k hk => hk)
      have hS15 : Row w15 r #[.slice oa n cap] 39 ∧ Row w15 w.heap.size OA 49 ∧ Off (fun k => k = r ∨ Value.ownBlock (.slice oa n cap) = some k) w w15 := ⟨hS.1.off o15 (fun q => by obtain ⟨cs, h⟩ := HOW.out _ q; exact Row.un h hS.1 (by decide)), hS.2.1.off o15 (fun q => by have := HOL.out _ q; omega), hS.2.2.trans o15 (fun j q => Or.inl (Or.inr q))⟩
      obtain ⟨oa15, cap15, hv15, _⟩ := own15.form
      have hll : (os ++ [o]).length = os.length + 1 := by simp
      rw [hll] at hv15
      subst hv15
      refine hK.out _ _ (fun _ => hS15) ?_
      try simp only [Act.put, List.getElem_toArray, List.getElem_cons_zero, List.getElem_cons_succ, List.setIfInBounds_toArray, List.set_cons_zero, List.set_cons_succ]
      clear hS HR HOW gr15 o15
      have hS := hS15
      clear hS15
      refine wpAnyL_ready (rs := [8]) (by kernel_rfl) (by simp) ?_
      refine AllReadyL.cons rfl (fun K hK => ?_) AllReadyL.nil
      go_simp
      refine hK.out _ _ (fun _ => hS) ?_
      try simp only [Act.put, List.getElem_toArray, List.getElem_cons_zero, List.getElem_cons_succ, List.setIfInBounds_toArray, List.set_cons_zero, List.set_cons_succ]
      refine wpAnyL_ready (rs := [9]) (by kernel_rfl) (by simp) ?_
      refine AllReadyL.cons rfl (fun K hK => ?_) AllReadyL.nil
      go_simp
      refine hK.out _ _ (fun _ => hS) ?_
      try simp only [Act.put, List.getElem_toArray, List.getElem_cons_zero, List.getElem_cons_succ, List.setIfInBounds_toArray, List.set_cons_zero, List.set_cons_succ]
      refine wpAnyL_ready (rs := [10]) (by kernel_rfl) (by simp) ?_
      refine AllReadyL.cons rfl (fun K hK => ?_) AllReadyL.nil
      have c9 := row_at hS.1 0 _ rfl
      have f9 := row_frozen hS.1 0
      have RR : Row (w15.setCell ⟨r, 0, none⟩ (.slice oa15 (os.length + 1) cap15)) r #[.slice oa15 (os.length + 1) cap15] 39 := row_set hS.1 0 _
      have OW : OwnW (w15.setCell ⟨r, 0, none⟩ (.slice oa15 (os.length + 1) cap15)) base (.slice oa15 (os.length + 1) cap15) (os ++ [o]) := own15.off (Off.of_setCell (F := (· = r)) w15 ⟨r, 0, none⟩ _ rfl) (fun g cs hg q => by subst q; exact Row.un hg hS.1 (by decide))
      have OO := hS.2.2.trans (Off.of_setCell (F := (· = r)) w15 ⟨r, 0, none⟩ (.slice oa15 (os.length + 1) cap15) rfl) (fun j q => Or.inl (Or.inl q))
      generalize os.length + 1 = NL at RR OW OO ⊢
      go_simp
      refine hK.out _ _ (fun q => absurd rfl q) ?_
      try simp only [Act.put, List.getElem_toArray, List.getElem_cons_zero, List.getElem_cons_succ, List.setIfInBounds_toArray, List.set_cons_zero, List.set_cons_succ]
      refine wpAnyL_done (by kernel_rfl) ?_ _
      clear c9 f9
      generalize w15.setCell ⟨r, 0, none⟩ (.slice oa15 NL cap15) = W9 at RR OW OO ⊢
      go_wp2
      go_ret
      refine ⟨.slice oa15 NL cap15, by rw [hE]; rfl, ?_, OO⟩
      unfold wL
      rw [if_pos hE]
      exact ⟨RR, OW, fun x hx => (List.mem_append.1 hx).elim (HOK.out x) (fun q => by simp at q; subst q; exact HO.out), by rw [List.length_append, HN.out]; simp; omega⟩
    | false =>
      rw [hh] at hhs
      go_enter Try.func17, Try.ntmps17
      go_upto_region 5 with (go_at_call 31; refine hhs.mono ?_; clear hhs; rintro e WH ⟨rfl, hbh⟩)
      have dW0 := d1.below hbh
      have rW0 := r0.below hbh r0.lt
      have bW0 := ab.trans (hbh.mono ab.size)
      clear hbh d1 r0 ab e0 e65 e66
      have c0 := row_at dW0.row 0 _ rfl
      have HC1 : Hid (∀ W, Below WH.heap.size WH W → ∀ (i : Nat) (x : Wo), os[i]? = some x → ∃ g, oa = some ⟨g, 0, none⟩ ∧ W.cell? ⟨g, i * 67, none⟩ = some (.int .u16 x.pg)) := fun W hW i x hx => by
        obtain ⟨g, h1, h2⟩ := HC.out i x hx
        have h3 := h2 0 _ x.c0
        rw [add_zero] at h3
        exact ⟨g, h1, cell_keep (cell_keep h3 bW0) hW⟩
      have HW0 : Hid (DAt WH r base (.slice oa n cap) os ∧ Row WH w.heap.size OA 49 ∧ Below w.heap.size w WH) := ⟨dW0, rW0, bW0⟩
      clear dW0 rW0 bW0
      go_wp2
      go_loopw [5, 36] (fun c d wr => ∃ k : Nat, c = .int .i64 (cntN os k : Nat) ∧ d = .int .i64 k ∧ k ≤ n ∧ Below WH.heap.size WH wr) (fun _ d _ => n - (intOf d).toNat)
      case atStart => exact ⟨0, rfl, rfl, by omega, Below.refl _ _⟩
      case round =>
        clear c0
        obtain ⟨k, rfl, rfl, hk', rb⟩ := hrel
        have hcl := cntN_le os k
        by_cases hkn : k < n
        · have hkn' : (k : Int) < (n : Int) := by omega
          obtain ⟨x, hx⟩ : ∃ x, os[k]? = some x := ⟨os[k]'(by rw [HN.out]; exact hkn), List.getElem?_eq_getElem (by rw [HN.out]; exact hkn)⟩
          have hsu := cntN_succ os k
          have hnw : newW os k = !hasW (os.take k) x.pg := by unfold newW; rw [hx]
          rw [hnw] at hsu
          have HSU : Hid _ := hsu
          clear hsu hnw
          obtain ⟨CN, HCN⟩ : ∃ CN, Hid (cntN os k = CN) := ⟨_, rfl⟩
          rw [HCN.out] at HSU hcl ⊢
          go_wp2
          go_loopw [7, 8] (fun c d wr => ∃ j : Nat, c = .bool (!hasW (os.take j) x.pg) ∧ d = .int .i64 j ∧ j ≤ k ∧ Below WH.heap.size WH wr) (fun _ d _ => k - (intOf d).toNat)
          case atStart => exact ⟨0, rfl, rfl, by omega, rb⟩
          case round =>
            clear rb
            obtain ⟨j, rfl, rfl, hj, rb⟩ := hrel
            by_cases hjk : j < k
            · have hjk' : (j : Int) < (k : Int) := by omega
              have hjn' : (j : Int) < (n : Int) := by omega
              obtain ⟨y, hy⟩ : ∃ y, os[j]? = some y := ⟨os[j]'(by rw [HN.out]; omega), List.getElem?_eq_getElem (by rw [HN.out]; omega)⟩
              obtain ⟨g, rfl, cj⟩ := HC1.out wr rb j y hy
              obtain ⟨g', hg', ck⟩ := HC1.out wr rb k x hx
              simp at hg'
              subst hg'
              have c1 := row_at ((HW0.out.1.below rb).row) 0 _ rfl
              have hs2 := hasW_succ os j y hy x.pg
              have HS2 : Hid _ := hs2
              clear hs2
              cases hv : hasW (os.take j) x.pg with
              | true =>
                rw [hv] at HS2
                simp only [Bool.not_true, Bool.true_or] at HS2 ⊢
                go_upto_region 12 with fail
                go_quiet (fail)
                go_wp2
                go_roundw
                case rel => exact ⟨j + 1, by rw [HS2.out]; rfl, by go_num, by omega, below_drewN0 rb _⟩
                case measure => simp [intOf]; omega
              | false =>
                rw [hv] at HS2
                simp only [Bool.not_false, Bool.false_or] at HS2 ⊢
                by_cases hyx : y.pg = x.pg
                · rw [hyx] at cj
                  rw [decide_eq_true hyx] at HS2
                  go_upto_region 12 with fail
                  go_quiet (fail)
                  go_wp2
                  go_roundw
                  case rel => exact ⟨j + 1, by rw [HS2.out]; rfl, by go_num, by omega, below_drewN0 rb _⟩
                  case measure => simp [intOf]; omega
                · have hyx' : ¬ y.pg = x.pg := hyx
                  rw [decide_eq_false hyx] at HS2
                  go_upto_region 12 with fail
                  go_quiet (fail)
                  go_wp2
                  go_roundw
                  case rel => exact ⟨j + 1, by rw [HS2.out]; simp [hyx], by go_num, by omega, below_drewN0 rb _⟩
                  case measure => simp [intOf]; omega
            · have hjk' : ¬ (j : Int) < (k : Int) := by omega
              have eK : k = j := by omega
              subst eK
              have w9 : IntKind.i64.wrap ((CN : Int) + 1) = (CN : Int) + 1 := by rw [IntKind.wrap_i64]; omega
              cases hv : hasW (os.take k) x.pg with
              | true =>
                rw [hv] at HSU
                go_wp2
                go_roundw
                case rel => exact ⟨k + 1, by rw [HSU.out]; simp, by go_num, by omega, rb⟩
                case measure => simp [intOf]; omega
              | false =>
                rw [hv] at HSU
                go_wp2
                go_roundw
                case rel => exact ⟨k + 1, by rw [HSU.out]; simp, by go_num, by omega, rb⟩
                case measure => simp [intOf]; omega
        · have hkn' : ¬ (k : Int) < (n : Int) := by omega
          have eK : n = k := by omega
          subst eK
          by_cases h4 : cntN os n < 4
          · have hE : wE os o = 0 := by unfold wE; rw [if_pos hk, if_pos (Or.inr (by rw [HN.out]; exact h4))]
            have h4' : ¬ ((cntN os n : Nat) : Int) ≥ 4 := by omega
            have dW := HW0.out.1.below rb
            have rW := HW0.out.2.1.below rb HW0.out.2.1.lt
            have bW := HW0.out.2.2.trans (rb.mono HW0.out.2.2.size)
            obtain ⟨CN, HCN⟩ : ∃ CN, Hid (cntN os n = CN) := ⟨_, rfl⟩
            rw [HCN.out] at h4' ⊢
            clear rb hcl h4
            go_upto_region 18 with fail
            have own0 : OwnW wr.drew base (.slice oa n cap) os := dW.own.keep (Below.refl _ _).drew
            refine wp_region_last (S := fun w' => Row w' r #[.slice oa n cap] 39 ∧ Row w' w.heap.size OA 49 ∧ Off (fun k => k = r ∨ Value.ownBlock (.slice oa n cap) = some k) w w') 10 (by kernel_rfl) ⟨dW.row, rW, Off.of_below bW.drew⟩ fun hS => ?_
            refine wpAnyL_take (i := 0) (v := .pointer (some ⟨r, 0, none⟩)) rfl (by kernel_rfl) (by kernel_rfl) (by kernel_rfl) (by kernel_rfl) (fun _ _ _ h => h) (Or.inl ⟨by rfl, fun w _ => by go_simp⟩) hS ?_
            try simp only [Act.put, List.getElem_toArray, List.getElem_cons_zero, List.getElem_cons_succ, List.setIfInBounds_toArray, List.set_cons_zero, List.set_cons_succ]
            refine wpAnyL_take (i := 1) (v := .pointer (some ⟨r, 0, none⟩)) rfl (by kernel_rfl) (by kernel_rfl) (by kernel_rfl) (by kernel_rfl) (fun _ _ _ h => h) (Or.inl ⟨by rfl, fun w _ => by go_simp⟩) hS ?_
            try simp only [Act.put, List.getElem_toArray, List.getElem_cons_zero, List.getElem_cons_succ, List.setIfInBounds_toArray, List.set_cons_zero, List.set_cons_succ]
            refine wpAnyL_take (i := 2) (v := .pointer (some ⟨r, 0, none⟩)) rfl (by kernel_rfl) (by kernel_rfl) (by kernel_rfl) (by kernel_rfl) (fun _ _ _ h => h) (Or.inl ⟨by rfl, fun w _ => by go_simp⟩) hS ?_
            try simp only [Act.put, List.getElem_toArray, List.getElem_cons_zero, List.getElem_cons_succ, List.setIfInBounds_toArray, List.set_cons_zero, List.set_cons_succ]
            refine wpAnyL_take (i := 3) (v := .pointer (some ⟨r, 0, none⟩)) rfl (by kernel_rfl) (by kernel_rfl) (by kernel_rfl) (by kernel_rfl) (fun _ _ _ h => h) (Or.inl ⟨by rfl, fun w _ => by go_simp⟩) hS ?_
            try simp only [Act.put, List.getElem_toArray, List.getElem_cons_zero, List.getElem_cons_succ, List.setIfInBounds_toArray, List.set_cons_zero, List.set_cons_succ]
            refine wpAnyL_take (i := 4) (v := .slice oa n cap) rfl (by kernel_rfl) (by kernel_rfl) (by kernel_rfl) (by kernel_rfl) (fun _ _ _ h => h) (Or.inl ⟨by rfl, fun w h => by have c := row_at h.1 0 _ rfl; go_simp⟩) hS ?_
            try simp only [Act.put, List.getElem_toArray, List.getElem_cons_zero, List.getElem_cons_succ, List.setIfInBounds_toArray, List.set_cons_zero, List.set_cons_succ]
            refine wpAnyL_take (i := 5) (v := .agg OA) rfl (by kernel_rfl) (by kernel_rfl) (by kernel_rfl) (by kernel_rfl) (fun _ _ _ h => h) (yields_stW (by rfl) 49 (.tmp 3) rfl (w.heap.size) rfl 49 OA (fun w h => h.2.1) Try.underlying49 rfl (by rw [size49, HOS.out])) hS ?_
            try simp only [Act.put, List.getElem_toArray, List.getElem_cons_zero, List.getElem_cons_succ, List.setIfInBounds_toArray, List.set_cons_zero, List.set_cons_succ]
            have hrlt : Hid (r < w.heap.size ∧ base ≤ w.heap.size) := HRL.out
            have hWs := bW.size
            clear dW rW bW
            generalize wr.drew = W0 at hS own0 ⊢
            refine wpAnyL_ready (rs := [6]) (by kernel_rfl) (by simp) ?_
            refine AllReadyL.cons rfl (fun K hK => step_of rfl (wp_wo_one (.tmp 75) rfl o.cells HCL.out (by rw [HOA.out]; rfl) ?_)) AllReadyL.nil
            have hab : Below W0.heap.size W0 (W0.alloc (.cells o.cells.toArray 49)) := (Below.refl _ _).alloc (Nat.le_refl _) _
            have rX : Row (W0.alloc (.cells o.cells.toArray 49)) W0.heap.size o.cells.toArray 49 := Row.new _ _ _
            have own1 := own0.keep hab
            have hS2 : Row (W0.alloc (.cells o.cells.toArray 49)) r #[.slice oa n cap] 39 ∧ Row (W0.alloc (.cells o.cells.toArray 49)) w.heap.size OA 49 ∧ Off (fun k => k = r ∨ Value.ownBlock (.slice oa n cap) = some k) w (W0.alloc (.cells o.cells.toArray 49)) := ⟨hS.1.alloc _, hS.2.1.alloc _, hS.2.2.trans (Off.of_below (F := fun _ => False) hab) (fun j q => q.elim)⟩
            have hbs : base ≤ (W0.alloc (.cells o.cells.toArray 49)).heap.size := by have := hS.2.2.size; have := hrlt.out.2; have := hab.size; omega
            refine hK.out _ _ (fun _ => hS2) ?_
            try simp only [Act.put, List.getElem_toArray, List.getElem_cons_zero, List.getElem_cons_succ, List.setIfInBounds_toArray, List.set_cons_zero, List.set_cons_succ]
            have HR : Hid (∀ ty, ∃ v' w', (Builtin.append_ #[37, 37] ty #[.slice oa n cap, .slice (some ⟨W0.heap.size, 0, none⟩) 1 1]).run Try.prog (W0.alloc (.cells o.cells.toArray 49)) = .ok v' w' ∧ (OwnW w' base v' (os ++ [o]) ∧ (W0.alloc (.cells o.cells.toArray 49)).grownBy w' (Value.ownBlock (.slice oa n cap)))) := fun ty => own1.snoc ty W0.heap.size o HO.out.2.1 rX hbs (by rw [HN.out]; omega)
            have HOW : Hid (∀ k, Value.ownBlock (.slice oa n cap) = some k → ∃ cs, Row (W0.alloc (.cells o.cells.toArray 49)) k cs 49) := own1.row
            have HOL : Hid (∀ k, Value.ownBlock (.slice oa n cap) = some k → k < w.heap.size) := HOB.out
            clear own0 own1 hS hab rX
            generalize W0.alloc (.cells o.cells.toArray 49) = W1 at hS2 HR HOW ⊢
            have hS := hS2
            clear hS2
            generalize W0.heap.size = X at HR ⊢
            refine wpAnyL_ready (rs := [7]) (by kernel_rfl) (by simp) ?_
            refine AllReadyL.cons rfl (fun K hK => step_of rfl (wp_copy' (.tmp 74) (.tmp 76) 37 rfl _ _ rfl rfl (fun ty => HR.out ty) ?_)) AllReadyL.nil
            rintro v15 w15 ⟨own15, gr15⟩
            have o15 : Off (fun k => Value.ownBlock (.slice oa n cap) = some k) W1 w15 := Off.of_grown gr15 (fun k hk => hk)
            have hS15 : Row w15 r #[.slice oa n cap] 39 ∧ Row w15 w.heap.size OA 49 ∧ Off (fun k => k = r ∨ Value.ownBlock (.slice oa n cap) = some k) w w15 := ⟨hS.1.off o15 (fun q => by obtain ⟨cs, h⟩ := HOW.out _ q; exact Row.un h hS.1 (by decide)), hS.2.1.off o15 (fun q => by have := HOL.out _ q; omega), hS.2.2.trans o15 (fun j q => Or.inl (Or.inr q))⟩
            obtain ⟨oa15, cap15, hv15, _⟩ := own15.form
            have hll : (os ++ [o]).length = os.length + 1 := by simp
            rw [hll] at hv15
            subst hv15
            refine hK.out _ _ (fun _ => hS15) ?_
            try simp only [Act.put, List.getElem_toArray, List.getElem_cons_zero, List.getElem_cons_succ, List.setIfInBounds_toArray, List.set_cons_zero, List.set_cons_succ]
            clear hS HR HOW gr15 o15
            have hS := hS15
            clear hS15
            refine wpAnyL_ready (rs := [8]) (by kernel_rfl) (by simp) ?_
            refine AllReadyL.cons rfl (fun K hK => ?_) AllReadyL.nil
            go_simp
            refine hK.out _ _ (fun _ => hS) ?_
            try simp only [Act.put, List.getElem_toArray, List.getElem_cons_zero, List.getElem_cons_succ, List.setIfInBounds_toArray, List.set_cons_zero, List.set_cons_succ]
            refine wpAnyL_ready (rs := [9]) (by kernel_rfl) (by simp) ?_
            refine AllReadyL.cons rfl (fun K hK => ?_) AllReadyL.nil
            go_simp
            refine hK.out _ _ (fun _ => hS) ?_
            try simp only [Act.put, List.getElem_toArray, List.getElem_cons_zero, List.getElem_cons_succ, List.setIfInBounds_toArray, List.set_cons_zero, List.set_cons_succ]
            refine wpAnyL_ready (rs := [10]) (by kernel_rfl) (by simp) ?_
            refine AllReadyL.cons rfl (fun K hK => ?_) AllReadyL.nil
            have c9 := row_at hS.1 0 _ rfl
            have f9 := row_frozen hS.1 0
            have RR : Row (w15.setCell ⟨r, 0, none⟩ (.slice oa15 (os.length + 1) cap15)) r #[.slice oa15 (os.length + 1) cap15] 39 := row_set hS.1 0 _
            have OW : OwnW (w15.setCell ⟨r, 0, none⟩ (.slice oa15 (os.length + 1) cap15)) base (.slice oa15 (os.length + 1) cap15) (os ++ [o]) := own15.off (Off.of_setCell (F := (· = r)) w15 ⟨r, 0, none⟩ _ rfl) (fun g cs hg q => by subst q; exact Row.un hg hS.1 (by decide))
            have OO := hS.2.2.trans (Off.of_setCell (F := (· = r)) w15 ⟨r, 0, none⟩ (.slice oa15 (os.length + 1) cap15) rfl) (fun j q => Or.inl (Or.inl q))
            generalize os.length + 1 = NL at RR OW OO ⊢
            go_simp
            refine hK.out _ _ (fun q => absurd rfl q) ?_
            try simp only [Act.put, List.getElem_toArray, List.getElem_cons_zero, List.getElem_cons_succ, List.setIfInBounds_toArray, List.set_cons_zero, List.set_cons_succ]
            refine wpAnyL_done (by kernel_rfl) ?_ _
            clear c9 f9
            generalize w15.setCell ⟨r, 0, none⟩ (.slice oa15 NL cap15) = W9 at RR OW OO ⊢
            go_wp2
            go_ret
            refine ⟨.slice oa15 NL cap15, by rw [hE]; rfl, ?_, OO⟩
            unfold wL
            rw [if_pos hE]
            exact ⟨RR, OW, fun x hx => (List.mem_append.1 hx).elim (HOK.out x) (fun q => by simp at q; subst q; exact HO.out), by rw [List.length_append, HN.out]; simp; omega⟩
          · have h4' : ((cntN os n : Nat) : Int) ≥ 4 := by omega
            have hE : wE os o = 10 := by unfold wE; rw [if_pos hk, if_neg (by rw [hh, HN.out]; simp; omega)]
            have hL : wL os o = os := by unfold wL; rw [if_neg (by rw [hE]; decide)]
            have dW := HW0.out.1.below rb
            have bW := HW0.out.2.2.trans (rb.mono HW0.out.2.2.size)
            clear rb
            go_wp2
            go_ret
            exact ⟨_, by rw [hE]; rfl, by rw [hL]; exact dW, Off.of_below bW⟩
  · have hE : wE os o = 1 := by unfold wE; rw [if_neg hk]
    have hL : wL os o = os := by unfold wL; rw [if_neg (by rw [hE]; decide)]
    have fin : ∀ W, Below w.heap.size w W → DAt W r base (.slice oa n cap) os → Wrt w r base (.slice oa n cap) os o (.returned (.int .i64 1)) W := fun W hW dd => ⟨_, by rw [hE], by rw [hL]; exact dd, Off.of_below hW⟩
    have FIN : Hid _ := fin
    clear fin
    by_cases h1 : o.off < 0
    · go_enter Try.func17, Try.ntmps17
      go_wp2
      go_ret
      exact FIN.out _ ab d1
    · by_cases h2 : o.off > 64
      · go_enter Try.func17, Try.ntmps17
        go_wp2
        go_ret
        exact FIN.out _ ab d1
      · have y3 : IntKind.i64.wrap (64 - o.off) = 64 - o.off := by rw [IntKind.wrap_i64]; omega
        have h3 : (o.t.size : Int) > 64 - o.off := by
          have : ¬ (0 ≤ o.off ∧ o.off ≤ 64 ∧ (o.t.size : Int) ≤ 64 - o.off) := hk
          omega
        go_enter Try.func17, Try.ntmps17
        go_wp2
        go_ret
        exact FIN.out _ ab d1
end Go.Proofs.Ytmnbfcmamhinbab.Ws
