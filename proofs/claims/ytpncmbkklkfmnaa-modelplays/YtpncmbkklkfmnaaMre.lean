/-
  Proved here: what the document's Do leaves, where answer is as it should be.
-/
import Derived.Test.YtpncmbkklkfmnaaJa
namespace Go.Proofs.Ytpncmbkklkfmnaa
open Go.ChangeShapes Go.WideShapes Go.ChangeAt Go.RowKit
open Go.Deep Go.Maps
set_option linter.unusedVariables false
set_option linter.unusedSimpArgs false
set_option maxRecDepth 20000


theorem places63 : placesOf Try.prog 63 = some [(0, 5), (5, 67)] := by kernel_rfl
theorem zeroOf63 : (Try.prog.info? 63).map (·.zero) = some (some (.agg Dn.zero.arr)) := by kernel_rfl
theorem built63 (d : Dn) (h : d.Ok) : Try.prog.built 63 [(0, .agg d.c.arr), (1, .agg d.r.arr)] = some d.arr := by
  rw [built_struct zeroOf63 places63]
  have z : (Value.agg Dn.zero.arr).cells = Dn.zero.arr := rfl
  have z0 : Dn.zero.arr.toList.length = 72 := by rw [Array.length_toList]; exact Dn.arr_size Dn.zero_ok
  have zs72 : Dn.zero.arr.size = 72 := Dn.arr_size Dn.zero_ok
  rw [z, fill_step _ _ 0 (.agg d.c.arr) _ 0 5 rfl rfl (by rw [zs72]; omega), fill_step _ _ 1 (.agg d.r.arr) _ 5 67 rfl (by show d.r.arr.size = 67; exact Rep.arr_size h.len) (by rw [spl_size _ _ _ 72 z0 (by show 0 + 5 ≤ 72; omega)]; omega)]
  unfold Instr.fill
  congr 1
  unfold Dn.arr
  apply congrArg
  have e1 : d.r.cells.length = 67 := by simp [Rep.cells, h.len]
  show splice (splice Dn.zero.arr.toList 0 d.c.cells) 5 d.r.cells = d.c.cells ++ d.r.cells
  have e2 : d.c.cells.length = 5 := rfl
  unfold splice
  rw [e2, e1]
  simp only [List.take_zero, List.nil_append, Nat.zero_add]
  rw [List.take_append_of_le_length (by rw [e2]; exact Nat.le_refl _), List.take_of_length_le (by rw [e2]; exact Nat.le_refl _), List.drop_of_length_le (by rw [List.length_append, List.length_drop, z0, e2]; omega), List.append_nil]
theorem wp_dn_one {o : Oper} {a : Act} {w : World} {K : Act → World → Prop} {Q : Exit → Act → World → Prop} (x : Operand) (ho : o.op = .buildSlice 28 1 #[(0, x)]) (va : Array Value) (hb : va.size = 72) (hx : a.eval x = .agg va)
    (h : K (a.put o.dst (.slice (some ⟨w.heap.size, 0, none⟩) 1 1)) (w.alloc (.cells va 63))) : Oper.wp Try.prog o a w K Q := by
  obtain ⟨i, hi, hz, hs, _⟩ := info_parts info63
  refine wp_buildSlice 28 63 1 _ ho va i _ Try.underlying28 hi hz (by rw [hs]; decide) (by rw [hs]; decide) ?_ h
  have e1 : (#[(0, x)].map fun (i, x) => (i, a.eval x)).toList = [(0, .agg va)] := by simp [hx]
  rw [e1, fill_step _ _ 0 (.agg va) _ 0 72 (by simp [hs]) (by show va.size = 72; exact hb) (by simp [hs])]
  unfold Instr.fill
  congr 1
  show (⟨splice _ 0 va.toList⟩ : Array Value) = va
  unfold splice
  rw [List.take_zero, List.nil_append, Array.length_toList, hb, List.drop_of_length_le (by simp [hs]), List.append_nil]

/-- What Do leaves. -/
def RStep (w0 : World) (r n : Nat) (mx : Int) (v : Value) (ds : List Dn) (d : Dn) (w w' : World) : Prop := ∃ v', RM w0 w' r n mx v' (ds ++ [d]) ∧ Off (fun k => k = r ∨ v.ownBlock = some k) w w' ∧ ∀ k, v'.ownBlock = some k → v.ownBlock = some k ∨ w.heap.size ≤ k
set_option maxHeartbeats 4000000 in
theorem do_ref {w0 w : World} {r n : Nat} {mx : Int} {v : Value} {ds : List Dn} (h : RM w0 w r n mx v ds) (hfew : ds.length < 40) (c : Cal) (hc : c.Ok) (R : Rep) (hR : R.body.length = 64) (hsz : w0.heap.size ≤ w.heap.size)
    (HANS : ∀ W, RM w0 W r n mx v ds → Calls Try.prog 23 #[.pointer (some ⟨r, 0, none⟩), .agg c.arr] W fun e w' => e = .returned (.agg R.arr) ∧ Below W.heap.size W w') :
    Calls Try.prog 13 #[.pointer (some ⟨r, 0, none⟩), .agg c.arr] w fun e w' => e = .returned (.agg R.arr) ∧ RStep w0 r n mx v ds ⟨c, R⟩ w w' := by
  have HDO : Hid (Dn.Ok ⟨c, R⟩) := ⟨hc, hR⟩
  obtain ⟨PP, HPP⟩ : ∃ PP : Ending → World → Prop, Hid (PP = fun e w' => e = .returned (.agg R.arr) ∧ RStep w0 r n mx v ds ⟨c, R⟩ w w') := ⟨_, rfl⟩
  rw [← HPP.out]
  have HRM : Hid (RM w0 w r n mx v ds) := h
  have HAN : Hid (∀ W, Below w.heap.size w W → Calls Try.prog 23 #[.pointer (some ⟨r, 0, none⟩), .agg c.arr] W fun e w' => e = .returned (.agg R.arr) ∧ Below W.heap.size W w') := fun W hb => HANS W (h.below hb)
  have HBU : Hid (Try.prog.built 63 [(0, .agg c.arr), (1, .agg R.arr)] = some (Dn.mk c R).arr) := built63 ⟨c, R⟩ HDO.out
  have HCS : Hid (c.arr.size = 5) := rfl
  have HRS : Hid (R.arr.size = 67) := Rep.arr_size hR
  have ro := R.one
  have HDS : Hid ((Dn.mk c R).arr.size = 72) := Dn.arr_size HDO.out
  have HDC0 : Hid ((Dn.mk c R).arr.toList = (Dn.mk c R).cells) := rfl
  have HD1 : Hid (∀ u ∈ (Dn.mk c R).cells, u.oneCell' = true) := fun u hu => by
    have := (Dn.mk c R).one
    rw [Array.all_eq_true_iff_forall_mem] at this
    exact this u (by simpa [Dn.arr] using hu)
  have HDL : Hid ((Dn.mk c R).cells.length = 72) := Dn.cells_length HDO.out
  obtain ⟨CE, HCE⟩ : ∃ CE, Hid (c.arr = CE) := ⟨_, rfl⟩
  obtain ⟨RA, HRA⟩ : ∃ RA, Hid (R.arr = RA) := ⟨_, rfl⟩
  obtain ⟨DA, HDA⟩ : ∃ DA, Hid ((Dn.mk c R).arr = DA) := ⟨_, rfl⟩
  rw [HCE.out] at HAN HBU HCS
  rw [HRA.out] at HAN HBU HRS ro
  rw [HDA.out] at HBU HDS HDC0
  rw [HCE.out]
  have hz40 := zero40
  have HZS : Hid (Rep.zero.arr.size = 67) := rz
  generalize Rep.zero.arr = Z at hz40 HZS
  have ab : Below w.heap.size w (w.alloc (.cells CE 35)) := (Below.refl _ _).alloc (Nat.le_refl _) _
  have e1 : (w.alloc (.cells CE 35)).heap.size = w.heap.size + 1 := Array.size_push ..
  have ab1 : Below w.heap.size w ((w.alloc (.cells CE 35)).alloc (.cells Z 40)) := ab.alloc ab.size _
  have rx1 : Row ((w.alloc (.cells CE 35)).alloc (.cells Z 40)) w.heap.size CE 35 := (Row.new _ _ _).alloc _
  have r40 : Row ((w.alloc (.cells CE 35)).alloc (.cells Z 40)) (w.heap.size + 1) Z 40 := by have := Row.new (w.alloc (.cells CE 35)) Z 40; rw [e1] at this; exact this
  clear h HANS ab e1 hc hR
  go_enter Try.func13, Try.ntmps13
  go_upto_region 1 with fail
  generalize (w.alloc (.cells CE 35)).alloc (.cells Z 40) = W at ab1 r40 rx1 ⊢
  obtain ⟨A0, HA0⟩ : ∃ A0, Hid (w.heap.size = A0) := ⟨_, rfl⟩
  rw [HA0.out] at r40 rx1 ⊢
  have han := HAN.out W ab1
  have tl : Hid (1 = 1) := rfl
  have ts : Hid (1 = 1) := rfl
  go_upto_region 2 with (first
    | (have hh := tl; clear hh tl; refine load_cells rfl 35 (.tmp 3) rfl A0 rfl 35 CE rx1 5 Try.underlying35 rfl size35 HCS.out ?_)
    | (go_at_call 23; refine Calls.mono han ?_; clear han; rintro e W1 ⟨he, hb1⟩; obtain rfl := he; have rn : Row (W1.alloc (.cells Z 40)) W1.heap.size Z 40 := Row.new _ _ _)
    | (have hh := ts; clear hh ts; refine store_cells rfl 40 (.tmp 5) (.tmp 8) rfl W1.heap.size RA rfl rfl 40 _ rn 67 size40 HZS.out HRS.out ro ?_))
  have bn1 : Below W1.heap.size W1 ((W1.alloc (.cells Z 40)).setRow W1.heap.size RA) := below_setRow ((Below.refl _ _).alloc (Nat.le_refl _) _) (Nat.le_refl _) _
  have b2 : Below W.heap.size W ((W1.alloc (.cells Z 40)).setRow W1.heap.size RA) := hb1.trans (bn1.mono hb1.size)
  have rx2 := rx1.below b2 rx1.lt
  have r42 := r40.below b2 r40.lt
  have rX : Row ((W1.alloc (.cells Z 40)).setRow W1.heap.size RA) W1.heap.size RA 40 := rn.set _
  have ab2 := ab1.trans (b2.mono ab1.size)
  have hXA : A0 + 1 < W1.heap.size := Nat.lt_of_lt_of_le r40.lt hb1.size
  clear rn bn1 b2 hb1 rx1 r40 ab1
  generalize (W1.alloc (.cells Z 40)).setRow W1.heap.size RA = W2 at rx2 r42 rX ab2 ⊢
  generalize W1.heap.size = X at rX hXA ⊢
  have M2 := HRM.out.below ab2
  have M3 := M2.below (below_drew W2)
  refine wp_region_last (S := fun w' => Row w' r #[.int .i64 n, .int .u32 mx, v] 30 ∧ Row w' A0 CE 35 ∧ Row w' X RA 40) 12 (by kernel_rfl) ⟨M3.row, rx2, rX⟩ fun hS => ?_
  refine wpAnyL_take (i := 0) (v := .pointer (some ⟨r, 0, none⟩)) rfl (by kernel_rfl) (by kernel_rfl) (by kernel_rfl) (by kernel_rfl) (fun _ _ _ h => h) (Or.inl ⟨by rfl, fun w _ => by rfl⟩) hS ?_
  try simp only [Act.put, List.getElem_toArray, List.getElem_cons_zero, List.getElem_cons_succ, List.setIfInBounds_toArray, List.set_cons_zero, List.set_cons_succ]
  refine wpAnyL_take (i := 1) (v := .pointer (some ⟨r, 0, none⟩)) rfl (by kernel_rfl) (by kernel_rfl) (by kernel_rfl) (by kernel_rfl) (fun _ _ _ h => h) (Or.inl ⟨by rfl, fun w _ => by rfl⟩) hS ?_
  try simp only [Act.put, List.getElem_toArray, List.getElem_cons_zero, List.getElem_cons_succ, List.setIfInBounds_toArray, List.set_cons_zero, List.set_cons_succ]
  refine wpAnyL_take (i := 2) (v := .pointer (some ⟨r, 0, none⟩)) rfl (by kernel_rfl) (by kernel_rfl) (by kernel_rfl) (by kernel_rfl) (fun _ _ _ h => h) (Or.inl ⟨by rfl, fun w _ => by go_simp⟩) hS ?_
  try simp only [Act.put, List.getElem_toArray, List.getElem_cons_zero, List.getElem_cons_succ, List.setIfInBounds_toArray, List.set_cons_zero, List.set_cons_succ]
  refine wpAnyL_take (i := 3) (v := .pointer (some ⟨r, 2, none⟩)) rfl (by kernel_rfl) (by kernel_rfl) (by kernel_rfl) (by kernel_rfl) (fun _ _ _ h => h) (Or.inl ⟨by rfl, fun w _ => by go_simp⟩) hS ?_
  try simp only [Act.put, List.getElem_toArray, List.getElem_cons_zero, List.getElem_cons_succ, List.setIfInBounds_toArray, List.set_cons_zero, List.set_cons_succ]
  refine wpAnyL_take (i := 4) (v := v) rfl (by kernel_rfl) (by kernel_rfl) (by kernel_rfl) (by kernel_rfl) (fun _ _ _ h => h) (Or.inl ⟨by rfl, fun w h => by have c : w.cell? ⟨r, 2, none⟩ = some v := row_at h.1 2 _ rfl; go_simp⟩) hS ?_
  try simp only [Act.put, List.getElem_toArray, List.getElem_cons_zero, List.getElem_cons_succ, List.setIfInBounds_toArray, List.set_cons_zero, List.set_cons_succ]
  refine wpAnyL_take (i := 5) (v := .agg CE) rfl (by kernel_rfl) (by kernel_rfl) (by kernel_rfl) (by kernel_rfl) (fun _ _ _ h => h) (yields_cells (by rfl) 35 (.tmp 3) rfl A0 rfl 35 CE (fun w h => h.2.1) 5 Try.underlying35 rfl size35 HCS.out) hS ?_
  try simp only [Act.put, List.getElem_toArray, List.getElem_cons_zero, List.getElem_cons_succ, List.setIfInBounds_toArray, List.set_cons_zero, List.set_cons_succ]
  refine wpAnyL_take (i := 6) (v := .agg RA) rfl (by kernel_rfl) (by kernel_rfl) (by kernel_rfl) (by kernel_rfl) (fun _ _ _ h => h) (yields_cells (by rfl) 40 (.tmp 5) rfl X rfl 40 RA (fun w h => h.2.2) 67 Try.underlying40 rfl size40 HRS.out) hS ?_
  try simp only [Act.put, List.getElem_toArray, List.getElem_cons_zero, List.getElem_cons_succ, List.setIfInBounds_toArray, List.set_cons_zero, List.set_cons_succ]
  refine wpAnyL_take (i := 7) (v := .agg DA) rfl (by kernel_rfl) (by kernel_rfl) (by kernel_rfl) (by kernel_rfl) (fun _ _ _ h => h) (yields_build (by rfl) 63 #[(0, .tmp 14), (1, .tmp 15)] rfl _ rfl _ HBU.out) hS ?_
  try simp only [Act.put, List.getElem_toArray, List.getElem_cons_zero, List.getElem_cons_succ, List.setIfInBounds_toArray, List.set_cons_zero, List.set_cons_succ]
  have r43 : Row W2.drew (A0 + 1) Z 40 := r42
  have ab3 := ab2.drew
  clear M2 rx2 r42 rX ab2
  generalize W2.drew = W3 at hS M3 r43 ab3 ⊢
  refine wpAnyL_ready (rs := [8]) (by kernel_rfl) (by simp) ?_
  refine AllReadyL.cons rfl (fun K hK => step_of rfl (wp_dn_one (.tmp 16) rfl DA HDS.out rfl ?_)) AllReadyL.nil
  have hab : Below W3.heap.size W3 (W3.alloc (.cells DA 63)) := (Below.refl _ _).alloc (Nat.le_refl _) _
  have rV : Row (W3.alloc (.cells DA 63)) W3.heap.size DA 63 := Row.new _ _ _
  obtain ⟨NV, HNV⟩ : ∃ NV, Hid (W3.heap.size = NV) := ⟨_, rfl⟩
  have hS4 : Row (W3.alloc (.cells DA 63)) r #[.int .i64 n, .int .u32 mx, v] 30 ∧ Row (W3.alloc (.cells DA 63)) A0 CE 35 ∧ Row (W3.alloc (.cells DA 63)) X RA 40 := ⟨hS.1.alloc _, hS.2.1.alloc _, hS.2.2.alloc _⟩
  refine hK.out _ _ (fun _ => hS4) ?_
  try simp only [Act.put, List.getElem_toArray, List.getElem_cons_zero, List.getElem_cons_succ, List.setIfInBounds_toArray, List.set_cons_zero, List.set_cons_succ]
  have M4 := M3.below hab
  have r44 := r43.alloc (.cells DA 63)
  have ab4 := ab3.trans (hab.mono ab3.size)
  rw [HNV.out] at rV ⊢
  clear hS M3 r43 ab3 hab
  generalize W3.alloc (.cells DA 63) = W4 at hS4 rV M4 r44 ab4 ⊢
  have own4 := M4.own
  obtain ⟨i63, hi63, hz63, hs63, hb63⟩ := info_parts info63
  have HNW : Hid (∀ j u, (Dn.mk c R).cells[j]? = some u → W4.cell? ((⟨NV, 0, none⟩ : Addr).add j) = some u) := fun j u hu => World.news_of_block rV j u (by rw [HDC0.out]; exact hu)
  have hbs : w0.heap.size ≤ W4.heap.size := Nat.le_trans hsz ab4.size
  refine wpAnyL_ready (rs := [9]) (by kernel_rfl) (by simp) ?_
  refine AllReadyL.cons rfl (fun K hK => step_append_lies W4 rfl _ _ 28 rfl w0.heap.size 63 i63 (.agg Dn.zero.arr) 72 136 Try.underlying28 hi63 hz63 hs63 hb63 (Dn.arr_size Dn.zero_ok) (by omega) v ds.length _ rfl own4 ⟨NV, 0, none⟩ 1 1 (Dn.mk c R).cells rfl (by rw [HDL.out]) HNW.out HD1.out (by omega) (by unfold maxLen; omega) (by omega) hbs _ rfl ?_) AllReadyL.nil
  intro gb cap W5 hown5 hg5 hat5 hlt5
  have O5 : Off (fun k => v.ownBlock = some k) W4 W5 := Off.of_grown hg5 (fun k hk => hk)
  have nt : ∀ k t, isCells W4 k t → t ≠ 63 → ¬ v.ownBlock = some k := fun k t hk ht hv => by
    rcases own4.2 with ⟨e, _⟩ | ⟨g', cap', cur, e, _, hcc, _⟩
    · rw [e] at hv; cases hv
    · rw [e] at hv; cases hv
      exact ne_types hk ⟨cur, hcc⟩ ht rfl
  have hS5 : Row W5 r #[.int .i64 n, .int .u32 mx, v] 30 ∧ Row W5 A0 CE 35 ∧ Row W5 X RA 40 := ⟨hS4.1.off O5 (nt _ _ (row_is hS4.1) (by decide)), hS4.2.1.off O5 (nt _ _ (row_is hS4.2.1) (by decide)), hS4.2.2.off O5 (nt _ _ (row_is hS4.2.2) (by decide))⟩
  have r45 := r44.off O5 (nt _ _ (row_is r44) (by decide))
  refine hK.out _ _ (fun _ => hS5) ?_
  try simp only [Act.put, List.getElem_toArray, List.getElem_cons_zero, List.getElem_cons_succ, List.setIfInBounds_toArray, List.set_cons_zero, List.set_cons_succ]
  refine wpAnyL_ready (rs := [10]) (by kernel_rfl) (by simp) ?_
  refine AllReadyL.cons rfl (fun K hK => ?_) AllReadyL.nil
  go_simp
  refine hK.out _ _ (fun _ => hS5) ?_
  try simp only [Act.put, List.getElem_toArray, List.getElem_cons_zero, List.getElem_cons_succ, List.setIfInBounds_toArray, List.set_cons_zero, List.set_cons_succ]
  refine wpAnyL_ready (rs := [11]) (by kernel_rfl) (by simp) ?_
  refine AllReadyL.cons rfl (fun K hK => ?_) AllReadyL.nil
  go_simp
  refine hK.out _ _ (fun _ => hS5) ?_
  try simp only [Act.put, List.getElem_toArray, List.getElem_cons_zero, List.getElem_cons_succ, List.setIfInBounds_toArray, List.set_cons_zero, List.set_cons_succ]
  have c2 : W5.cell? ⟨r, 2, none⟩ = some v := row_at hS5.1 2 _ rfl
  have f2 := row_frozen hS5.1 2
  have O6 : Off (· = r) W5 (W5.setCell ⟨r, 2, none⟩ (.slice (some ⟨gb, 0, none⟩) (ds.length + 1) cap)) := Off.of_setCell _ _ _ rfl
  have nr : ∀ W k t, isCells W k t → isCells W r 30 → t ≠ 30 → ¬ k = r := fun W k t h1 h2 h3 e => ne_types h1 h2 h3 e
  have X6 := hS5.2.2.off O6 (nr _ _ _ (row_is hS5.2.2) (row_is hS5.1) (by decide))
  have r46 := r45.off O6 (nr _ _ _ (row_is r45) (row_is hS5.1) (by decide))
  have hgr : gb ≠ r := by
    obtain ⟨cur, hcc⟩ := own_is hown5
    exact ne_types (w := W5) ⟨cur, hcc⟩ (row_is hS5.1) (by decide)
  have hrlt : r < w.heap.size := HRM.out.row.lt
  have HM6 : Hid (RM w0 (W5.setCell ⟨r, 2, none⟩ (.slice (some ⟨gb, 0, none⟩) (ds.length + 1) cap)) r n mx (.slice (some ⟨gb, 0, none⟩) (ds.length + 1) cap) (ds ++ [⟨c, R⟩])) := by
    refine ⟨row_set hS5.1 2 _, ?_, fun d hd => ?_, HRM.out.lo, by rw [List.length_append]; simp; omega⟩
    · have e : (ds ++ [(⟨c, R⟩ : Dn)]).length = ds.length + 1 := by simp
      have e2 : flatD (ds ++ [⟨c, R⟩]) = flatD ds ++ (Dn.mk c R).cells := by rw [flatD_append]; simp [flatD]
      rw [e, e2]
      exact ownsRow_off hown5 O6 (fun k hk => by cases hk; exact hgr)
    · rcases List.mem_append.1 hd with q | q
      · exact HRM.out.ok d q
      · simp at q; subst q; exact HDO.out
  have HO6 : Hid (Off (fun k => k = r ∨ v.ownBlock = some k) w (W5.setCell ⟨r, 2, none⟩ (.slice (some ⟨gb, 0, none⟩) (ds.length + 1) cap))) := ((Off.of_below ab4).trans O5 (fun k q => Or.inl (Or.inr q))).trans O6 (fun k q => Or.inl (Or.inl q))
  have HG6 : Hid (v.ownBlock = some gb ∨ w.heap.size ≤ gb) := by
    rcases hat5 with q | q
    · exact Or.inl q
    · exact Or.inr (by rw [q]; exact ab4.size)
  clear hS4 hS5 own4 hown5 hg5 hat5 O5 O6 nt nr r44 r45 ab4 rV HNW M4 hgr
  refine wpAnyL_ready (rs := [12]) (by kernel_rfl) (by simp) ?_
  refine AllReadyL.cons rfl (fun K hK => ?_) AllReadyL.nil
  obtain ⟨vv, HVV⟩ : ∃ vv, Hid (v = vv) := ⟨_, rfl⟩
  rw [HVV.out] at c2
  go_simp
  refine hK.out _ _ (fun q => absurd rfl q) ?_
  try simp only [Act.put, List.getElem_toArray, List.getElem_cons_zero, List.getElem_cons_succ, List.setIfInBounds_toArray, List.set_cons_zero, List.set_cons_succ]
  refine wpAnyL_done (by kernel_rfl) ?_ _
  clear c2 f2
  generalize W5.setCell ⟨r, 2, none⟩ (.slice (some ⟨gb, 0, none⟩) (ds.length + 1) cap) = W6 at X6 r46 HM6 HO6 ⊢
  have O7 : Off (· = A0 + 1) W6 (W6.setRow (A0 + 1) RA) := Off.of_setRow _ _ _ rfl
  have HFIN : Hid (RStep w0 r n mx v ds ⟨c, R⟩ w (W6.setRow (A0 + 1) RA)) := by
    refine ⟨_, HM6.out.off O7 (by have := HA0.out; omega) (fun k hk e => ?_), HO6.out.trans O7 (fun k e => Or.inr (by rw [e, ← HA0.out]; exact Nat.le_succ _)), fun k hk => by cases hk; exact HG6.out⟩
    cases hk
    rcases HM6.out.own.2 with ⟨e2, _⟩ | ⟨g', cap', cur, e2, _, hcc, _⟩
    · cases e2
    · injection e2 with e3
      injection e3 with e3
      injection e3 with e3
      subst e3
      exact ne_types (w := W6) ⟨cur, hcc⟩ (row_is r46) (by decide) e
  clear O7
  have tl : Hid (1 = 1) := rfl
  have ts : Hid (1 = 1) := rfl
  go_wp2_with (first
    | (have hh := tl; clear hh tl; refine load_cells rfl 40 (.tmp 5) rfl X rfl 40 RA X6 67 Try.underlying40 rfl size40 HRS.out ?_)
    | (have hh := ts; clear hh ts; refine store_cells rfl 40 (.tmp 4) (.tmp 21) rfl (A0 + 1) RA rfl rfl 40 _ r46 67 size40 HZS.out HRS.out ro ?_))
  refine bodyPost_ret (v := .agg RA) (ret_cell (fn := Try.f13) rfl _ _ (A0 + 1) 40 RA _ rfl (r46.set _) Try.underlying40 rfl (by rw [size40, HRS.out])) rfl ?_
  rw [HPP.out]
  exact ⟨by rw [HRA.out], HFIN.out⟩
end Go.Proofs.Ytpncmbkklkfmnaa
