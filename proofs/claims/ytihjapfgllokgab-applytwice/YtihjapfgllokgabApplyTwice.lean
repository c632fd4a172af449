/-
  Proved here: a log replayed twice, and behind a part of it, makes the same page.
-/
import Derived.Test.YtihjapfgllokgabOpp
import Derived.Test.YtihjapfgllokgabFcu
namespace Go.Proofs.Ytihjapfgllokgab.applyTwice
open Go.ChangeShapes Go.WideShapes Go.ChangeAt Go.RowKit
open Go.Deep
set_option linter.unusedVariables false
set_option linter.unusedSimpArgs false

theorem own : ownKnob Try.prog.godebug = none := by kernel_rfl

set_option maxHeartbeats 4000000 in
set_option maxRecDepth 20000 in
theorem walk (w : World) (u : Bool) (no : Int) (p : List Int) (v : Value) (es : List En) (n : Int) (hno : 0 ≤ no ∧ no ≤ 65535) (hp : p.length = 224) (hb : Bytes p) (hl : Log w v es ∧ (∀ e ∈ es, e.Fits) ∧ es.length * 304 ≤ 140737488355328) (hn : (Lit.int .i64 n).wf = true) :
    Calls Try.prog 4 #[.agg #[.bool u, .int .u16 no], .agg (bs p), v, .int .i64 n] w fun e w' => e = .returned (.bool true) ∧ Below w.heap.size w w' := by
  have hz := zero26
  obtain ⟨hlg, hft, hsz⟩ := hl
  have HRP : Hid _ := fun q v es w => replay_any u no q v es w hno
  have HAW : Hid _ := fun w => awake_any w
  have HFE : Hid _ := fun (w : World) (hl : Log w v es) => few_any v es w hl hft (by omega)
  have hpb : (bs p).size = 224 := by rw [bs_size, hp]
  have r0 : Row ((w.alloc (.cells #[.bool u, .int .u16 no] 24)).alloc (.cells (bs p) 26)) w.heap.size #[.bool u, .int .u16 no] 24 := (Row.new _ _ _).alloc _
  have r1 : Row ((w.alloc (.cells #[.bool u, .int .u16 no] 24)).alloc (.cells (bs p) 26)) (w.heap.size + 1) (bs p) 26 := by have := Row.new (w.alloc (.cells #[.bool u, .int .u16 no] 24)) (bs p) 26; simpa using this
  have ab : Below w.heap.size w ((w.alloc (.cells #[.bool u, .int .u16 no] 24)).alloc (.cells (bs p) 26)) := ((Below.refl _ _).alloc (Nat.le_refl _) _).alloc (by simp) _
  have HLG : Hid (Log ((w.alloc (.cells #[.bool u, .int .u16 no] 24)).alloc (.cells (bs p) 26)) v es) := hlg.keep ab
  clear hlg
  go_enter Try.func4, Try.ntmps4
  go_upto_region 1 with fail
  generalize (w.alloc (.cells #[.bool u, .int .u16 no] 24)).alloc (.cells (bs p) 26) = w1 at r0 r1 ab HLG ⊢
  go_upto_region 2 with (first
    | (go_at_call 10; refine (HFE.out _ HLG.out).mono ?_; clear HFE; rintro e w2 ⟨v', rfl, hO, h2⟩))
  obtain ⟨l, HLL⟩ : ∃ l, Hid (fewN es (min 40 es.length) = l) := ⟨_, rfl⟩
  rw [HLL.out] at hO
  have hfl : ∀ e ∈ l, e.Fits := by rw [← HLL.out]; exact fewN_fits es hft _ (by omega)
  have hri : Rises 0 l := by rw [← HLL.out]; exact fewN_rises es _
  have hll : l.length ≤ 40 := by rw [← HLL.out, fewN_length es _ (by omega)]; omega
  have HOL : Hid (Log w2 v' l) := hO.log (fun x hx => (hfl x hx).r.len)
  obtain ⟨oa, cap, rfl, hlc, hcm⟩ := hO.room
  clear hO HLG hft hsz
  have r0 := r0.below h2 r0.lt
  have r1 := r1.below h2 r1.lt
  have ab := ab.trans (h2.mono ab.size)
  clear h2
  have HR1 : Hid _ := fun (w : World) (h : Log w (.slice oa l.length cap) l) => HRP.out p _ l w hp hb h hfl (by omega)
  have hP1 := replayR_ok u no p l hfl hp hb
  have HR3 : Hid _ := fun (w : World) (h : Log w (.slice oa l.length cap) l) => HRP.out (replayR u no p l) _ l w hP1.1 hP1.2 h hfl (by omega)
  rw [replay_twice hno hp hb hfl hri] at HR3
  have HP1 : Hid _ := fun k : Nat => replay_part (u := u) (k := k) hno hp hb hfl hri
  generalize HX : replayR u no p l = P1 at HR1 HR3 hP1 HP1
  have HXX : Hid _ := HX
  clear HX
  have hP1b : (bs P1).size = 224 := by rw [bs_size, hP1.1]
  obtain ⟨m, HM⟩ : ∃ m, Hid (l.length = m) := ⟨_, rfl⟩
  rw [HM.out] at hll hlc HOL HR1 HR3 ⊢
  go_upto_region 3 with (first
    | (refine load_cells rfl 24 (.tmp 4) rfl w.heap.size rfl 24 #[.bool u, .int .u16 no] r0 2 Try.underlying24 rfl size24 rfl ?_)
    | (refine load_row rfl 26 (.tmp 5) rfl (w.heap.size + 1) rfl 26 (bs p) r1 224 5 Try.underlying26 size26 hpb ?_)
    | (go_at_call 8; refine (HR1.out _ HOL.out).mono ?_; rintro e w3 ⟨rfl, h3⟩
       have q2 : Row (w3.alloc (.cells (bs (zs 224)) 26)) w3.heap.size (bs (zs 224)) 26 := Row.new _ _ _)
    | (refine store_row rfl 26 (.tmp 10) (.tmp 18) rfl w3.heap.size P1 rfl rfl 26 _ q2 224 size26 (by rw [bs_size, zs_length]) hP1.1 ?_))
  have HOL : Hid (Log w3 (.slice oa m cap) l) := HOL.out.keep h3
  have r0 := r0.below h3 r0.lt
  have r1 := r1.below h3 r1.lt
  have l0 := r0.lt
  have l1 := r1.lt
  have ab := ab.trans (h3.mono ab.size)
  clear h3
  have HOL : Hid (Log ((w3.alloc (.cells (bs (zs 224)) 26)).setRow w3.heap.size (bs P1)) (.slice oa m cap) l) := HOL.out.keep (below_setRow ((Below.refl _ _).alloc (Nat.le_refl _) (.cells (bs (zs 224)) 26)) (Nat.le_refl _) (bs P1))
  have r0 := (r0.alloc (.cells (bs (zs 224)) 26)).other (g := w3.heap.size) (by omega) (bs P1)
  have r1 := (r1.alloc (.cells (bs (zs 224)) 26)).other (g := w3.heap.size) (by omega) (bs P1)
  have q2 := q2.set (bs P1)
  have ab := below_setRow (ab.alloc ab.size (.cells (bs (zs 224)) 26)) ab.size (bs P1)
  generalize (w3.alloc (.cells (bs (zs 224)) 26)).setRow w3.heap.size (bs P1) = w4 at r0 r1 q2 ab HOL ⊢
  generalize w3.heap.size = g1 at q2 l0 l1 ⊢
  go_upto_region 4 with fail
  obtain ⟨k, HK, hkm⟩ : ∃ k : Nat, wrap64 ((IntKind.u64.wrap n).tmod (↑m + 1)) = (k : Int) ∧ k ≤ m := by
    have h0 : 0 ≤ IntKind.u64.wrap n := by rw [IntKind.wrap_u64]; omega
    have h1 := Int.tmod_nonneg ((m : Int) + 1) h0
    have h2 := Int.tmod_lt_of_pos (IntKind.u64.wrap n) (show (0 : Int) < (m : Int) + 1 by omega)
    generalize (IntKind.u64.wrap n).tmod ((m : Int) + 1) = x at h1 h2
    refine ⟨x.toNat, ?_, by omega⟩
    rw [Int.toNat_of_nonneg h1]
    unfold wrap64
    omega
  rw [HK]
  clear HK
  generalize (IntKind.u64.wrap n).tmod ((m : Int) + 1) = xx
  have hkc : k ≤ cap := by omega
  have hft : ∀ e ∈ l.take k, e.Fits := fun e he => hfl e (List.mem_of_mem_take he)
  have hP2 := replayR_ok u no p (l.take k) hft hp hb
  have HR2 : Hid _ := fun (w : World) (h : Log w (.slice oa k cap) (l.take k)) => HRP.out p _ (l.take k) w hp hb h hft (by rw [List.length_take]; omega)
  have HR4 : Hid _ := fun (w : World) (h : Log w (.slice oa m cap) l) => HRP.out (replayR u no p (l.take k)) _ l w hP2.1 hP2.2 h hfl (by rw [HM.out]; omega)
  rw [HP1.out k] at HR4
  generalize replayR u no p (l.take k) = P2 at HR2 HR4 hP2
  have hP2b : (bs P2).size = 224 := by rw [bs_size, hP2.1]
  have heq := equal26 P1 P1 hP1.1 hP1.1
  simp only [decide_true] at heq
  clear HP1 hft hri HRP HXX
  refine wp_region_held_drew (S := fun w' => Row w' w.heap.size #[.bool u, .int .u16 no] 24 ∧ Row w' (w.heap.size + 1) (bs p) 26 ∧ Row w' g1 (bs P1) 26 ∧ Below w4.heap.size w4 w') (by kernel_rfl) ⟨r0, r1, q2, (Below.refl _ _).drew⟩ fun hS => ?_
  generalize w4.drew = wd at hS ⊢
  refine wpAnyH_take (i := 0) (v := .agg #[.bool u, .int .u16 no]) rfl (by kernel_rfl) (by kernel_rfl) (by kernel_rfl) (fun _ _ _ h => h) (yields_cells (by rfl) 24 (.tmp 4) rfl w.heap.size rfl 24 #[.bool u, .int .u16 no] (fun w h => h.1) 2 Try.underlying24 rfl size24 rfl) hS ?_
  try simp only [Act.put, List.getElem_toArray, List.getElem_cons_zero, List.getElem_cons_succ, List.setIfInBounds_toArray, List.set_cons_zero, List.set_cons_succ]
  refine wpAnyH_take (i := 1) (v := .agg (bs p)) rfl (by kernel_rfl) (by kernel_rfl) (by kernel_rfl) (fun _ _ _ h => h) (yields_row (by rfl) 26 (.tmp 5) rfl (w.heap.size + 1) rfl 26 (bs p) (fun w h => h.2.1) 224 5 Try.underlying26 size26 hpb) hS ?_
  try simp only [Act.put, List.getElem_toArray, List.getElem_cons_zero, List.getElem_cons_succ, List.setIfInBounds_toArray, List.set_cons_zero, List.set_cons_succ]
  refine wpAnyH_take (i := 2) (v := .slice oa m cap) rfl (by kernel_rfl) (by kernel_rfl) (by kernel_rfl) (fun _ _ _ h => h) (Or.inl ⟨by rfl, fun w _ => by go_simp⟩) hS ?_
  try simp only [Act.put, List.getElem_toArray, List.getElem_cons_zero, List.getElem_cons_succ, List.setIfInBounds_toArray, List.set_cons_zero, List.set_cons_succ]
  refine wpAnyH_take (i := 3) (v := .int .i64 k) rfl (by kernel_rfl) (by kernel_rfl) (by kernel_rfl) (fun _ _ _ h => h) (Or.inl ⟨by rfl, fun w _ => by go_simp⟩) hS ?_
  try simp only [Act.put, List.getElem_toArray, List.getElem_cons_zero, List.getElem_cons_succ, List.setIfInBounds_toArray, List.set_cons_zero, List.set_cons_succ]
  refine wpAnyH_take (i := 4) (v := .slice oa k cap) rfl (by kernel_rfl) (by kernel_rfl) (by kernel_rfl) (fun _ _ _ h => h) (Or.inl ⟨by rfl, fun w _ => by go_simp⟩) hS ?_
  try simp only [Act.put, List.getElem_toArray, List.getElem_cons_zero, List.getElem_cons_succ, List.setIfInBounds_toArray, List.set_cons_zero, List.set_cons_succ]
  refine wpAnyH_ready (rs := [5, 6]) (by kernel_rfl) (by simp) ?_
  exact (AllReadyH.cons rfl (fun K hK => by
    go_simp
    go_at_call 8
    refine Calls.mono (HR2.out _ ((HOL.out.keep hS.2.2.2).take k hkm)) ?_
    rintro e w1_5 ⟨rfl, hcb⟩
    refine hK.out _ _ (⟨hS.1.below hcb hS.1.lt, hS.2.1.below hcb hS.2.1.lt, hS.2.2.1.below hcb hS.2.2.1.lt, hS.2.2.2.trans (hcb.mono hS.2.2.2.size)⟩) fun hS => ?_
    try simp only [Act.put, List.getElem_toArray, List.getElem_cons_zero, List.getElem_cons_succ, List.setIfInBounds_toArray, List.set_cons_zero, List.set_cons_succ]
    clear hcb
    refine wpAnyH_ready (rs := [6]) (by kernel_rfl) (by simp) ?_
    refine AllReadyH.cons rfl (fun K hK => ?_) AllReadyH.nil
    have ng2 := hS.2.2.2.size
    have ng2s0 := hS.1.lt
    have ng2s1 := hS.2.1.lt
    have ng2s2 := hS.2.2.1.lt
    have q3 : Row (w1_5.alloc (.cells (bs (zs 224)) 26)) w1_5.heap.size (bs (zs 224)) 26 := Row.new _ _ _
    go_simp
    refine hK.out _ _ (⟨hS.1.alloc _, hS.2.1.alloc _, hS.2.2.1.alloc _, hS.2.2.2.alloc hS.2.2.2.size _⟩) fun hS => ?_
    try simp only [Act.put, List.getElem_toArray, List.getElem_cons_zero, List.getElem_cons_succ, List.setIfInBounds_toArray, List.set_cons_zero, List.set_cons_succ]
    generalize w1_5.alloc (.cells (bs (zs 224)) 26) = w2_6 at q3  hS ⊢
    generalize w1_5.heap.size = g2 at q3 ng2 ng2s0 ng2s1 ng2s2 ⊢
    refine wpAnyH_ready (rs := [7]) (by kernel_rfl) (by simp) ?_
    refine AllReadyH.cons rfl (fun K hK => ?_) AllReadyH.nil
    refine step_cells rfl 26 (.tmp 12) (.tmp 32) rfl g2 (bs P2) rfl rfl 26 _ q3 224 size26 (by rw [bs_size, zs_length]) hP2b (bs_one _) (hK.out _ _ ⟨hS.1.other (by omega) _, hS.2.1.other (by omega) _, hS.2.2.1.other (by omega) _, below_setRow hS.2.2.2 (by omega) _⟩ fun hS => ?_)
    try simp only [Act.put, List.getElem_toArray, List.getElem_cons_zero, List.getElem_cons_succ, List.setIfInBounds_toArray, List.set_cons_zero, List.set_cons_succ]
    have q3 := q3.set (bs P2)
    generalize w2_6.setRow g2 (bs P2) = w3_7 at q3 hS ⊢
    refine wpAnyH_done (by kernel_rfl) ?_ _
    have r0 := hS.1
    have q2 := hS.2.2.1
    have hb4 := hS.2.2.2
    have HOL : Hid (Log w3_7 (.slice oa m cap) l) := HOL.out.keep hb4
    have ab := ab.trans (hb4.mono ab.size)
    clear hS hb4 r1 HR1 HR2
    go_upto_region 5 with fail
    refine wp_region_held_drew (S := fun w' => Row w' w.heap.size #[.bool u, .int .u16 no] 24 ∧ Row w' g1 (bs P1) 26 ∧ Row w' g2 (bs P2) 26 ∧ Below w3_7.heap.size w3_7 w') (by kernel_rfl) ⟨r0, q2, q3, (Below.refl _ _).drew⟩ fun hS => ?_
    refine wpAnyH_take (i := 0) (v := .agg #[.bool u, .int .u16 no]) rfl (by kernel_rfl) (by kernel_rfl) (by kernel_rfl) (fun _ _ _ h => h) (yields_cells (by rfl) 24 (.tmp 4) rfl w.heap.size rfl 24 #[.bool u, .int .u16 no] (fun w h => h.1) 2 Try.underlying24 rfl size24 rfl) hS ?_
    try simp only [Act.put, List.getElem_toArray, List.getElem_cons_zero, List.getElem_cons_succ, List.setIfInBounds_toArray, List.set_cons_zero, List.set_cons_succ]
    refine wpAnyH_take (i := 1) (v := .agg (bs P1)) rfl (by kernel_rfl) (by kernel_rfl) (by kernel_rfl) (fun _ _ _ h => h) (yields_row (by rfl) 26 (.tmp 10) rfl g1 rfl 26 (bs P1) (fun w h => h.2.1) 224 5 Try.underlying26 size26 hP1b) hS ?_
    try simp only [Act.put, List.getElem_toArray, List.getElem_cons_zero, List.getElem_cons_succ, List.setIfInBounds_toArray, List.set_cons_zero, List.set_cons_succ]
    refine wpAnyH_take (i := 2) (v := .slice oa m cap) rfl (by kernel_rfl) (by kernel_rfl) (by kernel_rfl) (fun _ _ _ h => h) (Or.inl ⟨by rfl, fun w _ => by go_simp⟩) hS ?_
    try simp only [Act.put, List.getElem_toArray, List.getElem_cons_zero, List.getElem_cons_succ, List.setIfInBounds_toArray, List.set_cons_zero, List.set_cons_succ]
    refine wpAnyH_take (i := 4) (v := .agg (bs P1)) rfl (by kernel_rfl) (by kernel_rfl) (by kernel_rfl) (fun _ _ _ h => h) (yields_row (by rfl) 26 (.tmp 10) rfl g1 rfl 26 (bs P1) (fun w h => h.2.1) 224 5 Try.underlying26 size26 hP1b) hS ?_
    try simp only [Act.put, List.getElem_toArray, List.getElem_cons_zero, List.getElem_cons_succ, List.setIfInBounds_toArray, List.set_cons_zero, List.set_cons_succ]
    refine wpAnyH_ready (rs := [3]) (by kernel_rfl) (by simp) ?_
    refine AllReadyH.cons rfl (fun K hK => ?_) AllReadyH.nil
    go_simp
    go_at_call 8
    refine Calls.mono (HR3.out _ (HOL.out.keep hS.2.2.2)) ?_
    rintro e wc ⟨rfl, hcb⟩
    refine hK.out _ _ (⟨hS.1.below hcb hS.1.lt, hS.2.1.below hcb hS.2.1.lt, hS.2.2.1.below hcb hS.2.2.1.lt, hS.2.2.2.trans (hcb.mono hS.2.2.2.size)⟩) fun hS => ?_
    try simp only [Act.put, List.getElem_toArray, List.getElem_cons_zero, List.getElem_cons_succ, List.setIfInBounds_toArray, List.set_cons_zero, List.set_cons_succ]
    clear hcb
    refine wpAnyH_take (i := 5) (v := .bool true) rfl (by kernel_rfl) (by kernel_rfl) (by kernel_rfl) (fun _ _ _ h => h) (yields_eq (by rfl) 26 26 (.tmp 36) (.tmp 37) rfl (bs P1) (bs P1) rfl rfl Try.eqGuardType26 true heq) hS ?_
    try simp only [Act.put, List.getElem_toArray, List.getElem_cons_zero, List.getElem_cons_succ, List.setIfInBounds_toArray, List.set_cons_zero, List.set_cons_succ]
    refine wpAnyH_take (i := 6) (v := .bool true) rfl (by kernel_rfl) (by kernel_rfl) (by kernel_rfl) (fun _ _ _ h => h) (Or.inl ⟨by rfl, fun w _ => by go_simp⟩) hS ?_
    try simp only [Act.put, List.getElem_toArray, List.getElem_cons_zero, List.getElem_cons_succ, List.setIfInBounds_toArray, List.set_cons_zero, List.set_cons_succ]
    refine wpAnyH_take (i := 7) (v := .agg #[.bool u, .int .u16 no]) rfl (by kernel_rfl) (by kernel_rfl) (by kernel_rfl) (fun _ _ _ h => h) (yields_cells (by rfl) 24 (.tmp 4) rfl w.heap.size rfl 24 #[.bool u, .int .u16 no] (fun w h => h.1) 2 Try.underlying24 rfl size24 rfl) hS ?_
    try simp only [Act.put, List.getElem_toArray, List.getElem_cons_zero, List.getElem_cons_succ, List.setIfInBounds_toArray, List.set_cons_zero, List.set_cons_succ]
    refine wpAnyH_take (i := 8) (v := .agg (bs P2)) rfl (by kernel_rfl) (by kernel_rfl) (by kernel_rfl) (fun _ _ _ h => h) (yields_row (by rfl) 26 (.tmp 12) rfl g2 rfl 26 (bs P2) (fun w h => h.2.2.1) 224 5 Try.underlying26 size26 hP2b) hS ?_
    try simp only [Act.put, List.getElem_toArray, List.getElem_cons_zero, List.getElem_cons_succ, List.setIfInBounds_toArray, List.set_cons_zero, List.set_cons_succ]
    refine wpAnyH_take (i := 9) (v := .slice oa m cap) rfl (by kernel_rfl) (by kernel_rfl) (by kernel_rfl) (fun _ _ _ h => h) (Or.inl ⟨by rfl, fun w _ => by go_simp⟩) hS ?_
    try simp only [Act.put, List.getElem_toArray, List.getElem_cons_zero, List.getElem_cons_succ, List.setIfInBounds_toArray, List.set_cons_zero, List.set_cons_succ]
    refine wpAnyH_take (i := 11) (v := .agg (bs P1)) rfl (by kernel_rfl) (by kernel_rfl) (by kernel_rfl) (fun _ _ _ h => h) (yields_row (by rfl) 26 (.tmp 10) rfl g1 rfl 26 (bs P1) (fun w h => h.2.1) 224 5 Try.underlying26 size26 hP1b) hS ?_
    try simp only [Act.put, List.getElem_toArray, List.getElem_cons_zero, List.getElem_cons_succ, List.setIfInBounds_toArray, List.set_cons_zero, List.set_cons_succ]
    refine wpAnyH_ready (rs := [10]) (by kernel_rfl) (by simp) ?_
    refine AllReadyH.cons rfl (fun K hK => ?_) AllReadyH.nil
    go_simp
    go_at_call 8
    refine Calls.mono (HR4.out _ (HOL.out.keep hS.2.2.2)) ?_
    rintro e w2_10 ⟨rfl, hcb⟩
    refine hK.out _ _ (⟨hS.1.below hcb hS.1.lt, hS.2.1.below hcb hS.2.1.lt, hS.2.2.1.below hcb hS.2.2.1.lt, hS.2.2.2.trans (hcb.mono hS.2.2.2.size)⟩) fun hS => ?_
    try simp only [Act.put, List.getElem_toArray, List.getElem_cons_zero, List.getElem_cons_succ, List.setIfInBounds_toArray, List.set_cons_zero, List.set_cons_succ]
    clear hcb
    refine wpAnyH_take (i := 12) (v := .bool true) rfl (by kernel_rfl) (by kernel_rfl) (by kernel_rfl) (fun _ _ _ h => h) (yields_eq (by rfl) 26 26 (.tmp 43) (.tmp 44) rfl (bs P1) (bs P1) rfl rfl Try.eqGuardType26 true heq) hS ?_
    try simp only [Act.put, List.getElem_toArray, List.getElem_cons_zero, List.getElem_cons_succ, List.setIfInBounds_toArray, List.set_cons_zero, List.set_cons_succ]
    refine wpAnyH_take (i := 13) (v := .bool true) rfl (by kernel_rfl) (by kernel_rfl) (by kernel_rfl) (fun _ _ _ h => h) (Or.inl ⟨by rfl, fun w _ => by go_simp⟩) hS ?_
    try simp only [Act.put, List.getElem_toArray, List.getElem_cons_zero, List.getElem_cons_succ, List.setIfInBounds_toArray, List.set_cons_zero, List.set_cons_succ]
    refine wpAnyH_take (i := 14) (v := .bool true) rfl (by kernel_rfl) (by kernel_rfl) (by kernel_rfl) (fun _ _ _ h => h) (Or.inl ⟨by rfl, fun w _ => by go_simp⟩) hS ?_
    try simp only [Act.put, List.getElem_toArray, List.getElem_cons_zero, List.getElem_cons_succ, List.setIfInBounds_toArray, List.set_cons_zero, List.set_cons_succ]
    refine wpAnyH_ready (rs := [15]) (by kernel_rfl) (by simp) ?_
    refine AllReadyH.cons rfl (fun K hK => ?_) AllReadyH.nil
    go_simp
    go_at_call 7
    refine Calls.mono (HAW.out _) ?_
    rintro e w3_15 ⟨rfl, hcb⟩
    refine hK.out _ _ (⟨hS.1.below hcb hS.1.lt, hS.2.1.below hcb hS.2.1.lt, hS.2.2.1.below hcb hS.2.2.1.lt, hS.2.2.2.trans (hcb.mono hS.2.2.2.size)⟩) fun hS => ?_
    try simp only [Act.put, List.getElem_toArray, List.getElem_cons_zero, List.getElem_cons_succ, List.setIfInBounds_toArray, List.set_cons_zero, List.set_cons_succ]
    clear hcb
    refine wpAnyH_take (i := 16) (v := .bool true) rfl (by kernel_rfl) (by kernel_rfl) (by kernel_rfl) (fun _ _ _ h => h) (Or.inl ⟨by rfl, fun w _ => by go_simp⟩) hS ?_
    try simp only [Act.put, List.getElem_toArray, List.getElem_cons_zero, List.getElem_cons_succ, List.setIfInBounds_toArray, List.set_cons_zero, List.set_cons_succ]
    refine wpAnyH_take (i := 17) (v := .bool true) rfl (by kernel_rfl) (by kernel_rfl) (by kernel_rfl) (fun _ _ _ h => h) (Or.inl ⟨by rfl, fun w _ => by go_simp⟩) hS ?_
    try simp only [Act.put, List.getElem_toArray, List.getElem_cons_zero, List.getElem_cons_succ, List.setIfInBounds_toArray, List.set_cons_zero, List.set_cons_succ]
    refine wpAnyH_done (by kernel_rfl) ?_ _
    go_wp2
    go_ret
    exact ⟨rfl, ab.trans (hS.2.2.2.mono ab.size)⟩
  ) (AllReadyH.cons rfl (fun K hK => by
    have ng2 := hS.2.2.2.size
    have ng2s0 := hS.1.lt
    have ng2s1 := hS.2.1.lt
    have ng2s2 := hS.2.2.1.lt
    have q3 : Row (wd.alloc (.cells (bs (zs 224)) 26)) wd.heap.size (bs (zs 224)) 26 := Row.new _ _ _
    go_simp
    refine hK.out _ _ (⟨hS.1.alloc _, hS.2.1.alloc _, hS.2.2.1.alloc _, hS.2.2.2.alloc hS.2.2.2.size _⟩) fun hS => ?_
    try simp only [Act.put, List.getElem_toArray, List.getElem_cons_zero, List.getElem_cons_succ, List.setIfInBounds_toArray, List.set_cons_zero, List.set_cons_succ]
    generalize wd.alloc (.cells (bs (zs 224)) 26) = w1_6 at q3  hS ⊢
    generalize wd.heap.size = g2 at q3 ng2 ng2s0 ng2s1 ng2s2 ⊢
    refine wpAnyH_ready (rs := [5]) (by kernel_rfl) (by simp) ?_
    refine AllReadyH.cons rfl (fun K hK => ?_) AllReadyH.nil
    go_simp
    go_at_call 8
    refine Calls.mono (HR2.out _ ((HOL.out.keep hS.2.2.2).take k hkm)) ?_
    rintro e w2_5 ⟨rfl, hcb⟩
    have q3 := q3.below hcb q3.lt
    refine hK.out _ _ (⟨hS.1.below hcb hS.1.lt, hS.2.1.below hcb hS.2.1.lt, hS.2.2.1.below hcb hS.2.2.1.lt, hS.2.2.2.trans (hcb.mono hS.2.2.2.size)⟩) fun hS => ?_
    try simp only [Act.put, List.getElem_toArray, List.getElem_cons_zero, List.getElem_cons_succ, List.setIfInBounds_toArray, List.set_cons_zero, List.set_cons_succ]
    clear hcb
    refine wpAnyH_ready (rs := [7]) (by kernel_rfl) (by simp) ?_
    refine AllReadyH.cons rfl (fun K hK => ?_) AllReadyH.nil
    refine step_cells rfl 26 (.tmp 12) (.tmp 32) rfl g2 (bs P2) rfl rfl 26 _ q3 224 size26 (by rw [bs_size, zs_length]) hP2b (bs_one _) (hK.out _ _ ⟨hS.1.other (by omega) _, hS.2.1.other (by omega) _, hS.2.2.1.other (by omega) _, below_setRow hS.2.2.2 (by omega) _⟩ fun hS => ?_)
    try simp only [Act.put, List.getElem_toArray, List.getElem_cons_zero, List.getElem_cons_succ, List.setIfInBounds_toArray, List.set_cons_zero, List.set_cons_succ]
    have q3 := q3.set (bs P2)
    generalize w2_5.setRow g2 (bs P2) = w3_7 at q3 hS ⊢
    refine wpAnyH_done (by kernel_rfl) ?_ _
    have r0 := hS.1
    have q2 := hS.2.2.1
    have hb4 := hS.2.2.2
    have HOL : Hid (Log w3_7 (.slice oa m cap) l) := HOL.out.keep hb4
    have ab := ab.trans (hb4.mono ab.size)
    clear hS hb4 r1 HR1 HR2
    go_upto_region 5 with fail
    refine wp_region_held_drew (S := fun w' => Row w' w.heap.size #[.bool u, .int .u16 no] 24 ∧ Row w' g1 (bs P1) 26 ∧ Row w' g2 (bs P2) 26 ∧ Below w3_7.heap.size w3_7 w') (by kernel_rfl) ⟨r0, q2, q3, (Below.refl _ _).drew⟩ fun hS => ?_
    refine wpAnyH_take (i := 0) (v := .agg #[.bool u, .int .u16 no]) rfl (by kernel_rfl) (by kernel_rfl) (by kernel_rfl) (fun _ _ _ h => h) (yields_cells (by rfl) 24 (.tmp 4) rfl w.heap.size rfl 24 #[.bool u, .int .u16 no] (fun w h => h.1) 2 Try.underlying24 rfl size24 rfl) hS ?_
    try simp only [Act.put, List.getElem_toArray, List.getElem_cons_zero, List.getElem_cons_succ, List.setIfInBounds_toArray, List.set_cons_zero, List.set_cons_succ]
    refine wpAnyH_take (i := 1) (v := .agg (bs P1)) rfl (by kernel_rfl) (by kernel_rfl) (by kernel_rfl) (fun _ _ _ h => h) (yields_row (by rfl) 26 (.tmp 10) rfl g1 rfl 26 (bs P1) (fun w h => h.2.1) 224 5 Try.underlying26 size26 hP1b) hS ?_
    try simp only [Act.put, List.getElem_toArray, List.getElem_cons_zero, List.getElem_cons_succ, List.setIfInBounds_toArray, List.set_cons_zero, List.set_cons_succ]
    refine wpAnyH_take (i := 2) (v := .slice oa m cap) rfl (by kernel_rfl) (by kernel_rfl) (by kernel_rfl) (fun _ _ _ h => h) (Or.inl ⟨by rfl, fun w _ => by go_simp⟩) hS ?_
    try simp only [Act.put, List.getElem_toArray, List.getElem_cons_zero, List.getElem_cons_succ, List.setIfInBounds_toArray, List.set_cons_zero, List.set_cons_succ]
    refine wpAnyH_take (i := 4) (v := .agg (bs P1)) rfl (by kernel_rfl) (by kernel_rfl) (by kernel_rfl) (fun _ _ _ h => h) (yields_row (by rfl) 26 (.tmp 10) rfl g1 rfl 26 (bs P1) (fun w h => h.2.1) 224 5 Try.underlying26 size26 hP1b) hS ?_
    try simp only [Act.put, List.getElem_toArray, List.getElem_cons_zero, List.getElem_cons_succ, List.setIfInBounds_toArray, List.set_cons_zero, List.set_cons_succ]
    refine wpAnyH_ready (rs := [3]) (by kernel_rfl) (by simp) ?_
    refine AllReadyH.cons rfl (fun K hK => ?_) AllReadyH.nil
    go_simp
    go_at_call 8
    refine Calls.mono (HR3.out _ (HOL.out.keep hS.2.2.2)) ?_
    rintro e wc ⟨rfl, hcb⟩
    refine hK.out _ _ (⟨hS.1.below hcb hS.1.lt, hS.2.1.below hcb hS.2.1.lt, hS.2.2.1.below hcb hS.2.2.1.lt, hS.2.2.2.trans (hcb.mono hS.2.2.2.size)⟩) fun hS => ?_
    try simp only [Act.put, List.getElem_toArray, List.getElem_cons_zero, List.getElem_cons_succ, List.setIfInBounds_toArray, List.set_cons_zero, List.set_cons_succ]
    clear hcb
    refine wpAnyH_take (i := 5) (v := .bool true) rfl (by kernel_rfl) (by kernel_rfl) (by kernel_rfl) (fun _ _ _ h => h) (yields_eq (by rfl) 26 26 (.tmp 36) (.tmp 37) rfl (bs P1) (bs P1) rfl rfl Try.eqGuardType26 true heq) hS ?_
    try simp only [Act.put, List.getElem_toArray, List.getElem_cons_zero, List.getElem_cons_succ, List.setIfInBounds_toArray, List.set_cons_zero, List.set_cons_succ]
    refine wpAnyH_take (i := 6) (v := .bool true) rfl (by kernel_rfl) (by kernel_rfl) (by kernel_rfl) (fun _ _ _ h => h) (Or.inl ⟨by rfl, fun w _ => by go_simp⟩) hS ?_
    try simp only [Act.put, List.getElem_toArray, List.getElem_cons_zero, List.getElem_cons_succ, List.setIfInBounds_toArray, List.set_cons_zero, List.set_cons_succ]
    refine wpAnyH_take (i := 7) (v := .agg #[.bool u, .int .u16 no]) rfl (by kernel_rfl) (by kernel_rfl) (by kernel_rfl) (fun _ _ _ h => h) (yields_cells (by rfl) 24 (.tmp 4) rfl w.heap.size rfl 24 #[.bool u, .int .u16 no] (fun w h => h.1) 2 Try.underlying24 rfl size24 rfl) hS ?_
    try simp only [Act.put, List.getElem_toArray, List.getElem_cons_zero, List.getElem_cons_succ, List.setIfInBounds_toArray, List.set_cons_zero, List.set_cons_succ]
    refine wpAnyH_take (i := 8) (v := .agg (bs P2)) rfl (by kernel_rfl) (by kernel_rfl) (by kernel_rfl) (fun _ _ _ h => h) (yields_row (by rfl) 26 (.tmp 12) rfl g2 rfl 26 (bs P2) (fun w h => h.2.2.1) 224 5 Try.underlying26 size26 hP2b) hS ?_
    try simp only [Act.put, List.getElem_toArray, List.getElem_cons_zero, List.getElem_cons_succ, List.setIfInBounds_toArray, List.set_cons_zero, List.set_cons_succ]
    refine wpAnyH_take (i := 9) (v := .slice oa m cap) rfl (by kernel_rfl) (by kernel_rfl) (by kernel_rfl) (fun _ _ _ h => h) (Or.inl ⟨by rfl, fun w _ => by go_simp⟩) hS ?_
    try simp only [Act.put, List.getElem_toArray, List.getElem_cons_zero, List.getElem_cons_succ, List.setIfInBounds_toArray, List.set_cons_zero, List.set_cons_succ]
    refine wpAnyH_take (i := 11) (v := .agg (bs P1)) rfl (by kernel_rfl) (by kernel_rfl) (by kernel_rfl) (fun _ _ _ h => h) (yields_row (by rfl) 26 (.tmp 10) rfl g1 rfl 26 (bs P1) (fun w h => h.2.1) 224 5 Try.underlying26 size26 hP1b) hS ?_
    try simp only [Act.put, List.getElem_toArray, List.getElem_cons_zero, List.getElem_cons_succ, List.setIfInBounds_toArray, List.set_cons_zero, List.set_cons_succ]
    refine wpAnyH_ready (rs := [10]) (by kernel_rfl) (by simp) ?_
    refine AllReadyH.cons rfl (fun K hK => ?_) AllReadyH.nil
    go_simp
    go_at_call 8
    refine Calls.mono (HR4.out _ (HOL.out.keep hS.2.2.2)) ?_
    rintro e w2_10 ⟨rfl, hcb⟩
    refine hK.out _ _ (⟨hS.1.below hcb hS.1.lt, hS.2.1.below hcb hS.2.1.lt, hS.2.2.1.below hcb hS.2.2.1.lt, hS.2.2.2.trans (hcb.mono hS.2.2.2.size)⟩) fun hS => ?_
    try simp only [Act.put, List.getElem_toArray, List.getElem_cons_zero, List.getElem_cons_succ, List.setIfInBounds_toArray, List.set_cons_zero, List.set_cons_succ]
    clear hcb
    refine wpAnyH_take (i := 12) (v := .bool true) rfl (by kernel_rfl) (by kernel_rfl) (by kernel_rfl) (fun _ _ _ h => h) (yields_eq (by rfl) 26 26 (.tmp 43) (.tmp 44) rfl (bs P1) (bs P1) rfl rfl Try.eqGuardType26 true heq) hS ?_
    try simp only [Act.put, List.getElem_toArray, List.getElem_cons_zero, List.getElem_cons_succ, List.setIfInBounds_toArray, List.set_cons_zero, List.set_cons_succ]
    refine wpAnyH_take (i := 13) (v := .bool true) rfl (by kernel_rfl) (by kernel_rfl) (by kernel_rfl) (fun _ _ _ h => h) (Or.inl ⟨by rfl, fun w _ => by go_simp⟩) hS ?_
    try simp only [Act.put, List.getElem_toArray, List.getElem_cons_zero, List.getElem_cons_succ, List.setIfInBounds_toArray, List.set_cons_zero, List.set_cons_succ]
    refine wpAnyH_take (i := 14) (v := .bool true) rfl (by kernel_rfl) (by kernel_rfl) (by kernel_rfl) (fun _ _ _ h => h) (Or.inl ⟨by rfl, fun w _ => by go_simp⟩) hS ?_
    try simp only [Act.put, List.getElem_toArray, List.getElem_cons_zero, List.getElem_cons_succ, List.setIfInBounds_toArray, List.set_cons_zero, List.set_cons_succ]
    refine wpAnyH_ready (rs := [15]) (by kernel_rfl) (by simp) ?_
    refine AllReadyH.cons rfl (fun K hK => ?_) AllReadyH.nil
    go_simp
    go_at_call 7
    refine Calls.mono (HAW.out _) ?_
    rintro e w3_15 ⟨rfl, hcb⟩
    refine hK.out _ _ (⟨hS.1.below hcb hS.1.lt, hS.2.1.below hcb hS.2.1.lt, hS.2.2.1.below hcb hS.2.2.1.lt, hS.2.2.2.trans (hcb.mono hS.2.2.2.size)⟩) fun hS => ?_
    try simp only [Act.put, List.getElem_toArray, List.getElem_cons_zero, List.getElem_cons_succ, List.setIfInBounds_toArray, List.set_cons_zero, List.set_cons_succ]
    clear hcb
    refine wpAnyH_take (i := 16) (v := .bool true) rfl (by kernel_rfl) (by kernel_rfl) (by kernel_rfl) (fun _ _ _ h => h) (Or.inl ⟨by rfl, fun w _ => by go_simp⟩) hS ?_
    try simp only [Act.put, List.getElem_toArray, List.getElem_cons_zero, List.getElem_cons_succ, List.setIfInBounds_toArray, List.set_cons_zero, List.set_cons_succ]
    refine wpAnyH_take (i := 17) (v := .bool true) rfl (by kernel_rfl) (by kernel_rfl) (by kernel_rfl) (fun _ _ _ h => h) (Or.inl ⟨by rfl, fun w _ => by go_simp⟩) hS ?_
    try simp only [Act.put, List.getElem_toArray, List.getElem_cons_zero, List.getElem_cons_succ, List.setIfInBounds_toArray, List.set_cons_zero, List.set_cons_succ]
    refine wpAnyH_done (by kernel_rfl) ?_ _
    go_wp2
    go_ret
    exact ⟨rfl, ab.trans (hS.2.2.2.mono ab.size)⟩
  ) AllReadyH.nil))

set_option maxRecDepth 100000 in
theorem lifted (os : Os) (started : os.Started) (H : Type) (enc : TypeId × Value → H) :
    ReturnsInHanded {} Try.checked os 4 .any (Rows.applyTwiceSpec.pre6 enc Try.prog Try.f4 Rows.applyTwiceRow.domain false) (Rows.applyTwiceSpec.post enc Try.prog Try.f4 false true false false) := by
  refine returnsInHanded_of_change_sized (C := Try.checked) own started (by kernel_rfl) Try.func4
    (ChangeSpec.witness6 (enc := enc) (C := Try.checked) false ⟨#[], #[.agg #[.bool false, .int .u16 0], .agg (bs (zs 224)), .slice none 0 0, .int .i64 0], []⟩ 8 (by kernel_rfl) (by kernel_rfl) (by kernel_rfl) (by kernel_rfl)) ?_
  intro W base args ds gs before hval0 hW hcnd hsz0 _
  have hval : ∀ (j : Nat) t v, Try.f4.params[j]? = some t → args[j]? = some v → Value.okWide Try.prog W .any base t v := hval0
  have hW' := hW
  obtain ⟨p, q, hA0, hV, rfl, hfz, hnd⟩ := hW
  have hA : DataW.TrodAll enc Try.prog W 0 (fun _ => true) true Try.f4.params.toList args.toList ds p := hA0
  have hsz : (DataW.weightsEach Try.prog (Try.f4.params.toList ++ []) (ds ++ gs)).all (· ≤ reachBytes) = true := hsz0
  rw [Try.params4] at hA hval hsz
  obtain ⟨v0, vs0, d0, ds0, p0, q0, hargs, rfl, rfl, h0, r0⟩ := trodAll_cons hA
  obtain ⟨v1, vs1, d1, ds1, p1, q1, rfl, rfl, rfl, h1, r1⟩ := trodAll_cons r0
  obtain ⟨v2, vs2, d2, ds2, p2, q2, rfl, rfl, rfl, h2, r2⟩ := trodAll_cons r1
  obtain ⟨v3, vs3, d3, ds3, p3, q3, rfl, rfl, rfl, h3, r3⟩ := trodAll_cons r2
  obtain ⟨rfl, rfl, rfl⟩ := trodAll_nil r3
  obtain rfl : args = #[v0, v1, v2, v3] := by cases args; simp_all
  obtain ⟨rfl, rfl⟩ := trodVars_none hV
  simp only [List.append_nil] at hsz
  have hlt : ∀ x ∈ (p0 ++ (p1 ++ (p2 ++ (p3 ++ [])))), x.block < W.heap.size := fun x hx => hW'.lt x (by simpa using hx)
  have hw0 : (d0.weights Try.prog 24).all (· ≤ reachBytes) = true := List.all_eq_true.2 fun m hm => List.all_eq_true.1 hsz m (by simp [DataW.weightsEach, hm])
  have hw1 : (d1.weights Try.prog 26).all (· ≤ reachBytes) = true := List.all_eq_true.2 fun m hm => List.all_eq_true.1 hsz m (by simp [DataW.weightsEach, hm])
  have hw2 : (d2.weights Try.prog 27).all (· ≤ reachBytes) = true := List.all_eq_true.2 fun m hm => List.all_eq_true.1 hsz m (by simp [DataW.weightsEach, hm])
  have hw3 : (d3.weights Try.prog 3).all (· ≤ reachBytes) = true := List.all_eq_true.2 fun m hm => List.all_eq_true.1 hsz m (by simp [DataW.weightsEach, hm])
  have k0 := h0
  have k1 := h1
  have k2 := h2
  have k3 := h3
  obtain ⟨a0, c0, rfl, w0⟩ := open_pidv (hval 0 24 v0 rfl rfl) h0
  obtain ⟨a1, rfl, l1, w1⟩ := open_payv (hval 1 26 v1 rfl rfl) h1
  obtain ⟨a2, w2⟩ := open_log (hval 2 27 v2 rfl rfl) h2 hw2
  obtain ⟨a3, rfl, rfl, rfl, w3⟩ := open_int Try.underlying3 (hval 3 3 v3 rfl rfl) h3
  clear hA0 hval0
  simp only [List.append_nil] at hW'
  refine (walk W a0 c0 a1 v2 a2 a3 w0 l1 w1 w2 w3).mono fun e W' ⟨he, hg⟩ => ?_
  subst he
  exact ⟨_, rfl, ⟨_, _, _, [], (p0 ++ (p1 ++ (p2 ++ ([] ++ [])))), [], hW', (trodAll_cons_mk (shut_bool Try.underlying4 _) trodAll_mk0), (trodAll_cons_mk (Below.trod laidOut (by kernel_rfl) (of_decide_eq_true (by kernel_rfl)) k0 hg (fun x hx => hlt x (by simp [hx]))) (trodAll_cons_mk (Below.trod laidOut (by kernel_rfl) (of_decide_eq_true (by kernel_rfl)) k1 hg (fun x hx => hlt x (by simp [hx]))) (trodAll_cons_mk (Below.trod laidOut (by kernel_rfl) (of_decide_eq_true (by kernel_rfl)) k2 hg (fun x hx => hlt x (by simp [hx]))) (trodAll_cons_mk (Below.trod laidOut (by kernel_rfl) (of_decide_eq_true (by kernel_rfl)) k3 hg (fun x hx => (nomatch hx))) trodAll_mk0)))), rfl,
    hg.frame _, fun h => by cases h⟩⟩

theorem over : Rows.applyTwiceRow.holds Try.pinned (OpenSpec.ofChange Rows.applyTwiceSpec) :=
  OpenClaim.holds_of_wide 4 Try.f4 rfl rfl rfl rfl rfl rfl rfl ⟨rfl, rfl, rfl, rfl, rfl⟩ rfl rfl rfl rfl rfl (by kernel_rfl) Try.func4 (by kernel_rfl)
    (of_decide_eq_true (by kernel_rfl)) (by unfold Func.isWrapper; first | (rw [if_pos (by decide +kernel)]; kernel_rfl) | (rw [if_neg (by decide +kernel)]; exact ⟨rfl, rfl⟩))
    (fun os started H enc _ => lifted os started H enc)

/-- The statement. -/
theorem proved : Rows.ApplyTwiceSaid :=
  over
#print axioms proved
end Go.Proofs.Ytihjapfgllokgab.applyTwice
