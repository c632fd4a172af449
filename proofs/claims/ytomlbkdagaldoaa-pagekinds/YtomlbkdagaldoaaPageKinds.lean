/-
  Proved here: a blank page is the document's, is that page's and no other one's, and whether any payload is any page's is told as the document says (PageKinds), for all pages and payloads.
-/
import Derived.Test.YtomlbkdagaldoaaKind
namespace Go.Proofs.Ytomlbkdagaldoaa.pageKinds
open Go.ChangeShapes Go.WideShapes Go.ChangeAt Go.RowKit
open Go.Deep
set_option linter.unusedVariables false
set_option linter.unusedSimpArgs false

theorem own : ownKnob Try.prog.godebug = none := by kernel_rfl

set_option maxHeartbeats 4000000 in
theorem walk (w : World) (u : Bool) (no : Int) (u2 : Bool) (on : Int) (p : List Int) (hno : 0 ≤ no ∧ no ≤ 65535) (hon : 0 ≤ on ∧ on ≤ 65535) (hp : p.length = 224) (hb : Bytes p) :
    Calls Try.prog 5 #[.agg #[.bool u, .int .u16 no], .agg #[.bool u2, .int .u16 on], .agg (bs p)] w fun e w' => e = .returned (.bool true) ∧ Below w.heap.size w w' := by
  have hz2 := zero32
  have hlen := blankP_length u no
  have hby := blankP_bytes u no
  have HB1 : Hid _ := fun w => blank_any u no w hno
  have HB2 : Hid _ := fun w => rblank_any u no w hno
  have HR1 : Hid _ := fun w => right_any u2 on (blankP u no) w hon hlen hby
  have HR2 : Hid _ := fun w => right_any u no p w hno hp hb
  have HR3 : Hid _ := fun w => rright_any u no p w hno hp hb
  have HAW : Hid _ := fun w => awake_any w
  have heq := equal32 (blankP u no) (blankP u no) hlen hlen
  simp only [decide_true] at heq
  have heq2 := fun w => equal59 u u2 no on w
  rw [isP_blank u u2 no on hno hon] at HR1
  generalize (decide (u = u2) && decide (no = on)) = Y at HR1 heq2
  generalize isP u no p = Z at HR2 HR3
  generalize blankP u no = R at HB1 HB2 HR1 heq hlen
  have hpb : (bs p).size = 224 := by rw [bs_size, hp]
  have hRb : (bs R).size = 224 := by rw [bs_size, hlen]
  clear hp hb hby
  have r0 : Row (((w.alloc (.cells #[.bool u, .int .u16 no] 59)).alloc (.cells #[.bool u2, .int .u16 on] 59)).alloc (.cells (bs p) 32)) w.heap.size #[.bool u, .int .u16 no] 59 := ((Row.new _ _ _).alloc _).alloc _
  have r1 : Row (((w.alloc (.cells #[.bool u, .int .u16 no] 59)).alloc (.cells #[.bool u2, .int .u16 on] 59)).alloc (.cells (bs p) 32)) (w.heap.size + 1) #[.bool u2, .int .u16 on] 59 := by have := (Row.new (w.alloc (.cells #[.bool u, .int .u16 no] 59)) #[.bool u2, .int .u16 on] 59).alloc (.cells (bs p) 32); simpa using this
  have r2 : Row (((w.alloc (.cells #[.bool u, .int .u16 no] 59)).alloc (.cells #[.bool u2, .int .u16 on] 59)).alloc (.cells (bs p) 32)) (w.heap.size + 2) (bs p) 32 := by have := Row.new ((w.alloc (.cells #[.bool u, .int .u16 no] 59)).alloc (.cells #[.bool u2, .int .u16 on] 59)) (bs p) 32; simpa using this
  have ab : Below w.heap.size w (((w.alloc (.cells #[.bool u, .int .u16 no] 59)).alloc (.cells #[.bool u2, .int .u16 on] 59)).alloc (.cells (bs p) 32)) := (((Below.refl _ _).alloc (Nat.le_refl _) _).alloc (by simp) _).alloc (by simp; omega) _
  go_enter Try.func5, Try.ntmps5
  go_upto_region 1 with fail
  generalize ((w.alloc (.cells #[.bool u, .int .u16 no] 59)).alloc (.cells #[.bool u2, .int .u16 on] 59)).alloc (.cells (bs p) 32) = w1 at r0 r1 r2 ab ⊢
  go_upto_region 2 with (first
    | (refine load_cells rfl 59 (.tmp 3) rfl w.heap.size rfl 59 #[.bool u, .int .u16 no] r0 2 Try.underlying59 rfl size59 rfl ?_)
    | (go_at_call 25; refine (HB1.out _).mono ?_; clear HB1; rintro e w2 ⟨rfl, h2⟩
       have q2 : Row (w2.alloc (.cells (bs (zs 224)) 32)) w2.heap.size (bs (zs 224)) 32 := Row.new _ _ _)
    | (refine store_row rfl 32 (.tmp 7) (.tmp 9) rfl w2.heap.size R rfl rfl 32 _ q2 224 size32 (by rw [bs_size, zs_length]) hlen ?_))
  have r0 := r0.below h2 r0.lt
  have r1 := r1.below h2 r1.lt
  have r2 := r2.below h2 r2.lt
  have l1 := r2.lt
  have ab := ab.trans (h2.mono ab.size)
  have r0 := (r0.alloc (.cells (bs (zs 224)) 32)).other (g := w2.heap.size) (by omega) (bs R)
  have r1 := (r1.alloc (.cells (bs (zs 224)) 32)).other (g := w2.heap.size) (by omega) (bs R)
  have r2 := (r2.alloc (.cells (bs (zs 224)) 32)).other (g := w2.heap.size) (by omega) (bs R)
  have q2 := q2.set (bs R)
  have ab := below_setRow (ab.alloc ab.size (.cells (bs (zs 224)) 32)) ab.size (bs R)
  clear h2
  generalize (w2.alloc (.cells (bs (zs 224)) 32)).setRow w2.heap.size (bs R) = w3 at r0 r1 r2 q2 ab ⊢
  generalize w2.heap.size = g1 at q2 l1 ⊢
  refine wp_region_held_drew (S := fun w' => Row w' w.heap.size #[.bool u, .int .u16 no] 59 ∧ Row w' (w.heap.size + 1) #[.bool u2, .int .u16 on] 59 ∧ Row w' (w.heap.size + 2) (bs p) 32 ∧ Row w' g1 (bs R) 32 ∧ Below w.heap.size w w') (by kernel_rfl) ⟨r0, r1, r2, q2, ab.drew⟩ fun hS => ?_
  refine wpAnyH_take (i := 0) (v := .agg (bs R)) rfl (by kernel_rfl) (by kernel_rfl) (by kernel_rfl) (fun _ _ _ h => h) (yields_row (by rfl) 32 (.tmp 7) rfl g1 rfl 32 (bs R) (fun w h => h.2.2.2.1) 224 5 Try.underlying32 size32 hRb) hS ?_
  try simp only [Act.put, List.getElem_toArray, List.getElem_cons_zero, List.getElem_cons_succ, List.setIfInBounds_toArray, List.set_cons_zero, List.set_cons_succ]
  refine wpAnyH_take (i := 1) (v := .agg #[.bool u, .int .u16 no]) rfl (by kernel_rfl) (by kernel_rfl) (by kernel_rfl) (fun _ _ _ h => h) (yields_cells (by rfl) 59 (.tmp 3) rfl w.heap.size rfl 59 #[.bool u, .int .u16 no] (fun w h => h.1) 2 Try.underlying59 rfl size59 rfl) hS ?_
  try simp only [Act.put, List.getElem_toArray, List.getElem_cons_zero, List.getElem_cons_succ, List.setIfInBounds_toArray, List.set_cons_zero, List.set_cons_succ]
  refine wpAnyH_ready (rs := [2]) (by kernel_rfl) (by simp) ?_
  refine AllReadyH.cons rfl (fun K hK => ?_) AllReadyH.nil
  go_simp
  go_at_call 26
  refine Calls.mono (HB2.out _) ?_
  rintro e wc ⟨rfl, hcb⟩
  refine hK.out _ _ (⟨hS.1.below hcb hS.1.lt, hS.2.1.below hcb hS.2.1.lt, hS.2.2.1.below hcb hS.2.2.1.lt, hS.2.2.2.1.below hcb hS.2.2.2.1.lt, hS.2.2.2.2.trans (hcb.mono hS.2.2.2.2.size)⟩) fun hS => ?_
  try simp only [Act.put, List.getElem_toArray, List.getElem_cons_zero, List.getElem_cons_succ, List.setIfInBounds_toArray, List.set_cons_zero, List.set_cons_succ]
  clear hcb
  refine wpAnyH_take (i := 3) (v := .bool true) rfl (by kernel_rfl) (by kernel_rfl) (by kernel_rfl) (fun _ _ _ h => h) (yields_eq (by rfl) 32 32 (.tmp 10) (.tmp 12) rfl (bs R) (bs R) rfl rfl Try.eqGuardType32 true heq) hS ?_
  try simp only [Act.put, List.getElem_toArray, List.getElem_cons_zero, List.getElem_cons_succ, List.setIfInBounds_toArray, List.set_cons_zero, List.set_cons_succ]
  refine wpAnyH_take (i := 4) (v := .bool true) rfl (by kernel_rfl) (by kernel_rfl) (by kernel_rfl) (fun _ _ _ h => h) (Or.inl ⟨by rfl, fun w _ => by go_simp⟩) hS ?_
  try simp only [Act.put, List.getElem_toArray, List.getElem_cons_zero, List.getElem_cons_succ, List.setIfInBounds_toArray, List.set_cons_zero, List.set_cons_succ]
  refine wpAnyH_take (i := 5) (v := .agg #[.bool u2, .int .u16 on]) rfl (by kernel_rfl) (by kernel_rfl) (by kernel_rfl) (fun _ _ _ h => h) (yields_cells (by rfl) 59 (.tmp 4) rfl (w.heap.size + 1) rfl 59 #[.bool u2, .int .u16 on] (fun w h => h.2.1) 2 Try.underlying59 rfl size59 rfl) hS ?_
  try simp only [Act.put, List.getElem_toArray, List.getElem_cons_zero, List.getElem_cons_succ, List.setIfInBounds_toArray, List.set_cons_zero, List.set_cons_succ]
  refine wpAnyH_take (i := 6) (v := .agg (bs R)) rfl (by kernel_rfl) (by kernel_rfl) (by kernel_rfl) (fun _ _ _ h => h) (yields_row (by rfl) 32 (.tmp 7) rfl g1 rfl 32 (bs R) (fun w h => h.2.2.2.1) 224 5 Try.underlying32 size32 hRb) hS ?_
  try simp only [Act.put, List.getElem_toArray, List.getElem_cons_zero, List.getElem_cons_succ, List.setIfInBounds_toArray, List.set_cons_zero, List.set_cons_succ]
  refine wpAnyH_take (i := 8) (v := .agg #[.bool u, .int .u16 no]) rfl (by kernel_rfl) (by kernel_rfl) (by kernel_rfl) (fun _ _ _ h => h) (yields_cells (by rfl) 59 (.tmp 3) rfl w.heap.size rfl 59 #[.bool u, .int .u16 no] (fun w h => h.1) 2 Try.underlying59 rfl size59 rfl) hS ?_
  try simp only [Act.put, List.getElem_toArray, List.getElem_cons_zero, List.getElem_cons_succ, List.setIfInBounds_toArray, List.set_cons_zero, List.set_cons_succ]
  refine wpAnyH_take (i := 9) (v := .agg #[.bool u2, .int .u16 on]) rfl (by kernel_rfl) (by kernel_rfl) (by kernel_rfl) (fun _ _ _ h => h) (yields_cells (by rfl) 59 (.tmp 4) rfl (w.heap.size + 1) rfl 59 #[.bool u2, .int .u16 on] (fun w h => h.2.1) 2 Try.underlying59 rfl size59 rfl) hS ?_
  try simp only [Act.put, List.getElem_toArray, List.getElem_cons_zero, List.getElem_cons_succ, List.setIfInBounds_toArray, List.set_cons_zero, List.set_cons_succ]
  refine wpAnyH_take (i := 10) (v := .bool Y) rfl (by kernel_rfl) (by kernel_rfl) (by kernel_rfl) (fun _ _ _ h => h) (yields_eq (by rfl) 59 59 (.tmp 18) (.tmp 19) rfl #[.bool u, .int .u16 no] #[.bool u2, .int .u16 on] rfl rfl Try.eqGuardType59 Y heq2) hS ?_
  try simp only [Act.put, List.getElem_toArray, List.getElem_cons_zero, List.getElem_cons_succ, List.setIfInBounds_toArray, List.set_cons_zero, List.set_cons_succ]
  refine wpAnyH_ready (rs := [7]) (by kernel_rfl) (by simp) ?_
  refine AllReadyH.cons rfl (fun K hK => ?_) AllReadyH.nil
  go_simp
  go_at_call 27
  refine Calls.mono (HR1.out _) ?_
  rintro e w2_7 ⟨rfl, hcb⟩
  refine hK.out _ _ (⟨hS.1.below hcb hS.1.lt, hS.2.1.below hcb hS.2.1.lt, hS.2.2.1.below hcb hS.2.2.1.lt, hS.2.2.2.1.below hcb hS.2.2.2.1.lt, hS.2.2.2.2.trans (hcb.mono hS.2.2.2.2.size)⟩) fun hS => ?_
  try simp only [Act.put, List.getElem_toArray, List.getElem_cons_zero, List.getElem_cons_succ, List.setIfInBounds_toArray, List.set_cons_zero, List.set_cons_succ]
  clear hcb
  refine wpAnyH_take (i := 11) (v := .bool true) rfl (by kernel_rfl) (by kernel_rfl) (by kernel_rfl) (fun _ _ _ h => h) (Or.inl ⟨by rfl, fun w _ => by go_simp⟩) hS ?_
  try simp only [Act.put, List.getElem_toArray, List.getElem_cons_zero, List.getElem_cons_succ, List.setIfInBounds_toArray, List.set_cons_zero, List.set_cons_succ]
  refine wpAnyH_take (i := 12) (v := .bool true) rfl (by kernel_rfl) (by kernel_rfl) (by kernel_rfl) (fun _ _ _ h => h) (Or.inl ⟨by rfl, fun w _ => by go_simp⟩) hS ?_
  try simp only [Act.put, List.getElem_toArray, List.getElem_cons_zero, List.getElem_cons_succ, List.setIfInBounds_toArray, List.set_cons_zero, List.set_cons_succ]
  refine wpAnyH_take (i := 13) (v := .bool true) rfl (by kernel_rfl) (by kernel_rfl) (by kernel_rfl) (fun _ _ _ h => h) (Or.inl ⟨by rfl, fun w _ => by go_simp⟩) hS ?_
  try simp only [Act.put, List.getElem_toArray, List.getElem_cons_zero, List.getElem_cons_succ, List.setIfInBounds_toArray, List.set_cons_zero, List.set_cons_succ]
  refine wpAnyH_take (i := 14) (v := .agg #[.bool u, .int .u16 no]) rfl (by kernel_rfl) (by kernel_rfl) (by kernel_rfl) (fun _ _ _ h => h) (yields_cells (by rfl) 59 (.tmp 3) rfl w.heap.size rfl 59 #[.bool u, .int .u16 no] (fun w h => h.1) 2 Try.underlying59 rfl size59 rfl) hS ?_
  try simp only [Act.put, List.getElem_toArray, List.getElem_cons_zero, List.getElem_cons_succ, List.setIfInBounds_toArray, List.set_cons_zero, List.set_cons_succ]
  refine wpAnyH_take (i := 15) (v := .agg (bs p)) rfl (by kernel_rfl) (by kernel_rfl) (by kernel_rfl) (fun _ _ _ h => h) (yields_row (by rfl) 32 (.tmp 5) rfl (w.heap.size + 2) rfl 32 (bs p) (fun w h => h.2.2.1) 224 5 Try.underlying32 size32 hpb) hS ?_
  try simp only [Act.put, List.getElem_toArray, List.getElem_cons_zero, List.getElem_cons_succ, List.setIfInBounds_toArray, List.set_cons_zero, List.set_cons_succ]
  refine wpAnyH_take (i := 17) (v := .agg #[.bool u, .int .u16 no]) rfl (by kernel_rfl) (by kernel_rfl) (by kernel_rfl) (fun _ _ _ h => h) (yields_cells (by rfl) 59 (.tmp 3) rfl w.heap.size rfl 59 #[.bool u, .int .u16 no] (fun w h => h.1) 2 Try.underlying59 rfl size59 rfl) hS ?_
  try simp only [Act.put, List.getElem_toArray, List.getElem_cons_zero, List.getElem_cons_succ, List.setIfInBounds_toArray, List.set_cons_zero, List.set_cons_succ]
  refine wpAnyH_take (i := 18) (v := .agg (bs p)) rfl (by kernel_rfl) (by kernel_rfl) (by kernel_rfl) (fun _ _ _ h => h) (yields_row (by rfl) 32 (.tmp 5) rfl (w.heap.size + 2) rfl 32 (bs p) (fun w h => h.2.2.1) 224 5 Try.underlying32 size32 hpb) hS ?_
  try simp only [Act.put, List.getElem_toArray, List.getElem_cons_zero, List.getElem_cons_succ, List.setIfInBounds_toArray, List.set_cons_zero, List.set_cons_succ]
  refine wpAnyH_ready (rs := [16]) (by kernel_rfl) (by simp) ?_
  refine AllReadyH.cons rfl (fun K hK => ?_) AllReadyH.nil
  go_simp
  go_at_call 27
  refine Calls.mono (HR2.out _) ?_
  rintro e w3_16 ⟨rfl, hcb⟩
  refine hK.out _ _ (⟨hS.1.below hcb hS.1.lt, hS.2.1.below hcb hS.2.1.lt, hS.2.2.1.below hcb hS.2.2.1.lt, hS.2.2.2.1.below hcb hS.2.2.2.1.lt, hS.2.2.2.2.trans (hcb.mono hS.2.2.2.2.size)⟩) fun hS => ?_
  try simp only [Act.put, List.getElem_toArray, List.getElem_cons_zero, List.getElem_cons_succ, List.setIfInBounds_toArray, List.set_cons_zero, List.set_cons_succ]
  clear hcb
  refine wpAnyH_ready (rs := [19]) (by kernel_rfl) (by simp) ?_
  refine AllReadyH.cons rfl (fun K hK => ?_) AllReadyH.nil
  go_simp
  go_at_call 28
  refine Calls.mono (HR3.out _) ?_
  rintro e w4_19 ⟨rfl, hcb⟩
  refine hK.out _ _ (⟨hS.1.below hcb hS.1.lt, hS.2.1.below hcb hS.2.1.lt, hS.2.2.1.below hcb hS.2.2.1.lt, hS.2.2.2.1.below hcb hS.2.2.2.1.lt, hS.2.2.2.2.trans (hcb.mono hS.2.2.2.2.size)⟩) fun hS => ?_
  try simp only [Act.put, List.getElem_toArray, List.getElem_cons_zero, List.getElem_cons_succ, List.setIfInBounds_toArray, List.set_cons_zero, List.set_cons_succ]
  clear hcb
  refine wpAnyH_take (i := 20) (v := .bool true) rfl (by kernel_rfl) (by kernel_rfl) (by kernel_rfl) (fun _ _ _ h => h) (Or.inl ⟨by rfl, fun w _ => by go_simp⟩) hS ?_
  try simp only [Act.put, List.getElem_toArray, List.getElem_cons_zero, List.getElem_cons_succ, List.setIfInBounds_toArray, List.set_cons_zero, List.set_cons_succ]
  refine wpAnyH_take (i := 21) (v := .bool true) rfl (by kernel_rfl) (by kernel_rfl) (by kernel_rfl) (fun _ _ _ h => h) (Or.inl ⟨by rfl, fun w _ => by go_simp⟩) hS ?_
  try simp only [Act.put, List.getElem_toArray, List.getElem_cons_zero, List.getElem_cons_succ, List.setIfInBounds_toArray, List.set_cons_zero, List.set_cons_succ]
  refine wpAnyH_take (i := 22) (v := .bool true) rfl (by kernel_rfl) (by kernel_rfl) (by kernel_rfl) (fun _ _ _ h => h) (Or.inl ⟨by rfl, fun w _ => by go_simp⟩) hS ?_
  try simp only [Act.put, List.getElem_toArray, List.getElem_cons_zero, List.getElem_cons_succ, List.setIfInBounds_toArray, List.set_cons_zero, List.set_cons_succ]
  refine wpAnyH_ready (rs := [23]) (by kernel_rfl) (by simp) ?_
  refine AllReadyH.cons rfl (fun K hK => ?_) AllReadyH.nil
  go_simp
  go_at_call 15
  refine Calls.mono (HAW.out _) ?_
  rintro e w5_23 ⟨rfl, hcb⟩
  refine hK.out _ _ (⟨hS.1.below hcb hS.1.lt, hS.2.1.below hcb hS.2.1.lt, hS.2.2.1.below hcb hS.2.2.1.lt, hS.2.2.2.1.below hcb hS.2.2.2.1.lt, hS.2.2.2.2.trans (hcb.mono hS.2.2.2.2.size)⟩) fun hS => ?_
  try simp only [Act.put, List.getElem_toArray, List.getElem_cons_zero, List.getElem_cons_succ, List.setIfInBounds_toArray, List.set_cons_zero, List.set_cons_succ]
  clear hcb
  refine wpAnyH_take (i := 24) (v := .bool true) rfl (by kernel_rfl) (by kernel_rfl) (by kernel_rfl) (fun _ _ _ h => h) (Or.inl ⟨by rfl, fun w _ => by go_simp⟩) hS ?_
  try simp only [Act.put, List.getElem_toArray, List.getElem_cons_zero, List.getElem_cons_succ, List.setIfInBounds_toArray, List.set_cons_zero, List.set_cons_succ]
  refine wpAnyH_take (i := 25) (v := .bool true) rfl (by kernel_rfl) (by kernel_rfl) (by kernel_rfl) (fun _ _ _ h => h) (Or.inl ⟨by rfl, fun w _ => by go_simp⟩) hS ?_
  try simp only [Act.put, List.getElem_toArray, List.getElem_cons_zero, List.getElem_cons_succ, List.setIfInBounds_toArray, List.set_cons_zero, List.set_cons_succ]
  refine wpAnyH_done (by kernel_rfl) ?_ _
  go_wp2
  go_ret
  exact ⟨rfl, hS.2.2.2.2⟩

set_option maxRecDepth 100000 in
theorem lifted (os : Os) (started : os.Started) (H : Type) (enc : TypeId × Value → H) :
    ReturnsInHanded {} Try.checked os 5 .any (Rows.pageKindsSpec.pre6 enc Try.prog Try.f5 Rows.pageKindsRow.domain false) (Rows.pageKindsSpec.post enc Try.prog Try.f5 false true false false) := by
  refine returnsInHanded_of_change_sized (C := Try.checked) own started (by kernel_rfl) Try.func5
    (ChangeSpec.witness6 (enc := enc) (C := Try.checked) false ⟨#[], #[.agg #[.bool false, .int .u16 0], .agg #[.bool false, .int .u16 0], .agg (bs (zs 224))], []⟩ 8 (by kernel_rfl) (by kernel_rfl) (by kernel_rfl) (by kernel_rfl)) ?_
  intro W base args ds gs before hval0 hW hcnd hsz0 _
  have hval : ∀ (j : Nat) t v, Try.f5.params[j]? = some t → args[j]? = some v → Value.okWide Try.prog W .any base t v := hval0
  have hW' := hW
  obtain ⟨p, q, hA0, hV, rfl, hfz, hnd⟩ := hW
  have hA : DataW.TrodAll enc Try.prog W 0 (fun _ => true) true Try.f5.params.toList args.toList ds p := hA0
  have hsz : (DataW.weightsEach Try.prog (Try.f5.params.toList ++ []) (ds ++ gs)).all (· ≤ reachBytes) = true := hsz0
  rw [Try.params5] at hA hval hsz
  obtain ⟨v0, vs0, d0, ds0, p0, q0, hargs, rfl, rfl, h0, r0⟩ := trodAll_cons hA
  obtain ⟨v1, vs1, d1, ds1, p1, q1, rfl, rfl, rfl, h1, r1⟩ := trodAll_cons r0
  obtain ⟨v2, vs2, d2, ds2, p2, q2, rfl, rfl, rfl, h2, r2⟩ := trodAll_cons r1
  obtain ⟨rfl, rfl, rfl⟩ := trodAll_nil r2
  obtain rfl : args = #[v0, v1, v2] := by cases args; simp_all
  obtain ⟨rfl, rfl⟩ := trodVars_none hV
  simp only [List.append_nil] at hsz
  have hlt : ∀ x ∈ (p0 ++ (p1 ++ (p2 ++ []))), x.block < W.heap.size := fun x hx => hW'.lt x (by simpa using hx)
  have hw0 : (d0.weights Try.prog 59).all (· ≤ reachBytes) = true := List.all_eq_true.2 fun m hm => List.all_eq_true.1 hsz m (by simp [DataW.weightsEach, hm])
  have hw1 : (d1.weights Try.prog 59).all (· ≤ reachBytes) = true := List.all_eq_true.2 fun m hm => List.all_eq_true.1 hsz m (by simp [DataW.weightsEach, hm])
  have hw2 : (d2.weights Try.prog 32).all (· ≤ reachBytes) = true := List.all_eq_true.2 fun m hm => List.all_eq_true.1 hsz m (by simp [DataW.weightsEach, hm])
  have k0 := h0
  have k1 := h1
  have k2 := h2
  obtain ⟨a0, c0, rfl, w0⟩ := open_pidv (hval 0 59 v0 rfl rfl) h0
  obtain ⟨a1, c1, rfl, w1⟩ := open_pidv (hval 1 59 v1 rfl rfl) h1
  obtain ⟨a2, rfl, l2, w2⟩ := open_payv (hval 2 32 v2 rfl rfl) h2
  clear hA0 hval0
  simp only [List.append_nil] at hW'
  refine (walk W a0 c0 a1 c1 a2 w0 w1 l2 w2).mono fun e W' ⟨he, hg⟩ => ?_
  subst he
  exact ⟨_, rfl, ⟨_, _, _, [], (p0 ++ (p1 ++ (p2 ++ []))), [], hW', (trodAll_cons_mk (shut_bool Try.underlying4 _) trodAll_mk0), (trodAll_cons_mk (Below.trod laidOut (by kernel_rfl) (of_decide_eq_true (by kernel_rfl)) k0 hg (fun x hx => hlt x (by simp [hx]))) (trodAll_cons_mk (Below.trod laidOut (by kernel_rfl) (of_decide_eq_true (by kernel_rfl)) k1 hg (fun x hx => hlt x (by simp [hx]))) (trodAll_cons_mk (Below.trod laidOut (by kernel_rfl) (of_decide_eq_true (by kernel_rfl)) k2 hg (fun x hx => hlt x (by simp [hx]))) trodAll_mk0))), rfl,
    hg.frame _, fun h => by cases h⟩⟩

theorem over : Rows.pageKindsRow.holds Try.pinned (OpenSpec.ofChange Rows.pageKindsSpec) :=
  OpenClaim.holds_of_wide 5 Try.f5 rfl rfl rfl rfl rfl rfl rfl ⟨rfl, rfl, rfl, rfl, rfl⟩ rfl rfl rfl rfl rfl (by kernel_rfl) Try.func5 (by kernel_rfl)
    (of_decide_eq_true (by kernel_rfl)) (by unfold Func.isWrapper; first | (rw [if_pos (by decide +kernel)]; kernel_rfl) | (rw [if_neg (by decide +kernel)]; exact ⟨rfl, rfl⟩))
    (fun os started H enc _ => lifted os started H enc)

/-- The statement. -/
theorem proved : Rows.PageKindsSaid :=
  over
#print axioms proved
end Go.Proofs.Ytomlbkdagaldoaa.pageKinds
