/-
  Proved here: for every page's name, payload and log the statement ApplyReplay holds: what the log makes of the page is what the document says, and the log that was handed in is not changed. No conditions.
-/
import Derived.Test.YtihjapfgllokgabQMd
import Derived.Test.YtihjapfgllokgabQMj
import Derived.Test.YtihjapfgllokgabAwk
namespace Go.Proofs.Ytihjapfgllokgab.applyReplay
open Go.ChangeShapes Go.WideShapes Go.ChangeAt Go.RowKit
open Go.Deep
set_option linter.unusedVariables false
set_option linter.unusedSimpArgs false

theorem own : ownKnob Try.prog.godebug = none := by kernel_rfl

/-- What stays: all that was there at the first, and all that was there with the copy. -/
def Bl2 (w w7 w' : World) : Prop := Below w7.heap.size w7 w' ∧ Below w.heap.size w w'
set_option maxHeartbeats 8000000 in
set_option maxRecDepth 20000 in
theorem walk (w : World) (u : Bool) (no : Int) (p : List Int) (v : Value) (es : List En) (hno : 0 ≤ no ∧ no ≤ 65535) (hp : p.length = 224) (hb : Bytes p) (hl : Log w v es ∧ (∀ e ∈ es, e.Fits) ∧ es.length * 304 ≤ 140737488355328) :
    Calls Try.prog 3 #[.agg #[.bool u, .int .u16 no], .agg (bs p), v] w fun e w' => e = .returned (.bool true) ∧ Below w.heap.size w w' := by
  have hz := zero26
  obtain ⟨hlg, hft, hsz⟩ := hl
  have hpb : (bs p).size = 224 := by rw [bs_size, hp]
  have HAW : Hid _ := fun w => awake_any w
  have HLG : Hid (Log w v es) := hlg
  have r0 : Row ((w.alloc (.cells #[.bool u, .int .u16 no] 24)).alloc (.cells (bs p) 26)) w.heap.size #[.bool u, .int .u16 no] 24 := (Row.new _ _ _).alloc _
  have r1 : Row ((w.alloc (.cells #[.bool u, .int .u16 no] 24)).alloc (.cells (bs p) 26)) (w.heap.size + 1) (bs p) 26 := by have := Row.new (w.alloc (.cells #[.bool u, .int .u16 no] 24)) (bs p) 26; simpa using this
  have rb : Below w.heap.size w ((w.alloc (.cells #[.bool u, .int .u16 no] 24)).alloc (.cells (bs p) 26)) := ((Below.refl _ _).alloc (Nat.le_refl _) _).alloc (by simp) _
  obtain ⟨oa, cap, rfl, hcs⟩ := hlg.hold
  have HCS : Hid _ := hcs
  clear hcs hlg
  obtain ⟨n, HN⟩ : ∃ n, Hid (es.length = n) := ⟨_, rfl⟩
  rw [HN.out] at HCS hsz HLG ⊢
  go_enter Try.func3, Try.ntmps3
  go_upto_region 1 with fail
  generalize (w.alloc (.cells #[.bool u, .int .u16 no] 24)).alloc (.cells (bs p) 26) = w1 at r0 r1 rb ⊢
  by_cases h60 : n ≤ 60
  rotate_left
  · have hgt : (60 : Int) < (n : Int) := by omega
    go_wp2_with (first
      | (go_at_call 7; refine (HAW.out _).mono ?_; clear HAW; rintro en w4 ⟨rfl, h4⟩))
    go_ret
    exact ⟨rfl, rb.trans (h4.mono rb.size)⟩
  have hgt : ¬ (60 : Int) < (n : Int) := by omega
  have himg : ∀ x ∈ es, x.r.img.length = 224 := fun x hx => (hft x hx).r.len
  have l1 := r1.lt
  have hbs := rb.size
  have HR : Hid _ := fun ty => OwnE.whole (HLG.out.keep (rb.alloc rb.size (.cells #[] 39))) w1.heap.size w1.heap.size (Row.new _ _ _) (Nat.le_refl _) himg (by rw [HN.out]; omega) ty
  have t2 : Hid (2 = 2) := rfl
  go_upto_region 4 with (first
    | (have hh := t2; clear hh t2; at_builtin; refine wpList_copy rfl (.tmp 14) (.tmp 15) 27 rfl _ _ rfl rfl (T := fun v' w' => OwnE w' w1.heap.size v' es ∧ (w1.alloc (.cells #[] 39)).grownBy w' (some w1.heap.size)) (fun ty => HR.out ty) ?_
       intro v7 w7 hT
       obtain ⟨hO7, gr⟩ := hT
       have HLI : Hid (Log w7 v7 es) := hO7.log himg
       obtain ⟨oai, capi, rfl⟩ := hO7.form
       rw [HN.out] at HLI ⊢
       clear hO7))
  have s0 : Row w7 w.heap.size #[.bool u, .int .u16 no] 24 := (gr.block w.heap.size (by simp; omega) (fun q => by simp at q; omega)).trans (r0.alloc _)
  have s1 : Row w7 (w.heap.size + 1) (bs p) 26 := (gr.block (w.heap.size + 1) (by simp; omega) (fun q => by simp at q; omega)).trans (r1.alloc _)
  have sb : Below w.heap.size w w7 := (rb.alloc rb.size (.cells #[] 39)).grown gr (by simp; omega) (fun k hk => by cases hk; exact hbs)
  clear r0 r1 rb gr HR
  have hP := replayR_ok u no p es hft hp hb
  have HR1 : Hid _ := fun (w : World) (h : Log w (.slice oai n capi) es) => replay_any u no p _ es w hno hp hb h hft (by rw [HN.out]; omega)
  have HRQ : Hid _ := fun (w : World) (h : Log w (.slice oa n cap) es) => rreplay_any u no p _ es w hno hp hb h hft (by rw [HN.out]; omega)
  generalize replayR u no p es = q at HR1 HRQ hP
  have hql : q.length = 224 := hP.1
  have hqb : (bs q).size = 224 := by rw [bs_size, hql]
  have heq : ∀ w, (Op.equalIn 10000 26 (.agg (bs q)) (.agg (bs q))).run Try.prog w = .ok true w := fun w => by have := equal26 q q hql hql w; simpa using this
  go_upto_region 5 with (first
    | (refine load_cells rfl 24 (.tmp 3) rfl w.heap.size rfl 24 _ s0 2 Try.underlying24 rfl size24 rfl ?_)
    | (refine load_row rfl 26 (.tmp 4) rfl (w.heap.size + 1) rfl 26 (bs p) s1 224 5 Try.underlying26 size26 hpb ?_)
    | (go_at_call 8; refine (HR1.out _ HLI.out).mono ?_; clear HR1; rintro en w8 ⟨rfl, h8⟩
       have i0 := (s0.below h8 s0.lt).alloc (.cells (bs (zs 224)) 26)
       have i1 := (s1.below h8 s1.lt).alloc (.cells (bs (zs 224)) 26)
       have i8 : Row (w8.alloc (.cells (bs (zs 224)) 26)) w8.heap.size (bs (zs 224)) 26 := Row.new _ _ _
       have ib0 : Below w.heap.size w w8 := sb.trans (h8.mono sb.size)
       have ib := ib0.alloc ib0.size (.cells (bs (zs 224)) 26)
       have ic := h8.alloc h8.size (.cells (bs (zs 224)) 26)
       have hl8 : w.heap.size + 1 < w8.heap.size := (s1.below h8 s1.lt).lt)
    | (refine store_row rfl 26 (.tmp 8) (.tmp 20) rfl w8.heap.size q rfl rfl 26 _ i8 224 size26 (by rw [bs_size, zs_length]) hql ?_))
  have j0 := i0.other (g := w8.heap.size) (by omega) (bs q)
  have j1 := i1.other (g := w8.heap.size) (by omega) (bs q)
  have j8 := i8.set (bs q)
  have jb : Bl2 w w7 ((w8.alloc (.cells (bs (zs 224)) 26)).setRow w8.heap.size (bs q)) := ⟨below_setRow ic h8.size (bs q), below_setRow ib ib0.size (bs q)⟩
  clear s0 s1 sb i0 i1 i8 ib ib0 ic h8
  generalize (w8.alloc (.cells (bs (zs 224)) 26)).setRow w8.heap.size (bs q) = w9 at j0 j1 j8 jb ⊢
  generalize w8.heap.size = g8 at j8 hl8 ⊢
  obtain ⟨oai', capi', hv7, hci0⟩ := HLI.out.hold
  rw [HN.out] at hv7 hci0
  cases hv7
  have HCI : Hid _ := hci0
  clear hci0
  go_wp2
  go_loopw [23] (fun i wr => ∃ (k : Nat), k ≤ n ∧ i = .int .i64 k ∧ Row wr w.heap.size #[.bool u, .int .u16 no] 24 ∧ Row wr (w.heap.size + 1) (bs p) 26 ∧ Row wr g8 (bs q) 26 ∧ Bl2 w w7 wr) (fun i _ => n - (intOf i).toNat)
  case atStart => exact ⟨0, by omega, rfl, j0, j1, j8, jb⟩
  case round =>
    clear j0 j1 j8 jb
    obtain ⟨k, hk, rfl, b0, b1, b8, bb⟩ := hrel
    by_cases hkn : k < n
    · obtain ⟨a, e, rfl, he, hca⟩ := HCS.out k hkn
      obtain ⟨ai, e', rfl, he', hci⟩ := HCI.out k hkn
      obtain rfl : e = e' := Option.some.inj (he.symm.trans he')
      have hlen := himg e (List.mem_of_getElem? he)
      have heqe := equal39 e hlen
      clear he he'
      have hkn' : (k : Int) < (n : Int) := by omega
      have hk0 : (0 : Int) ≤ (k : Int) := by omega
      unfold En.arr at heqe
      go_upto_region 8 with fail
      refine wp_region_held_drew (S := fun w' => Row w' w.heap.size #[.bool u, .int .u16 no] 24 ∧ Row w' (w.heap.size + 1) (bs p) 26 ∧ Row w' g8 (bs q) 26 ∧ Bl2 w w7 w') (by kernel_rfl) ⟨b0, b1, b8, ⟨bb.1.drew, bb.2.drew⟩⟩ fun hS => ?_
      refine wpAnyH_take (i := 0) (v := .slice (some ai) n capi) rfl (by kernel_rfl) (by kernel_rfl) (by kernel_rfl) (fun _ _ _ h => h) (Or.inl ⟨by rfl, fun w _ => by go_simp⟩) hS ?_
      try simp only [Act.put, List.getElem_toArray, List.getElem_cons_zero, List.getElem_cons_succ, List.setIfInBounds_toArray, List.set_cons_zero, List.set_cons_succ]
      refine wpAnyH_take (i := 1) (v := .int .i64 k) rfl (by kernel_rfl) (by kernel_rfl) (by kernel_rfl) (fun _ _ _ h => h) (Or.inl ⟨by rfl, fun w _ => by go_simp⟩) hS ?_
      try simp only [Act.put, List.getElem_toArray, List.getElem_cons_zero, List.getElem_cons_succ, List.setIfInBounds_toArray, List.set_cons_zero, List.set_cons_succ]
      refine wpAnyH_take (i := 2) (v := .pointer (some (ai.add (k * 239)))) rfl (by kernel_rfl) (by kernel_rfl) (by kernel_rfl) (fun _ _ _ h => h) (Or.inl ⟨by rfl, fun w _ => by go_simp⟩) hS ?_
      try simp only [Act.put, List.getElem_toArray, List.getElem_cons_zero, List.getElem_cons_succ, List.setIfInBounds_toArray, List.set_cons_zero, List.set_cons_succ]
      refine wpAnyH_take (i := 3) (v := .agg e.cells.toArray) rfl (by kernel_rfl) (by kernel_rfl) (by kernel_rfl) (fun _ _ _ h => h) (yields_any (by rfl) 39 (.tmp 28) rfl (ai.add (k * 239)) rfl e.cells _ (fun w h => fun j x hj => cell_keep (hci j x hj) h.2.2.2.1) Try.underlying39 rfl (by rw [size39, En.cells_length _ hlen])) hS ?_
      try simp only [Act.put, List.getElem_toArray, List.getElem_cons_zero, List.getElem_cons_succ, List.setIfInBounds_toArray, List.set_cons_zero, List.set_cons_succ]
      refine wpAnyH_take (i := 4) (v := .slice (some a) n cap) rfl (by kernel_rfl) (by kernel_rfl) (by kernel_rfl) (fun _ _ _ h => h) (Or.inl ⟨by rfl, fun w _ => by go_simp⟩) hS ?_
      try simp only [Act.put, List.getElem_toArray, List.getElem_cons_zero, List.getElem_cons_succ, List.setIfInBounds_toArray, List.set_cons_zero, List.set_cons_succ]
      refine wpAnyH_take (i := 5) (v := .int .i64 k) rfl (by kernel_rfl) (by kernel_rfl) (by kernel_rfl) (fun _ _ _ h => h) (Or.inl ⟨by rfl, fun w _ => by go_simp⟩) hS ?_
      try simp only [Act.put, List.getElem_toArray, List.getElem_cons_zero, List.getElem_cons_succ, List.setIfInBounds_toArray, List.set_cons_zero, List.set_cons_succ]
      refine wpAnyH_take (i := 6) (v := .pointer (some (a.add (k * 239)))) rfl (by kernel_rfl) (by kernel_rfl) (by kernel_rfl) (fun _ _ _ h => h) (Or.inl ⟨by rfl, fun w _ => by go_simp⟩) hS ?_
      try simp only [Act.put, List.getElem_toArray, List.getElem_cons_zero, List.getElem_cons_succ, List.setIfInBounds_toArray, List.set_cons_zero, List.set_cons_succ]
      refine wpAnyH_take (i := 7) (v := .agg e.cells.toArray) rfl (by kernel_rfl) (by kernel_rfl) (by kernel_rfl) (fun _ _ _ h => h) (yields_any (by rfl) 39 (.tmp 32) rfl (a.add (k * 239)) rfl e.cells _ (fun w h => fun j x hj => cell_keep (hca j x hj) h.2.2.2.2) Try.underlying39 rfl (by rw [size39, En.cells_length _ hlen])) hS ?_
      try simp only [Act.put, List.getElem_toArray, List.getElem_cons_zero, List.getElem_cons_succ, List.setIfInBounds_toArray, List.set_cons_zero, List.set_cons_succ]
      refine wpAnyH_take (i := 8) (v := .bool false) rfl (by kernel_rfl) (by kernel_rfl) (by kernel_rfl) (fun _ _ _ h => h) (yields_neq (by rfl) 39 39 (.tmp 29) (.tmp 33) rfl _ _ rfl rfl eqGuard39 true heqe) hS ?_
      try simp only [Act.put, List.getElem_toArray, List.getElem_cons_zero, List.getElem_cons_succ, List.setIfInBounds_toArray, List.set_cons_zero, List.set_cons_succ]
      refine wpAnyH_done (by kernel_rfl) ?_ _
      go_wp2
      go_roundw
      case rel => exact ⟨k + 1, by omega, by go_num, hS.1, hS.2.1, hS.2.2.1, hS.2.2.2⟩
      case measure => simp [intOf]; omega
    · obtain rfl : n = k := by omega
      have hkn' : ¬ (n : Int) < (n : Int) := by omega
      go_upto_region 11 with fail
      refine wp_region_held_drew (S := fun w' => Row w' w.heap.size #[.bool u, .int .u16 no] 24 ∧ Row w' (w.heap.size + 1) (bs p) 26 ∧ Row w' g8 (bs q) 26 ∧ Below w.heap.size w w') (by kernel_rfl) ⟨b0, b1, b8, bb.2.drew⟩ fun hS => ?_
      refine wpAnyH_take (i := 0) (v := .agg (bs q)) rfl (by kernel_rfl) (by kernel_rfl) (by kernel_rfl) (fun _ _ _ h => h) (yields_row (by rfl) 26 (.tmp 8) rfl g8 rfl 26 (bs q) (fun w h => h.2.2.1) 224 5 Try.underlying26 size26 hqb) hS ?_
      try simp only [Act.put, List.getElem_toArray, List.getElem_cons_zero, List.getElem_cons_succ, List.setIfInBounds_toArray, List.set_cons_zero, List.set_cons_succ]
      refine wpAnyH_take (i := 1) (v := .agg #[.bool u, .int .u16 no]) rfl (by kernel_rfl) (by kernel_rfl) (by kernel_rfl) (fun _ _ _ h => h) (yields_cells (by rfl) 24 (.tmp 3) rfl w.heap.size rfl 24 #[.bool u, .int .u16 no] (fun w h => h.1) 2 Try.underlying24 rfl size24 rfl) hS ?_
      try simp only [Act.put, List.getElem_toArray, List.getElem_cons_zero, List.getElem_cons_succ, List.setIfInBounds_toArray, List.set_cons_zero, List.set_cons_succ]
      refine wpAnyH_take (i := 2) (v := .agg (bs p)) rfl (by kernel_rfl) (by kernel_rfl) (by kernel_rfl) (fun _ _ _ h => h) (yields_row (by rfl) 26 (.tmp 4) rfl (w.heap.size + 1) rfl 26 (bs p) (fun w h => h.2.1) 224 5 Try.underlying26 size26 hpb) hS ?_
      try simp only [Act.put, List.getElem_toArray, List.getElem_cons_zero, List.getElem_cons_succ, List.setIfInBounds_toArray, List.set_cons_zero, List.set_cons_succ]
      refine wpAnyH_take (i := 3) (v := .slice oa n cap) rfl (by kernel_rfl) (by kernel_rfl) (by kernel_rfl) (fun _ _ _ h => h) (Or.inl ⟨by rfl, fun w _ => by go_simp⟩) hS ?_
      try simp only [Act.put, List.getElem_toArray, List.getElem_cons_zero, List.getElem_cons_succ, List.setIfInBounds_toArray, List.set_cons_zero, List.set_cons_succ]
      refine wpAnyH_ready (rs := [4]) (by kernel_rfl) (by simp) ?_
      refine AllReadyH.cons rfl (fun K hK => ?_) AllReadyH.nil
      go_simp
      go_at_call 9
      refine Calls.mono (HRQ.out _ (HLG.out.keep hS.2.2.2)) ?_
      rintro e wc ⟨rfl, hcb⟩
      refine hK.out _ _ (⟨hS.1.below hcb hS.1.lt, hS.2.1.below hcb hS.2.1.lt, hS.2.2.1.below hcb hS.2.2.1.lt, hS.2.2.2.trans (hcb.mono hS.2.2.2.size)⟩) fun hS => ?_
      try simp only [Act.put, List.getElem_toArray, List.getElem_cons_zero, List.getElem_cons_succ, List.setIfInBounds_toArray, List.set_cons_zero, List.set_cons_succ]
      clear hcb
      refine wpAnyH_take (i := 5) (v := .bool true) rfl (by kernel_rfl) (by kernel_rfl) (by kernel_rfl) (fun _ _ _ h => h) (yields_eq (by rfl) 26 26 (.tmp 36) (.tmp 40) rfl (bs q) (bs q) rfl rfl Try.eqGuardType26 true heq) hS ?_
      try simp only [Act.put, List.getElem_toArray, List.getElem_cons_zero, List.getElem_cons_succ, List.setIfInBounds_toArray, List.set_cons_zero, List.set_cons_succ]
      refine wpAnyH_take (i := 6) (v := .bool true) rfl (by kernel_rfl) (by kernel_rfl) (by kernel_rfl) (fun _ _ _ h => h) (Or.inl ⟨by rfl, fun w _ => by go_simp⟩) hS ?_
      try simp only [Act.put, List.getElem_toArray, List.getElem_cons_zero, List.getElem_cons_succ, List.setIfInBounds_toArray, List.set_cons_zero, List.set_cons_succ]
      refine wpAnyH_ready (rs := [7]) (by kernel_rfl) (by simp) ?_
      refine AllReadyH.cons rfl (fun K hK => ?_) AllReadyH.nil
      go_simp
      go_at_call 7
      refine Calls.mono (HAW.out _) ?_
      rintro e w2_7 ⟨rfl, hcb⟩
      refine hK.out _ _ (⟨hS.1.below hcb hS.1.lt, hS.2.1.below hcb hS.2.1.lt, hS.2.2.1.below hcb hS.2.2.1.lt, hS.2.2.2.trans (hcb.mono hS.2.2.2.size)⟩) fun hS => ?_
      try simp only [Act.put, List.getElem_toArray, List.getElem_cons_zero, List.getElem_cons_succ, List.setIfInBounds_toArray, List.set_cons_zero, List.set_cons_succ]
      clear hcb
      refine wpAnyH_take (i := 8) (v := .bool true) rfl (by kernel_rfl) (by kernel_rfl) (by kernel_rfl) (fun _ _ _ h => h) (Or.inl ⟨by rfl, fun w _ => by go_simp⟩) hS ?_
      try simp only [Act.put, List.getElem_toArray, List.getElem_cons_zero, List.getElem_cons_succ, List.setIfInBounds_toArray, List.set_cons_zero, List.set_cons_succ]
      refine wpAnyH_take (i := 9) (v := .bool true) rfl (by kernel_rfl) (by kernel_rfl) (by kernel_rfl) (fun _ _ _ h => h) (Or.inl ⟨by rfl, fun w _ => by go_simp⟩) hS ?_
      try simp only [Act.put, List.getElem_toArray, List.getElem_cons_zero, List.getElem_cons_succ, List.setIfInBounds_toArray, List.set_cons_zero, List.set_cons_succ]
      refine wpAnyH_done (by kernel_rfl) ?_ _
      go_wp2
      go_ret
      exact ⟨rfl, hS.2.2.2⟩

set_option maxRecDepth 100000 in
theorem lifted (os : Os) (started : os.Started) (H : Type) (enc : TypeId × Value → H) :
    ReturnsInHanded {} Try.checked os 3 .any (Rows.applyReplaySpec.pre6 enc Try.prog Try.f3 Rows.applyReplayRow.domain false) (Rows.applyReplaySpec.post enc Try.prog Try.f3 false true false false) := by
  refine returnsInHanded_of_change_sized (C := Try.checked) own started (by kernel_rfl) Try.func3
    (ChangeSpec.witness6 (enc := enc) (C := Try.checked) false ⟨#[], #[.agg #[.bool false, .int .u16 0], .agg (bs (zs 224)), .slice none 0 0], []⟩ 8 (by kernel_rfl) (by kernel_rfl) (by kernel_rfl) (by kernel_rfl)) ?_
  intro W base args ds gs before hval0 hW hcnd hsz0 _
  have hval : ∀ (j : Nat) t v, Try.f3.params[j]? = some t → args[j]? = some v → Value.okWide Try.prog W .any base t v := hval0
  have hW' := hW
  obtain ⟨p, q, hA0, hV, rfl, hfz, hnd⟩ := hW
  have hA : DataW.TrodAll enc Try.prog W 0 (fun _ => true) true Try.f3.params.toList args.toList ds p := hA0
  have hsz : (DataW.weightsEach Try.prog (Try.f3.params.toList ++ []) (ds ++ gs)).all (· ≤ reachBytes) = true := hsz0
  rw [Try.params3] at hA hval hsz
  obtain ⟨v0, vs0, d0, ds0, p0, q0, hargs, rfl, rfl, h0, r0⟩ := trodAll_cons hA
  obtain ⟨v1, vs1, d1, ds1, p1, q1, rfl, rfl, rfl, h1, r1⟩ := trodAll_cons r0
  obtain ⟨v2, vs2, d2, ds2, p2, q2, rfl, rfl, rfl, h2, r2⟩ := trodAll_cons r1
  obtain ⟨rfl, rfl, rfl⟩ := trodAll_nil r2
  obtain rfl : args = #[v0, v1, v2] := by cases args; simp_all
  obtain ⟨rfl, rfl⟩ := trodVars_none hV
  simp only [List.append_nil] at hsz
  have hlt : ∀ x ∈ (p0 ++ (p1 ++ (p2 ++ []))), x.block < W.heap.size := fun x hx => hW'.lt x (by simpa using hx)
  have hw0 : (d0.weights Try.prog 24).all (· ≤ reachBytes) = true := List.all_eq_true.2 fun m hm => List.all_eq_true.1 hsz m (by simp [DataW.weightsEach, hm])
  have hw1 : (d1.weights Try.prog 26).all (· ≤ reachBytes) = true := List.all_eq_true.2 fun m hm => List.all_eq_true.1 hsz m (by simp [DataW.weightsEach, hm])
  have hw2 : (d2.weights Try.prog 27).all (· ≤ reachBytes) = true := List.all_eq_true.2 fun m hm => List.all_eq_true.1 hsz m (by simp [DataW.weightsEach, hm])
  have k0 := h0
  have k1 := h1
  have k2 := h2
  obtain ⟨a0, c0, rfl, w0⟩ := open_pidv (hval 0 24 v0 rfl rfl) h0
  obtain ⟨a1, rfl, l1, w1⟩ := open_payv (hval 1 26 v1 rfl rfl) h1
  obtain ⟨a2, w2⟩ := open_log (hval 2 27 v2 rfl rfl) h2 hw2
  clear hA0 hval0
  simp only [List.append_nil] at hW'
  refine (walk W a0 c0 a1 v2 a2 w0 l1 w1 w2).mono fun e W' ⟨he, hg⟩ => ?_
  subst he
  exact ⟨_, rfl, ⟨_, _, _, [], (p0 ++ (p1 ++ (p2 ++ []))), [], hW', (trodAll_cons_mk (shut_bool Try.underlying4 _) trodAll_mk0), (trodAll_cons_mk (Below.trod laidOut (by kernel_rfl) (of_decide_eq_true (by kernel_rfl)) k0 hg (fun x hx => hlt x (by simp [hx]))) (trodAll_cons_mk (Below.trod laidOut (by kernel_rfl) (of_decide_eq_true (by kernel_rfl)) k1 hg (fun x hx => hlt x (by simp [hx]))) (trodAll_cons_mk (Below.trod laidOut (by kernel_rfl) (of_decide_eq_true (by kernel_rfl)) k2 hg (fun x hx => hlt x (by simp [hx]))) trodAll_mk0))), rfl,
    hg.frame _, fun h => by cases h⟩⟩

theorem over : Rows.applyReplayRow.holds Try.pinned (OpenSpec.ofChange Rows.applyReplaySpec) :=
  OpenClaim.holds_of_wide 3 Try.f3 rfl rfl rfl rfl rfl rfl rfl ⟨rfl, rfl, rfl, rfl, rfl⟩ rfl rfl rfl rfl rfl (by kernel_rfl) Try.func3 (by kernel_rfl)
    (of_decide_eq_true (by kernel_rfl)) (by unfold Func.isWrapper; first | (rw [if_pos (by decide +kernel)]; kernel_rfl) | (rw [if_neg (by decide +kernel)]; exact ⟨rfl, rfl⟩))
    (fun os started H enc _ => lifted os started H enc)

/-- The statement. -/
theorem proved : Rows.ApplyReplaySaid :=
  over
#print axioms proved
end Go.Proofs.Ytihjapfgllokgab.applyReplay
