/-
  Proved here: rec.taken and rec.Decode: the record that bytes are; a reader that gave up ends here.
-/
import Derived.Test.YtihjapfgllokgaaRdc
import Derived.Tactics
import Derived.Tactics2
import Derived.Defers
import Derived.Recover
import Derived.Laws.Pointers
namespace Go.Proofs.Ytihjapfgllokgaa
open Go.ChangeShapes Go.WideShapes Go.ChangeAt Go.RowKit
set_option linter.unusedVariables false
set_option linter.unusedSimpArgs false

theorem catch_idle (p q : Value) (w : World) :
    CallsD Try.prog 45 #[p, q] .returning w fun e u' w' => e = .returned (.tuple #[]) ∧ u' = .returning ∧ w' = w := by
  refine callsD_of_wpS Try.func45 rfl fun c₀ cs hu => ?_
  apply wpS_seq
  apply wpS_region
  simp [wpOpsS, go_sem, recoverD, hu, Try.ntmps45, Exit.thenS]
  apply wpS_seq
  apply wpS_region
  simp [wpOpsS, go_sem, recoverD, hu, Try.ntmps45, Exit.thenS]
  refine wpS_cond (t := false) (by simp [Act.eval, Array.replicate]) ?_
  simp only [Bool.false_eq_true, if_false]
  refine wpS_of_wp (wp_skip ?_)
  cases c₀
  simp_all [bodyPostS, results, Try.results45]
theorem run_assert34 (v : Value) (w : World) : (Instr.typeAssert (.iface 34 v) 20 34 false).run Try.prog w = .ok v w := by
  unfold Instr.typeAssert
  simp [Sem.run_bind, run_underlying Try.underlying34 w]
/-- What the catching leaves. -/
def Caught (w : World) (gr ge : Nat) (w' : World) : Prop := Row w' gr R.zero.arr 33 ∧ Row w' ge #[.int .i64 2] 34 ∧ (∀ (w0 : World) (x : Nat), w0.grownBy w (some x) → x < w0.heap.size → w0.heap.size ≤ gr → w0.heap.size ≤ ge → w0.grownBy w' (some x))
set_option maxRecDepth 20000 in
theorem catch_panicking (gr ge : Nat) (old : Array Value) (w : World) (hr : Row w gr old 33) (ho : old.size = 238) (v : Value) (he : Row w ge #[v] 34) (hne : gr ≠ ge) :
    CallsD Try.prog 45 #[.pointer (some ⟨gr, 0, none⟩), .pointer (some ⟨ge, 0, none⟩)] (.panicking ({ v := .iface 34 (.int .i64 2), recovered := false } :: [])) w fun e u' w' =>
      e = .returned (.tuple #[]) ∧ u' = .panicking ({ v := .iface 34 (.int .i64 2), recovered := true } :: []) ∧ Caught w gr ge w' := by
  obtain ⟨PC, HPC⟩ : ∃ P : World → Prop, Hid (P = Caught w gr ge) := ⟨_, rfl⟩
  rw [← HPC.out]
  refine callsD_of_wpS Try.func45 rfl fun c₀ cs hu => ?_
  apply wpS_seq
  apply wpS_region
  simp [wpOpsS, go_sem, recoverD, hu, Try.ntmps45, Exit.thenS]
  apply wpS_seq
  apply wpS_region
  simp [wpOpsS, go_sem, recoverD, hu, Try.ntmps45, Exit.thenS]
  refine wpS_cond (t := true) (by simp [Act.eval, Array.replicate]) ?_
  simp only [if_true]
  refine wpS_of_wp ?_
  change Code.wp _ _ _ { tmps := #[.pointer (some ⟨gr, 0, none⟩), .pointer (some ⟨ge, 0, none⟩), .iface 34 (.int .i64 2), .iface 34 (.int .i64 2), .iface 34 (.int .i64 2), .bool true, undef, undef, undef], defers := [] } w
  refine wp_region_held_drew (S := fun w' => True) (by kernel_rfl) trivial fun hS => ?_
  refine wpAnyH_take (i := 0) (v := .agg R.zero.arr) rfl (by kernel_rfl) (by kernel_rfl) (by kernel_rfl) (fun _ _ _ h => h) (yields_build (by rfl) 33 #[] rfl [] (by rfl) _ built33) hS ?_
  try simp only [Act.put, List.getElem_toArray, List.getElem_cons_zero, List.getElem_cons_succ, List.setIfInBounds_toArray, List.set_cons_zero, List.set_cons_succ]
  refine wpAnyH_take (i := 1) (v := .iface 34 (.int .i64 2)) rfl (by kernel_rfl) (by kernel_rfl) (by kernel_rfl) (fun _ _ _ h => h) (Or.inl ⟨by rfl, fun w _ => by rfl⟩) hS ?_
  try simp only [Act.put, List.getElem_toArray, List.getElem_cons_zero, List.getElem_cons_succ, List.setIfInBounds_toArray, List.set_cons_zero, List.set_cons_succ]
  refine wpAnyH_take (i := 2) (v := .int .i64 2) rfl (by kernel_rfl) (by kernel_rfl) (by kernel_rfl) (fun _ _ _ h => h) (Or.inl ⟨by rfl, fun w _ => by have c := run_assert34 (.int .i64 2) w; go_simp⟩) hS ?_
  try simp only [Act.put, List.getElem_toArray, List.getElem_cons_zero, List.getElem_cons_succ, List.setIfInBounds_toArray, List.set_cons_zero, List.set_cons_succ]
  have hr1 : Row w.drew gr old 33 := hr
  have he1 : Row w.drew ge #[v] 34 := he
  refine wpAnyH_ready (rs := [3]) (by kernel_rfl) (by simp) ?_
  refine AllReadyH.cons rfl (fun K hK => ?_) AllReadyH.nil
  refine step_cells rfl 33 (.tmp 0) (.tmp 6) rfl gr R.zero.arr rfl rfl 33 _ hr1 238 size33 ho (R.arr_size _ (zs_length _)) (R.arr_one _) (hK.out _ _ trivial fun hS => ?_)
  try simp only [Act.put, List.getElem_toArray, List.getElem_cons_zero, List.getElem_cons_succ, List.setIfInBounds_toArray, List.set_cons_zero, List.set_cons_succ]
  have hr2 := hr1.set R.zero.arr
  have he2 := he1.other (g := gr) (Ne.symm hne) R.zero.arr
  have hc2 := row_at he2 0 _ rfl
  have hf2 := row_frozen he2 0
  refine wpAnyH_ready (rs := [4]) (by kernel_rfl) (by simp) ?_
  refine AllReadyH.cons rfl (fun K hK => ?_) AllReadyH.nil
  go_simp
  refine hK.out _ _ trivial fun hS => ?_
  try simp only [Act.put, List.getElem_toArray, List.getElem_cons_zero, List.getElem_cons_succ, List.setIfInBounds_toArray, List.set_cons_zero, List.set_cons_succ]
  refine wpAnyH_done (by kernel_rfl) ?_ _
  have hend : PC ((w.drew.setRow gr R.zero.arr).setCell ⟨ge, 0, none⟩ (.int .i64 2)) := by
    rw [HPC.out]
    refine ⟨row_setCell_other hr2 hne 0 _, row_set he2 0 (.int .i64 2), fun w0 x hb hx h1 h2 => ?_⟩
    have hb' : w0.grownBy w.drew (some x) := ⟨hb.os, hb.tape, hb.output, hb.size, hb.block⟩
    exact grown_setCellN (grown_setRow hb' hx h1 R.zero.arr) h2 0 _
  cases c₀
  simp_all [bodyPostS, results, Try.results45]
/-- The record that bytes are. -/
def decR (s : ByteArray) : Option R := (pRec s 0).bind fun x => if x.2 = s.size then some x.1 else none
def gotR (s : ByteArray) : R := (decR s).getD R.zero
def errR (s : ByteArray) : Int := if (decR s).isSome then 0 else 2
theorem ret_two {P : Program} {fn : Func} {p c : Tmp} {ty ty2 : TypeId} (h : fn.results = #[.cell p ty, .cell c ty2]) (tmps : Array Value) (w : World) (g : Nat) (t : TypeId) (cs : Array Value) (d : TypeDesc) (ge : Nat) (t2 : TypeId) (y : Value)
    (hp : tmps.getD p undef = .pointer (some ⟨g, 0, none⟩)) (hc : tmps.getD c undef = .pointer (some ⟨ge, 0, none⟩)) (hg : Row w g cs t)
    (hu : P.underlying ty = some d) (hd : (match d with | .struct _ | .array _ _ => true | _ => false) = true) (hi : (P.info? ty).map (·.size) = some cs.size) (he : Row w ge #[y] t2) {k : IntKind} (hu2 : P.underlying ty2 = some (.int k)) :
    (results fn tmps).run P w = .ok (.tuple #[.agg cs, y]) w := by
  have hp' : tmps[p]?.getD undef = .pointer (some ⟨g, 0, none⟩) := by simpa using hp
  have hc' : tmps[c]?.getD undef = .pointer (some ⟨ge, 0, none⟩) := by simpa using hc
  have hcell := row_at he 0 y rfl
  have hl : (loadVar ty2 ⟨ge, 0, none⟩).run P w = .ok y w := by
    simp [loadVar, isAgg, run_underlying hu2, go_sem, hcell]
  simp [results, h, hp', hc', asAddr, run_loadVar_row w g t ty cs (0, 0) _ hg hu hd hi, hl]
theorem pRec_img {s : ByteArray} {a : Nat} {r : R} {b : Nat} (h : pRec s a = some (r, b)) : r.img.length = 224 := by
  unfold pRec at h
  cases h0 : pN s 1 a with
  | none => simp [h0] at h
  | some x =>
  obtain ⟨k, p⟩ := x
  rw [h0, Option.bind_some] at h
  simp only at h
  by_cases k1 : k = 1
  · rw [if_pos k1] at h
    simp only [Option.bind_eq_some_iff] at h
    obtain ⟨u, _, n, _, i, hi, h⟩ := h
    obtain ⟨i1, i2⟩ := i
    simp at h
    rw [← h.1]
    exact (pImg_at hi).2
  rw [if_neg k1] at h
  by_cases k2 : k = 2
  · rw [if_pos k2] at h
    simp only [Option.bind_eq_some_iff] at h
    obtain ⟨u, _, n, _, i, _, j, _, h⟩ := h
    simp at h
    rw [← h.1]
    exact zs_length _
  rw [if_neg k2] at h
  by_cases k3 : k = 3
  · rw [if_pos k3] at h
    simp only [Option.bind_eq_some_iff] at h
    obtain ⟨u, _, n, _, i, _, h⟩ := h
    simp at h
    rw [← h.1]
    exact zs_length _
  rw [if_neg k3] at h
  by_cases k4 : k = 4
  · rw [if_pos k4] at h
    simp only [Option.bind_eq_some_iff] at h
    obtain ⟨u, _, n, _, h⟩ := h
    simp at h
    rw [← h.1]
    exact zs_length _
  rw [if_neg k4] at h
  by_cases k5 : k = 5
  · rw [if_pos k5] at h
    simp only [Option.bind_eq_some_iff] at h
    obtain ⟨u, _, n, _, h⟩ := h
    simp at h
    rw [← h.1]
    exact zs_length _
  rw [if_neg k5] at h
  by_cases k6 : k = 6
  · rw [if_pos k6] at h
    simp only [Option.bind_eq_some_iff] at h
    obtain ⟨u, _, h⟩ := h
    simp at h
    rw [← h.1]
    exact zs_length _
  rw [if_neg k6] at h
  cases h
theorem leaves_eq {P : Program} {fn : Func} {R : Ending → World → Prop} {t1 t2 : Array Value} (hr : results fn t1 = results fn t2) : ∀ (ds : List Deferred) (u : FrameMode) (w : World), Leaves P fn t1 R ds u w = Leaves P fn t2 R ds u w
  | [], .returning, w => by simp only [Leaves, hr]
  | [], .panicking c, w => rfl
  | [], .run, w => rfl
  | d :: ds, u, w => by
    have ih : Leaves P fn t1 R ds = Leaves P fn t2 R ds := by funext u w; exact leaves_eq hr ds u w
    simp only [Leaves, ih]
theorem results24 (t : Array Value) (k : Nat) (v : Value) (h2 : k ≠ 2) (h3 : k ≠ 3) : results Try.f24 (t.setIfInBounds k v) = results Try.f24 t := by
  have e2 : (t.setIfInBounds k v)[2]? = t[2]? := by rw [Array.getElem?_setIfInBounds, if_neg h2]
  have e3 : (t.setIfInBounds k v)[3]? = t[3]? := by rw [Array.getElem?_setIfInBounds, if_neg h3]
  simp only [results, Try.results24]
  simp [e2, e3]
theorem back {R : Ending → World → Prop} (k : Nat) (h2 : k ≠ 2) (h3 : k ≠ 3) {c : List PanicEntry} {a : Act} {w : World} {v : Value} (h : bodyPostD Try.prog Try.f24 R (.panic c) (a.put (some k) v) w) : bodyPostD Try.prog Try.f24 R (.panic c) a w := by
  have e := leaves_eq (P := Try.prog) (R := R) (results24 a.tmps k v h2 h3) a.defers (.panicking c) w
  have h' : Leaves Try.prog Try.f24 (a.tmps.setIfInBounds k v) R a.defers (.panicking c) w := h
  rw [e] at h'
  exact h'
theorem zero34 (w : World) : (zeroValue 34).run Try.prog w = .ok (.int .i64 0) w := (zero_of_info (P := Try.prog) (t := 34) (v := .int .i64 0) (n := 1) (by kernel_rfl)).1 w
set_option maxRecDepth 20000 in
set_option maxHeartbeats 4000000 in
theorem taken_any (g : Nat) (s : ByteArray) (w : World) (h : Rd w g s 0) (hs : s.size ≤ maxLen) :
    Calls Try.prog 24 #[.pointer (some ⟨g, 0, none⟩)] w fun e w' => e = .returned (.tuple #[.agg (gotR s).arr, .int .i64 (errR s)]) ∧ w.grownBy w' (some g) := by
  have hmf : ∀ (fn : Fn) (first cap : Array Value) (w : World), (Instr.makeFunc fn first cap).run Try.prog w = .ok (.func fn first cap) w := fun _ _ _ _ => rfl
  have hgl := h.lt
  have hz := zero33
  have hz2 := zero34
  have ra : Rd ((w.alloc (.cells R.zero.arr 33)).alloc (.cells #[.int .i64 0] 34)) g s 0 := Row.alloc (Row.alloc h _) _
  have xa : Row ((w.alloc (.cells R.zero.arr 33)).alloc (.cells #[.int .i64 0] 34)) w.heap.size R.zero.arr 33 := (Row.new _ _ _).alloc _
  have xb : Row ((w.alloc (.cells R.zero.arr 33)).alloc (.cells #[.int .i64 0] 34)) (w.heap.size + 1) #[.int .i64 0] 34 := by have := Row.new (w.alloc (.cells R.zero.arr 33)) #[.int .i64 0] 34; simpa using this
  have ga : w.grownBy ((w.alloc (.cells R.zero.arr 33)).alloc (.cells #[.int .i64 0] 34)) (some g) := grown_trans (World.grownBy_alloc w _ _) (World.grownBy_alloc _ _ _)
  have HC : Hid _ := fun w r => rec_read g s 0 w r hs (by omega)
  unfold eRc at HC
  have HMU : Hid _ := fun b w => must_any (.pointer (some ⟨g, 0, none⟩)) b w
  go_enter_defers Try.func24, Try.ntmps24
  go_upto_region 1 with fail
  generalize (w.alloc (.cells R.zero.arr 33)).alloc (.cells #[.int .i64 0] 34) = w9 at ra xa xb ga ⊢
  go_upto_region 2 with fail
  cases hq : pRec s 0 with
  | none =>
    rw [hq] at HC
    go_wp2_with (go_at_call 46; refine (HC.out _ ra).mono ?_; clear HC; rintro e wn ⟨rfl, gn⟩)
    refine leaves_cons (f := 45) (args := #[.pointer (some ⟨w.heap.size, 0, none⟩), .pointer (some ⟨w.heap.size + 1, 0, none⟩)]) (by simp) (by simp [go_sem]) ?_
    have ya := Row.grown xa gn (fun q => by cases q; omega)
    have yb := Row.grown xb gn (fun q => by cases q; omega)
    refine (catch_panicking w.heap.size (w.heap.size + 1) _ _ ya (R.arr_size _ (zs_length _)) _ yb (by omega)).mono ?_
    rintro e u' w'' ⟨rfl, rfl, hc⟩
    simp [Leaves, settle]
    refine ⟨_, ret_two (fn := Try.f24) rfl _ _ w.heap.size 33 R.zero.arr _ (w.heap.size + 1) 34 (.int .i64 2) rfl rfl hc.1 Try.underlying33 rfl (by rw [R.arr_size _ (zs_length _)]; exact size33) hc.2.1 Try.underlying34, ?_, hc.2.2 _ _ (grown_trans ga gn) hgl (Nat.le_refl _) (by omega)⟩
    have e1 : decR s = none := by unfold decR; rw [hq]; rfl
    unfold gotR errR; rw [e1]; rfl
  | some x =>
    obtain ⟨r, c⟩ := x
    rw [hq] at HC
    have hrl := pRec_img hq
    have hrs : (R.arr r).size = 238 := R.arr_size r hrl
    go_upto_region 3 with (first
      | (go_at_call 46; refine (HC.out _ ra).mono ?_; clear HC; rintro e wn ⟨rfl, rn, gn⟩
         have ya := Row.grown xa gn (fun q => by cases q; omega)
         have yb := Row.grown xb gn (fun q => by cases q; omega))
      | (refine store_cells rfl 33 (.tmp 2) (.tmp 6) rfl w.heap.size r.arr rfl rfl 33 _ ya 238 size33 (R.arr_size _ (zs_length _)) hrs (R.arr_one _) ?_))
    have za := ya.set r.arr
    have zb := yb.other (g := w.heap.size) (by omega) r.arr
    have zr : Rd _ g s c := rn.other (k := w.heap.size) (by omega) r.arr
    have zg := grown_setRow (grown_trans ga gn) hgl (Nat.le_refl _) r.arr
    clear xa xb ga rn gn ya yb ra h
    try simp only [Act.put, List.setIfInBounds_toArray, List.set_cons_zero, List.set_cons_succ]
    generalize wn.setRow w.heap.size r.arr = W at za zb zr zg ⊢
    by_cases hcs : c = s.size
    · have hcs' : ((c : Int) == (s.size : Int)) = true := by simp [hcs]
      refine wp_region_held_drew (S := fun w' => Row w' g #[.string s, .int .i64 (c : Nat)] 66 ∧ Below W.heap.size W w') (by kernel_rfl) ⟨zr, (Below.refl W.heap.size W).drew⟩ fun hS => ?_
      refine wpAnyH_take (i := 0) (v := .pointer (some ⟨g, 0, none⟩)) rfl (by kernel_rfl) (by kernel_rfl) (by kernel_rfl) (fun _ _ _ h => back 7 (by decide) (by decide) h) (Or.inl ⟨by rfl, fun w _ => by go_simp⟩) hS ?_
      try simp only [Act.put, List.getElem_toArray, List.getElem_cons_zero, List.getElem_cons_succ, List.setIfInBounds_toArray, List.set_cons_zero, List.set_cons_succ]
      refine wpAnyH_take (i := 1) (v := .pointer (some ⟨g, 0, none⟩)) rfl (by kernel_rfl) (by kernel_rfl) (by kernel_rfl) (fun _ _ _ h => back 8 (by decide) (by decide) h) (Or.inl ⟨by rfl, fun w _ => by go_simp⟩) hS ?_
      try simp only [Act.put, List.getElem_toArray, List.getElem_cons_zero, List.getElem_cons_succ, List.setIfInBounds_toArray, List.set_cons_zero, List.set_cons_succ]
      refine wpAnyH_take (i := 2) (v := .pointer (some ⟨g, 0, none⟩)) rfl (by kernel_rfl) (by kernel_rfl) (by kernel_rfl) (fun _ _ _ h => back 9 (by decide) (by decide) h) (Or.inl ⟨by rfl, fun w _ => by go_simp⟩) hS ?_
      try simp only [Act.put, List.getElem_toArray, List.getElem_cons_zero, List.getElem_cons_succ, List.setIfInBounds_toArray, List.set_cons_zero, List.set_cons_succ]
      refine wpAnyH_take (i := 3) (v := .pointer (some ⟨g, 1, none⟩)) rfl (by kernel_rfl) (by kernel_rfl) (by kernel_rfl) (fun _ _ _ h => back 10 (by decide) (by decide) h) (Or.inl ⟨by rfl, fun w _ => by go_simp⟩) hS ?_
      try simp only [Act.put, List.getElem_toArray, List.getElem_cons_zero, List.getElem_cons_succ, List.setIfInBounds_toArray, List.set_cons_zero, List.set_cons_succ]
      refine wpAnyH_take (i := 4) (v := .int .i64 (c : Nat)) rfl (by kernel_rfl) (by kernel_rfl) (by kernel_rfl) (fun _ _ _ h => back 11 (by decide) (by decide) h) (Or.inl ⟨by rfl, fun w h => by have c := row_at h.1 1 _ rfl; go_simp⟩) hS ?_
      try simp only [Act.put, List.getElem_toArray, List.getElem_cons_zero, List.getElem_cons_succ, List.setIfInBounds_toArray, List.set_cons_zero, List.set_cons_succ]
      refine wpAnyH_take (i := 5) (v := .pointer (some ⟨g, 0, none⟩)) rfl (by kernel_rfl) (by kernel_rfl) (by kernel_rfl) (fun _ _ _ h => back 12 (by decide) (by decide) h) (Or.inl ⟨by rfl, fun w _ => by go_simp⟩) hS ?_
      try simp only [Act.put, List.getElem_toArray, List.getElem_cons_zero, List.getElem_cons_succ, List.setIfInBounds_toArray, List.set_cons_zero, List.set_cons_succ]
      refine wpAnyH_take (i := 6) (v := .pointer (some ⟨g, 0, none⟩)) rfl (by kernel_rfl) (by kernel_rfl) (by kernel_rfl) (fun _ _ _ h => back 13 (by decide) (by decide) h) (Or.inl ⟨by rfl, fun w _ => by go_simp⟩) hS ?_
      try simp only [Act.put, List.getElem_toArray, List.getElem_cons_zero, List.getElem_cons_succ, List.setIfInBounds_toArray, List.set_cons_zero, List.set_cons_succ]
      refine wpAnyH_take (i := 7) (v := .pointer (some ⟨g, 0, none⟩)) rfl (by kernel_rfl) (by kernel_rfl) (by kernel_rfl) (fun _ _ _ h => back 14 (by decide) (by decide) h) (Or.inl ⟨by rfl, fun w _ => by go_simp⟩) hS ?_
      try simp only [Act.put, List.getElem_toArray, List.getElem_cons_zero, List.getElem_cons_succ, List.setIfInBounds_toArray, List.set_cons_zero, List.set_cons_succ]
      refine wpAnyH_take (i := 8) (v := .string s) rfl (by kernel_rfl) (by kernel_rfl) (by kernel_rfl) (fun _ _ _ h => back 15 (by decide) (by decide) h) (Or.inl ⟨by rfl, fun w h => by have c := row_at h.1 0 _ rfl; go_simp⟩) hS ?_
      try simp only [Act.put, List.getElem_toArray, List.getElem_cons_zero, List.getElem_cons_succ, List.setIfInBounds_toArray, List.set_cons_zero, List.set_cons_succ]
      refine wpAnyH_take (i := 9) (v := .int .i64 s.size) rfl (by kernel_rfl) (by kernel_rfl) (by kernel_rfl) (fun _ _ _ h => back 16 (by decide) (by decide) h) (Or.inl ⟨by rfl, fun w _ => by go_simp⟩) hS ?_
      try simp only [Act.put, List.getElem_toArray, List.getElem_cons_zero, List.getElem_cons_succ, List.setIfInBounds_toArray, List.set_cons_zero, List.set_cons_succ]
      refine wpAnyH_take (i := 10) (v := .bool true) rfl (by kernel_rfl) (by kernel_rfl) (by kernel_rfl) (fun _ _ _ h => back 17 (by decide) (by decide) h) (Or.inl ⟨by rfl, fun w _ => by go_simp⟩) hS ?_
      try simp only [Act.put, List.getElem_toArray, List.getElem_cons_zero, List.getElem_cons_succ, List.setIfInBounds_toArray, List.set_cons_zero, List.set_cons_succ]
      refine wpAnyH_ready (rs := [11]) (by kernel_rfl) (by simp) ?_
      refine AllReadyH.cons rfl (fun K hK => ?_) AllReadyH.nil
      go_simp
      go_at_call 47
      refine Calls.mono (HMU.out _ _) ?_
      rintro e wm ⟨he, hww⟩
      obtain rfl := he
      subst hww
      refine hK.out _ _ hS fun hS => ?_
      try simp only [Act.put, List.getElem_toArray, List.getElem_cons_zero, List.getElem_cons_succ, List.setIfInBounds_toArray, List.set_cons_zero, List.set_cons_succ]
      refine wpAnyH_done (by kernel_rfl) ?_ _
      have hS1 := hS.1
      have va := za.below hS.2 za.lt
      have vb := zb.below hS.2 zb.lt
      have vg := grown_below zg hS.2
      clear za zb zr zg hS1
      generalize W.drew = Wd at va vb vg hS ⊢
      go_wp2_with (first
        | (refine load_cells rfl 33 (.tmp 2) rfl w.heap.size rfl 33 r.arr va 238 Try.underlying33 rfl size33 hrs ?_)
        | (refine store_cells rfl 33 (.tmp 2) (.tmp 19) rfl w.heap.size r.arr rfl rfl 33 _ va 238 size33 hrs hrs (R.arr_one _) ?_
           have vb2 := vb.other (g := w.heap.size) (by omega) r.arr
           have c9 := row_at vb2 0 _ rfl
           have f9 := row_frozen vb2 0))
      have ua := row_setCell_other (va.set r.arr) (g := w.heap.size + 1) (by omega) 0 (.int .i64 0)
      have ub := row_set vb2 0 (.int .i64 0)
      have ug := grown_setCellN (grown_setRow vg hgl (Nat.le_refl _) r.arr) (k := w.heap.size + 1) (by omega) 0 (.int .i64 0)
      refine leaves_cons (f := 45) (args := #[.pointer (some ⟨w.heap.size, 0, none⟩), .pointer (some ⟨w.heap.size + 1, 0, none⟩)]) (by simp) (by simp [go_sem]) ?_
      refine (catch_idle _ _ _).mono ?_
      rintro e u' w'' ⟨rfl, rfl, rfl⟩
      simp only [Leaves, settle]
      refine ⟨_, ret_two (fn := Try.f24) rfl _ _ w.heap.size 33 r.arr _ (w.heap.size + 1) 34 (.int .i64 0) rfl rfl ua Try.underlying33 rfl (by rw [hrs]; exact size33) ub Try.underlying34, ?_, ug⟩
      have e1 : decR s = some r := by unfold decR; rw [hq]; simp [hcs]
      unfold gotR errR; rw [e1]; rfl
    · have hcs' : ((c : Int) == (s.size : Int)) = false := by simp; omega
      refine wp_region_held_drew (S := fun w' => Row w' g #[.string s, .int .i64 (c : Nat)] 66 ∧ Below W.heap.size W w') (by kernel_rfl) ⟨zr, (Below.refl W.heap.size W).drew⟩ fun hS => ?_
      refine wpAnyH_take (i := 0) (v := .pointer (some ⟨g, 0, none⟩)) rfl (by kernel_rfl) (by kernel_rfl) (by kernel_rfl) (fun _ _ _ h => back 7 (by decide) (by decide) h) (Or.inl ⟨by rfl, fun w _ => by go_simp⟩) hS ?_
      try simp only [Act.put, List.getElem_toArray, List.getElem_cons_zero, List.getElem_cons_succ, List.setIfInBounds_toArray, List.set_cons_zero, List.set_cons_succ]
      refine wpAnyH_take (i := 1) (v := .pointer (some ⟨g, 0, none⟩)) rfl (by kernel_rfl) (by kernel_rfl) (by kernel_rfl) (fun _ _ _ h => back 8 (by decide) (by decide) h) (Or.inl ⟨by rfl, fun w _ => by go_simp⟩) hS ?_
      try simp only [Act.put, List.getElem_toArray, List.getElem_cons_zero, List.getElem_cons_succ, List.setIfInBounds_toArray, List.set_cons_zero, List.set_cons_succ]
      refine wpAnyH_take (i := 2) (v := .pointer (some ⟨g, 0, none⟩)) rfl (by kernel_rfl) (by kernel_rfl) (by kernel_rfl) (fun _ _ _ h => back 9 (by decide) (by decide) h) (Or.inl ⟨by rfl, fun w _ => by go_simp⟩) hS ?_
      try simp only [Act.put, List.getElem_toArray, List.getElem_cons_zero, List.getElem_cons_succ, List.setIfInBounds_toArray, List.set_cons_zero, List.set_cons_succ]
      refine wpAnyH_take (i := 3) (v := .pointer (some ⟨g, 1, none⟩)) rfl (by kernel_rfl) (by kernel_rfl) (by kernel_rfl) (fun _ _ _ h => back 10 (by decide) (by decide) h) (Or.inl ⟨by rfl, fun w _ => by go_simp⟩) hS ?_
      try simp only [Act.put, List.getElem_toArray, List.getElem_cons_zero, List.getElem_cons_succ, List.setIfInBounds_toArray, List.set_cons_zero, List.set_cons_succ]
      refine wpAnyH_take (i := 4) (v := .int .i64 (c : Nat)) rfl (by kernel_rfl) (by kernel_rfl) (by kernel_rfl) (fun _ _ _ h => back 11 (by decide) (by decide) h) (Or.inl ⟨by rfl, fun w h => by have c := row_at h.1 1 _ rfl; go_simp⟩) hS ?_
      try simp only [Act.put, List.getElem_toArray, List.getElem_cons_zero, List.getElem_cons_succ, List.setIfInBounds_toArray, List.set_cons_zero, List.set_cons_succ]
      refine wpAnyH_take (i := 5) (v := .pointer (some ⟨g, 0, none⟩)) rfl (by kernel_rfl) (by kernel_rfl) (by kernel_rfl) (fun _ _ _ h => back 12 (by decide) (by decide) h) (Or.inl ⟨by rfl, fun w _ => by go_simp⟩) hS ?_
      try simp only [Act.put, List.getElem_toArray, List.getElem_cons_zero, List.getElem_cons_succ, List.setIfInBounds_toArray, List.set_cons_zero, List.set_cons_succ]
      refine wpAnyH_take (i := 6) (v := .pointer (some ⟨g, 0, none⟩)) rfl (by kernel_rfl) (by kernel_rfl) (by kernel_rfl) (fun _ _ _ h => back 13 (by decide) (by decide) h) (Or.inl ⟨by rfl, fun w _ => by go_simp⟩) hS ?_
      try simp only [Act.put, List.getElem_toArray, List.getElem_cons_zero, List.getElem_cons_succ, List.setIfInBounds_toArray, List.set_cons_zero, List.set_cons_succ]
      refine wpAnyH_take (i := 7) (v := .pointer (some ⟨g, 0, none⟩)) rfl (by kernel_rfl) (by kernel_rfl) (by kernel_rfl) (fun _ _ _ h => back 14 (by decide) (by decide) h) (Or.inl ⟨by rfl, fun w _ => by go_simp⟩) hS ?_
      try simp only [Act.put, List.getElem_toArray, List.getElem_cons_zero, List.getElem_cons_succ, List.setIfInBounds_toArray, List.set_cons_zero, List.set_cons_succ]
      refine wpAnyH_take (i := 8) (v := .string s) rfl (by kernel_rfl) (by kernel_rfl) (by kernel_rfl) (fun _ _ _ h => back 15 (by decide) (by decide) h) (Or.inl ⟨by rfl, fun w h => by have c := row_at h.1 0 _ rfl; go_simp⟩) hS ?_
      try simp only [Act.put, List.getElem_toArray, List.getElem_cons_zero, List.getElem_cons_succ, List.setIfInBounds_toArray, List.set_cons_zero, List.set_cons_succ]
      refine wpAnyH_take (i := 9) (v := .int .i64 s.size) rfl (by kernel_rfl) (by kernel_rfl) (by kernel_rfl) (fun _ _ _ h => back 16 (by decide) (by decide) h) (Or.inl ⟨by rfl, fun w _ => by go_simp⟩) hS ?_
      try simp only [Act.put, List.getElem_toArray, List.getElem_cons_zero, List.getElem_cons_succ, List.setIfInBounds_toArray, List.set_cons_zero, List.set_cons_succ]
      refine wpAnyH_take (i := 10) (v := .bool false) rfl (by kernel_rfl) (by kernel_rfl) (by kernel_rfl) (fun _ _ _ h => back 17 (by decide) (by decide) h) (Or.inl ⟨by rfl, fun w _ => by go_simp⟩) hS ?_
      try simp only [Act.put, List.getElem_toArray, List.getElem_cons_zero, List.getElem_cons_succ, List.setIfInBounds_toArray, List.set_cons_zero, List.set_cons_succ]
      refine wpAnyH_ready (rs := [11]) (by kernel_rfl) (by simp) ?_
      refine AllReadyH.cons rfl (fun K hK => ?_) AllReadyH.nil
      go_simp
      go_at_call 47
      refine Calls.mono (HMU.out _ _) ?_
      rintro e wm ⟨he, hww⟩
      obtain rfl := he
      subst hww
      refine leaves_cons (f := 45) (args := #[.pointer (some ⟨w.heap.size, 0, none⟩), .pointer (some ⟨w.heap.size + 1, 0, none⟩)]) (by simp) (by simp [go_sem]) ?_
      refine (catch_panicking w.heap.size (w.heap.size + 1) _ _ (za.below hS.2 za.lt) hrs _ (zb.below hS.2 zb.lt) (by omega)).mono ?_
      rintro e u' w'' ⟨rfl, rfl, hc⟩
      simp [Leaves, settle]
      refine ⟨_, ret_two (fn := Try.f24) rfl _ _ w.heap.size 33 R.zero.arr _ (w.heap.size + 1) 34 (.int .i64 2) rfl rfl hc.1 Try.underlying33 rfl (by rw [R.arr_size _ (zs_length _)]; exact size33) hc.2.1 Try.underlying34, ?_, hc.2.2 _ _ (grown_below zg hS.2) hgl (Nat.le_refl _) (by omega)⟩
      have e1 : decR s = none := by unfold decR; rw [hq]; simp [hcs]
      unfold gotR errR; rw [e1]; rfl
set_option maxRecDepth 20000 in
set_option maxHeartbeats 4000000 in
theorem dec_any (s : ByteArray) (w : World) (hs : s.size ≤ maxLen) :
    Calls Try.prog 13 #[.string s] w fun e w' => e = .returned (.tuple #[.agg (gotR s).arr, .int .i64 (errR s)]) ∧ Below w.heap.size w w' := by
  have hz := zero33
  have hgs : (gotR s).img.length = 224 := by
    unfold gotR decR
    cases hq : pRec s 0 with
    | none => exact zs_length _
    | some x =>
      obtain ⟨r, c⟩ := x
      rw [Option.bind_some]
      simp only
      split
      · exact pRec_img hq
      · exact zs_length _
  have hss : (gotR s).arr.size = 238 := R.arr_size _ hgs
  have hb66 : (Try.prog.built 66 [(0, .string s)]) = some #[.string s, .int .i64 0] := by kernel_rfl
  have x0 : Row (w.alloc (.cells R.zero.arr 33)) w.heap.size R.zero.arr 33 := Row.new _ _ _
  have b0 : Below w.heap.size w (w.alloc (.cells R.zero.arr 33)) := (Below.refl _ _).alloc (Nat.le_refl _) _
  have HT : Hid _ := fun g w h => taken_any g s w h hs
  generalize gotR s = rr at HT hss ⊢
  generalize errR s = ee at HT ⊢
  go_enter Try.func13, Try.ntmps13
  go_upto_region 1 with fail
  generalize w.alloc (.cells R.zero.arr 33) = w9 at x0 b0 ⊢
  have hl9 := x0.lt
  have rd : Rd (w9.alloc (.cells #[.string s, .int .i64 0] 66)) w9.heap.size s 0 := Row.new _ _ _
  have x1 := x0.alloc (.cells #[.string s, .int .i64 0] 66)
  have b1 := b0.alloc b0.size (.cells #[.string s, .int .i64 0] 66)
  go_wp2_with (first
    | (refine build_parts rfl 66 #[(0, .tmp 4)] rfl [(0, .string s)] rfl _ hb66 ?_)
    | (go_at_call 24; refine (HT.out _ _ rd).mono ?_; clear HT; rintro e wt ⟨rfl, gt⟩; have x2 := Row.grown x1 gt (fun q => by have := Option.some.inj q; omega); have b2 := b1.grown gt b1.size (fun j q => by have := Option.some.inj q; omega))
    | (refine store_cells rfl 33 (.tmp 2) (.tmp 8) rfl w.heap.size rr.arr rfl rfl 33 _ x2 238 size33 (R.arr_size _ (zs_length _)) hss (R.arr_one _) ?_))
  refine bodyPost_ret (v := .tuple #[.agg rr.arr, .int .i64 ee]) ?_ rfl ⟨rfl, below_setRow b2 (Nat.le_refl _) _⟩
  exact ret_cell2 (fn := Try.f13) rfl _ _ w.heap.size 33 rr.arr _ (.int .i64 ee) rfl rfl (x2.set _) Try.underlying33 rfl (by rw [hss]; exact size33)
end Go.Proofs.Ytihjapfgllokgaa
