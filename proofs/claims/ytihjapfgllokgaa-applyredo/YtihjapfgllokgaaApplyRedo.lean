/-
  Proved here: for every page's name, payload and entry the statement ApplyRedo holds: what the record makes of the page, and whether it is refused, is what the document says. No conditions.
-/
import Derived.Test.YtihjapfgllokgaaQMd
import Derived.Test.YtihjapfgllokgaaQAwk
namespace Go.Proofs.Ytihjapfgllokgaa.applyRedo
open Go.ChangeShapes Go.WideShapes Go.ChangeAt Go.RowKit
open Go.Deep
set_option linter.unusedVariables false
set_option linter.unusedSimpArgs false

theorem own : ownKnob Try.prog.godebug = none := by kernel_rfl

set_option maxHeartbeats 8000000 in
set_option maxRecDepth 20000 in
theorem walk (w : World) (u : Bool) (no : Int) (p : List Int) (e : En) (hno : 0 ≤ no ∧ no ≤ 65535) (hp : p.length = 224) (hb : Bytes p) (hf : e.Fits) :
    Calls Try.prog 8 #[.agg #[.bool u, .int .u16 no], .agg (bs p), .agg e.arr] w fun e w' => e = .returned (.bool true) ∧ Below w.heap.size w w' := by
  have hz := zero26
  have hpb : (bs p).size = 224 := by rw [bs_size, hp]
  have HR1 : Hid _ := fun w => redo_any u no p e w hno hp hb hf
  have HR2 : Hid _ := fun w => rredo_any u no p e w hno hp hb hf
  have HAW : Hid _ := fun w => awake_any w
  have hql := (redoR_ok u no p e hp hb hf).1
  generalize redoR u no p e = qe at HR1 HR2 hql
  obtain ⟨q, E⟩ := qe
  have hqb : (bs q).size = 224 := by rw [bs_size]; exact hql
  have heq : ∀ w, (Op.equalIn 10000 26 (.agg (bs q)) (.agg (bs q))).run Try.prog w = .ok true w := fun w => by have := equal26 q q hql hql w; simpa using this
  have hee : (E == E) = true := by simp
  have r0 : Row (((w.alloc (.cells #[.bool u, .int .u16 no] 24)).alloc (.cells (bs p) 26)).alloc (.cells e.arr 52)) w.heap.size #[.bool u, .int .u16 no] 24 := ((Row.new _ _ _).alloc _).alloc _
  have r1 : Row (((w.alloc (.cells #[.bool u, .int .u16 no] 24)).alloc (.cells (bs p) 26)).alloc (.cells e.arr 52)) (w.heap.size + 1) (bs p) 26 := by have := (Row.new (w.alloc (.cells #[.bool u, .int .u16 no] 24)) (bs p) 26).alloc (.cells e.arr 52); simpa using this
  have r2 : Row (((w.alloc (.cells #[.bool u, .int .u16 no] 24)).alloc (.cells (bs p) 26)).alloc (.cells e.arr 52)) (w.heap.size + 2) e.arr 52 := by have := Row.new ((w.alloc (.cells #[.bool u, .int .u16 no] 24)).alloc (.cells (bs p) 26)) e.arr 52; simpa using this
  have rb : Below w.heap.size w (((w.alloc (.cells #[.bool u, .int .u16 no] 24)).alloc (.cells (bs p) 26)).alloc (.cells e.arr 52)) := (((Below.refl _ _).alloc (Nat.le_refl _) _).alloc (by simp) _).alloc (by simp; omega) _
  go_enter Try.func8, Try.ntmps8
  go_upto_region 1 with fail
  generalize ((w.alloc (.cells #[.bool u, .int .u16 no] 24)).alloc (.cells (bs p) 26)).alloc (.cells e.arr 52) = w1 at r0 r1 r2 rb ⊢
  go_upto_region 2 with (first
    | (refine load_cells rfl 24 (.tmp 3) rfl w.heap.size rfl 24 _ r0 2 Try.underlying24 rfl size24 rfl ?_)
    | (refine load_row rfl 26 (.tmp 4) rfl (w.heap.size + 1) rfl 26 (bs p) r1 224 5 Try.underlying26 size26 hpb ?_)
    | (refine load_cells rfl 52 (.tmp 5) rfl (w.heap.size + 2) rfl 52 _ r2 239 Try.underlying52 rfl size52 (e.arr_size hf.r.len) ?_)
    | (go_at_call 15; refine (HR1.out _).mono ?_; clear HR1; rintro en w2 ⟨rfl, h2⟩
       have s0 := (r0.below h2 r0.lt).alloc (.cells (bs (zs 224)) 26)
       have s1 := (r1.below h2 r1.lt).alloc (.cells (bs (zs 224)) 26)
       have s2 := (r2.below h2 r2.lt).alloc (.cells (bs (zs 224)) 26)
       have s7 : Row (w2.alloc (.cells (bs (zs 224)) 26)) w2.heap.size (bs (zs 224)) 26 := Row.new _ _ _
       have sb0 := rb.trans (h2.mono rb.size)
       have sb := sb0.alloc sb0.size (.cells (bs (zs 224)) 26)
       have hg7 : w.heap.size + 2 < w2.heap.size := (r2.below h2 r2.lt).lt)
    | (refine store_row rfl 26 (.tmp 7) (.tmp 16) rfl w2.heap.size q rfl rfl 26 _ s7 224 size26 (by rw [bs_size, zs_length]) hql ?_))
  have t0 := s0.other (g := w2.heap.size) (by omega) (bs q)
  have t1 := s1.other (g := w2.heap.size) (by omega) (bs q)
  have t2 := s2.other (g := w2.heap.size) (by omega) (bs q)
  have t7 := s7.set (bs q)
  have tb := below_setRow sb (show w.heap.size ≤ w2.heap.size by omega) (bs q)
  clear s0 s1 s2 s7 sb r0 r1 r2 rb
  generalize (w2.alloc (.cells (bs (zs 224)) 26)).setRow w2.heap.size (bs q) = W2 at t0 t1 t2 t7 tb ⊢
  generalize w2.heap.size = g7 at t7 hg7 ⊢
  go_upto_region 3 with (first
    | (refine load_cells rfl 24 (.tmp 3) rfl w.heap.size rfl 24 _ t0 2 Try.underlying24 rfl size24 rfl ?_)
    | (refine load_row rfl 26 (.tmp 4) rfl (w.heap.size + 1) rfl 26 (bs p) t1 224 5 Try.underlying26 size26 hpb ?_)
    | (refine load_cells rfl 52 (.tmp 5) rfl (w.heap.size + 2) rfl 52 _ t2 239 Try.underlying52 rfl size52 (e.arr_size hf.r.len) ?_)
    | (go_at_call 16; refine (HR2.out _).mono ?_; clear HR2; rintro en w3 ⟨rfl, h3⟩
       have s7 := (t7.below h3 t7.lt).alloc (.cells (bs (zs 224)) 26)
       have s9 : Row (w3.alloc (.cells (bs (zs 224)) 26)) w3.heap.size (bs (zs 224)) 26 := Row.new _ _ _
       have sc0 := tb.trans (h3.mono tb.size)
       have sc := sc0.alloc sc0.size (.cells (bs (zs 224)) 26)
       have hg9 : g7 < w3.heap.size := (t7.below h3 t7.lt).lt)
    | (refine store_row rfl 26 (.tmp 9) (.tmp 23) rfl w3.heap.size q rfl rfl 26 _ s9 224 size26 (by rw [bs_size, zs_length]) hql ?_))
  have u7 := s7.other (g := w3.heap.size) (by omega) (bs q)
  have u9 := s9.set (bs q)
  have ub := below_setRow sc (show w.heap.size ≤ w3.heap.size by omega) (bs q)
  clear s7 s9 sc t0 t1 t2 t7 tb
  generalize (w3.alloc (.cells (bs (zs 224)) 26)).setRow w3.heap.size (bs q) = W3 at u7 u9 ub ⊢
  generalize w3.heap.size = g9 at u9 hg9 ⊢
  go_wp2_with (first
    | (refine load_row rfl 26 (.tmp 7) rfl g7 rfl 26 (bs q) u7 224 5 Try.underlying26 size26 hqb ?_)
    | (refine load_row rfl 26 (.tmp 9) rfl g9 rfl 26 (bs q) u9 224 5 Try.underlying26 size26 hqb ?_)
    | (go_at_call 17; refine (HAW.out _).mono ?_; clear HAW; rintro en w4 ⟨rfl, h4⟩))
  go_ret
  exact ⟨rfl, ub.trans (h4.mono ub.size)⟩

set_option maxRecDepth 100000 in
theorem lifted (os : Os) (started : os.Started) (H : Type) (enc : TypeId × Value → H) :
    ReturnsInHanded {} Try.checked os 8 .any (Rows.applyRedoSpec.pre6 enc Try.prog Try.f8 Rows.applyRedoRow.domain false) (Rows.applyRedoSpec.post enc Try.prog Try.f8 false true false false) := by
  refine returnsInHanded_of_change_sized (C := Try.checked) own started (by kernel_rfl) Try.func8
    (ChangeSpec.witness6 (enc := enc) (C := Try.checked) false ⟨#[], #[.agg #[.bool false, .int .u16 0], .agg (bs (zs 224)), .agg En.zero.arr], []⟩ 8 (by kernel_rfl) (by kernel_rfl) (by kernel_rfl) (by kernel_rfl)) ?_
  intro W base args ds gs before hval0 hW hcnd hsz0 _
  have hval : ∀ (j : Nat) t v, Try.f8.params[j]? = some t → args[j]? = some v → Value.okWide Try.prog W .any base t v := hval0
  have hW' := hW
  obtain ⟨p, q, hA0, hV, rfl, hfz, hnd⟩ := hW
  have hA : DataW.TrodAll enc Try.prog W 0 (fun _ => true) true Try.f8.params.toList args.toList ds p := hA0
  have hsz : (DataW.weightsEach Try.prog (Try.f8.params.toList ++ []) (ds ++ gs)).all (· ≤ reachBytes) = true := hsz0
  rw [Try.params8] at hA hval hsz
  obtain ⟨v0, vs0, d0, ds0, p0, q0, hargs, rfl, rfl, h0, r0⟩ := trodAll_cons hA
  obtain ⟨v1, vs1, d1, ds1, p1, q1, rfl, rfl, rfl, h1, r1⟩ := trodAll_cons r0
  obtain ⟨v2, vs2, d2, ds2, p2, q2, rfl, rfl, rfl, h2, r2⟩ := trodAll_cons r1
  obtain ⟨rfl, rfl, rfl⟩ := trodAll_nil r2
  obtain rfl : args = #[v0, v1, v2] := by cases args; simp_all
  obtain ⟨rfl, rfl⟩ := trodVars_none hV
  simp only [List.append_nil] at hsz
  have hlt : ∀ x ∈ (p0 ++ (p1 ++ (p2 ++ []))), x.block < W.heap.size := fun x hx => hW'.lt x (by simpa using hx)
  have hw0 : (d0.weights Try.prog 24).all (· ≤ reachBytes) = true := List.all_eq_true.2 fun m hm => List.all_eq_true.1 hsz m (by simp [DataW.weightsEach, hm])
  have hw1 : (d1.weights Try.prog 26).all (· ≤ reachBytes) = true := List.all_eq_true.2 fun m hm => List.all_eq_true.1 hsz m (by simp [DataW.weightsEach, hm])
  have hw2 : (d2.weights Try.prog 52).all (· ≤ reachBytes) = true := List.all_eq_true.2 fun m hm => List.all_eq_true.1 hsz m (by simp [DataW.weightsEach, hm])
  have k0 := h0
  have k1 := h1
  have k2 := h2
  obtain ⟨a0, c0, rfl, w0⟩ := open_pidv (hval 0 24 v0 rfl rfl) h0
  obtain ⟨a1, rfl, l1, w1⟩ := open_payv (hval 1 26 v1 rfl rfl) h1
  obtain ⟨a2, rfl, w2⟩ := open_env (hval 2 52 v2 rfl rfl) h2
  clear hA0 hval0
  simp only [List.append_nil] at hW'
  refine (walk W a0 c0 a1 a2 w0 l1 w1 w2).mono fun e W' ⟨he, hg⟩ => ?_
  subst he
  exact ⟨_, rfl, ⟨_, _, _, [], (p0 ++ (p1 ++ (p2 ++ []))), [], hW', (trodAll_cons_mk (shut_bool Try.underlying4 _) trodAll_mk0), (trodAll_cons_mk (Below.trod laidOut (by kernel_rfl) (of_decide_eq_true (by kernel_rfl)) k0 hg (fun x hx => hlt x (by simp [hx]))) (trodAll_cons_mk (Below.trod laidOut (by kernel_rfl) (of_decide_eq_true (by kernel_rfl)) k1 hg (fun x hx => hlt x (by simp [hx]))) (trodAll_cons_mk (Below.trod laidOut (by kernel_rfl) (of_decide_eq_true (by kernel_rfl)) k2 hg (fun x hx => hlt x (by simp [hx]))) trodAll_mk0))), rfl,
    hg.frame _, fun h => by cases h⟩⟩

theorem over : Rows.applyRedoRow.holds Try.pinned (OpenSpec.ofChange Rows.applyRedoSpec) :=
  OpenClaim.holds_of_wide 8 Try.f8 rfl rfl rfl rfl rfl rfl rfl ⟨rfl, rfl, rfl, rfl, rfl⟩ rfl rfl rfl rfl rfl (by kernel_rfl) Try.func8 (by kernel_rfl)
    (of_decide_eq_true (by kernel_rfl)) (by unfold Func.isWrapper; first | (rw [if_pos (by decide +kernel)]; kernel_rfl) | (rw [if_neg (by decide +kernel)]; exact ⟨rfl, rfl⟩))
    (fun os started H enc _ => lifted os started H enc)

/-- The statement. -/
theorem proved : Rows.ApplyRedoSaid :=
  over
#print axioms proved
end Go.Proofs.Ytihjapfgllokgaa.applyRedo
