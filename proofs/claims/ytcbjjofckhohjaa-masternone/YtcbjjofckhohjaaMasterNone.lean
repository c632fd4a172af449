/-
  Proved here: of a disk that isn't there nothing is loaded or stored, and of one that is there a master is stored just if it may be and the place is one (MasterNone).
-/
import Derived.Test.YtcbjjofckhohjaaMop
namespace Go.Proofs.Ytcbjjofckhohjaa.masterNone
open Go.ChangeShapes Go.WideShapes Go.ChangeAt Go.RowKit
open Go.Deep
set_option linter.unusedVariables false
set_option linter.unusedSimpArgs false

theorem own : ownKnob Try.prog.godebug = none := by kernel_rfl

set_option maxRecDepth 20000

set_option maxHeartbeats 4000000 in
theorem walk (w : World) (m : M) (sl : Int) (hf : m.Fit) (hw : (Lit.int .i64 sl).wf = true) :
    Calls Try.prog 7 #[.agg (mcells m), .int .i64 sl] w fun e w' => e = .returned (.bool true) ∧ Below w.heap.size w w' := by
  have HP : Hid (∀ w, Calls Try.prog 20 #[.int .u64 1] w fun e w' => e = .returned (.agg #[.int .u64 1, .int .u32 3, .int .u32 0, .int .u64 9, .int .u32 0, .int .i64 2, .int .i64 3, .int .i64 64, .int .u32 100]) ∧ Below w.heap.size w w') := fun w => plain_any 1 w
  have HSN : Hid (∀ w, Calls Try.prog 21 #[.pointer none, .int .i64 0, .agg #[.int .u64 1, .int .u32 3, .int .u32 0, .int .u64 9, .int .u32 0, .int .i64 2, .int .i64 3, .int .i64 64, .int .u32 100]] w fun e w' => e = .returned (.int .i64 4) ∧ Below w.heap.size w w') := fun w => by
    have h := mstore_nil 0 (plainM 1) (plain_fit 1 (by decide)) w
    rw [show okS (plainM 1) 0 = true by decide +kernel] at h; exact h
  have HLN : Hid _ := mload_nil
  have HA : Hid _ := awake_any
  have HRM : Hid _ := fun w => rmay_any m w
  have heq : ∀ w, (Op.equalIn 10000 27 (.agg #[.int .u64 0, .int .u32 0, .int .u32 0, .int .u64 0, .int .u32 0, .int .i64 0, .int .i64 0, .int .i64 0, .int .u32 0]) (.agg #[.int .u64 0, .int .u32 0, .int .u32 0, .int .u64 0, .int .u32 0, .int .i64 0, .int .i64 0, .int .i64 0, .int .u32 0])).run Try.prog w = .ok true w := fun w => by
    have := equal27 zm zm w
    rw [eqM_self] at this; exact this
  obtain ⟨D1, HD1⟩ : ∃ D1, Hid (storD (Dsk.new 3) sl m = (if okS m sl then 0 else 1, D1)) := by
    cases hk : okS m sl
    · exact ⟨Dsk.new 3, by show _ = _; unfold storD; rw [hk]; rfl⟩
    · exact ⟨_, by show _ = _; rw [stor_well (new_well 3) sl m hk (by decide)]; rfl⟩
  obtain ⟨F, HF⟩ : ∃ F : Int, Hid ((if okS m sl then 0 else 1) = F) := ⟨_, rfl⟩
  have HST : Hid (∀ (wa : World) (g : Nat) (L : Loc), DAt wa g (Dsk.new 3) L 0 → Calls Try.prog 21 #[.pointer (some ⟨g, 0, none⟩), .int .i64 sl, .agg #[.int .u64 m.seq, .int .u32 m.ep, .int .u32 m.tail, .int .u64 m.lsn, .int .u32 m.last, .int .i64 m.pg, .int .i64 m.un, .int .i64 m.lg, .int .u32 m.mx]] wa fun e w' => e = .returned (.int .i64 F) ∧ Crashed wa g D1 L 4 w') := fun wa g L h => by
    have := mstore_any h (by decide) (by decide) sl m hf
    rw [HD1.out, HF.out] at this; exact this
  have hz := zero27
  have r0 : Row (w.alloc (.cells #[.int .u64 m.seq, .int .u32 m.ep, .int .u32 m.tail, .int .u64 m.lsn, .int .u32 m.last, .int .i64 m.pg, .int .i64 m.un, .int .i64 m.lg, .int .u32 m.mx] 27)) w.heap.size #[.int .u64 m.seq, .int .u32 m.ep, .int .u32 m.tail, .int .u64 m.lsn, .int .u32 m.last, .int .i64 m.pg, .int .i64 m.un, .int .i64 m.lg, .int .u32 m.mx] 27 := Row.new _ _ _
  have wb : Below w.heap.size w (w.alloc (.cells #[.int .u64 m.seq, .int .u32 m.ep, .int .u32 m.tail, .int .u64 m.lsn, .int .u32 m.last, .int .i64 m.pg, .int .i64 m.un, .int .i64 m.lg, .int .u32 m.mx] 27)) := (Below.refl _ _).alloc (Nat.le_refl _) _
  go_enter Try.func7, Try.ntmps7
  go_upto_region 1 with fail
  generalize w.alloc (.cells #[.int .u64 m.seq, .int .u32 m.ep, .int .u32 m.tail, .int .u64 m.lsn, .int .u32 m.last, .int .i64 m.pg, .int .i64 m.un, .int .i64 m.lg, .int .u32 m.mx] 27) = w1 at r0 wb ⊢
  go_upto_region 3 with (first
    | (go_at_call 19; refine (HLN.out _).mono ?_; clear HLN; rintro ex wl ⟨rfl, hl⟩
       have x0 : Row (wl.alloc (.cells #[.int .u64 0, .int .u32 0, .int .u32 0, .int .u64 0, .int .u32 0, .int .i64 0, .int .i64 0, .int .i64 0, .int .u32 0] 27)) wl.heap.size #[.int .u64 0, .int .u32 0, .int .u32 0, .int .u64 0, .int .u32 0, .int .i64 0, .int .i64 0, .int .i64 0, .int .u32 0] 27 := Row.new _ _ _)
    | (refine store_cells rfl 27 (.tmp 6) (.tmp 15) rfl wl.heap.size #[.int .u64 0, .int .u32 0, .int .u32 0, .int .u64 0, .int .u32 0, .int .i64 0, .int .i64 0, .int .i64 0, .int .u32 0] rfl rfl 27 _ x0 9 size27 rfl rfl (by simp [Value.oneCell']) ?_))
  have r0 := r0.below hl r0.lt
  have l0 := r0.lt
  have wb := wb.trans (hl.mono wb.size)
  have r0 := (r0.alloc (.cells #[.int .u64 0, .int .u32 0, .int .u32 0, .int .u64 0, .int .u32 0, .int .i64 0, .int .i64 0, .int .i64 0, .int .u32 0] 27)).other (g := wl.heap.size) (by omega) #[.int .u64 0, .int .u32 0, .int .u32 0, .int .u64 0, .int .u32 0, .int .i64 0, .int .i64 0, .int .i64 0, .int .u32 0]
  have x0 := x0.set #[.int .u64 0, .int .u32 0, .int .u32 0, .int .u64 0, .int .u32 0, .int .i64 0, .int .i64 0, .int .i64 0, .int .u32 0]
  have l1 := wb.size
  have wb := below_setRow (wb.alloc wb.size (.cells #[.int .u64 0, .int .u32 0, .int .u32 0, .int .u64 0, .int .u32 0, .int .i64 0, .int .i64 0, .int .i64 0, .int .u32 0] 27)) wb.size #[.int .u64 0, .int .u32 0, .int .u32 0, .int .u64 0, .int .u32 0, .int .i64 0, .int .i64 0, .int .i64 0, .int .u32 0]
  show Code.wp _ _ _ _ ((wl.alloc (.cells #[.int .u64 0, .int .u32 0, .int .u32 0, .int .u64 0, .int .u32 0, .int .i64 0, .int .i64 0, .int .i64 0, .int .u32 0] 27)).setRow wl.heap.size #[.int .u64 0, .int .u32 0, .int .u32 0, .int .u64 0, .int .u32 0, .int .i64 0, .int .i64 0, .int .i64 0, .int .u32 0])
  generalize (wl.alloc (.cells #[.int .u64 0, .int .u32 0, .int .u32 0, .int .u64 0, .int .u32 0, .int .i64 0, .int .i64 0, .int .i64 0, .int .u32 0] 27)).setRow wl.heap.size #[.int .u64 0, .int .u32 0, .int .u32 0, .int .u64 0, .int .u32 0, .int .i64 0, .int .i64 0, .int .i64 0, .int .u32 0] = w2 at r0 x0 wb ⊢
  generalize wl.heap.size = gx at x0 l1 l0 ⊢
  clear hl
  go_upto_region 4 with (go_at_call 16; refine (new_some 3 (by decide) (by decide) _).mono ?_; rintro ex wa ⟨rfl, hd, hb⟩)
  have hfo := fun j => new_foot w2.heap.size j
  generalize Loc.new w2.heap.size = L at hd hfo
  generalize hG : w2.heap.size + 2 = G at hd hfo ⊢
  have r0 := r0.below hb r0.lt
  have lx := x0.lt
  have lr : w.heap.size < w2.heap.size := by have := x0.lt; omega
  have x0 := x0.below hb x0.lt
  have l2 := wb.size
  have wb := wb.trans (hb.mono wb.size)
  go_upto_region 7 with (first
    | (refine load_cells rfl 27 (.tmp 2) rfl w.heap.size rfl 27 #[.int .u64 m.seq, .int .u32 m.ep, .int .u32 m.tail, .int .u64 m.lsn, .int .u32 m.last, .int .i64 m.pg, .int .i64 m.un, .int .i64 m.lg, .int .u32 m.mx] r0 9 Try.underlying27 rfl size27 rfl ?_)
    | (go_at_call 21; refine (HST.out _ _ _ hd).mono ?_; clear HST; rintro ex ws ⟨rfl, ⟨L2, k1, k2, k3⟩⟩))
  have r0 := r0.off k2 (fun h => by have := hfo _ h; omega)
  have x0 := x0.off k2 (fun h => by have := hfo _ h; omega)
  have wb := wb.trans (k2.below wb.size (fun k hk => by have := hfo k hk; omega))
  clear hd hb k1 k2 k3 hfo l2 lx hG
  cases hm : mayM m
  · rw [hm] at HRM
    obtain rfl : F = 1 := by rw [← HF.out]; unfold okS; rw [hm]; rfl
    clear hm hw HF HD1 hf
    go_wp2_with (first
      | (go_at_call 12; refine (HRM.out _).mono ?_; clear HRM; rintro ex wr ⟨rfl, hr⟩
         have x0 := x0.below hr x0.lt; have wb := wb.trans (hr.mono wb.size))
      | (refine load_cells rfl 27 (.tmp 2) rfl w.heap.size rfl 27 #[.int .u64 m.seq, .int .u32 m.ep, .int .u32 m.tail, .int .u64 m.lsn, .int .u32 m.last, .int .i64 m.pg, .int .i64 m.un, .int .i64 m.lg, .int .u32 m.mx] r0 9 Try.underlying27 rfl size27 rfl ?_)
      | (refine load_cells rfl 27 (.tmp 6) rfl gx rfl 27 #[.int .u64 0, .int .u32 0, .int .u32 0, .int .u64 0, .int .u32 0, .int .i64 0, .int .i64 0, .int .i64 0, .int .u32 0] x0 9 Try.underlying27 rfl size27 rfl ?_)
      | (refine build_none rfl 27 rfl _ built27 ?_)
      | (go_at_call 20; refine (HP.out _).mono ?_; clear HP; rintro ex wp ⟨rfl, hp⟩; have wb := wb.trans (hp.mono wb.size))
      | (go_at_call 21; refine (HSN.out _).mono ?_; clear HSN; rintro ex wq ⟨rfl, hq⟩; have wb := wb.trans (hq.mono wb.size))
      | (go_at_call 15; refine (HA.out _).mono ?_; clear HA; rintro ex wz ⟨rfl, hz⟩; have wb := wb.trans (hz.mono wb.size)))
    go_ret
    exact ⟨rfl, wb⟩
  · rw [hm] at HRM
    by_cases h0 : sl = 0
    · subst h0
      obtain rfl : F = 0 := by rw [← HF.out]; unfold okS; rw [hm]; rfl
      clear hm hw HF HD1 hf
      go_wp2_with (first
        | (go_at_call 12; refine (HRM.out _).mono ?_; clear HRM; rintro ex wr ⟨rfl, hr⟩
           have x0 := x0.below hr x0.lt; have wb := wb.trans (hr.mono wb.size))
        | (refine load_cells rfl 27 (.tmp 2) rfl w.heap.size rfl 27 #[.int .u64 m.seq, .int .u32 m.ep, .int .u32 m.tail, .int .u64 m.lsn, .int .u32 m.last, .int .i64 m.pg, .int .i64 m.un, .int .i64 m.lg, .int .u32 m.mx] r0 9 Try.underlying27 rfl size27 rfl ?_)
        | (refine load_cells rfl 27 (.tmp 6) rfl gx rfl 27 #[.int .u64 0, .int .u32 0, .int .u32 0, .int .u64 0, .int .u32 0, .int .i64 0, .int .i64 0, .int .i64 0, .int .u32 0] x0 9 Try.underlying27 rfl size27 rfl ?_)
        | (refine build_none rfl 27 rfl _ built27 ?_)
        | (go_at_call 20; refine (HP.out _).mono ?_; clear HP; rintro ex wp ⟨rfl, hp⟩; have wb := wb.trans (hp.mono wb.size))
        | (go_at_call 21; refine (HSN.out _).mono ?_; clear HSN; rintro ex wq ⟨rfl, hq⟩; have wb := wb.trans (hq.mono wb.size))
        | (go_at_call 15; refine (HA.out _).mono ?_; clear HA; rintro ex wz ⟨rfl, hz⟩; have wb := wb.trans (hz.mono wb.size)))
      go_ret
      exact ⟨rfl, wb⟩
    · by_cases h1 : sl = 1
      · subst h1
        obtain rfl : F = 0 := by rw [← HF.out]; unfold okS; rw [hm]; rfl
        clear hm hw HF HD1 hf h0
        go_wp2_with (first
          | (go_at_call 12; refine (HRM.out _).mono ?_; clear HRM; rintro ex wr ⟨rfl, hr⟩
             have x0 := x0.below hr x0.lt; have wb := wb.trans (hr.mono wb.size))
          | (refine load_cells rfl 27 (.tmp 2) rfl w.heap.size rfl 27 #[.int .u64 m.seq, .int .u32 m.ep, .int .u32 m.tail, .int .u64 m.lsn, .int .u32 m.last, .int .i64 m.pg, .int .i64 m.un, .int .i64 m.lg, .int .u32 m.mx] r0 9 Try.underlying27 rfl size27 rfl ?_)
          | (refine load_cells rfl 27 (.tmp 6) rfl gx rfl 27 #[.int .u64 0, .int .u32 0, .int .u32 0, .int .u64 0, .int .u32 0, .int .i64 0, .int .i64 0, .int .i64 0, .int .u32 0] x0 9 Try.underlying27 rfl size27 rfl ?_)
          | (refine build_none rfl 27 rfl _ built27 ?_)
          | (go_at_call 20; refine (HP.out _).mono ?_; clear HP; rintro ex wp ⟨rfl, hp⟩; have wb := wb.trans (hp.mono wb.size))
          | (go_at_call 21; refine (HSN.out _).mono ?_; clear HSN; rintro ex wq ⟨rfl, hq⟩; have wb := wb.trans (hq.mono wb.size))
          | (go_at_call 15; refine (HA.out _).mono ?_; clear HA; rintro ex wz ⟨rfl, hz⟩; have wb := wb.trans (hz.mono wb.size)))
        go_ret
        exact ⟨rfl, wb⟩
      · obtain rfl : F = 1 := by rw [← HF.out]; unfold okS; rw [hm]; simp; omega
        have h0' : (sl == 0) = false := by simpa using h0
        have h1' : (sl == 1) = false := by simpa using h1
        clear hm hw HF HD1 hf
        go_wp2_with (first
          | (go_at_call 12; refine (HRM.out _).mono ?_; clear HRM; rintro ex wr ⟨rfl, hr⟩
             have x0 := x0.below hr x0.lt; have wb := wb.trans (hr.mono wb.size))
          | (refine load_cells rfl 27 (.tmp 2) rfl w.heap.size rfl 27 #[.int .u64 m.seq, .int .u32 m.ep, .int .u32 m.tail, .int .u64 m.lsn, .int .u32 m.last, .int .i64 m.pg, .int .i64 m.un, .int .i64 m.lg, .int .u32 m.mx] r0 9 Try.underlying27 rfl size27 rfl ?_)
          | (refine load_cells rfl 27 (.tmp 6) rfl gx rfl 27 #[.int .u64 0, .int .u32 0, .int .u32 0, .int .u64 0, .int .u32 0, .int .i64 0, .int .i64 0, .int .i64 0, .int .u32 0] x0 9 Try.underlying27 rfl size27 rfl ?_)
          | (refine build_none rfl 27 rfl _ built27 ?_)
          | (go_at_call 20; refine (HP.out _).mono ?_; clear HP; rintro ex wp ⟨rfl, hp⟩; have wb := wb.trans (hp.mono wb.size))
          | (go_at_call 21; refine (HSN.out _).mono ?_; clear HSN; rintro ex wq ⟨rfl, hq⟩; have wb := wb.trans (hq.mono wb.size))
          | (go_at_call 15; refine (HA.out _).mono ?_; clear HA; rintro ex wz ⟨rfl, hz⟩; have wb := wb.trans (hz.mono wb.size)))
        go_ret
        exact ⟨rfl, wb⟩

set_option maxRecDepth 100000 in
theorem lifted (os : Os) (started : os.Started) (H : Type) (enc : TypeId × Value → H) :
    ReturnsInHanded {} Try.checked os 7 .any (Rows.masterNoneSpec.pre6 enc Try.prog Try.f7 Rows.masterNoneRow.domain false) (Rows.masterNoneSpec.post enc Try.prog Try.f7 false true false false) := by
  refine returnsInHanded_of_change_sized (C := Try.checked) own started (by kernel_rfl) Try.func7
    (ChangeSpec.witness6 (enc := enc) (C := Try.checked) false ⟨#[], #[.agg (mcells zm), .int .i64 0], []⟩ 8 (by kernel_rfl) (by kernel_rfl) (by kernel_rfl) (by kernel_rfl)) ?_
  intro W base args ds gs before hval0 hW hcnd hsz0 _
  have hval : ∀ (j : Nat) t v, Try.f7.params[j]? = some t → args[j]? = some v → Value.okWide Try.prog W .any base t v := hval0
  have hW' := hW
  obtain ⟨p, q, hA0, hV, rfl, hfz, hnd⟩ := hW
  have hA : DataW.TrodAll enc Try.prog W 0 (fun _ => true) true Try.f7.params.toList args.toList ds p := hA0
  have hsz : (DataW.weightsEach Try.prog (Try.f7.params.toList ++ []) (ds ++ gs)).all (· ≤ reachBytes) = true := hsz0
  rw [Try.params7] at hA hval hsz
  obtain ⟨v0, vs0, d0, ds0, p0, q0, hargs, rfl, rfl, h0, r0⟩ := trodAll_cons hA
  obtain ⟨v1, vs1, d1, ds1, p1, q1, rfl, rfl, rfl, h1, r1⟩ := trodAll_cons r0
  obtain ⟨rfl, rfl, rfl⟩ := trodAll_nil r1
  obtain rfl : args = #[v0, v1] := by cases args; simp_all
  obtain ⟨rfl, rfl⟩ := trodVars_none hV
  simp only [List.append_nil] at hsz
  have hlt : ∀ x ∈ (p0 ++ (p1 ++ [])), x.block < W.heap.size := fun x hx => hW'.lt x (by simpa using hx)
  have hw0 : (d0.weights Try.prog 27).all (· ≤ reachBytes) = true := List.all_eq_true.2 fun m hm => List.all_eq_true.1 hsz m (by simp [DataW.weightsEach, hm])
  have hw1 : (d1.weights Try.prog 3).all (· ≤ reachBytes) = true := List.all_eq_true.2 fun m hm => List.all_eq_true.1 hsz m (by simp [DataW.weightsEach, hm])
  have k0 := h0
  have k1 := h1
  obtain ⟨a0, rfl, w0⟩ := open_masv (hval 0 27 v0 rfl rfl) h0
  obtain ⟨a1, rfl, rfl, rfl, w1⟩ := open_int Try.underlying3 (hval 1 3 v1 rfl rfl) h1
  clear hA0 hval0
  simp only [List.append_nil] at hW'
  refine (walk W a0 a1 w0 w1).mono fun e W' ⟨he, hg⟩ => ?_
  subst he
  exact ⟨_, rfl, ⟨_, _, _, [], (p0 ++ ([] ++ [])), [], hW', (trodAll_cons_mk (shut_bool Try.underlying4 _) trodAll_mk0), (trodAll_cons_mk (Below.trod laidOut (by kernel_rfl) (of_decide_eq_true (by kernel_rfl)) k0 hg (fun x hx => hlt x (by simp [hx]))) (trodAll_cons_mk (Below.trod laidOut (by kernel_rfl) (of_decide_eq_true (by kernel_rfl)) k1 hg (fun x hx => (nomatch hx))) trodAll_mk0)), rfl,
    hg.frame _, fun h => by cases h⟩⟩

theorem over : Rows.masterNoneRow.holds Try.pinned (OpenSpec.ofChange Rows.masterNoneSpec) :=
  OpenClaim.holds_of_wide 7 Try.f7 rfl rfl rfl rfl rfl rfl rfl ⟨rfl, rfl, rfl, rfl, rfl⟩ rfl rfl rfl rfl rfl (by kernel_rfl) Try.func7 (by kernel_rfl)
    (of_decide_eq_true (by kernel_rfl)) (by unfold Func.isWrapper; first | (rw [if_pos (by decide +kernel)]; kernel_rfl) | (rw [if_neg (by decide +kernel)]; exact ⟨rfl, rfl⟩))
    (fun os started H enc _ => lifted os started H enc)

/-- The statement. -/
theorem proved : Rows.MasterNoneSaid :=
  over
#print axioms proved
end Go.Proofs.Ytcbjjofckhohjaa.masterNone
