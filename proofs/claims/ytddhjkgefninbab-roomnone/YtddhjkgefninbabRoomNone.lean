/-
  Proved: for every number and every undo page the Go function varvelaw18.RoomNone returns true and leaves its arguments as they were; no condition.
-/
import Derived.Test.YtddhjkgefninbabRoa
namespace Go.Proofs.Ytddhjkgefninbab.roomNone
open Go.ChangeShapes Go.WideShapes Go.ChangeAt Go.RowKit
open Go.Deep
set_option linter.unusedVariables false
set_option linter.unusedSimpArgs false

theorem own : ownKnob Try.prog.godebug = none := by kernel_rfl

set_option maxHeartbeats 2000000 in
set_option maxRecDepth 20000 in
theorem walk (w : World) (i : Int) (lsn : Int) (v : Value) (os : List O) (wi : (Lit.int .i64 i).wf = true) (ho : Olds w v os) :
    Calls Try.prog 4 #[.int .i64 i, .agg #[.int .u64 lsn, v]] w fun e w' => e = .returned (.bool true) ∧ Below w.heap.size w w' := by
  obtain ⟨oa, cap, rfl, _⟩ := ho.open
  obtain ⟨n, HN⟩ : ∃ n, Hid (os.length = n) := ⟨_, rfl⟩
  rw [HN.out] at ho ⊢
  have r0 : Row (w.alloc (.cells #[.int .u64 lsn, .slice oa n cap] 33)) w.heap.size #[.int .u64 lsn, .slice oa n cap] 33 := Row.new _ _ _
  have ab : Below w.heap.size w (w.alloc (.cells #[.int .u64 lsn, .slice oa n cap] 33)) := (Below.refl _ _).alloc (Nat.le_refl _) _
  have c1 := row_at r0 1 _ rfl
  have HA : Hid (∀ w, Calls Try.prog 6 #[] w fun e w' => e = .returned (.bool true) ∧ Below w.heap.size w w') := awake_any
  by_cases hn : n ≤ 100
  · have hn' : ¬ (n : Int) > 100 := by omega
    have hk := kept_any lsn (.slice oa n cap) os _ (ho.keep ab) (by rw [HN.out]; omega)
    have HNO : Hid (∀ w lsn v, Calls Try.prog 13 #[.pointer none, .int .i64 i, .agg #[.int .u64 lsn, v]] w fun e w' => e = .returned (.tuple #[]) ∧ Below w.heap.size w w') := fun w lsn v => note_out _ ⟨none, rfl⟩ i lsn v w (fun _ _ => trivial) (has_nil i _)
    have HF : Hid (∀ w, Calls Try.prog 7 #[.pointer none, .int .i64 i] w fun e w' => e = .returned (.tuple #[.int .i64 0, .bool false]) ∧ w' = w) := find_nil i
    have HL : Hid (∀ w, Calls Try.prog 14 #[.pointer none] w fun e w' => e = .returned (.int .i64 0) ∧ w' = w) := live_nil
    have HR : Hid (∀ w, Calls Try.prog 10 #[.pointer none] w fun e w' => e = .returned (.slice none 0 0) ∧ w' = w) := refs_nil
    have HP : Hid (∀ w, Calls Try.prog 9 #[.pointer none, .int .i64 i] w fun e w' => e = .returned (.agg #[.int .u64 0, .slice none 0 0]) ∧ Below w.heap.size w w') := fun w => page_out _ ⟨none, rfl⟩ i w (has_nil i _)
    have tl : Hid (1 = 1) := rfl
    go_enter Try.func4, Try.ntmps4
    go_wp2_with (first
      | (have hh := tl; clear hh tl; refine wpList_load_row rfl 33 (.tmp 3) rfl w.heap.size rfl 33 _ (0, 0) _ r0 Try.underlying33 rfl size33 ?_)
      | (go_at_call 16; refine hk.mono ?_; clear hk; rintro e w1 ⟨v1, rfl, _, hb1⟩; have b1 := ab.trans (hb1.mono ab.size); have hno := HNO.out w1 lsn v1)
      | (go_at_call 13; refine hno.mono ?_; clear hno; rintro e w2 ⟨rfl, hb2⟩; have b2 := b1.trans (hb2.mono b1.size))
      | (go_at_call 7; refine (HF.out _).mono ?_; rintro e w3 ⟨rfl, rfl⟩)
      | (go_at_call 14; refine (HL.out _).mono ?_; rintro e w4 ⟨rfl, rfl⟩)
      | (go_at_call 10; refine (HR.out _).mono ?_; rintro e w5 ⟨rfl, rfl⟩)
      | (go_at_call 9; refine (HP.out _).mono ?_; rintro e w6 ⟨rfl, hb6⟩; have b6 := b2.trans (hb6.mono b2.size))
      | (refine field_g rfl 33 (.tmp 44) 1 rfl _ _ rfl (field33 0 none 0 0) ?_)
      | (go_at_call 6; refine (HA.out _).mono ?_; rintro e w7 ⟨rfl, hb7⟩; have b7 := b6.trans (hb7.mono b6.size)))
    go_ret
    exact ⟨rfl, b7⟩
  · have hn' : (n : Int) > 100 := by omega
    go_enter Try.func4, Try.ntmps4
    go_wp2_with (go_at_call 6; refine (HA.out _).mono ?_; rintro e w7 ⟨rfl, hb7⟩; have b7 := ab.trans (hb7.mono ab.size))
    go_ret
    exact ⟨rfl, b7⟩

set_option maxRecDepth 100000 in
theorem lifted (os : Os) (started : os.Started) (H : Type) (enc : TypeId × Value → H) :
    ReturnsInHanded {} Try.checked os 4 .any (Rows.roomNoneSpec.pre6 enc Try.prog Try.f4 Rows.roomNoneRow.domain false) (Rows.roomNoneSpec.post enc Try.prog Try.f4 false true false false) := by
  refine returnsInHanded_of_change_sized (C := Try.checked) own started (by kernel_rfl) Try.func4
    (ChangeSpec.witness6 (enc := enc) (C := Try.checked) false ⟨#[], #[.int .i64 0, .agg #[.int .u64 0, .slice none 0 0]], []⟩ 8 (by kernel_rfl) (by kernel_rfl) (by kernel_rfl) (by kernel_rfl)) ?_
  intro W base args ds gs before hval0 hW hcnd hsz0 _
  have hval : ∀ (j : Nat) t v, Try.f4.params[j]? = some t → args[j]? = some v → Value.okWide Try.prog W .any base t v := hval0
  have hW' := hW
  obtain ⟨p, q, hA0, hV, rfl, hfz, hnd⟩ := hW
  have hA : DataW.TrodAll enc Try.prog W 0 (fun _ => true) true Try.f4.params.toList args.toList ds p := hA0
  have hsz : (DataW.weightsEach Try.prog (Try.f4.params.toList ++ []) (ds ++ gs)).all (· ≤ reachBytes) = true := hsz0
  rw [Try.params4] at hA hval hsz
  obtain ⟨v0, vs0, d0, ds0, p0, q0, hargs, rfl, rfl, h0, r0⟩ := trodAll_cons hA
  obtain ⟨v1, vs1, d1, ds1, p1, q1, rfl, rfl, rfl, h1, r1⟩ := trodAll_cons r0
  obtain ⟨rfl, rfl, rfl⟩ := trodAll_nil r1
  obtain rfl : args = #[v0, v1] := by cases args; simp_all
  obtain ⟨rfl, rfl⟩ := trodVars_none hV
  simp only [List.append_nil] at hsz
  have hlt : ∀ x ∈ (p0 ++ (p1 ++ [])), x.block < W.heap.size := fun x hx => hW'.lt x (by simpa using hx)
  have hw0 : (d0.weights Try.prog 3).all (· ≤ reachBytes) = true := List.all_eq_true.2 fun m hm => List.all_eq_true.1 hsz m (by simp [DataW.weightsEach, hm])
  have hw1 : (d1.weights Try.prog 33).all (· ≤ reachBytes) = true := List.all_eq_true.2 fun m hm => List.all_eq_true.1 hsz m (by simp [DataW.weightsEach, hm])
  have k0 := h0
  have k1 := h1
  obtain ⟨a0, rfl, rfl, rfl, w0⟩ := open_int Try.underlying3 (hval 0 3 v0 rfl rfl) h0
  obtain ⟨a1, c1, l1, rfl, w1⟩ := open_undov (hval 1 33 v1 rfl rfl) h1 hw1
  clear hA0 hval0
  simp only [List.append_nil] at hW'
  refine (walk W a0 a1 c1 l1 w0 w1).mono fun e W' ⟨he, hg⟩ => ?_
  subst he
  exact ⟨_, rfl, ⟨_, _, _, [], ([] ++ (p1 ++ [])), [], hW', (trodAll_cons_mk (shut_bool Try.underlying4 _) trodAll_mk0), (trodAll_cons_mk (Below.trod laid (by kernel_rfl) (of_decide_eq_true (by kernel_rfl)) k0 hg (fun x hx => (nomatch hx))) (trodAll_cons_mk (Below.trod laid (by kernel_rfl) (of_decide_eq_true (by kernel_rfl)) k1 hg (fun x hx => hlt x (by simp [hx]))) trodAll_mk0)), rfl,
    hg.frame _, fun h => by cases h⟩⟩

theorem over : Rows.roomNoneRow.holds Try.pinned (OpenSpec.ofChange Rows.roomNoneSpec) :=
  OpenClaim.holds_of_wide 4 Try.f4 rfl rfl rfl rfl rfl rfl rfl ⟨rfl, rfl, rfl, rfl, rfl⟩ rfl rfl rfl rfl rfl (by kernel_rfl) Try.func4 (by kernel_rfl)
    (of_decide_eq_true (by kernel_rfl)) (by unfold Func.isWrapper; first | (rw [if_pos (by decide +kernel)]; kernel_rfl) | (rw [if_neg (by decide +kernel)]; exact ⟨rfl, rfl⟩))
    (fun os started H enc _ => lifted os started H enc)

/-- The statement. -/
theorem proved : Rows.RoomNoneSaid :=
  over
#print axioms proved
end Go.Proofs.Ytddhjkgefninbab.roomNone
