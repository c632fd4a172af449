/-
  Proved here: the calls of no set answer as the document says.
-/
import Derived.Test.YtmnbfcmamhinbacWsn
namespace Go.Proofs.Ytmnbfcmamhinbac.wsetNone
open Go.ChangeShapes Go.WideShapes Go.ChangeAt Go.RowKit
open Go.Deep
set_option linter.unusedVariables false
set_option linter.unusedSimpArgs false

theorem own : ownKnob Try.prog.godebug = none := by kernel_rfl

open Ws

set_option maxHeartbeats 4000000 in
set_option maxRecDepth 20000 in
theorem walk (w : World) (pg : Int) (b : List Int) (off : Int) (t : ByteArray) (hb : b.length = 64) :
    Calls Try.prog 3 #[.agg (opA pg b off t)] w fun e w' => e = .returned (.bool true) ∧ Below w.heap.size w w' := by
  have hz := zero24
  have HR : Hid _ := fun w => read_nil w pg
  have HWT : Hid _ := fun w => write_nil w pg b off t
  have HD : Hid _ := fun w => delta_nil w pg
  have HP : Hid _ := fun w => pages_nil w
  have HA : Hid _ := fun w => awake_any w
  have hN : (bs (nowP (zs 128))).size = 64 := by decide +kernel
  have hone := bs_one (nowP (zs 128))
  generalize bs (nowP (zs 128)) = N at HR hN hone
  have ab : Below w.heap.size w (w.alloc (.cells (opA pg b off t) 26)) := (Below.refl _ _).alloc (Nat.le_refl _) _
  have r0 : Row (w.alloc (.cells (opA pg b off t) 26)) w.heap.size (opA pg b off t) 26 := Row.new _ _ _
  have a0 : (opA pg b off t)[0]? = some (.int .u16 pg) := rfl
  have a65 : (opA pg b off t)[65]? = some (.int .i64 off) := by simp [opA, opL, hb]
  have a66 : (opA pg b off t)[66]? = some (.string t) := by simp [opA, opL, hb]
  have aB : ∀ j v, (b.map (Value.int .u8))[j]? = some v → (opA pg b off t)[1 + j]? = some v := fun j v h => by
    have hj : j < 64 := by have := (List.getElem?_eq_some_iff.1 h).1; simp [hb] at this; exact this
    unfold opA opL
    rw [List.getElem?_toArray, Nat.add_comm, List.getElem?_cons_succ, List.getElem?_append_left (by simp [hb]; exact hj)]
    exact h
  have hbl : (b.map (Value.int .u8)).length = 64 := by simp [hb]
  have hbs : (b.map (Value.int .u8)).toArray = bs b := rfl
  generalize (opA pg b off t) = OO at ab r0 a0 a65 a66 aB
  go_enter Try.func3, Try.ntmps3
  go_upto_region 2 with fail
  generalize w.alloc (.cells OO 26) = w1 at ab r0 ⊢
  obtain ⟨g, HG⟩ : ∃ g, Hid (w.heap.size = g) := ⟨_, rfl⟩
  rw [HG.out] at r0 ⊢
  have c0 := row_at r0 0 _ a0
  have ts : Hid (1 = 1) := rfl
  go_upto_region 3 with (first
    | (go_at_call 4; refine (HR.out _).mono ?_; clear HR; rintro e w2 ⟨he, b2⟩; obtain rfl := he; have q3 : Row (w2.alloc (.cells (bs (zs 64)) 24)) w2.heap.size (bs (zs 64)) 24 := Row.new _ _ _)
    | (have hh := ts; clear hh ts; refine store_cells rfl 24 (.tmp 4) (.tmp 11) rfl w2.heap.size N rfl rfl 24 _ q3 64 size24 (by rw [bs_size, zs_length]) hN hone ?_))
  have bq := below_setRow ((Below.refl w2.heap.size w2).alloc (Nat.le_refl _) (.cells (bs (zs 64)) 24)) (Nat.le_refl _) N
  have r0 := (r0.below b2 r0.lt)
  have r0 := r0.below bq r0.lt
  have ab := ab.trans (b2.mono ab.size)
  have ab := ab.trans (bq.mono ab.size)
  clear c0 bq b2 q3
  generalize (w2.alloc (.cells (bs (zs 64)) 24)).setRow w2.heap.size N = w3 at r0 ab ⊢
  generalize w2.heap.size = g2
  have c0 := row_at r0 0 _ a0
  have c65 := row_at r0 65 _ a65
  have c66 := row_at r0 66 _ a66
  have ir : w3.rangeAt g 1 (b.map (Value.int .u8)) := fun j v hv => by rw [cell_of_row w3 g _ _ _ _ r0]; exact aB j v hv
  have tl : Hid (1 = 1) := rfl
  go_wp2_with (first
    | (have hh := tl; clear hh tl; refine wpList_load_mid rfl 24 (.tmp 16) rfl g 1 rfl (b.map (Value.int .u8)) _ ir Try.underlying24 rfl (by rw [size24, hbl]) ?_; rw [hbs])
    | (go_at_call 5; refine (HWT.out _).mono ?_; clear HWT; rintro e w4 ⟨he, b4⟩; obtain rfl := he; have r4 := r0.below b4 r0.lt; have ab4 := ab.trans (b4.mono ab.size); have d0 := row_at r4 0 _ a0)
    | (go_at_call 6; refine (HD.out _).mono ?_; clear HD; rintro e w5 ⟨he, b5⟩; obtain rfl := he; have ab5 := ab4.trans (b5.mono ab4.size))
    | (go_at_call 7; refine (HP.out _).mono ?_; clear HP; rintro e w6 ⟨he, b6⟩; obtain rfl := he; have ab6 := ab5.trans (b6.mono ab5.size))
    | (go_at_call 8; refine (HA.out _).mono ?_; clear HA; rintro e w7 ⟨he, b7⟩; obtain rfl := he; have ab7 := ab6.trans (b7.mono ab6.size)))
  go_ret
  exact ⟨rfl, ab7⟩

set_option maxRecDepth 100000 in
theorem lifted (os : Os) (started : os.Started) (H : Type) (enc : TypeId × Value → H) :
    ReturnsInHanded {} Try.checked os 3 .any (Rows.wsetNoneSpec.pre6 enc Try.prog Try.f3 Rows.wsetNoneRow.domain false) (Rows.wsetNoneSpec.post enc Try.prog Try.f3 false true false false) := by
  refine returnsInHanded_of_change_sized (C := Try.checked) own started (by kernel_rfl) Try.func3
    (ChangeSpec.witness6 (enc := enc) (C := Try.checked) false ⟨#[], #[.agg (Ws.opA 0 (zs 64) 0 ByteArray.empty)], []⟩ 8 (by kernel_rfl) (by kernel_rfl) (by kernel_rfl) (by kernel_rfl)) ?_
  intro W base args ds gs before hval0 hW hcnd hsz0 _
  have hval : ∀ (j : Nat) t v, Try.f3.params[j]? = some t → args[j]? = some v → Value.okWide Try.prog W .any base t v := hval0
  have hW' := hW
  obtain ⟨p, q, hA0, hV, rfl, hfz, hnd⟩ := hW
  have hA : DataW.TrodAll enc Try.prog W 0 (fun _ => true) true Try.f3.params.toList args.toList ds p := hA0
  have hsz : (DataW.weightsEach Try.prog (Try.f3.params.toList ++ []) (ds ++ gs)).all (· ≤ reachBytes) = true := hsz0
  rw [Try.params3] at hA hval hsz
  obtain ⟨v0, vs0, d0, ds0, p0, q0, hargs, rfl, rfl, h0, r0⟩ := trodAll_cons hA
  obtain ⟨rfl, rfl, rfl⟩ := trodAll_nil r0
  obtain rfl : args = #[v0] := by cases args; simp_all
  obtain ⟨rfl, rfl⟩ := trodVars_none hV
  simp only [List.append_nil] at hsz
  have hlt : ∀ x ∈ (p0 ++ []), x.block < W.heap.size := fun x hx => hW'.lt x (by simpa using hx)
  have hw0 : (d0.weights Try.prog 26).all (· ≤ reachBytes) = true := List.all_eq_true.2 fun m hm => List.all_eq_true.1 hsz m (by simp [DataW.weightsEach, hm])
  have k0 := h0
  obtain ⟨a0, c0, l0, m0, rfl, w0⟩ := Ws.open_opv (hval 0 26 v0 rfl rfl) h0
  clear hA0 hval0
  simp only [List.append_nil] at hW'
  refine (walk W a0 c0 l0 m0 w0).mono fun e W' ⟨he, hg⟩ => ?_
  subst he
  exact ⟨_, rfl, ⟨_, _, _, [], (p0 ++ []), [], hW', (trodAll_cons_mk (shut_bool Try.underlying4 _) trodAll_mk0), (trodAll_cons_mk (Below.trod Ws.laidOut (by kernel_rfl) (of_decide_eq_true (by kernel_rfl)) k0 hg (fun x hx => hlt x (by simp [hx]))) trodAll_mk0), rfl,
    hg.frame _, fun h => by cases h⟩⟩

theorem over : Rows.wsetNoneRow.holds Try.pinned (OpenSpec.ofChange Rows.wsetNoneSpec) :=
  OpenClaim.holds_of_wide 3 Try.f3 rfl rfl rfl rfl rfl rfl rfl ⟨rfl, rfl, rfl, rfl, rfl⟩ rfl rfl rfl rfl rfl (by kernel_rfl) Try.func3 (by kernel_rfl)
    (of_decide_eq_true (by kernel_rfl)) (by unfold Func.isWrapper; first | (rw [if_pos (by decide +kernel)]; kernel_rfl) | (rw [if_neg (by decide +kernel)]; exact ⟨rfl, rfl⟩))
    (fun os started H enc _ => lifted os started H enc)

/-- The statement. -/
theorem proved : Rows.WsetNoneSaid :=
  over
#print axioms proved
end Go.Proofs.Ytmnbfcmamhinbac.wsetNone
