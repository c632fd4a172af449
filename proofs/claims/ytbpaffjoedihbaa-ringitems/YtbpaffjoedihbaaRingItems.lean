/-
  Proved here: any stream holds the texts that the document says, from any place on, and ends there (RingItems).
-/
import Derived.Test.YtbpaffjoedihbaaRIte
import Derived.Test.YtbpaffjoedihbaaSit
import Derived.SizedLaws
import Derived.Deep.Grids
import Derived.Deep.Slices
import Derived.Lib.SmallJoins
import Derived.Carry
namespace Go.Proofs.Ytbpaffjoedihbaa.ringItems
open Go.ChangeShapes Go.WideShapes Go.ChangeAt Go.RowKit
open Go.Deep
set_option linter.unusedVariables false
set_option linter.unusedSimpArgs false

theorem own : ownKnob Try.prog.godebug = none := by kernel_rfl

theorem laidOut : laidOutB Try.prog = true := by kernel_rfl
set_option maxRecDepth 20000 in
set_option maxHeartbeats 2000000 in
theorem walk (w : World) (base : Int) (s : ByteArray) (p : Int) (wb : (Lit.int .u64 base).wf = true) (hs : s.size ≤ maxLen) (wp : (Lit.int .u64 p).wf = true) :
    Calls Try.prog 7 #[.int .u64 base, .string s, .int .u64 p] w fun ex w' => ex = .returned (.bool true) ∧ Below w.heap.size w w' := by
  have hb := bounds_u64 wb
  have hp := bounds_u64 wp
  clear wb wp
  unfold maxLen at hs
  have HAW : Hid _ := fun w => awake_any w
  by_cases c1 : (s.size : Int) > 16384
  · go_enter Try.func7, Try.ntmps7
    go_wp2_with (go_at_call 13; refine (HAW.out _).mono ?_; clear HAW; rintro ex w3 ⟨rfl, b3⟩)
    go_ret
    exact ⟨rfl, b3⟩
  by_cases c2 : base > 4611686018427387904
  · go_enter Try.func7, Try.ntmps7
    go_wp2_with (go_at_call 13; refine (HAW.out _).mono ?_; clear HAW; rintro ex w3 ⟨rfl, b3⟩)
    go_ret
    exact ⟨rfl, b3⟩
  have HI : Hid _ := fun w => items_any base s p w (by omega) (by omega) hp
  have HR : Hid _ := fun w => ritems_any base s p w (by omega) (by omega) hp
  have HL : Hid ((itL base s p).length ≤ 1000000000) := by
    show _ ≤ _
    rw [itL_is, lsns_length]
    unfold restT
    split
    · have h1 := (tx_fits (itS base s p)).2.2
      have h2 : (itS base s p).size ≤ s.size := by unfold itS; rw [ByteArray.size_extract]; omega
      omega
    · simp
  have HSM : Hid (∀ v v2 w, It.Olds w v (itL base s p) → It.Olds w v2 (itL base s p) → Calls Try.prog 24 #[v, v2] w fun e w' => e = .returned (.bool true) ∧ Below w.heap.size w w') := fun v v2 w h1 h2 => It.same_any v v2 _ w h1 h2 HL.out
  have HI2 : Hid (∀ w, Calls Try.prog 22 #[.int .u64 base, .string s, .int .u64 p] w fun ex w' => ∃ v', ex = .returned (.tuple #[v', .int .u64 (itE base s p)]) ∧ It.Own w' w.heap.size v' (itL base s p) ∧ Below w.heap.size w w') := HI.out
  have HR2 : Hid (∀ w, Calls Try.prog 23 #[.int .u64 base, .string s, .int .u64 p] w fun ex w' => ∃ v', ex = .returned (.tuple #[v', .int .u64 (itE base s p)]) ∧ It.Own w' w.heap.size v' (itL base s p) ∧ Below w.heap.size w w') := HR.out
  clear HI HR
  generalize itL base s p = L at HSM HL HI2 HR2
  generalize itE base s p = E at HI2 HR2
  go_enter Try.func7, Try.ntmps7
  go_wp2_with (first
    | (go_at_call 22; refine (HI2.out _).mono ?_; clear HI2; rintro ex w1 ⟨v1, rfl, o1, b1⟩)
    | (go_at_call 23; refine (HR2.out _).mono ?_; clear HR2; rintro ex w2 ⟨v2, rfl, o2, b2⟩; have o1' := (o1.keep b2).olds; have o2' := o2.olds)
    | (go_at_call 24; refine (HSM.out _ _ _ o1' o2').mono ?_; clear HSM; rintro ex w3 ⟨rfl, b3⟩)
    | (go_at_call 13; refine (HAW.out _).mono ?_; clear HAW; rintro ex w4 ⟨rfl, b4⟩))
  have b12 := b1.trans (b2.mono b1.size)
  have b13 := b12.trans (b3.mono b12.size)
  go_ret
  exact ⟨rfl, b13.trans (b4.mono b13.size)⟩

set_option maxRecDepth 100000 in
theorem lifted (os : Os) (started : os.Started) (H : Type) (enc : TypeId × Value → H) :
    ReturnsInHanded {} Try.checked os 7 .any (Rows.ringItemsSpec.pre6 enc Try.prog Try.f7 Rows.ringItemsRow.domain false) (Rows.ringItemsSpec.post enc Try.prog Try.f7 false true false false) := by
  refine returnsInHanded_of_change_sized (C := Try.checked) own started (by kernel_rfl) Try.func7
    (ChangeSpec.witness6 (enc := enc) (C := Try.checked) false ⟨#[], #[.int .u64 0, .string ByteArray.empty, .int .u64 0], []⟩ 8 (by kernel_rfl) (by kernel_rfl) (by kernel_rfl) (by kernel_rfl)) ?_
  intro W base args ds gs before hval0 hW hcnd hsz0 _
  have hval : ∀ (j : Nat) t v, Try.f7.params[j]? = some t → args[j]? = some v → Value.okWide Try.prog W .any base t v := hval0
  have hW' := hW
  obtain ⟨p, q, hA0, hV, rfl, hfz, hnd⟩ := hW
  have hA : DataW.TrodAll enc Try.prog W 0 (fun _ => true) true Try.f7.params.toList args.toList ds p := hA0
  have hsz : (DataW.weightsEach Try.prog (Try.f7.params.toList ++ []) (ds ++ gs)).all (· ≤ reachBytes) = true := hsz0
  rw [Try.params7] at hA hval hsz
  obtain ⟨v0, vs0, d0, ds0, p0, q0, hargs, rfl, rfl, h0, r0⟩ := trodAll_cons hA
  obtain ⟨v1, vs1, d1, ds1, p1, q1, rfl, rfl, rfl, h1, r1⟩ := trodAll_cons r0
  obtain ⟨v2, vs2, d2, ds2, p2, q2, rfl, rfl, rfl, h2, r2⟩ := trodAll_cons r1
  obtain ⟨rfl, rfl, rfl⟩ := trodAll_nil r2
  obtain rfl : args = #[v0, v1, v2] := by cases args; simp_all
  obtain ⟨rfl, rfl⟩ := trodVars_none hV
  simp only [List.append_nil] at hsz
  have hlt : ∀ x ∈ (p0 ++ (p1 ++ (p2 ++ []))), x.block < W.heap.size := fun x hx => hW'.lt x (by simpa using hx)
  have hw0 : (d0.weights Try.prog 23).all (· ≤ reachBytes) = true := List.all_eq_true.2 fun m hm => List.all_eq_true.1 hsz m (by simp [DataW.weightsEach, hm])
  have hw1 : (d1.weights Try.prog 9).all (· ≤ reachBytes) = true := List.all_eq_true.2 fun m hm => List.all_eq_true.1 hsz m (by simp [DataW.weightsEach, hm])
  have hw2 : (d2.weights Try.prog 23).all (· ≤ reachBytes) = true := List.all_eq_true.2 fun m hm => List.all_eq_true.1 hsz m (by simp [DataW.weightsEach, hm])
  have k0 := h0
  have k1 := h1
  have k2 := h2
  obtain ⟨a0, rfl, rfl, rfl, w0⟩ := open_int Try.underlying23 (hval 0 23 v0 rfl rfl) h0
  obtain ⟨a1, rfl, rfl, rfl, w1⟩ := Go.ChangeMaps.open_string Try.underlying9 (hval 1 9 v1 rfl rfl) h1
  obtain ⟨a2, rfl, rfl, rfl, w2⟩ := open_int Try.underlying23 (hval 2 23 v2 rfl rfl) h2
  clear hA0 hval0
  simp only [List.append_nil] at hW'
  refine (walk W a0 a1 a2 w0 w1 w2).mono fun e W' ⟨he, hg⟩ => ?_
  subst he
  exact ⟨_, rfl, ⟨_, _, _, [], ([] ++ ([] ++ ([] ++ []))), [], hW', (trodAll_cons_mk (shut_bool Try.underlying4 _) trodAll_mk0), (trodAll_cons_mk (Below.trod laidOut (by kernel_rfl) (of_decide_eq_true (by kernel_rfl)) k0 hg (fun x hx => (nomatch hx))) (trodAll_cons_mk (Below.trod laidOut (by kernel_rfl) (of_decide_eq_true (by kernel_rfl)) k1 hg (fun x hx => (nomatch hx))) (trodAll_cons_mk (Below.trod laidOut (by kernel_rfl) (of_decide_eq_true (by kernel_rfl)) k2 hg (fun x hx => (nomatch hx))) trodAll_mk0))), rfl,
    hg.frame _, fun h => by cases h⟩⟩

theorem over : Rows.ringItemsRow.holds Try.pinned (OpenSpec.ofChange Rows.ringItemsSpec) :=
  OpenClaim.holds_of_wide 7 Try.f7 rfl rfl rfl rfl rfl rfl rfl ⟨rfl, rfl, rfl, rfl, rfl⟩ rfl rfl rfl rfl rfl (by kernel_rfl) Try.func7 (by kernel_rfl)
    (of_decide_eq_true (by kernel_rfl)) (by unfold Func.isWrapper; first | (rw [if_pos (by decide +kernel)]; kernel_rfl) | (rw [if_neg (by decide +kernel)]; exact ⟨rfl, rfl⟩))
    (fun os started H enc _ => lifted os started H enc)

/-- The statement. -/
theorem proved : Rows.RingItemsSaid :=
  over
#print axioms proved
end Go.Proofs.Ytbpaffjoedihbaa.ringItems
