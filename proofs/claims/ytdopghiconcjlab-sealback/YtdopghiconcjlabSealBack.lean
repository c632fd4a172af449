/-
  Proved: for every uint64 stamp and every payload of 224 bytes the Go function varvelaw04.SealBack returns true and leaves its arguments as they were; no condition.
-/
import Derived.Test.YtdopghiconcjlabPlain
import Derived.Test.YtdopghiconcjlabEq
import Derived.Test.YtdopghiconcjlabShut
namespace Go.Proofs.Ytdopghiconcjlab.sealBack
open Go.ChangeShapes Go.WideShapes Go.ChangeAt Go.RowKit
open Go.ChangeMaps (open_string shut_string)
set_option linter.unusedVariables false
set_option linter.unusedSimpArgs false

theorem own : ownKnob Try.prog.godebug = none := by kernel_rfl

theorem walk (v : Int) (p : List Int) (w0 : (Lit.int .u64 v).wf = true) (hp : p.length = 224) (hy : Bytes p) (w : World) :
    Calls Try.prog 7 #[.int .u64 v, .agg (bs p)] w fun e w' => e = .returned (.bool true) ∧ Below w.heap.size w w' := by
  have hv := (bounds_u64 w0).1
  have hv' := (bounds_u64 w0).2
  clear w0
  have ho := open_sealed v p hp hv hv'
  have hl := sealN_length v p 4 (by omega)
  have hb := sealN_bytes v p hy
  obtain ⟨B, HB⟩ : ∃ B, Hid (sealN v p 4 = B) := ⟨_, rfl⟩
  rw [HB.out] at ho hl hb
  have hz := zero29
  have he : ∀ w, (Op.equalIn 10000 29 (.agg (bs p)) (.agg (bs p))).run Try.prog w = .ok true w := fun w => by rw [equal29 p p hp hp w]; simp
  have a0 : Row (w.alloc (.cells (bs p) 29)) w.heap.size (bs p) 29 := Row.new _ _ _
  have ab : Below w.heap.size w (w.alloc (.cells (bs p) 29)) := (Below.refl _ _).alloc (Nat.le_refl _) _
  go_enter Try.func7, Try.ntmps7
  go_wp2_with (first
    | (refine load_row rfl 29 (.tmp 3) rfl w.heap.size rfl 29 (bs p) a0 224 5 Try.underlying29 size29 (by rw [bs_size, hp]) ?_)
    | (go_at_call 11; refine (seal_any v p hp _ hv hv').mono ?_; rw [HB.out]; rintro e wc ⟨rfl, hcb⟩)
    | (go_at_call 13; refine (open_any B hl hb _).mono ?_; rw [ho]; rintro e wd ⟨rfl, hdb⟩)
    | (refine store_row rfl 29 (.tmp 6) (.tmp 14) rfl wd.heap.size p rfl rfl 29 _ (Row.new wd (bs (zs 224)) 29) 224 size29 (by rw [bs_size, zs_length]) hp ?_)
    | (refine load_row_g rfl 29 (.tmp 6) rfl wd.heap.size rfl 29 (bs p) ((Row.new wd (bs (zs 224)) 29).set (bs p)) 224 5 Try.underlying29 size29 (by rw [bs_size, hp]) ?_)
    | (refine load_row_g rfl 29 (.tmp 3) rfl w.heap.size rfl 29 (bs p) ((((a0.below hcb a0.lt).below hdb (a0.below hcb a0.lt).lt).alloc _).other (Nat.ne_of_lt ((a0.below hcb a0.lt).below hdb (a0.below hcb a0.lt).lt).lt) _) 224 5 Try.underlying29 size29 (by rw [bs_size, hp]) ?_))
  go_ret
  have l1 := (a0.below hcb a0.lt).lt
  have l2 := ((a0.below hcb a0.lt).below hdb (a0.below hcb a0.lt).lt).lt
  exact ⟨rfl, below_setRow (((ab.trans (hcb.mono (Nat.le_of_lt a0.lt))).trans (hdb.mono (Nat.le_of_lt l1))).alloc (Nat.le_of_lt l2) _) (Nat.le_of_lt l2) _⟩

set_option maxRecDepth 100000 in
theorem lifted (os : Os) (started : os.Started) (H : Type) (enc : TypeId × Value → H) :
    ReturnsInHanded {} Try.checked os 7 .any (Rows.sealBackSpec.pre6 enc Try.prog Try.f7 Rows.sealBackRow.domain false) (Rows.sealBackSpec.post enc Try.prog Try.f7 false true false false) := by
  refine returnsInHanded_of_change (C := Try.checked) own started (by kernel_rfl) Try.func7
    (ChangeSpec.witness6 (enc := enc) (C := Try.checked) false ⟨#[], #[.int .u64 0, .agg (bs (zs 224))], []⟩ 8 (by kernel_rfl) (by kernel_rfl) (by kernel_rfl) (by kernel_rfl)) ?_
  intro W base args ds gs before hval0 hW hcnd _
  have hval : ∀ (j : Nat) t v, Try.f7.params[j]? = some t → args[j]? = some v → Value.okWide Try.prog W .any base t v := hval0
  have hW' := hW
  obtain ⟨p, q, hA0, hV, rfl, hfz, hnd⟩ := hW
  have hA : DataW.TrodAll enc Try.prog W 0 (fun _ => true) true Try.f7.params.toList args.toList ds p := hA0
  rw [Try.params7] at hA hval
  obtain ⟨v0, vs0, d0, ds0, p0, q0, hargs, rfl, rfl, h0, r0⟩ := trodAll_cons hA
  obtain ⟨v1, vs1, d1, ds1, p1, q1, rfl, rfl, rfl, h1, r1⟩ := trodAll_cons r0
  obtain ⟨rfl, rfl, rfl⟩ := trodAll_nil r1
  obtain rfl : args = #[v0, v1] := by cases args; simp_all
  obtain ⟨rfl, rfl⟩ := trodVars_none hV
  obtain ⟨a0, rfl, rfl, rfl, w0⟩ := open_int Try.underlying27 (hval 0 27 v0 rfl rfl) h0
  obtain ⟨a1, rfl, rfl, rfl, l1, w1⟩ := open_bytes Try.underlying29 Try.underlying5 cells5 (by kernel_rfl) (hval 1 29 v1 rfl rfl) h1
  clear hA0 hval0
  simp only [List.append_nil] at hW'
  refine (walk a0 a1 w0 l1 w1 W).mono fun e W' ⟨he, hg⟩ => ?_
  subst he
  exact ⟨_, rfl, ⟨_, _, _, [], [], [], hW', (trodAll_cons_mk (shut_bool Try.underlying4 _) trodAll_mk0), (trodAll_cons_mk (shut_int Try.underlying27 w0) (trodAll_cons_mk (shut_bytes Try.underlying29 Try.underlying5 cells5 (by kernel_rfl) l1 w1) trodAll_mk0)), rfl,
    hg.frame _, fun h => by cases h⟩⟩

theorem over : Rows.sealBackRow.holds Try.pinned (OpenSpec.ofChange Rows.sealBackSpec) :=
  OpenClaim.holds_of_wide 7 Try.f7 rfl rfl rfl rfl rfl rfl rfl ⟨rfl, rfl, rfl, rfl, rfl⟩ rfl rfl rfl rfl rfl (by kernel_rfl) Try.func7 (by kernel_rfl)
    (of_decide_eq_true (by kernel_rfl)) (by unfold Func.isWrapper; first | (rw [if_pos (by decide +kernel)]; kernel_rfl) | (rw [if_neg (by decide +kernel)]; exact ⟨rfl, rfl⟩))
    (fun os started H enc _ => lifted os started H enc)

/-- The statement. -/
theorem proved : Rows.SealBackSaid :=
  over
#print axioms proved
end Go.Proofs.Ytdopghiconcjlab.sealBack
