/-
  Proved: for every block of 256 bytes the Go function varvelaw04.SealOpens returns true and leaves its argument as it was; no condition.
-/
import Derived.Test.YtdopghiconcjlabRefOpen
import Derived.Test.YtdopghiconcjlabShut
namespace Go.Proofs.Ytdopghiconcjlab.sealOpens
open Go.ChangeShapes Go.WideShapes Go.ChangeAt Go.RowKit
open Go.ChangeMaps (open_string shut_string)
set_option linter.unusedVariables false
set_option linter.unusedSimpArgs false

theorem own : ownKnob Try.prog.godebug = none := by kernel_rfl

theorem opened_is (b : List Int) : ∃ T Y B, opened b = .tuple #[.int .u64 T, .agg (bs Y), .bool B] ∧ Y.length = 224 := by
  unfold opened
  split
  · exact ⟨_, _, _, rfl, payN_length b 4⟩
  · exact ⟨_, _, _, rfl, zs_length _⟩

set_option maxRecDepth 20000 in
theorem walk (b : List Int) (hb : b.length = 256) (hy : Bytes b) (w : World) :
    Calls Try.prog 5 #[.agg (bs b)] w fun e w' => e = .returned (.bool true) ∧ Below w.heap.size w w' := by
  obtain ⟨T, Y, B, ho, hY⟩ := opened_is b
  have HO : Hid (opened b = .tuple #[.int .u64 T, .agg (bs Y), .bool B]) := ho
  clear ho
  have hz := zero29
  have hz' := zero28
  have he : ∀ w, (Op.equalIn 10000 29 (.agg (bs Y)) (.agg (bs Y))).run Try.prog w = .ok true w := fun w => by rw [equal29 Y Y hY hY w]; simp
  have a0 : Row (w.alloc (.cells (bs b) 31)) w.heap.size (bs b) 31 := Row.new _ _ _
  have ab : Below w.heap.size w (w.alloc (.cells (bs b) 31)) := (Below.refl _ _).alloc (Nat.le_refl _) _
  go_enter Try.func5, Try.ntmps5
  go_wp2_with (first
    | (refine load_row rfl 31 (.tmp 1) rfl w.heap.size rfl 31 (bs b) a0 256 5 Try.underlying31 size31 (by rw [bs_size, hb]) ?_)
    | (go_at_call 13; refine (open_any b hb hy _).mono ?_; rw [HO.out]; rintro e wc ⟨rfl, hcb⟩
       have a1 := a0.below hcb a0.lt
       have b1 := ab.trans (hcb.mono (Nat.le_of_lt a0.lt))
       clear a0 ab hcb)
    | (refine store_row rfl 29 (.tmp 4) (.tmp 13) rfl wc.heap.size Y rfl rfl 29 _ (Row.new wc (bs (zs 224)) 29) 224 size29 (by rw [bs_size, zs_length]) hY ?_
       have a2 := (a1.alloc (.cells (bs (zs 224)) 29)).other (Nat.ne_of_lt a1.lt) (bs Y)
       have c2 := (Row.new wc (bs (zs 224)) 29).set (bs Y)
       have b2 := below_setRow (b1.alloc (Nat.le_of_lt a1.lt) (.cells (bs (zs 224)) 29)) (Nat.le_of_lt a1.lt) (bs Y)
       generalize (wc.alloc (.cells (bs (zs 224)) 29)).setRow wc.heap.size (bs Y) = w2 at a2 c2 b2 ⊢
       clear a1 b1)
    | (refine load_row rfl 31 (.tmp 1) rfl w.heap.size rfl 31 (bs b) a2 256 5 Try.underlying31 size31 (by rw [bs_size, hb]) ?_)
    | (go_at_call 14; refine (ropen_any b hb hy _).mono ?_; rw [HO.out]; rintro e wd ⟨rfl, hdb⟩
       have a3 := a2.below hdb a2.lt
       have c3 := c2.below hdb c2.lt
       have b3 := b2.trans (hdb.mono (Nat.le_of_lt a2.lt))
       clear a2 c2 b2 hdb)
    | (refine store_row rfl 28 (.tmp 7) (.tmp 19) rfl wd.heap.size Y rfl rfl 28 _ (Row.new wd (bs (zs 224)) 28) 224 size28 (by rw [bs_size, zs_length]) hY ?_
       have c4 := (c3.alloc (.cells (bs (zs 224)) 28)).other (Nat.ne_of_lt c3.lt) (bs Y)
       have d4 := (Row.new wd (bs (zs 224)) 28).set (bs Y)
       have b4 := below_setRow (b3.alloc (Nat.le_of_lt a3.lt) (.cells (bs (zs 224)) 28)) (Nat.le_of_lt a3.lt) (bs Y)
       generalize (wd.alloc (.cells (bs (zs 224)) 28)).setRow wd.heap.size (bs Y) = w4 at c4 d4 b4 ⊢
       clear a3 b3 c3)
    | (refine load_row_g rfl 28 (.tmp 7) rfl wd.heap.size rfl 28 (bs Y) d4 224 5 Try.underlying28 size28 (by rw [bs_size, hY]) ?_)
    | (refine load_row_g rfl 29 (.tmp 4) rfl wc.heap.size rfl 29 (bs Y) c4 224 5 Try.underlying29 size29 (by rw [bs_size, hY]) ?_))
  go_ret
  exact ⟨by simp, b4⟩

set_option maxRecDepth 100000 in
theorem lifted (os : Os) (started : os.Started) (H : Type) (enc : TypeId × Value → H) :
    ReturnsInHanded {} Try.checked os 5 .any (Rows.sealOpensSpec.pre6 enc Try.prog Try.f5 Rows.sealOpensRow.domain false) (Rows.sealOpensSpec.post enc Try.prog Try.f5 false true false false) := by
  refine returnsInHanded_of_change (C := Try.checked) own started (by kernel_rfl) Try.func5
    (ChangeSpec.witness6 (enc := enc) (C := Try.checked) false ⟨#[], #[.agg (bs (zs 256))], []⟩ 8 (by kernel_rfl) (by kernel_rfl) (by kernel_rfl) (by kernel_rfl)) ?_
  intro W base args ds gs before hval0 hW hcnd _
  have hval : ∀ (j : Nat) t v, Try.f5.params[j]? = some t → args[j]? = some v → Value.okWide Try.prog W .any base t v := hval0
  have hW' := hW
  obtain ⟨p, q, hA0, hV, rfl, hfz, hnd⟩ := hW
  have hA : DataW.TrodAll enc Try.prog W 0 (fun _ => true) true Try.f5.params.toList args.toList ds p := hA0
  rw [Try.params5] at hA hval
  obtain ⟨v0, vs0, d0, ds0, p0, q0, hargs, rfl, rfl, h0, r0⟩ := trodAll_cons hA
  obtain ⟨rfl, rfl, rfl⟩ := trodAll_nil r0
  obtain rfl : args = #[v0] := by cases args; simp_all
  obtain ⟨rfl, rfl⟩ := trodVars_none hV
  obtain ⟨a0, rfl, rfl, rfl, l0, w0⟩ := open_bytes Try.underlying31 Try.underlying5 cells5 (by kernel_rfl) (hval 0 31 v0 rfl rfl) h0
  clear hA0 hval0
  simp only [List.append_nil] at hW'
  refine (walk a0 l0 w0 W).mono fun e W' ⟨he, hg⟩ => ?_
  subst he
  exact ⟨_, rfl, ⟨_, _, _, [], [], [], hW', (trodAll_cons_mk (shut_bool Try.underlying4 _) trodAll_mk0), (trodAll_cons_mk (shut_bytes Try.underlying31 Try.underlying5 cells5 (by kernel_rfl) l0 w0) trodAll_mk0), rfl,
    hg.frame _, fun h => by cases h⟩⟩

theorem over : Rows.sealOpensRow.holds Try.pinned (OpenSpec.ofChange Rows.sealOpensSpec) :=
  OpenClaim.holds_of_wide 5 Try.f5 rfl rfl rfl rfl rfl rfl rfl ⟨rfl, rfl, rfl, rfl, rfl⟩ rfl rfl rfl rfl rfl (by kernel_rfl) Try.func5 (by kernel_rfl)
    (of_decide_eq_true (by kernel_rfl)) (by unfold Func.isWrapper; first | (rw [if_pos (by decide +kernel)]; kernel_rfl) | (rw [if_neg (by decide +kernel)]; exact ⟨rfl, rfl⟩))
    (fun os started H enc _ => lifted os started H enc)

/-- The statement. -/
theorem proved : Rows.SealOpensSaid :=
  over
#print axioms proved
end Go.Proofs.Ytdopghiconcjlab.sealOpens
