/-
  Proved: for every body of 64 bytes and every text the Go function varvelaw03.DeltaApplies returns true and leaves its arguments as they were; no condition.
-/
import Derived.Test.YtdopghiconcjlaaRapply
import Derived.Test.YtdopghiconcjlaaShut
namespace Go.Proofs.Ytdopghiconcjlaa.deltaApplies
open Go.ChangeShapes Go.WideShapes Go.ChangeAt Go.RowKit
open Go.ChangeMaps (open_string shut_string)
set_option linter.unusedVariables false
set_option linter.unusedSimpArgs false

theorem own : ownKnob Try.prog.godebug = none := by kernel_rfl

theorem equal23 (xs ys : List Int) (hx : xs.length = 64) (hy : ys.length = 64) (w : World) : (Op.equalIn 10000 23 (.agg (bs xs)) (.agg (bs ys))).run Try.prog w = .ok (decide (xs = ys)) w :=
  equal_bytes 23 5 64 Try.underlying23 Try.underlying5 size5 cells5 xs ys hx hy w

set_option maxHeartbeats 2000000 in
theorem walk_as (b : List Int) (hb : b.length = 64) (d : ByteArray) (hd : Hid (d.size ≤ maxLen)) (X : List Int) (hX : X.length = 64) (E : Int) (B : Bool)
    (hE : E = 0 ∧ B = true ∨ E = 2 ∧ B = false)
    (H1 : Hid (applied b d = .tuple #[.agg (bs X), .int .i64 E])) (H2 : Hid (rapplied b d = .tuple #[.agg (bs X), .bool B])) (HP : Hid ((pieces d).isSome = B)) (w : World) :
    Calls Try.prog 4 #[.agg (bs b), .string d] w fun x w' => x = .returned (.bool true) ∧ Below w.heap.size w w' := by
  have hz := zero23
  have hz' := zero22
  have heq : ∀ w, (Op.equalIn 10000 23 (.agg (bs X)) (.agg (bs X))).run Try.prog w = .ok true w := fun w => by rw [equal23 X X hX hX w]; simp
  have a0 : Row (w.alloc (.cells (bs b) 23)) w.heap.size (bs b) 23 := Row.new _ _ _
  have ab : Below w.heap.size w (w.alloc (.cells (bs b) 23)) := (Below.refl _ _).alloc (Nat.le_refl _) _
  rcases hE with ⟨rfl, rfl⟩ | ⟨rfl, rfl⟩
  · go_enter Try.func4, Try.ntmps4
    go_wp2_with (first
      | (refine load_row rfl 23 (.tmp 2) rfl w.heap.size rfl 23 (bs b) a0 64 5 Try.underlying23 size23 (by rw [bs_size, hb]) ?_)
      | (go_at_call 11; refine (apply_any b hb d hd.out _).mono ?_; rw [H1.out]; rintro x w1 ⟨rfl, h1⟩
         have b0 := a0.below h1 a0.lt
         have bb := ab.trans (h1.mono (Nat.le_of_lt a0.lt))
         clear a0 ab h1)
      | (refine store_row rfl 23 (.tmp 5) (.tmp 13) rfl w1.heap.size X rfl rfl 23 _ (Row.new w1 (bs (zs 64)) 23) 64 size23 (by rw [bs_size, zs_length]) hX ?_
         have c0 := (b0.alloc (.cells (bs (zs 64)) 23)).other (Nat.ne_of_lt b0.lt) (bs X)
         have cX := (Row.new w1 (bs (zs 64)) 23).set (bs X)
         have cb := below_setRow (bb.alloc (Nat.le_of_lt b0.lt) (.cells (bs (zs 64)) 23)) (Nat.le_of_lt b0.lt) (bs X)
         generalize (w1.alloc (.cells (bs (zs 64)) 23)).setRow w1.heap.size (bs X) = w2 at c0 cX cb ⊢
         clear b0 bb)
      | (refine load_row rfl 23 (.tmp 2) rfl w.heap.size rfl 23 (bs b) c0 64 5 Try.underlying23 size23 (by rw [bs_size, hb]) ?_)
      | (go_at_call 12; refine (rapply_any b hb d hd.out _).mono ?_; rw [H2.out]; rintro x w3 ⟨rfl, h3⟩
         have d0 := c0.below h3 c0.lt
         have dX := cX.below h3 cX.lt
         have db := cb.trans (h3.mono (Nat.le_of_lt c0.lt))
         clear c0 cX cb h3)
      | (refine store_row rfl 22 (.tmp 7) (.tmp 19) rfl w3.heap.size X rfl rfl 22 _ (Row.new w3 (bs (zs 64)) 22) 64 size22 (by rw [bs_size, zs_length]) hX ?_
         have e0 := (d0.alloc (.cells (bs (zs 64)) 22)).other (Nat.ne_of_lt d0.lt) (bs X)
         have eX := (dX.alloc (.cells (bs (zs 64)) 22)).other (Nat.ne_of_lt dX.lt) (bs X)
         have eY := (Row.new w3 (bs (zs 64)) 22).set (bs X)
         have eb := below_setRow (db.alloc (Nat.le_of_lt d0.lt) (.cells (bs (zs 64)) 22)) (Nat.le_of_lt d0.lt) (bs X)
         generalize (w3.alloc (.cells (bs (zs 64)) 22)).setRow w3.heap.size (bs X) = w4 at e0 eX eY eb ⊢
         clear d0 dX db)
      | (refine load_row rfl 23 (.tmp 5) rfl w1.heap.size rfl 23 (bs X) eX 64 5 Try.underlying23 size23 (by rw [bs_size, hX]) ?_)
      | (refine load_row rfl 22 (.tmp 7) rfl w3.heap.size rfl 22 (bs X) eY 64 5 Try.underlying22 size22 (by rw [bs_size, hX]) ?_)
      | (go_at_call 13; refine (check_any d hd.out _).mono ?_; rw [HP.out]; rintro x w5 ⟨rfl, h5⟩
         have f0 := e0.below h5 e0.lt
         have fb := eb.trans (h5.mono (Nat.le_of_lt e0.lt))
         clear e0 eX eY eb h5)
      | (go_at_call 14; refine (awake_any _).mono ?_; rintro x w6 ⟨rfl, h6⟩
         have gb := fb.trans (h6.mono (Nat.le_of_lt f0.lt))))
    go_ret
    exact ⟨by simp, gb⟩
  · go_enter Try.func4, Try.ntmps4
    go_wp2_with (first
      | (refine load_row rfl 23 (.tmp 2) rfl w.heap.size rfl 23 (bs b) a0 64 5 Try.underlying23 size23 (by rw [bs_size, hb]) ?_)
      | (go_at_call 11; refine (apply_any b hb d hd.out _).mono ?_; rw [H1.out]; rintro x w1 ⟨rfl, h1⟩
         have b0 := a0.below h1 a0.lt
         have bb := ab.trans (h1.mono (Nat.le_of_lt a0.lt))
         clear a0 ab h1)
      | (refine store_row rfl 23 (.tmp 5) (.tmp 13) rfl w1.heap.size X rfl rfl 23 _ (Row.new w1 (bs (zs 64)) 23) 64 size23 (by rw [bs_size, zs_length]) hX ?_
         have c0 := (b0.alloc (.cells (bs (zs 64)) 23)).other (Nat.ne_of_lt b0.lt) (bs X)
         have cX := (Row.new w1 (bs (zs 64)) 23).set (bs X)
         have cb := below_setRow (bb.alloc (Nat.le_of_lt b0.lt) (.cells (bs (zs 64)) 23)) (Nat.le_of_lt b0.lt) (bs X)
         generalize (w1.alloc (.cells (bs (zs 64)) 23)).setRow w1.heap.size (bs X) = w2 at c0 cX cb ⊢
         clear b0 bb)
      | (refine load_row rfl 23 (.tmp 2) rfl w.heap.size rfl 23 (bs b) c0 64 5 Try.underlying23 size23 (by rw [bs_size, hb]) ?_)
      | (go_at_call 12; refine (rapply_any b hb d hd.out _).mono ?_; rw [H2.out]; rintro x w3 ⟨rfl, h3⟩
         have d0 := c0.below h3 c0.lt
         have dX := cX.below h3 cX.lt
         have db := cb.trans (h3.mono (Nat.le_of_lt c0.lt))
         clear c0 cX cb h3)
      | (refine store_row rfl 22 (.tmp 7) (.tmp 19) rfl w3.heap.size X rfl rfl 22 _ (Row.new w3 (bs (zs 64)) 22) 64 size22 (by rw [bs_size, zs_length]) hX ?_
         have e0 := (d0.alloc (.cells (bs (zs 64)) 22)).other (Nat.ne_of_lt d0.lt) (bs X)
         have eX := (dX.alloc (.cells (bs (zs 64)) 22)).other (Nat.ne_of_lt dX.lt) (bs X)
         have eY := (Row.new w3 (bs (zs 64)) 22).set (bs X)
         have eb := below_setRow (db.alloc (Nat.le_of_lt d0.lt) (.cells (bs (zs 64)) 22)) (Nat.le_of_lt d0.lt) (bs X)
         generalize (w3.alloc (.cells (bs (zs 64)) 22)).setRow w3.heap.size (bs X) = w4 at e0 eX eY eb ⊢
         clear d0 dX db)
      | (refine load_row rfl 23 (.tmp 5) rfl w1.heap.size rfl 23 (bs X) eX 64 5 Try.underlying23 size23 (by rw [bs_size, hX]) ?_)
      | (refine load_row rfl 22 (.tmp 7) rfl w3.heap.size rfl 22 (bs X) eY 64 5 Try.underlying22 size22 (by rw [bs_size, hX]) ?_)
      | (go_at_call 13; refine (check_any d hd.out _).mono ?_; rw [HP.out]; rintro x w5 ⟨rfl, h5⟩
         have f0 := e0.below h5 e0.lt
         have fb := eb.trans (h5.mono (Nat.le_of_lt e0.lt))
         clear e0 eX eY eb h5)
      | (go_at_call 14; refine (awake_any _).mono ?_; rintro x w6 ⟨rfl, h6⟩
         have gb := fb.trans (h6.mono (Nat.le_of_lt f0.lt))))
    go_ret
    exact ⟨by simp, gb⟩

theorem walk (b : List Int) (d : ByteArray) (hb : b.length = 64) (yb : Bytes b) (hd : d.size ≤ maxLen) (w : World) :
    Calls Try.prog 4 #[.agg (bs b), .string d] w fun x w' => x = .returned (.bool true) ∧ Below w.heap.size w w' := by
  cases hp : pieces d with
  | none =>
    exact walk_as b hb d hd (zs 64) (zs_length _) 2 false (Or.inr ⟨rfl, rfl⟩) (by show _ = _; unfold applied; rw [hp]) (by show _ = _; unfold rapplied; rw [hp]) (by show _ = _; rw [hp]; rfl) w
  | some ps =>
    exact walk_as b hb d hd (applyAll b ps) (applyAll_length b hb ps (pieces_ok d ps hp).1) 0 true (Or.inl ⟨rfl, rfl⟩) (by show _ = _; unfold applied; rw [hp]) (by show _ = _; unfold rapplied; rw [hp]) (by show _ = _; rw [hp]; rfl) w

set_option maxRecDepth 100000 in
theorem lifted (os : Os) (started : os.Started) (H : Type) (enc : TypeId × Value → H) :
    ReturnsInHanded {} Try.checked os 4 .any (Rows.deltaAppliesSpec.pre6 enc Try.prog Try.f4 Rows.deltaAppliesRow.domain false) (Rows.deltaAppliesSpec.post enc Try.prog Try.f4 false true false false) := by
  refine returnsInHanded_of_change (C := Try.checked) own started (by kernel_rfl) Try.func4
    (ChangeSpec.witness6 (enc := enc) (C := Try.checked) false ⟨#[], #[.agg (bs (zs 64)), .string ByteArray.empty], []⟩ 8 (by kernel_rfl) (by kernel_rfl) (by kernel_rfl) (by kernel_rfl)) ?_
  intro W base args ds gs before hval0 hW hcnd _
  have hval : ∀ (j : Nat) t v, Try.f4.params[j]? = some t → args[j]? = some v → Value.okWide Try.prog W .any base t v := hval0
  have hW' := hW
  obtain ⟨p, q, hA0, hV, rfl, hfz, hnd⟩ := hW
  have hA : DataW.TrodAll enc Try.prog W 0 (fun _ => true) true Try.f4.params.toList args.toList ds p := hA0
  rw [Try.params4] at hA hval
  obtain ⟨v0, vs0, d0, ds0, p0, q0, hargs, rfl, rfl, h0, r0⟩ := trodAll_cons hA
  obtain ⟨v1, vs1, d1, ds1, p1, q1, rfl, rfl, rfl, h1, r1⟩ := trodAll_cons r0
  obtain ⟨rfl, rfl, rfl⟩ := trodAll_nil r1
  obtain rfl : args = #[v0, v1] := by cases args; simp_all
  obtain ⟨rfl, rfl⟩ := trodVars_none hV
  obtain ⟨a0, rfl, rfl, rfl, l0, w0⟩ := open_bytes Try.underlying23 Try.underlying5 cells5 (by kernel_rfl) (hval 0 23 v0 rfl rfl) h0
  obtain ⟨a1, rfl, rfl, rfl, w1⟩ := open_string Try.underlying9 (hval 1 9 v1 rfl rfl) h1
  clear hA0 hval0
  simp only [List.append_nil] at hW'
  refine (walk a0 a1 l0 w0 w1 W).mono fun e W' ⟨he, hg⟩ => ?_
  subst he
  exact ⟨_, rfl, ⟨_, _, _, [], [], [], hW', (trodAll_cons_mk (shut_bool Try.underlying4 _) trodAll_mk0), (trodAll_cons_mk (shut_bytes Try.underlying23 Try.underlying5 cells5 (by kernel_rfl) l0 w0) (trodAll_cons_mk (shut_string Try.underlying9 w1) trodAll_mk0)), rfl,
    hg.frame _, fun h => by cases h⟩⟩

theorem over : Rows.deltaAppliesRow.holds Try.pinned (OpenSpec.ofChange Rows.deltaAppliesSpec) :=
  OpenClaim.holds_of_wide 4 Try.f4 rfl rfl rfl rfl rfl rfl rfl ⟨rfl, rfl, rfl, rfl, rfl⟩ rfl rfl rfl rfl rfl (by kernel_rfl) Try.func4 (by kernel_rfl)
    (of_decide_eq_true (by kernel_rfl)) (by unfold Func.isWrapper; first | (rw [if_pos (by decide +kernel)]; kernel_rfl) | (rw [if_neg (by decide +kernel)]; exact ⟨rfl, rfl⟩))
    (fun os started H enc _ => lifted os started H enc)

/-- The statement. -/
theorem proved : Rows.DeltaAppliesSaid :=
  over
#print axioms proved
end Go.Proofs.Ytdopghiconcjlaa.deltaApplies
