/-
  Proved: for every body of 64 bytes and all texts the Go function varvelaw03.DeltaTwo returns true and leaves its arguments as they were; no condition.
-/
import Derived.Test.YtdopghiconcjlaaTwo
import Derived.Test.YtdopghiconcjlaaShut
namespace Go.Proofs.Ytdopghiconcjlaa.deltaTwo
open Go.ChangeShapes Go.WideShapes Go.ChangeAt Go.RowKit
open Go.ChangeMaps (open_string shut_string)
set_option linter.unusedVariables false
set_option linter.unusedSimpArgs false

theorem own : ownKnob Try.prog.godebug = none := by kernel_rfl

theorem equal23 (xs ys : List Int) (hx : xs.length = 64) (hy : ys.length = 64) (w : World) : (Op.equalIn 10000 23 (.agg (bs xs)) (.agg (bs ys))).run Try.prog w = .ok (decide (xs = ys)) w :=
  equal_bytes 23 5 64 Try.underlying23 Try.underlying5 size5 cells5 xs ys hx hy w

set_option maxHeartbeats 2000000 in
theorem walk_bad (b : List Int) (hb : b.length = 64) (d e : ByteArray) (hd : Hid (d.size ≤ maxLen)) (he : Hid (e.size ≤ maxLen)) (X Y : List Int) (f g : Int) (hX : X.length = 64) (hY : Y.length = 64)
    (H1 : Hid (applied b d = .tuple #[.agg (bs X), .int .i64 f])) (H2 : Hid (applied X e = .tuple #[.agg (bs Y), .int .i64 g])) (HC : Hid (composed d e = .tuple #[.string ⟨#[]⟩, .int .i64 2]))
    (hf : (f != 0) = true ∨ (f != 0) = false ∧ (g != 0) = true) (w : World) :
    Calls Try.prog 7 #[.agg (bs b), .string d, .string e] w fun x w' => x = .returned (.bool true) ∧ Below w.heap.size w w' := by
  have hz := zero23
  have a0 : Row (w.alloc (.cells (bs b) 23)) w.heap.size (bs b) 23 := Row.new _ _ _
  have ab : Below w.heap.size w (w.alloc (.cells (bs b) 23)) := (Below.refl _ _).alloc (Nat.le_refl _) _
  rcases hf with hf | ⟨hf, hg⟩
  · go_enter Try.func7, Try.ntmps7
    go_wp2_with (first
      | (refine load_row rfl 23 (.tmp 3) rfl w.heap.size rfl 23 (bs b) a0 64 5 Try.underlying23 size23 (by rw [bs_size, hb]) ?_)
      | (have hh := a0; clear hh; go_at_call 11; refine (apply_any b hb d hd.out _).mono ?_; rw [H1.out]; rintro x w1 ⟨rfl, h1⟩
         have b0 := a0.below h1 a0.lt
         have bb := ab.trans (h1.mono (Nat.le_of_lt a0.lt))
         clear a0 ab h1)
      | (refine store_row rfl 23 (.tmp 7) (.tmp 19) rfl w1.heap.size X rfl rfl 23 _ (Row.new w1 (bs (zs 64)) 23) 64 size23 (by rw [bs_size, zs_length]) hX ?_
         have c0 := (b0.alloc (.cells (bs (zs 64)) 23)).other (Nat.ne_of_lt b0.lt) (bs X)
         have cX := (Row.new w1 (bs (zs 64)) 23).set (bs X)
         have cb := below_setRow (bb.alloc (Nat.le_of_lt b0.lt) (.cells (bs (zs 64)) 23)) (Nat.le_of_lt b0.lt) (bs X)
         generalize (w1.alloc (.cells (bs (zs 64)) 23)).setRow w1.heap.size (bs X) = w2 at c0 cX cb ⊢
         clear b0 bb)
      | (refine load_row rfl 23 (.tmp 7) rfl w1.heap.size rfl 23 (bs X) cX 64 5 Try.underlying23 size23 (by rw [bs_size, hX]) ?_)
      | (have hh := cX; clear hh; go_at_call 11; refine (apply_any X hX e he.out _).mono ?_; rw [H2.out]; rintro x w3 ⟨rfl, h3⟩
         have d0 := c0.below h3 c0.lt
         have db := cb.trans (h3.mono (Nat.le_of_lt c0.lt))
         clear c0 cX cb h3)
      | (refine store_row rfl 23 (.tmp 9) (.tmp 25) rfl w3.heap.size Y rfl rfl 23 _ (Row.new w3 (bs (zs 64)) 23) 64 size23 (by rw [bs_size, zs_length]) hY ?_
         have e0 := (d0.alloc (.cells (bs (zs 64)) 23)).other (Nat.ne_of_lt d0.lt) (bs Y)
         have eY := (Row.new w3 (bs (zs 64)) 23).set (bs Y)
         have eb := below_setRow (db.alloc (Nat.le_of_lt d0.lt) (.cells (bs (zs 64)) 23)) (Nat.le_of_lt d0.lt) (bs Y)
         generalize (w3.alloc (.cells (bs (zs 64)) 23)).setRow w3.heap.size (bs Y) = w4 at e0 eY eb ⊢
         clear d0 db)
      | (go_at_call 15; refine (compose_any d e hd.out he.out _).mono ?_; rw [HC.out]; rintro x w5 ⟨rfl, h5⟩
         have f0 := e0.below h5 e0.lt
         have fY := eY.below h5 eY.lt
         have fb := eb.trans (h5.mono (Nat.le_of_lt e0.lt))
         clear e0 eY eb h5)
      | (go_at_call 14; refine (awake_any _).mono ?_; rintro x w6 ⟨rfl, h6⟩
         have gb := fb.trans (h6.mono (Nat.le_of_lt f0.lt))))
    go_ret
    exact ⟨by simp, gb⟩
  · go_enter Try.func7, Try.ntmps7
    go_wp2_with (first
      | (refine load_row rfl 23 (.tmp 3) rfl w.heap.size rfl 23 (bs b) a0 64 5 Try.underlying23 size23 (by rw [bs_size, hb]) ?_)
      | (have hh := a0; clear hh; go_at_call 11; refine (apply_any b hb d hd.out _).mono ?_; rw [H1.out]; rintro x w1 ⟨rfl, h1⟩
         have b0 := a0.below h1 a0.lt
         have bb := ab.trans (h1.mono (Nat.le_of_lt a0.lt))
         clear a0 ab h1)
      | (refine store_row rfl 23 (.tmp 7) (.tmp 19) rfl w1.heap.size X rfl rfl 23 _ (Row.new w1 (bs (zs 64)) 23) 64 size23 (by rw [bs_size, zs_length]) hX ?_
         have c0 := (b0.alloc (.cells (bs (zs 64)) 23)).other (Nat.ne_of_lt b0.lt) (bs X)
         have cX := (Row.new w1 (bs (zs 64)) 23).set (bs X)
         have cb := below_setRow (bb.alloc (Nat.le_of_lt b0.lt) (.cells (bs (zs 64)) 23)) (Nat.le_of_lt b0.lt) (bs X)
         generalize (w1.alloc (.cells (bs (zs 64)) 23)).setRow w1.heap.size (bs X) = w2 at c0 cX cb ⊢
         clear b0 bb)
      | (refine load_row rfl 23 (.tmp 7) rfl w1.heap.size rfl 23 (bs X) cX 64 5 Try.underlying23 size23 (by rw [bs_size, hX]) ?_)
      | (have hh := cX; clear hh; go_at_call 11; refine (apply_any X hX e he.out _).mono ?_; rw [H2.out]; rintro x w3 ⟨rfl, h3⟩
         have d0 := c0.below h3 c0.lt
         have db := cb.trans (h3.mono (Nat.le_of_lt c0.lt))
         clear c0 cX cb h3)
      | (refine store_row rfl 23 (.tmp 9) (.tmp 25) rfl w3.heap.size Y rfl rfl 23 _ (Row.new w3 (bs (zs 64)) 23) 64 size23 (by rw [bs_size, zs_length]) hY ?_
         have e0 := (d0.alloc (.cells (bs (zs 64)) 23)).other (Nat.ne_of_lt d0.lt) (bs Y)
         have eY := (Row.new w3 (bs (zs 64)) 23).set (bs Y)
         have eb := below_setRow (db.alloc (Nat.le_of_lt d0.lt) (.cells (bs (zs 64)) 23)) (Nat.le_of_lt d0.lt) (bs Y)
         generalize (w3.alloc (.cells (bs (zs 64)) 23)).setRow w3.heap.size (bs Y) = w4 at e0 eY eb ⊢
         clear d0 db)
      | (go_at_call 15; refine (compose_any d e hd.out he.out _).mono ?_; rw [HC.out]; rintro x w5 ⟨rfl, h5⟩
         have f0 := e0.below h5 e0.lt
         have fY := eY.below h5 eY.lt
         have fb := eb.trans (h5.mono (Nat.le_of_lt e0.lt))
         clear e0 eY eb h5)
      | (go_at_call 14; refine (awake_any _).mono ?_; rintro x w6 ⟨rfl, h6⟩
         have gb := fb.trans (h6.mono (Nat.le_of_lt f0.lt))))
    go_ret
    exact ⟨by simp, gb⟩

set_option maxHeartbeats 2000000 in
theorem walk_good (b : List Int) (hb : b.length = 64) (d e c : ByteArray) (hd : Hid (d.size ≤ maxLen)) (he : Hid (e.size ≤ maxLen)) (hc : Hid (c.size ≤ maxLen)) (X Y : List Int) (hX : X.length = 64) (hY : Y.length = 64)
    (H1 : Hid (applied b d = .tuple #[.agg (bs X), .int .i64 0])) (H2 : Hid (applied X e = .tuple #[.agg (bs Y), .int .i64 0])) (HC : Hid (composed d e = .tuple #[.string c, .int .i64 0]))
    (H3 : Hid (applied b c = .tuple #[.agg (bs Y), .int .i64 0])) (HP : Hid ((pieces c).isSome = true)) (w : World) :
    Calls Try.prog 7 #[.agg (bs b), .string d, .string e] w fun x w' => x = .returned (.bool true) ∧ Below w.heap.size w w' := by
  have hz := zero23
  have heq : ∀ w, (Op.equalIn 10000 23 (.agg (bs Y)) (.agg (bs Y))).run Try.prog w = .ok true w := fun w => by rw [equal23 Y Y hY hY w]; simp
  have a0 : Row (w.alloc (.cells (bs b) 23)) w.heap.size (bs b) 23 := Row.new _ _ _
  have ab : Below w.heap.size w (w.alloc (.cells (bs b) 23)) := (Below.refl _ _).alloc (Nat.le_refl _) _
  · go_enter Try.func7, Try.ntmps7
    go_wp2_with (first
      | (refine load_row rfl 23 (.tmp 3) rfl w.heap.size rfl 23 (bs b) a0 64 5 Try.underlying23 size23 (by rw [bs_size, hb]) ?_)
      | (have hh := a0; clear hh; go_at_call 11; refine (apply_any b hb d hd.out _).mono ?_; rw [H1.out]; rintro x w1 ⟨rfl, h1⟩
         have b0 := a0.below h1 a0.lt
         have bb := ab.trans (h1.mono (Nat.le_of_lt a0.lt))
         clear a0 ab h1)
      | (refine store_row rfl 23 (.tmp 7) (.tmp 19) rfl w1.heap.size X rfl rfl 23 _ (Row.new w1 (bs (zs 64)) 23) 64 size23 (by rw [bs_size, zs_length]) hX ?_
         have c0 := (b0.alloc (.cells (bs (zs 64)) 23)).other (Nat.ne_of_lt b0.lt) (bs X)
         have cX := (Row.new w1 (bs (zs 64)) 23).set (bs X)
         have cb := below_setRow (bb.alloc (Nat.le_of_lt b0.lt) (.cells (bs (zs 64)) 23)) (Nat.le_of_lt b0.lt) (bs X)
         generalize (w1.alloc (.cells (bs (zs 64)) 23)).setRow w1.heap.size (bs X) = w2 at c0 cX cb ⊢
         clear b0 bb)
      | (refine load_row rfl 23 (.tmp 7) rfl w1.heap.size rfl 23 (bs X) cX 64 5 Try.underlying23 size23 (by rw [bs_size, hX]) ?_)
      | (have hh := cX; clear hh; go_at_call 11; refine (apply_any X hX e he.out _).mono ?_; rw [H2.out]; rintro x w3 ⟨rfl, h3⟩
         have d0 := c0.below h3 c0.lt
         have db := cb.trans (h3.mono (Nat.le_of_lt c0.lt))
         clear c0 cX cb h3)
      | (refine store_row rfl 23 (.tmp 9) (.tmp 25) rfl w3.heap.size Y rfl rfl 23 _ (Row.new w3 (bs (zs 64)) 23) 64 size23 (by rw [bs_size, zs_length]) hY ?_
         have e0 := (d0.alloc (.cells (bs (zs 64)) 23)).other (Nat.ne_of_lt d0.lt) (bs Y)
         have eY := (Row.new w3 (bs (zs 64)) 23).set (bs Y)
         have eb := below_setRow (db.alloc (Nat.le_of_lt d0.lt) (.cells (bs (zs 64)) 23)) (Nat.le_of_lt d0.lt) (bs Y)
         generalize (w3.alloc (.cells (bs (zs 64)) 23)).setRow w3.heap.size (bs Y) = w4 at e0 eY eb ⊢
         clear d0 db)
      | (go_at_call 15; refine (compose_any d e hd.out he.out _).mono ?_; rw [HC.out]; rintro x w5 ⟨rfl, h5⟩
         have f0 := e0.below h5 e0.lt
         have fY := eY.below h5 eY.lt
         have fb := eb.trans (h5.mono (Nat.le_of_lt e0.lt))
         clear e0 eY eb h5)
      | (refine load_row rfl 23 (.tmp 3) rfl w.heap.size rfl 23 (bs b) f0 64 5 Try.underlying23 size23 (by rw [bs_size, hb]) ?_)
      | (have hh := fY; clear hh; go_at_call 11; refine (apply_any b hb c hc.out _).mono ?_; rw [H3.out]; rintro x w6 ⟨rfl, h6⟩
         have g0 := f0.below h6 f0.lt
         have gY := fY.below h6 fY.lt
         have gb := fb.trans (h6.mono (Nat.le_of_lt f0.lt))
         clear f0 fY fb h6)
      | (refine store_row rfl 23 (.tmp 13) (.tmp 52) rfl w6.heap.size Y rfl rfl 23 _ (Row.new w6 (bs (zs 64)) 23) 64 size23 (by rw [bs_size, zs_length]) hY ?_
         have i0 := (g0.alloc (.cells (bs (zs 64)) 23)).other (Nat.ne_of_lt g0.lt) (bs Y)
         have iY := (gY.alloc (.cells (bs (zs 64)) 23)).other (Nat.ne_of_lt gY.lt) (bs Y)
         have iZ := (Row.new w6 (bs (zs 64)) 23).set (bs Y)
         have ib := below_setRow (gb.alloc (Nat.le_of_lt g0.lt) (.cells (bs (zs 64)) 23)) (Nat.le_of_lt g0.lt) (bs Y)
         generalize (w6.alloc (.cells (bs (zs 64)) 23)).setRow w6.heap.size (bs Y) = w7 at i0 iY iZ ib ⊢
         clear g0 gY gb)
      | (refine load_row_g rfl 23 (.tmp 9) rfl w3.heap.size rfl 23 (bs Y) iY 64 5 Try.underlying23 size23 (by rw [bs_size, hY]) ?_)
      | (refine load_row_g rfl 23 (.tmp 13) rfl w6.heap.size rfl 23 (bs Y) iZ 64 5 Try.underlying23 size23 (by rw [bs_size, hY]) ?_)
      | (go_at_call 13; refine (check_any c hc.out _).mono ?_; rw [HP.out]; rintro x w8 ⟨rfl, h8⟩
         have j0 := i0.below h8 i0.lt
         have jb := ib.trans (h8.mono (Nat.le_of_lt i0.lt))
         clear i0 iY iZ ib h8)
      | (go_at_call 14; refine (awake_any _).mono ?_; rintro x w9 ⟨rfl, h9⟩
         have kb := jb.trans (h9.mono (Nat.le_of_lt j0.lt))))
    go_ret
    exact ⟨by simp, kb⟩

theorem walk (b : List Int) (d e : ByteArray) (hb : b.length = 64) (yb : Bytes b) (hd : d.size ≤ maxLen) (he : e.size ≤ maxLen) (w : World) :
    Calls Try.prog 7 #[.agg (bs b), .string d, .string e] w fun x w' => x = .returned (.bool true) ∧ Below w.heap.size w w' := by
  cases hp : pieces d with
  | none =>
    have h1 : applied b d = .tuple #[.agg (bs (zs 64)), .int .i64 2] := by unfold applied; rw [hp]
    obtain ⟨Y, g, h2, hY⟩ := applied_is (zs 64) (zs_length _) e
    have hc : composed d e = .tuple #[.string ⟨#[]⟩, .int .i64 2] := by unfold composed; rw [hp]
    exact walk_bad b hb d e hd he (zs 64) Y 2 g (zs_length _) hY h1 h2 hc (Or.inl rfl) w
  | some p =>
    obtain ⟨hf, hy⟩ := pieces_ok d p hp
    have h1 : applied b d = .tuple #[.agg (bs (applyAll b p)), .int .i64 0] := by unfold applied; rw [hp]
    have hX := applyAll_length b hb p hf
    cases hq : pieces e with
    | none =>
      have h2 : applied (applyAll b p) e = .tuple #[.agg (bs (zs 64)), .int .i64 2] := by unfold applied; rw [hq]
      have hc : composed d e = .tuple #[.string ⟨#[]⟩, .int .i64 2] := by unfold composed; rw [hp, hq]
      exact walk_bad b hb d e hd he _ _ 0 2 hX (zs_length _) h1 h2 hc (Or.inr ⟨rfl, rfl⟩) w
    | some q =>
      obtain ⟨hf', hy'⟩ := pieces_ok e q hq
      have h2 : applied (applyAll b p) e = .tuple #[.agg (bs (applyAll (applyAll b p) q)), .int .i64 0] := by unfold applied; rw [hq]
      have hc : composed d e = .tuple #[.string (strOfNums (tell (applyAll (zs 64) (p ++ q)) (hasAll fs (p ++ q)))), .int .i64 0] := by unfold composed; rw [hp, hq]
      obtain ⟨rs, hr1, hr2⟩ := composed_back (p ++ q) (hf.both hf') (hy.both hy') b hb
      have h3 : applied b (strOfNums (tell (applyAll (zs 64) (p ++ q)) (hasAll fs (p ++ q)))) = .tuple #[.agg (bs (applyAll (applyAll b p) q)), .int .i64 0] := by
        unfold applied; rw [hr1]; simp only []; rw [hr2, applyAll_append]
      have hs := strOfNums_size (tell (applyAll (zs 64) (p ++ q)) (hasAll fs (p ++ q)))
      have hsh := compose_short (applyAll (zs 64) (p ++ q)) (hasAll fs (p ++ q)) (applyAll_length _ (zs_length _) _ (hf.both hf')) (hasAll_length fs fs_length _)
      exact walk_good b hb d e _ hd he (by show _ ≤ maxLen; rw [hs]; unfold maxLen; omega) _ _ hX (applyAll_length _ hX q hf') h1 h2 hc h3 (by show _ = true; rw [hr1]; rfl) w

set_option maxRecDepth 100000 in
theorem lifted (os : Os) (started : os.Started) (H : Type) (enc : TypeId × Value → H) :
    ReturnsInHanded {} Try.checked os 7 .any (Rows.deltaTwoSpec.pre6 enc Try.prog Try.f7 Rows.deltaTwoRow.domain false) (Rows.deltaTwoSpec.post enc Try.prog Try.f7 false true false false) := by
  refine returnsInHanded_of_change (C := Try.checked) own started (by kernel_rfl) Try.func7
    (ChangeSpec.witness6 (enc := enc) (C := Try.checked) false ⟨#[], #[.agg (bs (zs 64)), .string ByteArray.empty, .string ByteArray.empty], []⟩ 8 (by kernel_rfl) (by kernel_rfl) (by kernel_rfl) (by kernel_rfl)) ?_
  intro W base args ds gs before hval0 hW hcnd _
  have hval : ∀ (j : Nat) t v, Try.f7.params[j]? = some t → args[j]? = some v → Value.okWide Try.prog W .any base t v := hval0
  have hW' := hW
  obtain ⟨p, q, hA0, hV, rfl, hfz, hnd⟩ := hW
  have hA : DataW.TrodAll enc Try.prog W 0 (fun _ => true) true Try.f7.params.toList args.toList ds p := hA0
  rw [Try.params7] at hA hval
  obtain ⟨v0, vs0, d0, ds0, p0, q0, hargs, rfl, rfl, h0, r0⟩ := trodAll_cons hA
  obtain ⟨v1, vs1, d1, ds1, p1, q1, rfl, rfl, rfl, h1, r1⟩ := trodAll_cons r0
  obtain ⟨v2, vs2, d2, ds2, p2, q2, rfl, rfl, rfl, h2, r2⟩ := trodAll_cons r1
  obtain ⟨rfl, rfl, rfl⟩ := trodAll_nil r2
  obtain rfl : args = #[v0, v1, v2] := by cases args; simp_all
  obtain ⟨rfl, rfl⟩ := trodVars_none hV
  obtain ⟨a0, rfl, rfl, rfl, l0, w0⟩ := open_bytes Try.underlying23 Try.underlying5 cells5 (by kernel_rfl) (hval 0 23 v0 rfl rfl) h0
  obtain ⟨a1, rfl, rfl, rfl, w1⟩ := open_string Try.underlying9 (hval 1 9 v1 rfl rfl) h1
  obtain ⟨a2, rfl, rfl, rfl, w2⟩ := open_string Try.underlying9 (hval 2 9 v2 rfl rfl) h2
  clear hA0 hval0
  simp only [List.append_nil] at hW'
  refine (walk a0 a1 a2 l0 w0 w1 w2 W).mono fun e W' ⟨he, hg⟩ => ?_
  subst he
  exact ⟨_, rfl, ⟨_, _, _, [], [], [], hW', (trodAll_cons_mk (shut_bool Try.underlying4 _) trodAll_mk0), (trodAll_cons_mk (shut_bytes Try.underlying23 Try.underlying5 cells5 (by kernel_rfl) l0 w0) (trodAll_cons_mk (shut_string Try.underlying9 w1) (trodAll_cons_mk (shut_string Try.underlying9 w2) trodAll_mk0))), rfl,
    hg.frame _, fun h => by cases h⟩⟩

theorem over : Rows.deltaTwoRow.holds Try.pinned (OpenSpec.ofChange Rows.deltaTwoSpec) :=
  OpenClaim.holds_of_wide 7 Try.f7 rfl rfl rfl rfl rfl rfl rfl ⟨rfl, rfl, rfl, rfl, rfl⟩ rfl rfl rfl rfl rfl (by kernel_rfl) Try.func7 (by kernel_rfl)
    (of_decide_eq_true (by kernel_rfl)) (by unfold Func.isWrapper; first | (rw [if_pos (by decide +kernel)]; kernel_rfl) | (rw [if_neg (by decide +kernel)]; exact ⟨rfl, rfl⟩))
    (fun os started H enc _ => lifted os started H enc)

/-- The statement. -/
theorem proved : Rows.DeltaTwoSaid :=
  over
#print axioms proved
end Go.Proofs.Ytdopghiconcjlaa.deltaTwo
