/-
  Proved: for all bodies of 64 bytes the Go function varvelaw03.DeltaBack returns true and leaves its arguments as they were; no condition.
-/
import Derived.Test.YtdopghiconcjlaaAwake
import Derived.Test.YtdopghiconcjlaaShut
namespace Go.Proofs.Ytdopghiconcjlaa.deltaBack
open Go.ChangeShapes Go.WideShapes Go.ChangeAt Go.RowKit
open Go.ChangeMaps (open_string shut_string)
set_option linter.unusedVariables false
set_option linter.unusedSimpArgs false

theorem own : ownKnob Try.prog.godebug = none := by kernel_rfl

theorem equal23 (xs ys : List Int) (hx : xs.length = 64) (hy : ys.length = 64) (w : World) : (Op.equalIn 10000 23 (.agg (bs xs)) (.agg (bs ys))).run Try.prog w = .ok (decide (xs = ys)) w :=
  equal_bytes 23 5 64 Try.underlying23 Try.underlying5 size5 cells5 xs ys hx hy w

set_option maxHeartbeats 2000000 in
theorem walk (x y : List Int) (hx : x.length = 64) (yx : Bytes x) (hy : y.length = 64) (yy : Bytes y) (w : World) :
    Calls Try.prog 6 #[.agg (bs x), .agg (bs y)] w fun e w' => e = .returned (.bool true) ∧ Below w.heap.size w w' := by
  have hz := zero23
  obtain ⟨ps, hps, hap⟩ := make_back x y hx hy yy
  have hsh := make_short x y hy
  have hem := make_empty x y hx hy yy
  have hAp : applied x (strOfNums (tell y (hasD x y 64))) = .tuple #[.agg (bs y), .int .i64 0] := by unfold applied; rw [hps]; simp only []; rw [hap]
  have hsz := strOfNums_size (tell y (hasD x y 64))
  have hde : strOfNums (tell y (hasD x y 64)) = ⟨#[]⟩ ↔ x = y := by
    rw [← hem]
    constructor
    · intro h
      rw [h] at hsz
      exact List.eq_nil_of_length_eq_zero hsz.symm
    · intro h; rw [h]; rfl
  rw [← hsz] at hsh
  obtain ⟨D, HD⟩ : ∃ D, Hid (strOfNums (tell y (hasD x y 64)) = D) := ⟨_, rfl⟩
  rw [HD.out] at hps hAp hsh hde
  have HPS : Hid (pieces D = some ps) := hps
  have HAP := show Hid _ from hAp
  have HDE := show Hid _ from hde
  clear hps hap hAp hem hsz hde
  have HM : Hid (D.size ≤ maxLen) := by show D.size ≤ maxLen; unfold maxLen; omega
  have he : ∀ w, (Op.equalIn 10000 23 (.agg (bs y)) (.agg (bs y))).run Try.prog w = .ok true w := fun w => by rw [equal23 y y hy hy w]; simp
  have a0 : Row ((w.alloc (.cells (bs x) 23)).alloc (.cells (bs y) 23)) w.heap.size (bs x) 23 := (Row.new _ _ _).alloc _
  have a1 : Row ((w.alloc (.cells (bs x) 23)).alloc (.cells (bs y) 23)) (w.heap.size + 1) (bs y) 23 := by have := Row.new (w.alloc (.cells (bs x) 23)) (bs y) 23; simpa using this
  have ab : Below w.heap.size w ((w.alloc (.cells (bs x) 23)).alloc (.cells (bs y) 23)) := ((Below.refl _ _).alloc (Nat.le_refl _) _).alloc (by simp) _
  have hsh' : (D.size : Int) ≤ 66 := by omega
  by_cases hxy : x = y
  · have hD := HDE.out.2 hxy
    subst hD
    subst hxy
    go_enter Try.func6, Try.ntmps6
    go_wp2_with (first
      | (refine load_row rfl 23 (.tmp 2) rfl w.heap.size rfl 23 (bs x) a0 64 5 Try.underlying23 size23 (by rw [bs_size, hx]) ?_)
      | (refine load_row rfl 23 (.tmp 3) rfl (w.heap.size + 1) rfl 23 (bs x) a1 64 5 Try.underlying23 size23 (by rw [bs_size, hx]) ?_)
      | (go_at_call 9; refine (make_any x x hx hx _).mono ?_; rw [HD.out]; rintro e w1 ⟨rfl, h1⟩
         have b0 := a0.below h1 a0.lt
         have b1 := a1.below h1 a1.lt
         have bb := ab.trans (h1.mono (Nat.le_of_lt a0.lt))
         clear a0 a1 ab h1)
      | (refine load_row rfl 23 (.tmp 2) rfl w.heap.size rfl 23 (bs x) b0 64 5 Try.underlying23 size23 (by rw [bs_size, hx]) ?_)
      | (go_at_call 11; refine (apply_any x hx _ HM.out _).mono ?_; rw [HAP.out]; rintro e w2 ⟨rfl, h2⟩
         have c0 := b0.below h2 b0.lt
         have c1 := b1.below h2 b1.lt
         have cb := bb.trans (h2.mono (Nat.le_of_lt b0.lt))
         clear b0 b1 bb h2)
      | (refine store_row rfl 23 (.tmp 6) (.tmp 15) rfl w2.heap.size x rfl rfl 23 _ (Row.new w2 (bs (zs 64)) 23) 64 size23 (by rw [bs_size, zs_length]) hx ?_
         have d0 := (c0.alloc (.cells (bs (zs 64)) 23)).other (Nat.ne_of_lt c0.lt) (bs x)
         have d1 := (c1.alloc (.cells (bs (zs 64)) 23)).other (Nat.ne_of_lt c1.lt) (bs x)
         have d2 := (Row.new w2 (bs (zs 64)) 23).set (bs x)
         have db := below_setRow (cb.alloc (Nat.le_of_lt c0.lt) (.cells (bs (zs 64)) 23)) (Nat.le_of_lt c0.lt) (bs x)
         generalize (w2.alloc (.cells (bs (zs 64)) 23)).setRow w2.heap.size (bs x) = w3 at d0 d1 d2 db ⊢
         clear c0 c1 cb)
      | (refine load_row_g rfl 23 (.tmp 6) rfl w2.heap.size rfl 23 (bs x) d2 64 5 Try.underlying23 size23 (by rw [bs_size, hx]) ?_)
      | (refine load_row_g rfl 23 (.tmp 3) rfl (w.heap.size + 1) rfl 23 (bs x) d1 64 5 Try.underlying23 size23 (by rw [bs_size, hx]) ?_)
      | (go_at_call 13; refine (check_any _ HM.out _).mono ?_; rw [HPS.out]; rintro e w4 ⟨rfl, h4⟩
         have e0 := d0.below h4 d0.lt
         have e1 := d1.below h4 d1.lt
         have eb := db.trans (h4.mono (Nat.le_of_lt d0.lt))
         clear d0 d1 d2 db h4)
      | (refine load_row_g rfl 23 (.tmp 2) rfl w.heap.size rfl 23 (bs x) e0 64 5 Try.underlying23 size23 (by rw [bs_size, hx]) ?_)
      | (refine load_row_g rfl 23 (.tmp 3) rfl (w.heap.size + 1) rfl 23 (bs x) e1 64 5 Try.underlying23 size23 (by rw [bs_size, hx]) ?_)
      | (go_at_call 14; refine (awake_any _).mono ?_; rintro e w5 ⟨rfl, h5⟩
         have fb := eb.trans (h5.mono (Nat.le_of_lt e0.lt))))
    go_ret
    exact ⟨by simp, fb⟩
  · have hne : ¬ D = ⟨#[]⟩ := fun q => hxy (HDE.out.1 q)
    have hne1 : (D.toList == []) = false := by
      rw [Bool.eq_false_iff]
      intro q
      apply hne
      rw [ByteArray.toList_eq] at q
      obtain ⟨⟨l⟩⟩ := D
      simp at q
      rw [q]
    have hne2 : (D == ⟨#[]⟩) = false := by
      rw [beq_toListBytes]
      simpa [ByteArray.toList_eq] using hne1
    have he' : ∀ w, (Op.equalIn 10000 23 (.agg (bs x)) (.agg (bs y))).run Try.prog w = .ok false w := fun w => by rw [equal23 x y hx hy w, decide_eq_false hxy]
    go_enter Try.func6, Try.ntmps6
    go_wp2_with (first
      | (refine load_row rfl 23 (.tmp 2) rfl w.heap.size rfl 23 (bs x) a0 64 5 Try.underlying23 size23 (by rw [bs_size, hx]) ?_)
      | (refine load_row rfl 23 (.tmp 3) rfl (w.heap.size + 1) rfl 23 (bs y) a1 64 5 Try.underlying23 size23 (by rw [bs_size, hy]) ?_)
      | (go_at_call 9; refine (make_any x y hx hy _).mono ?_; rw [HD.out]; rintro e w1 ⟨rfl, h1⟩
         have b0 := a0.below h1 a0.lt
         have b1 := a1.below h1 a1.lt
         have bb := ab.trans (h1.mono (Nat.le_of_lt a0.lt))
         clear a0 a1 ab h1)
      | (refine load_row rfl 23 (.tmp 2) rfl w.heap.size rfl 23 (bs x) b0 64 5 Try.underlying23 size23 (by rw [bs_size, hx]) ?_)
      | (go_at_call 11; refine (apply_any x hx _ HM.out _).mono ?_; rw [HAP.out]; rintro e w2 ⟨rfl, h2⟩
         have c0 := b0.below h2 b0.lt
         have c1 := b1.below h2 b1.lt
         have cb := bb.trans (h2.mono (Nat.le_of_lt b0.lt))
         clear b0 b1 bb h2)
      | (refine store_row rfl 23 (.tmp 6) (.tmp 15) rfl w2.heap.size y rfl rfl 23 _ (Row.new w2 (bs (zs 64)) 23) 64 size23 (by rw [bs_size, zs_length]) hy ?_
         have d0 := (c0.alloc (.cells (bs (zs 64)) 23)).other (Nat.ne_of_lt c0.lt) (bs y)
         have d1 := (c1.alloc (.cells (bs (zs 64)) 23)).other (Nat.ne_of_lt c1.lt) (bs y)
         have d2 := (Row.new w2 (bs (zs 64)) 23).set (bs y)
         have db := below_setRow (cb.alloc (Nat.le_of_lt c0.lt) (.cells (bs (zs 64)) 23)) (Nat.le_of_lt c0.lt) (bs y)
         generalize (w2.alloc (.cells (bs (zs 64)) 23)).setRow w2.heap.size (bs y) = w3 at d0 d1 d2 db ⊢
         clear c0 c1 cb)
      | (refine load_row_g rfl 23 (.tmp 6) rfl w2.heap.size rfl 23 (bs y) d2 64 5 Try.underlying23 size23 (by rw [bs_size, hy]) ?_)
      | (refine load_row_g rfl 23 (.tmp 3) rfl (w.heap.size + 1) rfl 23 (bs y) d1 64 5 Try.underlying23 size23 (by rw [bs_size, hy]) ?_)
      | (go_at_call 13; refine (check_any _ HM.out _).mono ?_; rw [HPS.out]; rintro e w4 ⟨rfl, h4⟩
         have e0 := d0.below h4 d0.lt
         have e1 := d1.below h4 d1.lt
         have eb := db.trans (h4.mono (Nat.le_of_lt d0.lt))
         clear d0 d1 d2 db h4)
      | (refine load_row_g rfl 23 (.tmp 2) rfl w.heap.size rfl 23 (bs x) e0 64 5 Try.underlying23 size23 (by rw [bs_size, hx]) ?_)
      | (refine load_row_g rfl 23 (.tmp 3) rfl (w.heap.size + 1) rfl 23 (bs y) e1 64 5 Try.underlying23 size23 (by rw [bs_size, hy]) ?_)
      | (go_at_call 14; refine (awake_any _).mono ?_; rintro e w5 ⟨rfl, h5⟩
         have fb := eb.trans (h5.mono (Nat.le_of_lt e0.lt))))
    go_ret
    exact ⟨by simp, fb⟩

set_option maxRecDepth 100000 in
theorem lifted (os : Os) (started : os.Started) (H : Type) (enc : TypeId × Value → H) :
    ReturnsInHanded {} Try.checked os 6 .any (Rows.deltaBackSpec.pre6 enc Try.prog Try.f6 Rows.deltaBackRow.domain false) (Rows.deltaBackSpec.post enc Try.prog Try.f6 false true false false) := by
  refine returnsInHanded_of_change (C := Try.checked) own started (by kernel_rfl) Try.func6
    (ChangeSpec.witness6 (enc := enc) (C := Try.checked) false ⟨#[], #[.agg (bs (zs 64)), .agg (bs (zs 64))], []⟩ 8 (by kernel_rfl) (by kernel_rfl) (by kernel_rfl) (by kernel_rfl)) ?_
  intro W base args ds gs before hval0 hW hcnd _
  have hval : ∀ (j : Nat) t v, Try.f6.params[j]? = some t → args[j]? = some v → Value.okWide Try.prog W .any base t v := hval0
  have hW' := hW
  obtain ⟨p, q, hA0, hV, rfl, hfz, hnd⟩ := hW
  have hA : DataW.TrodAll enc Try.prog W 0 (fun _ => true) true Try.f6.params.toList args.toList ds p := hA0
  rw [Try.params6] at hA hval
  obtain ⟨v0, vs0, d0, ds0, p0, q0, hargs, rfl, rfl, h0, r0⟩ := trodAll_cons hA
  obtain ⟨v1, vs1, d1, ds1, p1, q1, rfl, rfl, rfl, h1, r1⟩ := trodAll_cons r0
  obtain ⟨rfl, rfl, rfl⟩ := trodAll_nil r1
  obtain rfl : args = #[v0, v1] := by cases args; simp_all
  obtain ⟨rfl, rfl⟩ := trodVars_none hV
  obtain ⟨a0, rfl, rfl, rfl, l0, w0⟩ := open_bytes Try.underlying23 Try.underlying5 cells5 (by kernel_rfl) (hval 0 23 v0 rfl rfl) h0
  obtain ⟨a1, rfl, rfl, rfl, l1, w1⟩ := open_bytes Try.underlying23 Try.underlying5 cells5 (by kernel_rfl) (hval 1 23 v1 rfl rfl) h1
  clear hA0 hval0
  simp only [List.append_nil] at hW'
  refine (walk a0 a1 l0 w0 l1 w1 W).mono fun e W' ⟨he, hg⟩ => ?_
  subst he
  exact ⟨_, rfl, ⟨_, _, _, [], [], [], hW', (trodAll_cons_mk (shut_bool Try.underlying4 _) trodAll_mk0), (trodAll_cons_mk (shut_bytes Try.underlying23 Try.underlying5 cells5 (by kernel_rfl) l0 w0) (trodAll_cons_mk (shut_bytes Try.underlying23 Try.underlying5 cells5 (by kernel_rfl) l1 w1) trodAll_mk0)), rfl,
    hg.frame _, fun h => by cases h⟩⟩

theorem over : Rows.deltaBackRow.holds Try.pinned (OpenSpec.ofChange Rows.deltaBackSpec) :=
  OpenClaim.holds_of_wide 6 Try.f6 rfl rfl rfl rfl rfl rfl rfl ⟨rfl, rfl, rfl, rfl, rfl⟩ rfl rfl rfl rfl rfl (by kernel_rfl) Try.func6 (by kernel_rfl)
    (of_decide_eq_true (by kernel_rfl)) (by unfold Func.isWrapper; first | (rw [if_pos (by decide +kernel)]; kernel_rfl) | (rw [if_neg (by decide +kernel)]; exact ⟨rfl, rfl⟩))
    (fun os started H enc _ => lifted os started H enc)

/-- The statement. -/
theorem proved : Rows.DeltaBackSaid :=
  over
#print axioms proved
end Go.Proofs.Ytdopghiconcjlaa.deltaBack
