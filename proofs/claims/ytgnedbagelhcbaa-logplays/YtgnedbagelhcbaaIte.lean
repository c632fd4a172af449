/-
  Proved here: ring.Items: the framed texts of a stream, from a place on, and where they end.
-/
import Derived.Test.YtgnedbagelhcbaaJf
import Derived.RegionIn
namespace Go.Proofs.Ytgnedbagelhcbaa
open Go.ChangeShapes Go.WideShapes Go.ChangeAt Go.RowKit Go.Shelf
set_option linter.unusedVariables false
set_option linter.unusedSimpArgs false
set_option maxRecDepth 20000
attribute [local go_sem] Oper.semAt_some

theorem two_new (w : World) (x y : Value) (t : TypeId) : ∀ j u, [x, y][j]? = some u → (w.alloc (.cells #[x, y] t)).cell? ((⟨w.heap.size, 0, none⟩ : Addr).add j) = some u := by
  intro j u hj
  rw [Addr.add_mid, Nat.zero_add, cell_of_row _ _ j _ _ _ (Row.new w #[x, y] t), ← hj]
  show ([x, y] : List Value).toArray[j]? = _
  rw [List.getElem?_toArray]
theorem built59two (a : Int) (t : ByteArray) : (Try.prog.built 83 [(0, .int .u64 a), (1, .string t)]) = some #[.int .u64 a, .string t] := by kernel_rfl

set_option maxRecDepth 100000 in
set_option maxHeartbeats 4000000 in
theorem items_any (base : Int) (s : ByteArray) (p : Int) (w : World) (hb : 0 ≤ base ∧ base ≤ 4611686018427387904) (hs : s.size ≤ 1000000) (hp : 0 ≤ p ∧ p ≤ 18446744073709551615) :
    Calls Try.prog 40 #[.int .u64 base, .string s, .int .u64 p] w fun ex w' => Itemed w base s p ex w' := by
  obtain ⟨PP, HP⟩ : ∃ P : Ending → World → Prop, Hid (P = Itemed w base s p) := ⟨_, rfl⟩
  rw [← HP.out]
  have HWI : Hid _ := fun wx => rhas_any base s.size p wx (by omega) (by omega) hp
  by_cases hq : base ≤ p ∧ p - base ≤ (s.size : Int)
  rotate_left
  · have HQ : Hid (hasP base s p = false) := decide_eq_false hq
    rw [decide_eq_false hq] at HWI
    clear hq
    have HB0 : Hid (Below w.heap.size w (w.alloc (.cells #[.int .u64 p] 25))) := (Below.refl _ w).alloc (Nat.le_refl _) _
    go_enter Try.func40, Try.ntmps40
    go_upto_region 2 with (go_at_call 66; refine (HWI.out _).mono ?_; clear HWI; rintro e w1 ⟨rfl, rfl⟩)
    have bx := Boxed.cell (Boxed.new w 25 (.int .u64 p))
    have HBX : Hid _ := bx
    clear bx
    refine wp_region_held_drew (S := fun w' => Below w.heap.size w w' ∧ w'.cell? ⟨w.heap.size, 0, none⟩ = some (.int .u64 p)) (by kernel_rfl) ⟨HB0.out.drew, HBX.out⟩ fun hS => ?_
    refine wpAnyH_take (i := 0) (v := .int .u64 p) rfl (by kernel_rfl) (by kernel_rfl) (by kernel_rfl) (fun _ _ _ h => h) (Or.inl ⟨by rfl, fun w h => by have c := h.2; go_simp⟩) hS ?_
    try simp only [Act.put, List.getElem_toArray, List.getElem_cons_zero, List.getElem_cons_succ, List.setIfInBounds_toArray, List.set_cons_zero, List.set_cons_succ]
    refine wpAnyH_take (i := 1) (v := .slice none 0 0) rfl (by kernel_rfl) (by kernel_rfl) (by kernel_rfl) (fun _ _ _ h => h) (Or.inl ⟨by rfl, fun w h => by rfl⟩) hS ?_
    try simp only [Act.put, List.getElem_toArray, List.getElem_cons_zero, List.getElem_cons_succ, List.setIfInBounds_toArray, List.set_cons_zero, List.set_cons_succ]
    refine wpAnyH_take (i := 2) (v := .int .u64 p) rfl (by kernel_rfl) (by kernel_rfl) (by kernel_rfl) (fun _ _ _ h => h) (Or.inl ⟨by rfl, fun w h => by rfl⟩) hS ?_
    try simp only [Act.put, List.getElem_toArray, List.getElem_cons_zero, List.getElem_cons_succ, List.setIfInBounds_toArray, List.set_cons_zero, List.set_cons_succ]
    refine wpAnyH_done (by kernel_rfl) ?_ _
    go_wp2
    rw [HP.out]
    refine ⟨.slice none 0 0, ?_, ?_, hS.1⟩
    · unfold itE; rw [HQ.out]; rfl
    · unfold itL; rw [HQ.out]; exact ⟨rfl, Or.inl ⟨rfl, rfl⟩⟩
  · have HQ : Hid (hasP base s p = true) := decide_eq_true hq
    rw [decide_eq_true hq] at HWI
    have HT := fun n => texts_in n (itS base s p)
    refine (callsIn_wide (n := 5)).1 ?_
    refine callsIn_of_wp_marks Try.func40 rfl trivial ?_ rfl
    simp only [Try.ntmps40, List.size_toArray, List.length_cons, List.length_nil, Nat.reduceAdd, Nat.reduceSub, Array.replicate_succ, Array.replicate_zero, List.push_toArray, List.append_toArray, List.nil_append, List.cons_append]
    obtain ⟨D, hD⟩ : ∃ D : Nat, p - base = D := ⟨(p - base).toNat, by omega⟩
    have hDs : D ≤ s.size := by omega
    have hDm : (p - base) % 18446744073709551616 = D := by omega
    have HS : Hid (s.extract D s.size = itS base s p) := by show _ = _; unfold itS; rw [hD, Int.toNat_natCast]
    have hss := HS.out
    obtain ⟨ss, HSS⟩ : ∃ S, Hid (itS base s p = S) := ⟨_, rfl⟩
    rw [HSS.out] at hss HT HS
    clear hq
    gi_wp2_with (refine ⟨trivial, ?_⟩; first
      | (gi_at_call 66; refine (callsIn_wide.2 (HWI.out _)).mono ?_; clear HWI; rintro e w1 ⟨rfl, rfl⟩)
      | (gi_at_call 67; refine (HT _ _).mono ?_; rintro e w1 ⟨rfl, rfl⟩))
    obtain ⟨i0, hi, hz0, hz1, hz2⟩ := St.info_parts It.info83
    have bA := (Boxed.new w 25 (.int .u64 p)).alloc (.cells #[.slice none 0 0] 75)
    have bO := Boxed.new (w.alloc (.cells #[.int .u64 p] 25)) 75 (.slice none 0 0)
    have bS := Boxed.new ((w.alloc (.cells #[.int .u64 p] 25)).alloc (.cells #[.slice none 0 0] 75)) 9 (.string ss)
    simp only [World.size_alloc] at bO bS
    have hB0 : Below w.heap.size w (((w.alloc (.cells #[.int .u64 p] 25)).alloc (.cells #[.slice none 0 0] 75)).alloc (.cells #[.string ss] 9)) := (((Below.refl _ w).alloc (Nat.le_refl _) _).alloc (by simp) _).alloc (by simp; omega) _
    have hsz : ss.size ≤ 1000000 := by rw [← hss, ByteArray.size_extract]; omega
    have HTX : Hid _ := tx_fits ss
    have hNl : (tx ss).length ≤ 142858 := by have := HTX.out.2.2; omega
    refine wpIn_rangeFunc_ownG rfl (by decide) (gf := 85) (lb := #[.pointer (some ⟨w.heap.size + 1 + 1, 0, none⟩)]) rfl trivial (enters_of Try.func85 (by kernel_rfl) rfl)
      (texts_stops (5 - 1) (by decide) (w.heap.size + 1 + 1) w.heap.size ss (by unfold maxLen; omega) _ (by simp) (by simp; omega) bS.cell) belowK_t (belowK_b (by simp; omega)) (Below.refl _ _) (fun _ => rfl)
      (fun pre W => ((∃ v, Boxed W (w.heap.size + 1) 75 v ∧ W.ownsRow w.heap.size 83 2 v (lsns p (vals pre)).length (It.flat (lsns p (vals pre))) ∧ True) ∧ Boxed W w.heap.size 25 (.int .u64 (endOf p (vals pre)))) ∧ Below w.heap.size w W)
      (fun _ _ _ => False)
      (OwnFrom.and (OwnFrom.and (Own.from (holdsRow_own w.heap.size (w.heap.size + 1) 75 83 2 (fun pre => (lsns p (vals pre)).length) (fun pre => It.flat (lsns p (vals pre))) (fun _ _ => True)) _) (Own.from (boxed_own w.heap.size 25 (fun pre => .int .u64 (endOf p (vals pre)))) _)) (ownFrom_below (Nat.le_refl _) (by simp; omega)))
      (fun _ _ _ _ _ hs _ _ => hs)
      ⟨⟨⟨_, bO.alloc _, World.ownsRow_nil _ _ _ _, trivial⟩, bA.alloc _⟩, hB0⟩
      (fun x => { tmps := #[.int .u64 base, .string s, .int .u64 p, undef, undef, .pointer (some ⟨w.heap.size, 0, none⟩), .slice none 0 0, .int .u64 0, .pointer (some ⟨w.heap.size + 1, 0, none⟩), .string x.1, .int .u64 base, .string s, .int .i64 s.size, .int .u64 p, .bool true, .bool false, undef, .string s, .int .u64 p, .int .u64 base, .int .u64 D, .string ss, .func (.func 85) #[] #[.pointer (some ⟨w.heap.size + 1 + 1, 0, none⟩)], .string x.1, undef, undef, undef, undef, undef, undef, undef, undef, undef, undef, undef, undef, undef, undef], defers := [] }) ?assign ?body ?done ?stop
    case assign =>
      intro l x W K hK
      gi_wp2
      exact hK
    case body =>
      rintro l pre x W ⟨⟨⟨v, hv, hrow, -⟩, hat⟩, hB⟩ hlt
      have hc := hv.cell
      have hc2 := hat.cell
      have hE1 := endOf_ge p (vals pre)
      have hE2 := endOf_le p (vals pre) (fun t ht => by obtain ⟨y, _, rfl⟩ := List.mem_map.1 ht; exact y.2)
      have hll := lsns_length p (vals pre)
      rw [vals_length] at hE2 hll
      have hx := x.2
      have HLS : Hid _ := lsns_snoc p (vals pre) x.1
      have HES : Hid _ := endOf_snoc p (vals pre) x.1
      rw [← vals_snoc] at HLS HES
      obtain ⟨E, HE⟩ : ∃ E, Hid (endOf p (vals pre) = E) := ⟨_, rfl⟩
      rw [HE.out] at hE1 hE2 HLS HES hc2 hat
      obtain ⟨L, HL⟩ : ∃ L, Hid (lsns p (vals pre) = L) := ⟨_, rfl⟩
      rw [HL.out] at hll HLS hrow
      have hEm : (E + (6 + (x.1.size : Int))) % 18446744073709551616 = E + (6 + (x.1.size : Int)) := by omega
      have hm1 : L.length + 1 ≤ maxLen := by unfold maxLen; omega
      have hm2 : (L.length + 1) * 24 ≤ 140737488355328 := by omega
      have hEb : E + 6 + 400 ≤ 18446744073709551615 := by omega
      clear hll
      gi_wp2_with (gi_at_builtin; refine wpListIn_append_own _ rfl _ _ 75 rfl w.heap.size 83 i0 (.agg It.O.zero.arr) 2 24 Try.underlying75 hi hz0 hz1 hz2 rfl (by decide) _ _ _ rfl (hrow.alloc _) ⟨W.heap.size, 0, none⟩ 1 1 [.int .u64 E, .string x.1] rfl rfl (two_new _ _ _ _) (by simp [Value.oneCell']) hm1 hm2 (by have := hB.size; simp; omega) ?_; intro v' w1 hown' hgrow _; obtain ⟨g', cap', rfl⟩ := ownsRow_succ hown'; obtain ⟨hv1, hv2, hr2, hk2, hb2⟩ := hv.appended (by decide) hrow hB.size (Nat.le_succ _) hown' hgrow; have hat1 := (hat.alloc _).kept hgrow (hat.not_row (by decide) hrow); have hc1 := hv1.cell; have hf1 := hv1.frozen; have hat2 := hat1.other (B' := w.heap.size + 1) (by omega) (.slice (some ⟨g', 0, none⟩) (L.length + 1) cap'); have hc3 := hat2.cell; have hf3 := hat2.frozen)
      have hb3 := hb2.setCell (p := ⟨w.heap.size, 0, none⟩) (Nat.le_refl _) (.int .u64 (E + (6 + (x.1.size : Int))))
      refine ⟨(hk2.trans (KeepsOthers.setCell _ _ _)).from _, hb3, ⟨⟨_, hv2.other (by omega) _, ?_, trivial⟩, ?_⟩, hB.trans hb3⟩
      · have h9 := hr2.kept (grownBy_setCell' _ w.heap.size (.int .u64 (E + (6 + (x.1.size : Int))))) (.inr (hat2.not_row (by decide) hr2).symm)
        rw [HLS.out, It.flat_append, List.length_append]
        exact h9
      · have h9 := hat2.set (.int .u64 (E + (6 + (x.1.size : Int))))
        rw [HES.out, Int.add_assoc]
        exact h9
    case done =>
      rintro D' ys W hD' hys ⟨⟨⟨v, hv, hrow, -⟩, hat⟩, hB⟩ hK
      have hc := hv.cell
      have hc2 := hat.cell
      rw [hys] at hrow hat hc2
      have HR : Hid (itL base s p = lsns p (tx ss)) := by show _ = _; unfold itL; rw [HQ.out, if_pos rfl, HSS.out]
      have HRE : Hid (itE base s p = endOf p (tx ss)) := by show _ = _; unfold itE; rw [HQ.out, if_pos rfl, HSS.out]
      obtain ⟨E, HE⟩ : ∃ E, Hid (endOf p (tx ss) = E) := ⟨_, rfl⟩
      rw [HE.out] at hc2 hat HRE
      gi_wp2
      gi_region
      have hK' : W.drew.heap[D']? = some (.deferred (some [])) := hK
      have hB' : Below w.heap.size w W.drew := hB.drew
      have hrow' : W.drew.ownsRow w.heap.size 83 2 v (lsns p (tx ss)).length (It.flat (lsns p (tx ss))) := hrow
      gi_wp2
      refine ⟨by simp, .inl ⟨_, _, rfl, run_takeDeferred hK', ?_⟩⟩
      refine ⟨_, results_tmp2 rfl _ _ _, ?_⟩
      rw [HP.out]
      refine ⟨v, by rw [HRE.out]; rfl, ?_, hB'.trans (belowK_b (w := w) (Nat.le_refl _) _ D' _ _ (by simp at hD'; omega) hK' rfl rfl)⟩
      rw [HR.out]
      exact ownsRow_putObj hrow' _ hK' rfl
    case stop =>
      rintro D' c pre W _ _ h _
      exact h.elim
end Go.Proofs.Ytgnedbagelhcbaa
