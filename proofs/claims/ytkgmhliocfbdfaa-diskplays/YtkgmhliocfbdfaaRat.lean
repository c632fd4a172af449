/-
  Proved here: which block the document's writes make, the later ones over the earlier ones.
-/
import Derived.Test.YtkgmhliocfbdfaaRdk
namespace Go.Proofs.Ytkgmhliocfbdfaa
open Go.ChangeShapes Go.WideShapes Go.ChangeAt Go.RowKit
set_option linter.unusedVariables false
set_option linter.unusedSimpArgs false

theorem yields_bytes {P : Program} {ops : Array Oper} {S : World → Prop} {o : Oper} {a : Act} (hw : Region.wanted o (yielded ops a.tmps) = true) (ty : TypeId) (x : Operand) (ho : o.op = .load ty x)
    (b off : Nat) (hx : a.eval x = .pointer (some ⟨b, off, none⟩)) (xs : List Int) (d : TypeDesc) (hS : ∀ w, S w → w.rangeAt b off (xs.map (Value.int .u8)))
    (hu : P.underlying ty = some d) (hd : d.isRow = true) (hi : (P.info? ty).map (·.size) = some xs.length) : YieldsIf P ops S o (.agg (bs xs)) a :=
  yieldsIf_load_mid hw ty x ho b off hx (xs.map (Value.int .u8)) d hS hu hd (by rw [List.length_map]; exact hi)
/-- A block by a map of sectors, with one more write. -/
theorem block_put (f : Secs) (hf : ∀ b s, (f.get b s).length = 64) (q : Int × Int × List Int) (hq : okW q) (b : Int) : (f.put q.1 q.2.1 q.2.2).block b = if q.1 = b then lay (f.block b) q.2.1.toNat q.2.2 else f.block b := by
  unfold Secs.block
  by_cases e : q.1 = b
  · rw [if_pos e, lay_blk _ (fun i _ => hf b i) _ (by have := hq.2.1; have := hq.1; omega) _ hq.2.2.1]
    refine blk_congr _ _ (fun i hi => ?_) (fun i hi => ?_)
    · unfold Secs.get Secs.put
      split
      · exact hq.2.2.1
      · exact hf b i
    · unfold Secs.get Secs.put
      by_cases e2 : i = q.2.1.toNat
      · rw [if_pos e2, if_pos ⟨e.symm, by have := hq.1; omega⟩]; try rfl
      · rw [if_neg e2, if_neg (fun c => e2 (by have := c.2; omega))]; try rfl
  · rw [if_neg e]
    refine blk_congr _ _ (fun i hi => ?_) (fun i hi => ?_)
    · unfold Secs.get Secs.put
      split
      · exact hq.2.2.1
      · exact hf b i
    · unfold Secs.get Secs.put
      rw [if_neg (fun c => e c.1.symm)]
theorem over_get (f : Secs) (hf : ∀ b s, (f.get b s).length = 64) : ∀ (l : List (Int × Int × List Int)), (∀ q ∈ l, okW q) → ∀ b s, ((over f l).get b s).length = 64
  | [], _, b, s => hf b s
  | q :: r, h, b, s => by
    refine over_get (f.put q.1 q.2.1 q.2.2) (fun b s => ?_) r (fun q hq => h q (by simp [hq])) b s
    unfold Secs.get Secs.put
    split
    · exact (h q (by simp)).2.2.1
    · exact hf b s
def noneS : Secs := fun _ _ => none
theorem none_get (b s : Int) : (noneS.get b s).length = 64 := zs_length 64
theorem over_snoc (f : Secs) (l : List (Int × Int × List Int)) (q : Int × Int × List Int) : over f (l ++ [q]) = (over f l).put q.1 q.2.1 q.2.2 := by rw [over_append]; rfl
theorem writes_at {w : World} {v : Value} {l : List (Int × Int × List Int)} (h : w.ownsRow 0 69 66 v l.length (pcells l)) (hs : ∀ q ∈ l, okW q) : ∃ oa cap, v = .slice oa l.length cap ∧ ∀ (k : Nat) (hk : k < l.length), ∃ g, oa = some ⟨g, 0, none⟩ ∧ w.rangeAt g (k * 66) (pcell l[k]) := by
  obtain ⟨oa, cap, e⟩ := own_form h
  refine ⟨oa, cap, e, fun k hk => ?_⟩
  rcases h.2 with ⟨_, q⟩ | ⟨g, cap', cur, q, hb, hr, _, _, hsz, ht⟩
  · omega
  · rw [e] at q
    simp only [Value.slice.injEq] at q
    obtain ⟨rfl, _, rfl⟩ := q
    refine ⟨g, rfl, fun j v hv => ?_⟩
    refine row_at (cs := cur) (t := 69) hr _ _ ?_
    have hp : ∀ q ∈ l, (pcell q).length = 66 := fun q hq => by simp [pcell, (hs q hq).2.2.1]
    have key : ∀ (l : List (Int × Int × List Int)) (k : Nat) (hk : k < l.length), (∀ q ∈ l, (pcell q).length = 66) → (pcells l)[k * 66 + j]? = some v ∨ ¬ (pcell l[k])[j]? = some v := fun l => by
      induction l with
      | nil => intro k hk; simp at hk
      | cons a r ih =>
        intro k hk hp
        cases k with
        | zero =>
          by_cases c : (pcell a)[j]? = some v
          · left
            have hj := (List.getElem?_eq_some_iff.1 c).1
            show (pcell a ++ pcells r)[0 * 66 + j]? = some v
            rw [Nat.zero_mul, Nat.zero_add, List.getElem?_append_left hj]; exact c
          · right; exact c
        | succ k =>
          rcases ih k (by simpa using hk) (fun q hq => hp q (by simp [hq])) with c | c
          · left
            show (pcell a ++ pcells r)[(k + 1) * 66 + j]? = some v
            have h66 := hp a (by simp)
            rw [List.getElem?_append_right (by omega), show (k + 1) * 66 + j - (pcell a).length = k * 66 + j by omega]; exact c
          · right; simpa using c
    rcases key l k hk hp with c | c
    · rw [← ht, List.getElem?_take] at c
      split at c
      · simpa using c
      · cases c
    · exact absurd hv c
/-- What the region that lays a sector holds by. -/
structure LayS (w0 : World) (B g i k m cap : Nat) (X xs : List Int) (v0 v1 : Value) (s : Int) (w' : World) : Prop where
  a : Row w' B #[v0, v1] 77
  y : Row w' (B + 1) (bs (zs 256)) 34
  x : Row w' (B + 2) (bs X) 34
  c0 : w'.cell? ⟨B, i, none⟩ = some (.slice (some ⟨g, 0, none⟩) m cap)
  s : w'.cell? ⟨g, k * 66 + 1, none⟩ = some (.int .i64 s)
  r : w'.rangeAt g (k * 66 + 2) (xs.map (Value.int .u8))
  b : Below B w0 w'
theorem zero77 (w : World) : True := trivial
set_option maxHeartbeats 2000000 in
set_option maxRecDepth 20000 in
theorem rat_any {w : World} (v0 v1 : Value) (l0 l1 : List (Int × Int × List Int)) (h0 : w.ownsRow 0 69 66 v0 l0.length (pcells l0)) (h1 : w.ownsRow 0 69 66 v1 l1.length (pcells l1)) (k0 : ∀ q ∈ l0, okW q) (k1 : ∀ q ∈ l1, okW q) (n0 : l0.length ≤ 1000000000) (n1 : l1.length ≤ 1000000000) (b : Int) :
    Calls Try.prog 36 #[.agg #[v0, v1], .int .i64 b] w fun e w' => e = .returned (.agg (bs ((over (over noneS l0) l1).block b))) ∧ Below w.heap.size w w' := by
  have hz := zero34
  obtain ⟨V, HV⟩ : ∃ V : Nat → Value, Hid (V 0 = v0 ∧ V 1 = v1) := ⟨fun i => if i = 0 then v0 else v1, rfl, rfl⟩
  obtain ⟨L, HL⟩ : ∃ L : Nat → List (Int × Int × List Int), Hid (L 0 = l0 ∧ L 1 = l1) := ⟨fun i => if i = 0 then l0 else l1, rfl, rfl⟩
  obtain ⟨F, HF⟩ : ∃ F : Nat → Secs, Hid (F 0 = noneS ∧ F 1 = over noneS l0 ∧ F 2 = over (over noneS l0) l1) := ⟨fun i => if i = 0 then noneS else if i = 1 then over noneS l0 else over (over noneS l0) l1, rfl, rfl, rfl⟩
  have HO : Hid (∀ i, i < 2 → w.ownsRow 0 69 66 (V i) (L i).length (pcells (L i)) ∧ (∀ q ∈ L i, okW q) ∧ (L i).length ≤ 1000000000 ∧ F (i + 1) = over (F i) (L i) ∧ (∀ b s, ((F i).get b s).length = 64)) := fun i hi => by
    obtain ⟨a1, a2⟩ := HV.out
    obtain ⟨b1, b2⟩ := HL.out
    obtain ⟨c1, c2, c3⟩ := HF.out
    have : i = 0 ∨ i = 1 := by omega
    rcases this with rfl | rfl
    · rw [a1, b1, c1, c2]; exact ⟨h0, k0, n0, rfl, none_get⟩
    · rw [a2, b2, c2, c3]; exact ⟨h1, k1, n1, rfl, over_get _ none_get _ k0⟩
  have HE : Hid ((over (over noneS l0) l1).block b = (F 2).block b) := by show _ = _; rw [HF.out.2.2]
  rw [HE.out]
  have a0 : Row (((w.alloc (.cells #[v0, v1] 77)).alloc (.cells (bs (zs 256)) 34)).alloc (.cells (bs (zs 256)) 34)) w.heap.size #[v0, v1] 77 := ((Row.new _ _ _).alloc _).alloc _
  have a1 : Row (((w.alloc (.cells #[v0, v1] 77)).alloc (.cells (bs (zs 256)) 34)).alloc (.cells (bs (zs 256)) 34)) (w.heap.size + 1) (bs (zs 256)) 34 := by have := (Row.new (w.alloc (.cells #[v0, v1] 77)) (bs (zs 256)) 34).alloc (.cells (bs (zs 256)) 34); simpa using this
  have a2 : Row (((w.alloc (.cells #[v0, v1] 77)).alloc (.cells (bs (zs 256)) 34)).alloc (.cells (bs (zs 256)) 34)) (w.heap.size + 2) (bs (zs 256)) 34 := by have := (Row.new ((w.alloc (.cells #[v0, v1] 77)).alloc (.cells (bs (zs 256)) 34)) (bs (zs 256)) 34); simpa using this
  have ab : Below w.heap.size w (((w.alloc (.cells #[v0, v1] 77)).alloc (.cells (bs (zs 256)) 34)).alloc (.cells (bs (zs 256)) 34)) := (((Below.refl _ _).alloc (Nat.le_refl _) _).alloc (by simp) _).alloc (by simp; omega) _
  go_enter Try.func36, Try.ntmps36
  go_wp2_with fail
  generalize ((w.alloc (.cells #[v0, v1] 77)).alloc (.cells (bs (zs 256)) 34)).alloc (.cells (bs (zs 256)) 34) = w1 at a0 a1 a2 ab ⊢
  go_loopw [6] (fun c wr => ∃ (i : Nat), c = .int .i64 i ∧ i ≤ 2 ∧ Row wr w.heap.size #[v0, v1] 77 ∧ Row wr (w.heap.size + 1) (bs (zs 256)) 34 ∧ Row wr (w.heap.size + 2) (bs ((F i).block b)) 34 ∧ Below w.heap.size w wr) (fun c _ => 2 - (intOf c).toNat)
  case atStart => exact ⟨0, rfl, by omega, a0, a1, by rw [HF.out.1, show noneS.block b = zs 256 from blk_zero]; exact a2, ab⟩
  case round =>
    clear a0 a1 a2 ab
    obtain ⟨i, rfl, hi, r0, r1, r2, rb⟩ := hrel
    by_cases hi2 : i < 2
    · have hi2' : (i : Int) < 2 := by omega
      obtain ⟨ow, okl, nl, hFn, hFg⟩ := HO.out i hi2
      obtain ⟨oa, cap, hVi, hwr⟩ := writes_at ow okl
      obtain ⟨m, Hm⟩ : ∃ m, Hid ((L i).length = m) := ⟨_, rfl⟩
      rw [Hm.out] at hVi nl
      have HWR : Hid _ := hwr
      have HOK : Hid _ := okl
      have HFN : Hid _ := hFn
      have HFG : Hid _ := hFg
      have HCI : Hid (∀ wx, Row wx w.heap.size #[v0, v1] 77 → wx.cell? ⟨w.heap.size, i, none⟩ = some (.slice oa m cap)) := fun wx hx => by
        have : i = 0 ∨ i = 1 := by omega
        rcases this with rfl | rfl
        · rw [← hVi, HV.out.1]; exact row_at hx 0 _ rfl
        · rw [← hVi, HV.out.2]; exact row_at hx 1 _ rfl
      clear ow okl hwr hFn hFg hVi
      go_wp2_with fail
      go_loopw [7] (fun c wr => ∃ (k : Nat), c = .int .i64 k ∧ k ≤ m ∧ Row wr w.heap.size #[v0, v1] 77 ∧ Row wr (w.heap.size + 1) (bs (zs 256)) 34 ∧ Row wr (w.heap.size + 2) (bs ((over (F i) ((L i).take k)).block b)) 34 ∧ Below w.heap.size w wr) (fun c _ => m - (intOf c).toNat)
      case atStart => exact ⟨0, rfl, by omega, r0, r1, by rw [List.take_zero]; exact r2, rb⟩
      case round =>
        clear r0 r1 r2 rb
        obtain ⟨k, rfl, hk, r0, r1, r2, rb⟩ := hrel
        have ci := HCI.out wr r0
        by_cases hkm : k < m
        · have hkm' : (k : Int) < (m : Int) := by omega
          have hkl : k < (L i).length := by rw [Hm.out]; exact hkm
          obtain ⟨g, hoa, hrg⟩ := HWR.out k hkl
          subst hoa
          have hok := HOK.out _ (List.getElem_mem hkl)
          have hnext : over (F i) ((L i).take (k + 1)) = (over (F i) ((L i).take k)).put (L i)[k].1 (L i)[k].2.1 (L i)[k].2.2 := by
            rw [List.take_add_one, List.getElem?_eq_getElem hkl]
            exact over_snoc _ _ _
          have hget := over_get (F i) HFG.out ((L i).take k) (fun q hq => HOK.out q (List.mem_of_mem_take hq))
          have hput := block_put _ hget _ hok b
          rw [← hnext] at hput
          have hbl : ((over (F i) ((L i).take k)).block b).length = 256 := (blk_getD _ (fun j _ => hget b j) 4 (by omega)).1
          generalize (L i)[k] = qq at hrg hok hput
          obtain ⟨bl, s, xs⟩ := qq
          obtain ⟨hs0, hs4, hxs⟩ := hok
          simp only at hs0 hs4 hxs hput
          have hrw : wr.rangeAt g (k * 66) (pcell (bl, s, xs)) := fun j v hv => by
            have := hrg j v hv
            exact cell_keep this rb
          have d0 : wr.cell? ⟨g, k * 66, none⟩ = some (.int .i64 bl) := by have := hrw 0 _ rfl; simpa using this
          obtain ⟨X, HX⟩ : ∃ X, Hid ((over (F i) ((L i).take k)).block b = X) := ⟨_, rfl⟩
          rw [HX.out] at r2 hput hbl
          clear hrg hget hnext
          by_cases hb : bl = b
          · rw [if_pos hb] at hput
            have HP : Hid _ := hput
            have hbq : (bl == b) = true := by simpa using hb
            have HBB : Hid _ := hb
            have hLS : LayS w w.heap.size g i k m cap X xs v0 v1 s wr := ⟨r0, r1, r2, ci, by have := hrw 1 _ rfl; simpa using this, fun j v hv => by
              have := hrw (j + 2) v (by simpa [pcell] using hv)
              rw [show k * 66 + 2 + j = k * 66 + (j + 2) by omega]; exact this, rb⟩
            have HXL : Hid _ := hbl
            have HSL : Hid (xs.length = 64) := hxs.1
            have hLL : (lay X s.toNat xs).length = 256 := lay_length _ _ _ hbl hxs.1 (by omega)
            have HLL : Hid _ := hLL
            have hlay := fun wz => rlay_in X xs hbl hxs.1 s.toNat (by omega) wz
            rw [show ((s.toNat : Nat) : Int) = s by omega] at hlay
            have HLY : Hid _ := hlay
            clear hput hb hrw hbl hxs hLL hlay r0 r1 r2
            go_upto_region 9 with fail
            refine wp_region_last (S := LayS w w.heap.size g i k m cap X xs v0 v1 s) 16 (by kernel_rfl) (show LayS w w.heap.size g i k m cap X xs v0 v1 s wr.drew from ⟨hLS.a, hLS.y, hLS.x, hLS.c0, hLS.s, hLS.r, hLS.b.drew⟩) fun hS => ?_
            refine wpAnyL_take (i := 0) (v := .agg (bs X)) rfl (by kernel_rfl) (by kernel_rfl) (by kernel_rfl) (by kernel_rfl) (fun _ _ _ h => h) (yields_row (by rfl) 34 (.tmp 5) rfl (w.heap.size + 2) rfl 34 (bs X) (fun w h => h.x) 256 5 Try.underlying34 size34 (by rw [bs_size, HXL.out])) hS ?_
            try simp only [Act.put, List.getElem_toArray, List.getElem_cons_zero, List.getElem_cons_succ, List.setIfInBounds_toArray, List.set_cons_zero, List.set_cons_succ]
            refine wpAnyL_take (i := 1) (v := .int .i64 (i : Nat)) rfl (by kernel_rfl) (by kernel_rfl) (by kernel_rfl) (by kernel_rfl) (fun _ _ _ h => h) (Or.inl ⟨by rfl, fun w _ => by rfl⟩) hS ?_
            try simp only [Act.put, List.getElem_toArray, List.getElem_cons_zero, List.getElem_cons_succ, List.setIfInBounds_toArray, List.set_cons_zero, List.set_cons_succ]
            refine wpAnyL_take (i := 2) (v := .pointer (some ⟨w.heap.size, i, none⟩)) rfl (by kernel_rfl) (by kernel_rfl) (by kernel_rfl) (by kernel_rfl) (fun _ _ _ h => h) (Or.inl ⟨by rfl, fun w _ => by go_simp⟩) hS ?_
            try simp only [Act.put, List.getElem_toArray, List.getElem_cons_zero, List.getElem_cons_succ, List.setIfInBounds_toArray, List.set_cons_zero, List.set_cons_succ]
            refine wpAnyL_take (i := 3) (v := .slice (some ⟨g, 0, none⟩) m cap) rfl (by kernel_rfl) (by kernel_rfl) (by kernel_rfl) (by kernel_rfl) (fun _ _ _ h => h) (Or.inl ⟨by rfl, fun w h => by have c := h.c0; go_simp⟩) hS ?_
            try simp only [Act.put, List.getElem_toArray, List.getElem_cons_zero, List.getElem_cons_succ, List.setIfInBounds_toArray, List.set_cons_zero, List.set_cons_succ]
            refine wpAnyL_take (i := 4) (v := .int .i64 (k : Nat)) rfl (by kernel_rfl) (by kernel_rfl) (by kernel_rfl) (by kernel_rfl) (fun _ _ _ h => h) (Or.inl ⟨by rfl, fun w _ => by rfl⟩) hS ?_
            try simp only [Act.put, List.getElem_toArray, List.getElem_cons_zero, List.getElem_cons_succ, List.setIfInBounds_toArray, List.set_cons_zero, List.set_cons_succ]
            refine wpAnyL_take (i := 5) (v := .pointer (some ⟨g, k * 66, none⟩)) rfl (by kernel_rfl) (by kernel_rfl) (by kernel_rfl) (by kernel_rfl) (fun _ _ _ h => h) (Or.inl ⟨by rfl, fun w _ => by go_simp⟩) hS ?_
            try simp only [Act.put, List.getElem_toArray, List.getElem_cons_zero, List.getElem_cons_succ, List.setIfInBounds_toArray, List.set_cons_zero, List.set_cons_succ]
            refine wpAnyL_take (i := 6) (v := .pointer (some ⟨g, k * 66 + 1, none⟩)) rfl (by kernel_rfl) (by kernel_rfl) (by kernel_rfl) (by kernel_rfl) (fun _ _ _ h => h) (Or.inl ⟨by rfl, fun w _ => by go_simp⟩) hS ?_
            try simp only [Act.put, List.getElem_toArray, List.getElem_cons_zero, List.getElem_cons_succ, List.setIfInBounds_toArray, List.set_cons_zero, List.set_cons_succ]
            refine wpAnyL_take (i := 7) (v := .int .i64 s) rfl (by kernel_rfl) (by kernel_rfl) (by kernel_rfl) (by kernel_rfl) (fun _ _ _ h => h) (Or.inl ⟨by rfl, fun w h => by have c := h.s; go_simp⟩) hS ?_
            try simp only [Act.put, List.getElem_toArray, List.getElem_cons_zero, List.getElem_cons_succ, List.setIfInBounds_toArray, List.set_cons_zero, List.set_cons_succ]
            refine wpAnyL_take (i := 8) (v := .int .i64 (i : Nat)) rfl (by kernel_rfl) (by kernel_rfl) (by kernel_rfl) (by kernel_rfl) (fun _ _ _ h => h) (Or.inl ⟨by rfl, fun w _ => by rfl⟩) hS ?_
            try simp only [Act.put, List.getElem_toArray, List.getElem_cons_zero, List.getElem_cons_succ, List.setIfInBounds_toArray, List.set_cons_zero, List.set_cons_succ]
            refine wpAnyL_take (i := 9) (v := .pointer (some ⟨w.heap.size, i, none⟩)) rfl (by kernel_rfl) (by kernel_rfl) (by kernel_rfl) (by kernel_rfl) (fun _ _ _ h => h) (Or.inl ⟨by rfl, fun w _ => by go_simp⟩) hS ?_
            try simp only [Act.put, List.getElem_toArray, List.getElem_cons_zero, List.getElem_cons_succ, List.setIfInBounds_toArray, List.set_cons_zero, List.set_cons_succ]
            refine wpAnyL_take (i := 10) (v := .slice (some ⟨g, 0, none⟩) m cap) rfl (by kernel_rfl) (by kernel_rfl) (by kernel_rfl) (by kernel_rfl) (fun _ _ _ h => h) (Or.inl ⟨by rfl, fun w h => by have c := h.c0; go_simp⟩) hS ?_
            try simp only [Act.put, List.getElem_toArray, List.getElem_cons_zero, List.getElem_cons_succ, List.setIfInBounds_toArray, List.set_cons_zero, List.set_cons_succ]
            refine wpAnyL_take (i := 11) (v := .int .i64 (k : Nat)) rfl (by kernel_rfl) (by kernel_rfl) (by kernel_rfl) (by kernel_rfl) (fun _ _ _ h => h) (Or.inl ⟨by rfl, fun w _ => by rfl⟩) hS ?_
            try simp only [Act.put, List.getElem_toArray, List.getElem_cons_zero, List.getElem_cons_succ, List.setIfInBounds_toArray, List.set_cons_zero, List.set_cons_succ]
            refine wpAnyL_take (i := 12) (v := .pointer (some ⟨g, k * 66, none⟩)) rfl (by kernel_rfl) (by kernel_rfl) (by kernel_rfl) (by kernel_rfl) (fun _ _ _ h => h) (Or.inl ⟨by rfl, fun w _ => by go_simp⟩) hS ?_
            try simp only [Act.put, List.getElem_toArray, List.getElem_cons_zero, List.getElem_cons_succ, List.setIfInBounds_toArray, List.set_cons_zero, List.set_cons_succ]
            refine wpAnyL_take (i := 13) (v := .pointer (some ⟨g, k * 66 + 2, none⟩)) rfl (by kernel_rfl) (by kernel_rfl) (by kernel_rfl) (by kernel_rfl) (fun _ _ _ h => h) (Or.inl ⟨by rfl, fun w _ => by go_simp⟩) hS ?_
            try simp only [Act.put, List.getElem_toArray, List.getElem_cons_zero, List.getElem_cons_succ, List.setIfInBounds_toArray, List.set_cons_zero, List.set_cons_succ]
            refine wpAnyL_take (i := 14) (v := .agg (bs xs)) rfl (by kernel_rfl) (by kernel_rfl) (by kernel_rfl) (by kernel_rfl) (fun _ _ _ h => h) (yields_bytes (by rfl) 66 (.tmp 42) rfl g (k * 66 + 2) rfl xs _ (fun w h => h.r) Try.underlying66 rfl (by rw [size66, HSL.out])) hS ?_
            try simp only [Act.put, List.getElem_toArray, List.getElem_cons_zero, List.getElem_cons_succ, List.setIfInBounds_toArray, List.set_cons_zero, List.set_cons_succ]
            refine wpAnyL_ready (rs := [15]) (by kernel_rfl) (by simp) ?_
            refine AllReadyL.cons rfl (fun K hK => ?_) AllReadyL.nil
            go_simp
            go_at_call 42
            refine (HLY.out _).mono ?_
            rintro e w5 ⟨he, b5⟩
            obtain rfl := he
            have hS5 : LayS w w.heap.size g i k m cap X xs v0 v1 s w5 := ⟨hS.a.below b5 hS.a.lt, hS.y.below b5 hS.y.lt, hS.x.below b5 hS.x.lt, cell_keep hS.c0 b5, cell_keep hS.s b5, fun j v hv => cell_keep (hS.r j v hv) b5, hS.b.trans (b5.mono hS.b.size)⟩
            refine hK.out _ _ (fun _ => hS5) ?_
            try simp only [Act.put, List.getElem_toArray, List.getElem_cons_zero, List.getElem_cons_succ, List.setIfInBounds_toArray, List.set_cons_zero, List.set_cons_succ]
            refine wpAnyL_ready (rs := [16]) (by kernel_rfl) (by simp) ?_
            refine AllReadyL.cons rfl (fun K hK => step_store rfl 34 (.tmp 5) (.tmp 44) rfl (w.heap.size + 2) (lay X s.toNat xs) rfl rfl 34 _ hS5.x 256 size34 (by rw [bs_size, HXL.out]) HLL.out (hK.out _ _ (fun q => absurd rfl q) ?_)) AllReadyL.nil
            try simp only [Act.put, List.getElem_toArray, List.getElem_cons_zero, List.getElem_cons_succ, List.setIfInBounds_toArray, List.set_cons_zero, List.set_cons_succ]
            refine wpAnyL_done (by kernel_rfl) ?_ _
            have z0 := hS5.a.other (show w.heap.size ≠ w.heap.size + 2 by omega) (bs (lay X s.toNat xs))
            have z1 := hS5.y.other (show w.heap.size + 1 ≠ w.heap.size + 2 by omega) (bs (lay X s.toNat xs))
            have z2 := hS5.x.set (bs (lay X s.toNat xs))
            have zb := below_setRow hS5.b (show w.heap.size ≤ w.heap.size + 2 by omega) (bs (lay X s.toNat xs))
            go_wp2_with fail
            go_roundw
            case rel => exact ⟨k + 1, by go_num, by omega, z0, z1, by rw [HP.out]; exact z2, zb⟩
            case measure => simp [intOf]; omega
          · rw [if_neg hb] at hput
            have HP : Hid _ := hput
            have hbq : (bl == b) = false := by simpa using hb
            clear hput hrw
            go_wp2_with fail
            go_roundw
            case rel => exact ⟨k + 1, by go_num, by omega, r0, r1, by rw [HP.out]; exact r2, rb⟩
            case measure => simp [intOf]; omega
        · have hkm' : ¬ (k : Int) < (m : Int) := by omega
          have hT : (L i).take k = L i := List.take_of_length_le (by rw [Hm.out]; omega)
          rw [hT, ← HFN.out] at r2
          clear hT
          go_wp2_with fail
          go_roundw
          case rel => exact ⟨i + 1, by go_num, by omega, r0, r1, r2, rb⟩
          case measure => simp [intOf]; omega
    · have hi2' : ¬ (i : Int) < 2 := by omega
      have e2 : i = 2 := by omega
      subst e2
      obtain ⟨X, HX⟩ : ∃ X, Hid ((F 2).block b = X) := ⟨_, rfl⟩
      have hXl : X.length = 256 := by
        rw [← HX.out, HF.out.2.2]
        exact (blk_getD _ (fun j _ => over_get _ (over_get _ none_get _ k0) _ k1 b j) 4 (by omega)).1
      rw [HX.out] at r2
      go_wp2_with (first
        | (refine load_row rfl 34 (.tmp 5) rfl (w.heap.size + 2) rfl 34 (bs X) r2 256 5 Try.underlying34 size34 (by rw [bs_size, hXl]) ?_)
        | (refine store_row rfl 34 (.tmp 4) (.tmp 45) rfl (w.heap.size + 1) X rfl rfl 34 _ r1 256 size34 (by rw [bs_size, zs_length]) hXl ?_))
      refine bodyPost_ret (v := .agg (bs X)) ?_ rfl ⟨by rw [HX.out], below_setRow rb (by omega) _⟩
      exact ret_row (fn := Try.f36) rfl _ _ (w.heap.size + 1) 34 (bs X) 256 5 rfl (r1.set _) Try.underlying34 size34 (by rw [bs_size, hXl])
end Go.Proofs.Ytkgmhliocfbdfaa
