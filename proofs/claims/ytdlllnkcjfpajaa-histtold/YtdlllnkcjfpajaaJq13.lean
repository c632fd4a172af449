/-
  Proved here: reach. Proved here: reach. Proved here: missed's closure; slices.IndexFunc, slices.ContainsFunc with it.
-/
import Derived.Test.YtdlllnkcjfpajaaJq12
import Derived.Test.YtdlllnkcjfpajaaJq07
namespace Go.Proofs.Ytdlllnkcjfpajaa
open Go.ChangeShapes Go.WideShapes Go.ChangeAt Go.RowKit
set_option linter.unusedVariables false
set_option linter.unusedSimpArgs false
set_option maxRecDepth 20000
theorem starts_iff : ∀ (hs : List Hm) (t : Int), (hs.Pairwise fun a b => a.p.st ≤ b.p.st) → ∀ j y, hs[j]? = some y → (starts hs t ≤ j ↔ t ≤ y.p.st)
  | [], t, _, j, y, h => by simp at h
  | a :: r, t, hp, j, y, h => by
    have hp2 := List.pairwise_cons.1 hp
    unfold starts
    by_cases ha : a.p.st < t
    · rw [List.countP_cons_of_pos (p := fun h : Hm => decide (h.p.st < t)) (decide_eq_true ha)]
      cases j with
      | zero => simp at h; subst h; omega
      | succ j =>
        have := starts_iff r t hp2.2 j y (by simpa using h)
        unfold starts at this
        omega
    · have h0 : ∀ x ∈ r, t ≤ x.p.st := fun x hx => by have := hp2.1 x hx; omega
      have hz : (a :: r).countP (fun h => decide (h.p.st < t)) = 0 := by
        rw [List.countP_eq_zero]
        intro x hx
        rcases List.mem_cons.1 hx with rfl | hx
        · simpa using ha
        · have := h0 x hx; simp; omega
      rw [hz]
      refine ⟨fun _ => ?_, fun _ => Nat.zero_le _⟩
      have hm := List.mem_of_getElem? h
      rcases List.mem_cons.1 hm with rfl | hm
      · omega
      · exact h0 y hm
inductive Come (R : Nat → Nat → Prop) (a : Nat) : Nat → Prop
  | here : Come R a a
  | step {b c : Nat} : Come R a b → R b c → Come R a c
def Edge (hs : List Hm) (i j : Nat) : Prop := DepI hs ((i : Int), (j : Int)) ∨ ∃ x y, hs[i]? = some x ∧ hs[j]? = some y ∧ x.p.en ≤ y.p.st
theorem Edge.lt {hs : List Hm} {i j : Nat} (h : Edge hs i j) : i < hs.length ∧ j < hs.length := by
  rcases h with h | ⟨x, y, hx, hy, _⟩
  · obtain ⟨i', j', e, hi, hj⟩ := h.nat
    have e1 := congrArg Prod.fst e
    have e2 := congrArg Prod.snd e
    simp at e1 e2
    omega
  · exact ⟨(List.getElem?_eq_some_iff.1 hx).1, (List.getElem?_eq_some_iff.1 hy).1⟩
structure Wk (R : Nat → Nat → Prop) (n a : Nat) (bs : List Bool) (W : List Int) : Prop where
  agree : ∀ j, j < n → (bs[j]? = some true ↔ (j : Int) ∈ W)
  come : ∀ x ∈ W, ∃ j : Nat, x = j ∧ j < n ∧ Come R a j
  nod : W.Nodup
  len : bs.length = n
  start : (a : Int) ∈ W
theorem Wk.few {R : Nat → Nat → Prop} {n a : Nat} {bs : List Bool} {W : List Int} (h : Wk R n a bs W) : W.length ≤ n := by
  have h2 : W.length ≤ ((List.range n).map fun (k : Nat) => (k : Int)).length := nodup_le h.nod (fun b hb => by
    obtain ⟨j, rfl, hj, _⟩ := h.come b hb
    exact List.mem_map.2 ⟨j, List.mem_range.2 hj, rfl⟩)
  simpa using h2
theorem Wk.visit {R : Nat → Nat → Prop} {n a : Nat} {bs : List Bool} {W : List Int} (h : Wk R n a bs W) {i : Nat} (hi : i < n) (hc : Come R a i) (hv : bs[i]? = some false) : Wk R n a (bs.set i true) (W ++ [(i : Int)]) where
  agree j hj := by
    by_cases e : i = j
    · subst e
      rw [List.getElem?_set_self (by rw [h.len]; exact hi)]
      simp
    · rw [List.getElem?_set_ne e, h.agree j hj]
      simp
      intro q; omega
  come x hx := by
    rcases List.mem_append.1 hx with hx | hx
    · exact h.come x hx
    · simp at hx; subst hx; exact ⟨i, rfl, hi, hc⟩
  nod := List.nodup_append.2 ⟨h.nod, by simp, fun x hx y hy => by
    simp at hy; subst hy
    intro e; subst e
    have := (h.agree i hi).2 hx
    rw [hv] at this; cases this⟩
  len := by rw [List.length_set]; exact h.len
  start := List.mem_append.2 (Or.inl h.start)
theorem Wk.first (R : Nat → Nat → Prop) (n a : Nat) (ha : a < n) : Wk R n a ((List.replicate n false).set a true) [(a : Int)] where
  agree j hj := by
    by_cases e : a = j
    · subst e
      rw [List.getElem?_set_self (by simpa using ha)]
      simp
    · rw [List.getElem?_set_ne e]
      have : (List.replicate n false)[j]? = some false := by simp [hj]
      rw [this]
      simp
      omega
  come x hx := by simp at hx; subst hx; exact ⟨a, rfl, ha, .here⟩
  nod := by simp
  len := by simp
  start := by simp
theorem Wk.all {R : Nat → Nat → Prop} {n a : Nat} {bs : List Bool} {W : List Int} (h : Wk R n a bs W) (hR : ∀ i j, R i j → j < n) (hd : ∀ q i : Nat, q < W.length → W[q]? = some (i : Int) → ∀ j, R i j → (j : Int) ∈ W) : ∀ j, j < n → (bs[j]? = some true ↔ Come R a j) := by
  have hc : ∀ j, Come R a j → (j : Int) ∈ W := fun j q => by
    induction q with
    | here => exact h.start
    | step _ r ih =>
      obtain ⟨q, hq⟩ := List.getElem?_of_mem ih
      exact hd q _ (List.getElem?_eq_some_iff.1 hq).1 hq _ r
  intro j hj
  rw [h.agree j hj]
  refine ⟨fun q => ?_, hc j⟩
  obtain ⟨j', e, _, q2⟩ := h.come _ q
  have : j = j' := by omega
  rw [this]; exact q2
def Wvis (w : World) (cb T7 T8 n : Nat) (R : Nat → Nat → Prop) (a : Nat) (W : List Int) (i : Nat) (e : Ending) (w' : World) : Prop :=
  e = .returned (.tuple #[]) ∧ ∃ bs' W', RSt w' cb T7 T8 n bs' W' ∧ Wk R n a bs' W' ∧ (i : Int) ∈ W' ∧ (∃ r, W' = W ++ r) ∧ Below cb w w'
theorem visit_wk {w : World} {cb T7 T8 n : Nat} {bs : List Bool} {W : List Int} (h : RSt w cb T7 T8 n bs W) {R : Nat → Nat → Prop} {a : Nat} (hw : Wk R n a bs W) (i : Nat) (hi : i < n) (hn : n ≤ 12) (hc : Come R a i) :
    Calls Try.prog 63 #[.int .i64 (i : Int), .pointer (some ⟨T7, 0, none⟩), .pointer (some ⟨T8, 0, none⟩)] w fun e w' => Wvis w cb T7 T8 n R a W i e w' :=
  (visit_any h i hi hn (by have := hw.few; omega)).mono fun e w' ⟨he, hb, hr⟩ => ⟨he, by
    rcases hr with ⟨h1, h2⟩ | ⟨h1, h2⟩
    · exact ⟨_, _, h2, hw, (hw.agree i hi).1 h1, ⟨[], by simp⟩, hb⟩
    · exact ⟨_, _, h2, hw.visit hi hc h1, by simp, ⟨_, rfl⟩, hb⟩⟩
theorem GI.Nums.hold {w : World} {base : Nat} {v : Value} {xs : List Int} (h : GI.Nums w base v xs) : ∃ oa cap, v = .slice oa xs.length cap ∧ ∀ i, i < xs.length → ∃ (a : Addr) (x : Int), oa = some a ∧ xs[i]? = some x ∧ w.cell? (a.add i) = some (.int .i64 x) := by
  obtain ⟨oa, cap, hv, hc⟩ := Ii.Olds.hold (Ii.Own.olds h)
  rw [List.length_map] at hv hc
  refine ⟨oa, cap, hv, fun i hi => ?_⟩
  obtain ⟨a, x, ha, hx, hcell⟩ := hc i hi
  rw [List.getElem?_map] at hx
  obtain ⟨y, hy, e⟩ := Option.map_eq_some_iff.1 hx
  have e2 : y = x := by have := congrArg Ii.O.x e; exact this
  subst e2
  have := hcell 0 (.int .i64 y) rfl
  rw [addr_zero, Nat.mul_one] at this
  exact ⟨a, y, ha, hy, this⟩
theorem info4 : (Try.prog.info? 4).map (fun i => (i.zero, i.size, i.bytes)) = some (some (.bool false), 1, 1) := by kernel_rfl
theorem fresh_reach (w : World) (n a : Nat) (ha : a < n) : ∃ cb T7 wb T8 w1 w2 w3 w4 w5, cb = w.heap.size ∧ T7 = cb + 1 ∧ wb = T7 + 1 ∧ T8 = wb + 1 ∧
    w1 = w.alloc (.cells (List.replicate n (Value.bool false)).toArray 4) ∧ w1.heap.size = T7 ∧ w2 = w1.alloc (.cells #[.slice (some ⟨cb, 0, none⟩) n n] 66) ∧
    w3 = w2.setCell ⟨cb, a, none⟩ (.bool true) ∧ w3.heap.size = wb ∧ w4 = w3.alloc (.cells #[.int .i64 (a : Int)] 3) ∧ w4.heap.size = T8 ∧
    w5 = w4.alloc (.cells #[.slice (some ⟨wb, 0, none⟩) 1 1] 103) ∧
    Below w.heap.size w w1 ∧ Below w.heap.size w w2 ∧ Below w.heap.size w w5 ∧ Row w2 cb (List.replicate n (Value.bool false)).toArray 4 ∧ Row w2 T7 #[.slice (some ⟨cb, 0, none⟩) n n] 66 ∧ RSt w5 cb T7 T8 n ((List.replicate n false).set a true) [(a : Int)] := by
  obtain ⟨cb, hcb⟩ : ∃ cb, cb = w.heap.size := ⟨_, rfl⟩
  have R1 : Row (w.alloc (.cells (List.replicate n (Value.bool false)).toArray 4)) cb (List.replicate n (Value.bool false)).toArray 4 := by rw [hcb]; exact Row.new _ _ _
  have S1 : (w.alloc (.cells (List.replicate n (Value.bool false)).toArray 4)).heap.size = cb + 1 := by rw [hcb]; simp
  have B1 : Below cb w (w.alloc (.cells (List.replicate n (Value.bool false)).toArray 4)) := (Below.refl _ _).alloc (by omega) _
  obtain ⟨w1, hw1⟩ : ∃ w1, w1 = w.alloc (.cells (List.replicate n (Value.bool false)).toArray 4) := ⟨_, rfl⟩
  rw [← hw1] at R1 S1 B1
  have b2 : Below w1.heap.size w1 (w1.alloc (.cells #[.slice (some ⟨cb, 0, none⟩) n n] 66)) := (Below.refl _ _).alloc (Nat.le_refl _) _
  have R2 := R1.below b2 R1.lt
  have T2 : Row (w1.alloc (.cells #[.slice (some ⟨cb, 0, none⟩) n n] 66)) (cb + 1) #[.slice (some ⟨cb, 0, none⟩) n n] 66 := by rw [← S1]; exact Row.new _ _ _
  have B2 : Below cb w (w1.alloc (.cells #[.slice (some ⟨cb, 0, none⟩) n n] 66)) := B1.alloc (by omega) _
  have S2 : (w1.alloc (.cells #[.slice (some ⟨cb, 0, none⟩) n n] 66)).heap.size = cb + 2 := by simp; omega
  obtain ⟨w2, hw2⟩ : ∃ w2, w2 = w1.alloc (.cells #[.slice (some ⟨cb, 0, none⟩) n n] 66) := ⟨_, rfl⟩
  rw [← hw2] at R2 T2 S2 B2
  have o3 : Off (· = cb) w2 (w2.setCell ⟨cb, a, none⟩ (.bool true)) := Off.of_setCell _ _ _ rfl
  have R3 := row_set R2 a (.bool true)
  have T3 := T2.off o3 (by omega)
  have B3 : Below cb w (w2.setCell ⟨cb, a, none⟩ (.bool true)) := B2.setCell (p := ⟨cb, a, none⟩) (Nat.le_refl cb) _
  have S3 : (w2.setCell ⟨cb, a, none⟩ (.bool true)).heap.size = cb + 2 := by simp; exact S2
  obtain ⟨w3, hw3⟩ : ∃ w3, w3 = w2.setCell ⟨cb, a, none⟩ (.bool true) := ⟨_, rfl⟩
  rw [← hw3] at R3 T3 S3 B3
  have b4 : Below w3.heap.size w3 (w3.alloc (.cells #[.int .i64 (a : Int)] 3)) := (Below.refl _ _).alloc (Nat.le_refl _) _
  have R4 := R3.below b4 R3.lt
  have T4 := T3.below b4 T3.lt
  have Z4 : Row (w3.alloc (.cells #[.int .i64 (a : Int)] 3)) (cb + 2) #[.int .i64 (a : Int)] 3 := by rw [← S3]; exact Row.new _ _ _
  have B4 : Below cb w (w3.alloc (.cells #[.int .i64 (a : Int)] 3)) := B3.alloc (by omega) _
  have S4 : (w3.alloc (.cells #[.int .i64 (a : Int)] 3)).heap.size = cb + 3 := by simp; omega
  obtain ⟨w4, hw4⟩ : ∃ w4, w4 = w3.alloc (.cells #[.int .i64 (a : Int)] 3) := ⟨_, rfl⟩
  rw [← hw4] at R4 T4 Z4 S4 B4
  have b5 : Below w4.heap.size w4 (w4.alloc (.cells #[.slice (some ⟨cb + 2, 0, none⟩) 1 1] 103)) := (Below.refl _ _).alloc (Nat.le_refl _) _
  have R5 := R4.below b5 R4.lt
  have T5 := T4.below b5 T4.lt
  have Z5 := Z4.below b5 Z4.lt
  have U5 : Row (w4.alloc (.cells #[.slice (some ⟨cb + 2, 0, none⟩) 1 1] 103)) (cb + 3) #[.slice (some ⟨cb + 2, 0, none⟩) 1 1] 103 := by rw [← S4]; exact Row.new _ _ _
  have B5 : Below cb w (w4.alloc (.cells #[.slice (some ⟨cb + 2, 0, none⟩) 1 1] 103)) := B4.alloc (by omega) _
  rw [← hcb]
  refine ⟨cb, cb + 1, cb + 2, cb + 3, w1, w2, w3, w4, _, rfl, rfl, rfl, rfl, hw1, S1, hw2, hw3, S3, hw4, S4, rfl, B1, B2, B5, R2, T2, ?_, by simp, T5, ⟨_, U5, ?_⟩, by omega, by omega⟩
  · have e : ((List.replicate n (Value.bool false)).toArray.setIfInBounds a (.bool true)) = (((List.replicate n false).set a true).map Value.bool).toArray := by
      rw [List.setIfInBounds_toArray, List.map_set, List.map_replicate]
    rw [← e]; exact R5
  · refine ⟨rfl, Or.inr ⟨cb + 2, 1, #[.int .i64 (a : Int)], rfl, by omega, Z5, by simp, by unfold maxLen; omega, rfl, rfl⟩⟩
theorem RSt.keep {w w' : World} {cb T7 T8 n : Nat} {bs : List Bool} {W : List Int} (h : RSt w cb T7 T8 n bs W) (hb : Below w.heap.size w w') : RSt w' cb T7 T8 n bs W := by
  obtain ⟨u, r, hu⟩ := h.way
  exact ⟨h.come.below hb h.come.lt, h.len, h.c7.below hb h.c7.lt, ⟨u, r.below hb r.lt, hu.off (Off.of_below (F := fun _ => False) hb) (fun _ _ q => q)⟩, h.lo⟩
def Reached (w : World) (hs : List Hm) (a : Nat) (e : Ending) (w' : World) : Prop :=
  ∃ (cb : Nat) (bs : List Bool), e = .returned (.slice (some ⟨cb, 0, none⟩) hs.length hs.length) ∧ Row w' cb (bs.map Value.bool).toArray 4 ∧ bs.length = hs.length ∧ (∀ j, j < hs.length → (bs[j]? = some true ↔ Come (Edge hs) a j)) ∧ Below w.heap.size w w' ∧ w.heap.size ≤ cb
set_option maxHeartbeats 4000000 in
theorem reach_any {w : World} {g mw mc md mp : Nat} {lv : Value} {hs : List Hm} {f : Int × Int → Option Value} {nw nc : Nat} {F : Int → Option Value} {G : Int → List Int} (h : HAt w g mw mc md mp lv hs f nw nc F G) {fb : Nat} {us : List Value} {X : Nat → List Int} (hus : us.length = hs.length) (hF : FAt w (fb + 1) fb us X) (hX : FolX hs.length (DepI hs) X) (a0 : Nat) (ha0 : a0 < hs.length) :
    Calls Try.prog 49 #[.pointer (some ⟨g, 0, none⟩), .slice (some ⟨fb, 0, none⟩) hs.length hs.length, .int .i64 (a0 : Int)] w fun e w' => Reached w hs a0 e w' := by
  obtain ⟨oa2, cap2, hlv, hcs2⟩ := h.list.hold
  subst hlv
  obtain ⟨a, _, ha, _⟩ := hcs2 a0 ha0
  subst ha
  clear hcs2
  have HFO : Hid (∀ (cb : Nat) (bs : List Bool) w', Row w' cb (bs.map Value.bool).toArray 4 → bs.length = hs.length → (∀ j, j < hs.length → (bs[j]? = some true ↔ Come (Edge hs) a0 j)) → Below w.heap.size w w' → w.heap.size ≤ cb → Reached w hs a0 (.returned (.slice (some ⟨cb, 0, none⟩) hs.length hs.length)) w') := fun cb bs w' q1 q2 q3 q4 q5 => ⟨cb, bs, rfl, q1, q2, q3, q4, q5⟩
  generalize Reached w hs a0 = PP at HFO ⊢
  have HEL : Hid (∀ i j, Edge hs i j → i < hs.length ∧ j < hs.length) := fun i j q => q.lt
  obtain ⟨n2, HN2⟩ : ∃ n2, Hid (hs.length = n2) := ⟨_, rfl⟩
  have H122 : n2 ≤ 12 := by rw [← HN2.out]; exact h.few
  rw [HN2.out] at h HFO hus hX ha0 HEL ⊢
  have HA0 : Hid (HAt w g mw mc md mp (.slice (some a) n2 cap2) hs f nw nc F G) := h
  have HF0 : Hid (FAt w (fb + 1) fb us X) := hF
  have HX : Hid (FolX n2 (DepI hs) X) := hX
  have c0 : w.cell? ⟨g, 0, none⟩ = some (.slice (some a) n2 cap2) := row_at h.row 0 _ rfl
  have HRG : Hid (Row w g _ 96) := h.row
  obtain ⟨inf, hi1, hi2, hi3, hi4⟩ := Ii.info_parts info4
  obtain ⟨C0, HC0⟩ : ∃ C0, Hid ((List.replicate n2 (Value.bool false)).toArray = C0) := ⟨_, rfl⟩
  have hmk : (Instr.makeSlice 66 (.int .i64 (n2 : Int)) (.int .i64 (n2 : Int))).run Try.prog w = .ok (.slice (some ⟨w.heap.size, 0, none⟩) n2 n2) (w.alloc (.cells C0 4)) := by
    have := run_makeSlice (P := Try.prog) (w := w) 66 4 inf (.bool false) Try.underlying66 hi1 hi2 .i64 .i64 (n2 : Int) (n2 : Int) (by omega) (Int.le_refl _) (by rw [hi3]; simp; omega) (by rw [hi4]; omega) (by omega)
    rw [hi3] at this
    simp only [Int.toNat_natCast] at this
    rw [made_one _ rfl, HC0.out] at this
    exact this
  obtain ⟨cb, T7, wb, T8, w1, w2, w3, w4, w5, e1, e2, e3, e4, f1, s1, f2, f3, s3, f4, s4, f5, B1, B2, B5, q1, q2, RS⟩ := fresh_reach w n2 a0 ha0
  rw [HC0.out] at f1
  have HE1 : Hid (cb = w.heap.size) := e1
  have HE2 : Hid (T7 = cb + 1) := e2
  have HE4 : Hid (wb = T7 + 1 ∧ T8 = wb + 1) := ⟨e3, e4⟩
  have HF1 : Hid (w1 = w.alloc (.cells C0 4)) := f1
  have HS1 : Hid (w1.heap.size = T7) := s1
  have HF2 : Hid (w2 = w1.alloc (.cells #[.slice (some ⟨cb, 0, none⟩) n2 n2] 66)) := f2
  have HF3 : Hid (w3 = w2.setCell ⟨cb, a0, none⟩ (.bool true)) := f3
  have HS3 : Hid (w3.heap.size = wb) := s3
  have HF4 : Hid (w4 = w3.alloc (.cells #[.int .i64 (a0 : Int)] 3)) := f4
  have HS4 : Hid (w4.heap.size = T8) := s4
  have HF5 : Hid (w5 = w4.alloc (.cells #[.slice (some ⟨wb, 0, none⟩) 1 1] 103)) := f5
  clear h hF hX hi1 hi2 hi3 hi4 e1 e2 e3 e4 f1 s1 f2 f3 s3 f4 s4 f5
  have HB1 : Hid (Below w.heap.size w w1) := B1
  have HB2 : Hid (Below w.heap.size w w2) := B2
  have HB5 : Hid (Below w.heap.size w w5) := B5
  have HRS : Hid (RSt w5 cb T7 T8 n2 ((List.replicate n2 false).set a0 true) [(a0 : Int)]) := RS
  clear B1 B2 B5 RS
  go_enter Try.func49, Try.ntmps49
  go_upto_region 2 with fail
  clear hmk c0
  have c27 : w2.cell? ⟨T7, 0, none⟩ = some (.slice (some ⟨cb, 0, none⟩) n2 n2) := row_at q2 0 _ rfl
  have c2c : w2.cell? ⟨cb, a0, none⟩ = some (.bool false) := by
    rw [cell_of_row _ _ _ _ _ _ q1, List.getElem?_toArray]; simp [ha0]
  have fz2 : w2.frozen? ⟨cb, a0, none⟩ = false := row_frozen q1 a0
  have j1 : (a0 : Int) < (n2 : Int) := by omega
  have j3 : (0 : Int) ≤ (a0 : Int) := by omega
  have e10 : w.heap.size + 1 = T7 := by rw [HE2.out, HE1.out]
  rw [e10, ← HF1.out, ← HE1.out, ← HF2.out]
  clear q1 q2 e10
  go_upto_region 3 with fail
  rw [← HF3.out]
  clear c27 c2c fz2 j1 j3
  go_upto_region 4 with fail
  rw [HS3.out, ← HE4.out.2, ← HF4.out, ← HF5.out]
  have c50 : w5.cell? ⟨g, 0, none⟩ = some (.slice (some a) n2 cap2) := row_at (HRG.out.below HB5.out HRG.out.lt) 0 _ rfl
  go_upto_region 7 with fail
  clear c50
  have HLO : Hid (w.heap.size ≤ cb) := Nat.le_of_eq HE1.out.symm
  have A5 := HA0.out.below HB5.out
  have k1 : Wk (Edge hs) n2 a0 ((List.replicate n2 false).set a0 true) [(a0 : Int)] := Wk.first _ _ _ ha0
  have D0 : ∀ q i : Nat, q < 0 → [(a0 : Int)][q]? = some (i : Int) → ∀ j, Edge hs i j → (j : Int) ∈ [(a0 : Int)] := fun q i hq => by omega
  have L0 : ∀ j, n2 ≤ j → j < n2 → (j : Int) ∈ [(a0 : Int)] := fun j h1 h2 => by omega
  have RS5 := HRS.out
  have B5 := HB5.out
  clear HF1 HS1 HF2 HF3 HS3 HF4 HS4 HF5 HB1 HB2 HB5 HRS HE4 HE2 HC0 A5 HE1
  go_loopw [10, 11] (fun p q wr => ∃ (B k : Nat) (bs : List Bool) (W : List Int), p = .int .i64 (B : Int) ∧ q = .int .i64 (k : Int) ∧ RSt wr cb T7 T8 n2 bs W ∧ Wk (Edge hs) n2 a0 bs W ∧ (∀ q i : Nat, q < k → W[q]? = some (i : Int) → ∀ j, Edge hs i j → (j : Int) ∈ W) ∧ B ≤ n2 ∧ (∀ j, B ≤ j → j < n2 → (j : Int) ∈ W) ∧ Below w.heap.size w wr) (fun p q _ => 13 - (intOf q).toNat)
  case atStart => exact ⟨n2, 0, _, _, rfl, rfl, RS5, k1, D0, Nat.le_refl _, L0, B5⟩
  case round =>
    clear RS5 k1 D0 L0 B5
    rename World => wo
    obtain ⟨B, k, bs, W, rfl, rfl, rs, hk, hD, hB, hL, Bw⟩ := hrel
    obtain ⟨u, rT, hu⟩ := rs.way
    obtain ⟨oaw, capw, hv, hcw⟩ := hu.hold
    obtain ⟨lw, HLW⟩ : ∃ lw, Hid (W.length = lw) := ⟨_, rfl⟩
    have hfew := hk.few
    rw [HLW.out] at hv hfew hcw
    subst hv
    have c8 : wo.cell? ⟨T8, 0, none⟩ = some (.slice oaw lw capw) := row_at rT 0 _ rfl
    by_cases hlt : k < lw
    · have hlt' : (k : Int) < (lw : Int) := by omega
      obtain ⟨aw, x0, rfl, hWk, hcwk⟩ := hcw k hlt
      obtain ⟨i, rfl, hi, hci⟩ := hk.come x0 (List.mem_of_getElem? hWk)
      clear hcw
      have hA := HA0.out.below Bw
      have hF := HF0.out.below Bw
      obtain ⟨ui, hui⟩ : ∃ ui, us[i]? = some ui := ⟨_, List.getElem?_eq_getElem (by rw [hus]; exact hi)⟩
      have hcu : wo.cell? ⟨fb, i, none⟩ = some ui := by
        rw [cell_of_row _ _ _ _ _ _ hF.row, List.getElem?_toArray]; exact hui
      have hnu := HF0.out.nums i ui hui
      obtain ⟨obi, capi, hvi, hcx⟩ := hnu.hold
      obtain ⟨ln, HLN⟩ : ∃ ln, Hid ((X i).length = ln) := ⟨_, rfl⟩
      have hnl : ln ≤ n2 := by
        rw [← HLN.out]
        have h2 : (X i).length ≤ ((List.range n2).map fun (k : Nat) => (k : Int)).length := nodup_le (HX.out i hi).1 (fun b hb => by
          obtain ⟨i', j', e, _, hj'⟩ := (((HX.out i hi).2 b).1 hb).nat
          have e2 : b = (j' : Int) := by have := congrArg Prod.snd e; exact this
          rw [e2]
          exact List.mem_map.2 ⟨j', List.mem_range.2 (by rw [← HN2.out]; exact hj'), rfl⟩)
        simpa using h2
      rw [HLN.out] at hvi hcx
      subst hvi
      have i1 : (i : Int) < (n2 : Int) := by omega
      have i3 : (0 : Int) ≤ (i : Int) := by omega
      have k3 : (0 : Int) ≤ (k : Int) := by omega
      have HCX : Hid (∀ j, j < ln → ∃ (a : Addr) (x : Int), obi = some a ∧ (X i)[j]? = some x ∧ w.cell? (a.add j) = some (.int .i64 x)) := hcx
      have HWK : Hid (W[k]? = some (i : Int)) := hWk
      have HBW : Hid (Below w.heap.size w wo) := Bw
      have HRS : Hid (RSt wo cb T7 T8 n2 bs W) := rs
      have HHK : Hid (Wk (Edge hs) n2 a0 bs W) := hk
      have HHD : Hid (∀ q i : Nat, q < k → W[q]? = some (i : Int) → ∀ j, Edge hs i j → (j : Int) ∈ W) := hD
      have HHL : Hid (∀ j, B ≤ j → j < n2 → (j : Int) ∈ W) := hL
      have HCI : Hid (Come (Edge hs) a0 i) := hci
      clear hcx hWk Bw rs hk hD hL hci hA hF hui hnu rT hu
      go_upto_region 10 with fail
      clear c8 hcu hcwk
      have B0 : Below cb wo wo := Below.refl _ _
      have P0 : ∃ r, W = W ++ r := ⟨[], by simp⟩
      have V0 : ∀ q (j : Nat), q < 0 → (X i)[q]? = some (j : Int) → (j : Int) ∈ W := fun q j hq => by omega
      have rs0 := HRS.out
      have hk0 := HHK.out
      go_loopw [46] (fun p wl => ∃ (m : Nat) (bs2 : List Bool) (W2 : List Int), p = .int .i64 (m : Int) ∧ m ≤ ln ∧ RSt wl cb T7 T8 n2 bs2 W2 ∧ Wk (Edge hs) n2 a0 bs2 W2 ∧ (∃ r, W2 = W ++ r) ∧ (∀ q (j : Nat), q < m → (X i)[q]? = some (j : Int) → (j : Int) ∈ W2) ∧ Below cb wo wl) (fun p _ => ln - (intOf p).toNat)
      case atStart => exact ⟨0, _, _, rfl, Nat.zero_le _, rs0, hk0, P0, V0, B0⟩
      case round =>
        clear rs0 hk0 P0 V0 B0
        rename World => wl
        obtain ⟨m, bs2, W2, rfl, hm, rs2, hk2, ⟨r2, hr2⟩, hV2, hB2⟩ := hrel
        by_cases hml : m < ln
        · have hml' : (m : Int) < (ln : Int) := by omega
          obtain ⟨ai, x1, rfl, hxm, hcm0⟩ := HCX.out m hml
          obtain ⟨j, rfl, hj⟩ : ∃ j : Nat, x1 = (j : Int) ∧ j < n2 := by
            obtain ⟨i', j', e, _, hj'⟩ := (((HX.out i hi).2 x1).1 (List.mem_of_getElem? hxm)).nat
            exact ⟨j', by have := congrArg Prod.snd e; exact this, by rw [← HN2.out]; exact hj'⟩
          have hcm : wl.cell? (ai.add m) = some (.int .i64 (j : Int)) := cell_keep hcm0 (HBW.out.trans (hB2.mono HLO.out))
          have hvis := visit_wk rs2 hk2 j hj H122 (.step HCI.out (Or.inl (((HX.out i hi).2 (j : Int)).1 (List.mem_of_getElem? hxm))))
          have HXM : Hid ((X i)[m]? = some (j : Int)) := hxm
          have HV2 : Hid (∀ q (j : Nat), q < m → (X i)[q]? = some (j : Int) → (j : Int) ∈ W2) := hV2
          have HBL : Hid (Below cb wo wl) := hB2
          clear rs2 hk2 hV2 hB2 hxm hcm0
          go_wp2_with (go_at_call 63; refine hvis.mono ?_; clear hvis hcm; rintro e wv ⟨he, bs3, W3, rs3, hk3, hj3, ⟨r3, hr3⟩, hb3⟩; obtain rfl := he)
          have hb4 : Below cb wo wv := HBL.out.trans hb3
          go_roundw
          case rel => exact ⟨m + 1, bs3, W3, by go_num, by omega, rs3, hk3, ⟨r2 ++ r3, by rw [hr3, hr2, List.append_assoc]⟩, fun q j' hq hj' => by
            by_cases e : q = m
            · subst e; have := HXM.out; rw [hj'] at this; have := Option.some.inj this; rw [this]; exact hj3
            · rw [hr3]; exact List.mem_append.2 (Or.inl (HV2.out q j' (by omega) hj')), hb4⟩
          case measure => simp [intOf]; omega
        · have hml' : ¬ (m : Int) < (ln : Int) := by omega
          go_upto_region 14 with fail
          obtain ⟨u2, rT, hu2⟩ := rs2.way
          obtain ⟨oaw2, capw2, hv2, hcw2⟩ := hu2.hold
          have HK2 : Hid (W2[k]? = some (i : Int)) := by
            show W2[k]? = some (i : Int)
            rw [hr2, List.getElem?_append_left (List.getElem?_eq_some_iff.1 HWK.out).1]
            exact HWK.out
          have hk2l : k < W2.length := (List.getElem?_eq_some_iff.1 HK2.out).1
          obtain ⟨aw2, x2, rfl, hx2, cwk⟩ := hcw2 k hk2l
          obtain rfl : (i : Int) = x2 := by
            have := HK2.out; rw [hx2] at this; exact (Option.some.inj this).symm
          obtain ⟨lw2, HLW2⟩ : ∃ lw2, Hid (W2.length = lw2) := ⟨_, rfl⟩
          rw [HLW2.out] at hv2 hk2l
          subst hv2
          have hf2 := hk2.few
          rw [HLW2.out] at hf2
          have k4 : (k : Int) < (lw2 : Int) := by omega
          have Bw2 : Below w.heap.size w wl := HBW.out.trans (hB2.mono HLO.out)
          have hA := HA0.out.below Bw2
          obtain ⟨oa3, cap3, hlv, hcs3⟩ := hA.list.hold
          injection hlv with e1 e2 e3
          subst e1
          obtain ⟨a', x, ha', hx, hcx⟩ := hcs3 i (by rw [HN2.out]; exact hi)
          obtain rfl : a = a' := Option.some.inj ha'
          have hen := (hA.list.each x (List.mem_of_getElem? hx)).en
          have HX2 : Hid (hs[i]? = some x) := hx
          have HRS2 : Hid (RSt wl cb T7 T8 n2 bs2 W2) := rs2
          have HKK2 : Hid (Wk (Edge hs) n2 a0 bs2 W2) := hk2
          have HV2 : Hid (∀ (j : Nat), Edge hs i j → (DepI hs ((i : Int), (j : Int))) → (j : Int) ∈ W2) := fun j _ hd => by
            have := ((HX.out i hi).2 (j : Int)).2 hd
            obtain ⟨q, hq⟩ := List.getElem?_of_mem this
            exact hV2 q j (by have := (List.getElem?_eq_some_iff.1 hq).1; have := HLN.out; omega) hq
          have HAD : Hid (HAt wl g mw mc md mp (.slice (some a) n2 cap2) hs f nw nc F G) := hA
          have HBL : Hid (Below cb wo wl) := hB2
          have HS0 : Hid (Row wl g #[.slice (some a) n2 cap2, .map (some mw), .map (some mc), .map (some md), .map (some mp)] 96 ∧ Row wl T8 #[.slice (some aw2) lw2 capw2] 103 ∧ wl.cell? (aw2.add k) = some (.int .i64 (i : Int)) ∧ (∀ q u, x.o.cells[q]? = some u → wl.cell? ((a.add (i * 5)).add q) = some u)) := ⟨hA.row, rT, cwk, hcx⟩
          clear hcs3 e2 e3 ha' hx hu2 hcw2 hx2 hk2 hV2 hB2 rs2 Bw2
          refine wp_region_last (S := fun w' => Row w' g #[.slice (some a) n2 cap2, .map (some mw), .map (some mc), .map (some md), .map (some mp)] 96 ∧ Row w' T8 #[.slice (some aw2) lw2 capw2] 103 ∧ w'.cell? (aw2.add k) = some (.int .i64 (i : Int)) ∧ (∀ q u, x.o.cells[q]? = some u → w'.cell? ((a.add (i * 5)).add q) = some u)) 13 (by kernel_rfl) ⟨hA.row, rT, cwk, hcx⟩ fun hS => ?_
          refine wpAnyL_take (i := 0) (v := .pointer (some ⟨g, 0, none⟩)) rfl (by kernel_rfl) (by kernel_rfl) (by kernel_rfl) (by kernel_rfl) (fun _ _ _ h => h) (Or.inl ⟨by rfl, fun w _ => by go_simp⟩) hS ?_
          try simp only [Act.put, nz0, nz1, nz2, nz3, nz4, nz5]
          refine wpAnyL_take (i := 1) (v := .pointer (some ⟨g, 0, none⟩)) rfl (by kernel_rfl) (by kernel_rfl) (by kernel_rfl) (by kernel_rfl) (fun _ _ _ h => h) (Or.inl ⟨by rfl, fun w _ => by go_simp⟩) hS ?_
          try simp only [Act.put, nz0, nz1, nz2, nz3, nz4, nz5]
          refine wpAnyL_take (i := 2) (v := .pointer (some ⟨g, 0, none⟩)) rfl (by kernel_rfl) (by kernel_rfl) (by kernel_rfl) (by kernel_rfl) (fun _ _ _ h => h) (Or.inl ⟨by rfl, fun w _ => by go_simp⟩) hS ?_
          try simp only [Act.put, nz0, nz1, nz2, nz3, nz4, nz5]
          refine wpAnyL_take (i := 3) (v := .pointer (some ⟨g, 0, none⟩)) rfl (by kernel_rfl) (by kernel_rfl) (by kernel_rfl) (by kernel_rfl) (fun _ _ _ h => h) (Or.inl ⟨by rfl, fun w _ => by go_simp⟩) hS ?_
          try simp only [Act.put, nz0, nz1, nz2, nz3, nz4, nz5]
          refine wpAnyL_take (i := 4) (v := .slice (some a) n2 cap2) rfl (by kernel_rfl) (by kernel_rfl) (by kernel_rfl) (by kernel_rfl) (fun _ _ _ h => h) (Or.inl ⟨by rfl, fun w h => by have c := row_at h.1 0 _ rfl; go_simp⟩) hS ?_
          try simp only [Act.put, nz0, nz1, nz2, nz3, nz4, nz5]
          refine wpAnyL_take (i := 5) (v := .slice (some aw2) lw2 capw2) rfl (by kernel_rfl) (by kernel_rfl) (by kernel_rfl) (by kernel_rfl) (fun _ _ _ h => h) (Or.inl ⟨by rfl, fun w h => by have c := row_at h.2.1 0 _ rfl; go_simp⟩) hS ?_
          try simp only [Act.put, nz0, nz1, nz2, nz3, nz4, nz5]
          refine wpAnyL_take (i := 6) (v := .int .i64 (k : Int)) rfl (by kernel_rfl) (by kernel_rfl) (by kernel_rfl) (by kernel_rfl) (fun _ _ _ h => h) (Or.inl ⟨by rfl, fun w _ => by go_simp⟩) hS ?_
          try simp only [Act.put, nz0, nz1, nz2, nz3, nz4, nz5]
          refine wpAnyL_take (i := 7) (v := .pointer (some (aw2.add k))) rfl (by kernel_rfl) (by kernel_rfl) (by kernel_rfl) (by kernel_rfl) (fun _ _ _ h => h) (Or.inl ⟨by rfl, fun w _ => by go_simp⟩) hS ?_
          try simp only [Act.put, nz0, nz1, nz2, nz3, nz4, nz5]
          refine wpAnyL_take (i := 8) (v := .int .i64 (i : Int)) rfl (by kernel_rfl) (by kernel_rfl) (by kernel_rfl) (by kernel_rfl) (fun _ _ _ h => h) (Or.inl ⟨by rfl, fun w h => by have c := h.2.2.1; go_simp⟩) hS ?_
          try simp only [Act.put, nz0, nz1, nz2, nz3, nz4, nz5]
          refine wpAnyL_take (i := 9) (v := .pointer (some (a.add (i * 5)))) rfl (by kernel_rfl) (by kernel_rfl) (by kernel_rfl) (by kernel_rfl) (fun _ _ _ h => h) (Or.inl ⟨by rfl, fun w _ => by go_simp⟩) hS ?_
          try simp only [Act.put, nz0, nz1, nz2, nz3, nz4, nz5]
          refine wpAnyL_take (i := 10) (v := .agg x.o.cells.toArray) rfl (by kernel_rfl) (by kernel_rfl) (by kernel_rfl) (by kernel_rfl) (fun _ _ _ h => h) (yields_load_any (by rfl) 39 (.tmp 63) rfl (a.add (i * 5)) rfl x.o.cells _ (fun w h => h.2.2.2) Try.underlying39 rfl Pa.size39) hS ?_
          try simp only [Act.put, nz0, nz1, nz2, nz3, nz4, nz5]
          have hend := end_any x.o wl.drew
          rw [hen] at hend
          refine wpAnyL_ready (rs := [11]) (by kernel_rfl) (by simp) ?_
          refine AllReadyL.cons rfl (fun K hK => ?_) AllReadyL.nil
          go_simp
          go_at_call 48
          refine Calls.mono hend ?_
          clear hend
          rintro e wb ⟨he, hb2⟩
          obtain rfl := he
          have hb3 : Below wl.heap.size wl wb := below_trans (Below.refl _ _).drew hb2
          have hA4 := HAD.out.below hb3
          have hfb := firstBehind_any hA4.row (lv := .slice (some a) n2 cap2) rfl hA4.list hA4.st (by rw [HN2.out]; omega) x.p.en
          obtain ⟨fs, HFS⟩ : ∃ fs, Hid (starts hs x.p.en = fs) := ⟨_, rfl⟩
          rw [HFS.out] at hfb
          have HB3 : Hid (Below wl.heap.size wl wb) := hb3
          refine hK.out _ _ (fun _ => ⟨hA4.row, rT.below hb3 rT.lt, cell_keep cwk hb3, fun q u hq => cell_keep (hcx q u hq) hb3⟩) ?_
          try simp only [Act.put, nz0, nz1, nz2, nz3, nz4, nz5]
          clear hA4 hA hb2 hb3 rT cwk hcx hen
          clear hS
          refine wpAnyL_ready (rs := [12]) (by kernel_rfl) (by simp) ?_
          refine AllReadyL.cons rfl (fun K hK => ?_) AllReadyL.nil
          go_simp
          go_at_call 64
          refine Calls.mono hfb ?_
          clear hfb
          rintro e wc ⟨he, hb4⟩
          obtain rfl := he
          have hb5 : Below wl.heap.size wl wc := below_trans HB3.out hb4
          have rs5 := RSt.keep HRS2.out hb5
          have B5 : Below cb wo wc := HBL.out.trans (hb5.mono (Nat.le_of_lt HRS2.out.come.lt))
          have HS := HS0.out
          refine hK.out _ _ (fun _ => ⟨HS.1.below hb5 HS.1.lt, HS.2.1.below hb5 HS.2.1.lt, cell_keep HS.2.2.1 hb5, fun q u hq => cell_keep (HS.2.2.2 q u hq) hb5⟩) ?_
          try simp only [Act.put, nz0, nz1, nz2, nz3, nz4, nz5]
          clear HS
          refine wpAnyL_ready (rs := [13]) (by kernel_rfl) (by simp) ?_
          refine AllReadyL.cons rfl (fun K hK => ?_) AllReadyL.nil
          go_simp
          refine hK.out _ _ (fun q => absurd rfl q) ?_
          try simp only [Act.put, nz0, nz1, nz2, nz3, nz4, nz5]
          refine wpAnyL_done (by kernel_rfl) ?_ _
          have Q0 : ∀ j, B ≤ j → j < n2 → (j : Int) ∈ W2 := fun j h1 h2 => by rw [hr2]; exact List.mem_append.2 (Or.inl (HHL.out j h1 h2))
          have k5 := HKK2.out
          have P5 : ∃ r, W2 = W2 ++ r := ⟨[], by simp⟩
          clear hb4 hb5 hf2 HB3 HBL HS0 HAD HRS2 hml hml'
          go_upto_region 15 with fail
          go_loopw [10] (fun p wr => ∃ (B3 : Nat) (bs3 : List Bool) (W3 : List Int), p = .int .i64 (B3 : Int) ∧ B3 ≤ n2 ∧ RSt wr cb T7 T8 n2 bs3 W3 ∧ Wk (Edge hs) n2 a0 bs3 W3 ∧ (∃ r, W3 = W2 ++ r) ∧ (∀ j, B3 ≤ j → j < n2 → (j : Int) ∈ W3) ∧ Below cb wo wr) (fun p _ => (intOf p).toNat)
          case atStart => exact ⟨B, _, _, rfl, hB, rs5, k5, P5, Q0, B5⟩
          case round =>
            clear rs5 k5 P5 Q0 B5
            rename World => wx
            obtain ⟨B3, bs3, W3, rfl, hB3, rs3, hk3, ⟨r3, hr3⟩, hQ3, hb3⟩ := hrel
            by_cases hgt : fs < B3
            · have hgt' : (B3 : Int) > (fs : Int) := by omega
              obtain ⟨y, hy⟩ : ∃ y, hs[B3 - 1]? = some y := ⟨_, List.getElem?_eq_getElem (by rw [HN2.out]; omega)⟩
              have hed : Edge hs i (B3 - 1) := Or.inr ⟨x, y, HX2.out, hy, (starts_iff hs x.p.en HA0.out.st (B3 - 1) y hy).1 (by rw [HFS.out]; omega)⟩
              have hvis := visit_wk rs3 hk3 (B3 - 1) (by omega) H122 (.step HCI.out hed)
              have hbi : ((B3 - 1 : Nat) : Int) = (B3 : Int) - 1 := by omega
              rw [hbi] at hvis
              have HBL : Hid (Below cb wo wx) := hb3
              have HQ3 : Hid (∀ j, B3 ≤ j → j < n2 → (j : Int) ∈ W3) := hQ3
              clear rs3 hk3 hQ3 hb3 hy hed
              go_wp2_with (go_at_call 63; refine hvis.mono ?_; clear hvis; rintro e wv ⟨he, bs4, W4, rs4, hk4, hj4, ⟨r4, hr4⟩, hb4⟩; obtain rfl := he)
              have hb5 : Below cb wo wv := HBL.out.trans hb4
              go_roundw
              case rel => exact ⟨B3 - 1, bs4, W4, by rw [hbi], by omega, rs4, hk4, ⟨r3 ++ r4, by rw [hr4, hr3, List.append_assoc]⟩, fun j h1 h2 => by
                by_cases e : j = B3 - 1
                · subst e; rw [hbi]; rw [hbi] at hj4; exact hj4
                · rw [hr4]; exact List.mem_append.2 (Or.inl (HQ3.out j (by omega) h2)), hb5⟩
              case measure => simp [intOf]; omega
            · have hgt' : ¬ (B3 : Int) > (fs : Int) := by omega
              have hD3 : ∀ q i : Nat, q < k + 1 → W3[q]? = some (i : Int) → ∀ j, Edge hs i j → (j : Int) ∈ W3 := fun q i' hq hW3 j he => by
                have hpre : ∀ z, z ∈ W2 → z ∈ W3 := fun z hz => by rw [hr3]; exact List.mem_append.2 (Or.inl hz)
                have hpre0 : ∀ z, z ∈ W → z ∈ W2 := fun z hz => by rw [hr2]; exact List.mem_append.2 (Or.inl hz)
                have hkW : k < W.length := (List.getElem?_eq_some_iff.1 HWK.out).1
                have hWq : W[q]? = some (i' : Int) := by
                  rw [← hW3, hr3, hr2, List.append_assoc, List.getElem?_append_left (by omega)]
                by_cases e : q = k
                · subst e
                  obtain rfl : i = i' := by have := HWK.out; rw [hWq] at this; have := Option.some.inj this; omega
                  rcases he with he | ⟨x', y, hx', hy, hle⟩
                  · exact hpre _ (HV2.out j (Or.inl he) he)
                  · obtain rfl : x = x' := by have := HX2.out; rw [hx'] at this; exact (Option.some.inj this).symm
                    have := (starts_iff hs x.p.en HA0.out.st j y hy).2 hle
                    exact hQ3 j (by rw [HFS.out] at this; omega) (by have := (List.getElem?_eq_some_iff.1 hy).1; have := HN2.out; omega)
                · exact hpre _ (hpre0 _ (HHD.out q i' (by omega) hWq j he))
              have Bwx : Below w.heap.size w wx := HBW.out.trans (hb3.mono HLO.out)
              have hkk : k + 1 ≤ 12 := by omega
              have HD3 : Hid (∀ q i : Nat, q < k + 1 → W3[q]? = some (i : Int) → ∀ j, Edge hs i j → (j : Int) ∈ W3) := hD3
              have HQ3 : Hid (∀ j, B3 ≤ j → j < n2 → (j : Int) ∈ W3) := hQ3
              clear hD3 hQ3 hb3
              go_wp2
              go_roundw
              case rel => exact ⟨B3, k + 1, bs3, W3, rfl, by go_num, rs3, hk3, HD3.out, hB3, HQ3.out, Bwx⟩
              case measure => simp [intOf]; omega
    · have hlt' : ¬ (k : Int) < (lw : Int) := by omega
      have c7 : wo.cell? ⟨T7, 0, none⟩ = some (.slice (some ⟨cb, 0, none⟩) n2 n2) := row_at rs.c7 0 _ rfl
      have hfin := HFO.out cb bs wo rs.come rs.len (hk.all (fun i j q => (HEL.out i j q).2) (fun q i hq => hD q i (by have := HLW.out; omega))) Bw HLO.out
      clear rs hk hD hL Bw rT hu hcw
      go_wp2
      exact hfin
structure Cm (w : World) (X cb n : Nat) (bs : List Bool) : Prop where
  cell : Row w X #[.slice (some ⟨cb, 0, none⟩) n n] 66
  come : Row w cb (bs.map Value.bool).toArray 4
  len : bs.length = n
theorem come_any {w : World} {X cb n : Nat} {bs : List Bool} (h : Cm w X cb n bs) (i : Nat) (hi : i < n) (b : Bool) (hb : bs[i]? = some b) :
    Calls Try.prog 51 #[.int .i64 (i : Int), .pointer (some ⟨X, 0, none⟩)] w fun e w' => e = .returned (.bool b) ∧ w' = w := by
  obtain ⟨r1, r2, hl⟩ := h
  have c7 : w.cell? ⟨X, 0, none⟩ = some (.slice (some ⟨cb, 0, none⟩) n n) := row_at r1 0 _ rfl
  have c1 : w.cell? ⟨cb, i, none⟩ = some (.bool b) := by
    rw [cell_of_row _ _ _ _ _ _ r2, List.getElem?_toArray, List.getElem?_map, hb]; rfl
  have i1 : (i : Int) < (n : Int) := by omega
  have i3 : (0 : Int) ≤ (i : Int) := by omega
  clear r1 r2 hb
  go_enter Try.func51, Try.ntmps51
  go_wp2
  go_ret
  exact ⟨rfl, rfl⟩
def Ixf (w : World) (L : List Int) (bs : List Bool) (e : Ending) (w' : World) : Prop := ∃ r : Int, e = .returned (.int .i64 r) ∧ (decide (r ≥ 0) = true ↔ ∃ i : Nat, (i : Int) ∈ L ∧ bs[i]? = some true) ∧ w' = w
set_option maxHeartbeats 1000000 in
theorem indexf_any {w : World} {X cb n : Nat} {bs : List Bool} (h : Cm w X cb n bs) {base : Nat} {v : Value} {L : List Int} (hv : GI.Nums w base v L) (hL : ∀ x ∈ L, ∃ i : Nat, x = i ∧ i < n) (hn : L.length ≤ 1000000) :
    Calls Try.prog 65 #[v, .func (.func 51) #[] #[.pointer (some ⟨X, 0, none⟩)]] w fun e w' => Ixf w L bs e w' := by
  obtain ⟨oa, cap, rfl, hc⟩ := hv.hold
  have HY : Hid (∀ r : Int, decide (r ≥ 0) = true → (∃ i : Nat, (i : Int) ∈ L ∧ bs[i]? = some true) → Ixf w L bs (.returned (.int .i64 r)) w) := fun r h1 h2 => ⟨r, rfl, ⟨fun _ => h2, fun _ => h1⟩, rfl⟩
  have HN : Hid (¬ (∃ i : Nat, (i : Int) ∈ L ∧ bs[i]? = some true) → Ixf w L bs (.returned (.int .i64 (-1))) w) := fun h2 => ⟨-1, rfl, ⟨fun q => by simp at q, fun q => absurd q h2⟩, rfl⟩
  generalize Ixf w L bs = PP at HY HN ⊢
  obtain ⟨n3, HN3⟩ : ∃ n3, Hid (L.length = n3) := ⟨_, rfl⟩
  rw [HN3.out] at hn hc ⊢
  have HC : Hid (∀ i, i < n3 → ∃ (a : Addr) (x : Int), oa = some a ∧ L[i]? = some x ∧ w.cell? (a.add i) = some (.int .i64 x)) := hc
  have HCM : Hid (Cm w X cb n bs) := h
  have HL : Hid (∀ x ∈ L, ∃ i : Nat, x = i ∧ i < n) := hL
  clear hc h hL hv
  go_enter Try.func65, Try.ntmps65
  go_upto_region 2 with fail
  go_loopw [8] (fun c wr => ∃ k : Nat, k ≤ n3 ∧ c = .int .i64 (k : Int) ∧ wr = w ∧ ∀ q (i : Nat), q < k → L[q]? = some (i : Int) → bs[i]? = some false) (fun c _ => n3 - (intOf c).toNat)
  case atStart => exact ⟨0, Nat.zero_le _, rfl, rfl, fun q i hq => by omega⟩
  case round =>
    obtain ⟨k, hk, rfl, hww, hno⟩ := hrel
    subst hww
    by_cases hlt : k < n3
    · have hlt' : (k : Int) < (n3 : Int) := by omega
      have k3 : (0 : Int) ≤ (k : Int) := by omega
      obtain ⟨a, x, rfl, hx, hcell⟩ := HC.out k hlt
      obtain ⟨i, rfl, hi⟩ := HL.out x (List.mem_of_getElem? hx)
      obtain ⟨b, hb⟩ : ∃ b, bs[i]? = some b := ⟨_, List.getElem?_eq_getElem (by rw [HCM.out.len]; exact hi)⟩
      have hcall := come_any HCM.out i hi b hb
      have HX : Hid (L[k]? = some (i : Int)) := hx
      have HB : Hid (bs[i]? = some b) := hb
      have HNO : Hid (∀ q (i : Nat), q < k → L[q]? = some (i : Int) → bs[i]? = some false) := hno
      clear hx hb hno
      cases b with
      | true =>
        have hfin := HY.out (k : Int) (by simp) ⟨i, List.mem_of_getElem? HX.out, HB.out⟩
        go_wp2_with (go_at_call 51; refine hcall.mono ?_; clear hcall; rintro e wb ⟨he, hw2⟩; rw [hw2]; clear hw2 wb; obtain rfl := he)
        exact hfin
      | false =>
        go_wp2_with (go_at_call 51; refine hcall.mono ?_; clear hcall; rintro e wb ⟨he, hw2⟩; rw [hw2]; clear hw2 wb; obtain rfl := he)
        go_roundw
        case rel => exact ⟨k + 1, by omega, by go_num, trivial, fun q i' hq hq2 => by
          by_cases e : q = k
          · subst e
            have := HX.out; rw [hq2] at this
            have := Option.some.inj this
            obtain rfl : i' = i := by omega
            exact HB.out
          · exact HNO.out q i' (by omega) hq2⟩
        case measure => simp [intOf]; omega
    · have hlt' : ¬ (k : Int) < (n3 : Int) := by omega
      have hfin := HN.out (fun ⟨i, h1, h2⟩ => by
        obtain ⟨q, hq⟩ := List.getElem?_of_mem h1
        have := hno q i (by have := (List.getElem?_eq_some_iff.1 hq).1; have := HN3.out; omega) hq
        rw [h2] at this; cases this)
      clear hno
      go_wp2
      exact hfin
theorem containsf_any {w : World} {X cb n : Nat} {bs : List Bool} (h : Cm w X cb n bs) {base : Nat} {v : Value} {L : List Int} (hv : GI.Nums w base v L) (hL : ∀ x ∈ L, ∃ i : Nat, x = i ∧ i < n) (hn : L.length ≤ 1000000) :
    Calls Try.prog 50 #[v, .func (.func 51) #[] #[.pointer (some ⟨X, 0, none⟩)]] w fun e w' => ∃ b : Bool, e = .returned (.bool b) ∧ (b = true ↔ ∃ i : Nat, (i : Int) ∈ L ∧ bs[i]? = some true) ∧ w' = w := by
  have hc := indexf_any h hv hL hn
  have HB : Hid (∀ e w', Ixf w L bs e w' → ∃ (r : Int) (b : Bool), e = .returned (.int .i64 r) ∧ decide (r ≥ 0) = b ∧ (b = true ↔ ∃ i : Nat, (i : Int) ∈ L ∧ bs[i]? = some true) ∧ w' = w) := fun e w' ⟨r, h1, h2, h3⟩ => ⟨r, _, h1, rfl, h2, h3⟩
  clear h hv hL hn
  generalize Ixf w L bs = PP at hc HB
  obtain ⟨Z, HZ⟩ : ∃ Z : Prop, Hid ((∃ i : Nat, (i : Int) ∈ L ∧ bs[i]? = some true) ↔ Z) := ⟨_, Iff.rfl⟩
  rw [HZ.out] at HB ⊢
  go_enter Try.func50, Try.ntmps50
  go_wp2_with (go_at_call 65; refine hc.mono ?_; clear hc; intro e w2 hq; obtain ⟨r, b, he, hr, hz, hw2⟩ := HB.out _ _ hq; obtain rfl := he; clear hq; rw [hw2]; clear hw2 w2; have HZZ : Hid (b = true ↔ Z) := hz; clear hz)
  go_ret
  exact ⟨b, rfl, HZZ.out, rfl⟩
end Go.Proofs.Ytdlllnkcjfpajaa
