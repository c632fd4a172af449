/-
  Proved here: what a Write of a set answers, and makes of it.
-/
import Derived.Test.YtmnbfcmamhinbabWsw
namespace Go.Proofs.Ytmnbfcmamhinbab.Ws
open Go.ChangeShapes Go.WideShapes Go.ChangeAt Go.RowKit
open Go.Deep Go.Maps
set_option linter.unusedVariables false
set_option linter.unusedSimpArgs false

theorem splice_set {α : Type} (L : List α) (o : Nat) (x : α) (r : List α) (h : o < L.length) : splice (L.set o x) (o + 1) r = splice L o (x :: r) := by
  unfold splice
  have e1 : (L.set o x).take (o + 1) = L.take o ++ [x] := by
    rw [List.take_add_one, List.take_set_of_le (by omega)]
    simp [h]
  have e2 : (L.set o x).drop (o + 1 + r.length) = L.drop (o + (x :: r).length) := by
    rw [List.drop_set_of_lt (by omega)]
    simp; congr 1; omega
  rw [e1, e2]; simp
theorem fold_set : ∀ (l : List Value) (n off : Nat) (cs : Array Value), off + n + l.length ≤ cs.size → (l.zipIdx n).foldl (fun cs (p : Value × Nat) => cs.setIfInBounds (off + p.2) p.1) cs = (⟨splice cs.toList (off + n) l⟩ : Array Value)
  | [], n, off, cs, h => by simp [splice]
  | x :: r, n, off, cs, h => by
    rw [List.zipIdx_cons, List.foldl_cons, fold_set r (n + 1) off _ (by simp at h ⊢; omega)]
    congr 1
    simp only [Array.toList_setIfInBounds]
    have := splice_set cs.toList (off + n) x r (by simp at h ⊢; omega)
    rw [← this]; rfl
theorem fold_arr (v : Array Value) (off : Nat) (cs : Array Value) (h : off + v.size ≤ cs.size) : v.zipIdx.foldl (fun cs (p : Value × Nat) => cs.setIfInBounds (off + p.2) p.1) cs = (⟨splice cs.toList off v.toList⟩ : Array Value) := by
  rw [← Array.foldl_toList, Array.toList_zipIdx]
  exact fold_set v.toList 0 off cs (by simpa using h)

theorem fill_step (place : Nat → Option (Nat × Nat)) (cells : Array Value) (i : Nat) (v : Value) (rest : List (Nat × Value)) (off size : Nat) (hp : place i = some (off, size)) (h1 : v.cells.size = size) (h2 : off + size ≤ cells.size) :
    Instr.fill place cells ((i, v) :: rest) = Instr.fill place ⟨splice cells.toList off v.cells.toList⟩ rest := by
  have : ¬ (decide (v.cells.size ≠ size) || decide (off + v.cells.size > cells.size)) = true := by simp [h1]; omega
  rw [Instr.fill, hp]
  simp only []
  rw [if_neg this]
  have := fold_arr v.cells off cells (by omega)
  rw [← this]

/-- The places of a struct's fields. -/
def placesOf (P : Program) (t : TypeId) : Option (List (Nat × Nat)) :=
  match P.underlying t with
  | some (.struct fields) => fields.toList.mapM (fun f => (P.info? f.type).map fun i => (f.offset, i.size))
  | _ => none
theorem built_struct {P : Program} {t : TypeId} {z : Value} {places : List (Nat × Nat)} (hi : (P.info? t).map (·.zero) = some (some z)) (hp : placesOf P t = some places) (parts : List (Nat × Value)) : P.built t parts = Instr.fill (places.toArray[·]?) z.cells parts := by
  unfold Program.built
  unfold placesOf at hp
  cases hq : P.info? t with
  | none => simp [hq] at hi
  | some it =>
    simp [hq] at hi
    split at hp
    · rename_i fields hu
      rw [hu]
      simp only [hi, hp]
    · cases hp
theorem splice_size {α : Type} (L : List α) (o : Nat) (r : List α) (h : o + r.length ≤ L.length) : (⟨splice L o r⟩ : Array α).size = L.length := by
  simp [splice]; omega

theorem zeroOf73 : (Try.prog.info? 73).map (·.zero) = some (some (.agg (bs (zs 128)))) := by kernel_rfl
theorem places73 : placesOf Try.prog 73 = some [(0, 64), (64, 64)] := by kernel_rfl
theorem built73 (a b : List Int) (ha : a.length = 64) (hb : b.length = 64) : Try.prog.built 73 [(0, .agg (bs a)), (1, .agg (bs b))] = some (bs (a ++ b)) := by
  have hz : (bs (zs 128)).size = 128 := by rw [bs_size, zs_length]
  have hsa : (bs a).size = 64 := by rw [bs_size, ha]
  have hsb : (bs b).size = 64 := by rw [bs_size, hb]
  rw [built_struct zeroOf73 places73]
  have e0 : (Value.agg (bs (zs 128))).cells = bs (zs 128) := rfl
  rw [e0, fill_step _ _ 0 (.agg (bs a)) _ 0 64 rfl hsa (by omega), fill_step _ _ 1 (.agg (bs b)) _ 64 64 rfl hsb (by rw [splice_size _ _ _ (by show 0 + (bs a).toList.length ≤ (bs (zs 128)).toList.length; rw [Array.length_toList, Array.length_toList, hz, hsa]; omega), Array.length_toList, hz]; omega)]
  unfold Instr.fill
  congr 1
  show (⟨splice (splice ((zs 128).map (Value.int .u8)) 0 (a.map (Value.int .u8))) 64 (b.map (Value.int .u8))⟩ : Array Value) = ⟨(a ++ b).map (Value.int .u8)⟩
  congr 1
  simp [splice, ha, hb, zs_length]
theorem size5 : (Try.prog.info? 5).map (·.size) = some 1 := by kernel_rfl
theorem len42 : Try.prog.arrayLen 42 = 64 := by kernel_rfl
theorem elem42 : Try.prog.elem 42 = 5 := by kernel_rfl
theorem build_parts {P : Program} {ops : Array Oper} {rest : List Oper} {o : Oper} {a : Act} {w : World} {Q : Exit → Act → World → Prop} (hg : o.guard = none) (t : TypeId) (parts : Array (Nat × Operand)) (ho : o.op = .build t parts)
    (vs : List (Nat × Value)) (hv : (parts.toList.map fun (i, x) => (i, a.eval x)) = vs) (cs : Array Value) (hb : P.built t vs = some cs) (h : wpList P ops Q rest (a.put o.dst (.agg cs)) w) : wpList P ops Q (o :: rest) a w := by
  have e : (parts.map fun (i, x) => (i, a.eval x)).toList = vs := by rw [← hv, Array.toList_map]
  exact wpList_build hg t parts ho (by rw [e, hb]; rfl) (by rw [e, hb]; exact h)
/-- Where a page's bytes from a place on begin. -/
def plc (o : Nat) : Nat := if o = 64 then 64 else 64 + o
theorem slice42l (X o : Nat) (h : o ≤ 64) (w : World) :
    (Instr.sliceAt 42 (.pointer (some ⟨X, 64, none⟩)) (some (.int .i64 (o : Int))) none none).run Try.prog w = .ok (.slice (some ⟨X, plc o, none⟩) (64 - o) (64 - o)) w := by
  rw [run_sliceAt_array_l (P := Try.prog) w 42 ⟨X, 64, none⟩ (by rw [len42, elem42]; exact Try.underlying42) .i64 (o : Int) (by omega) (by rw [len42]; omega)]
  rw [elem42, len42, Try.sizeOf5]
  simp only [Result.andThen_ok, slicedAt]
  have e1 : ((o : Int)).toNat = o := by omega
  rw [e1]
  unfold plc
  by_cases h6 : o = 64
  · subst h6; rfl
  · rw [if_neg (by omega), if_neg h6, Addr.add_mid]
    congr 2
    simp
set_option maxRecDepth 20000 in
set_option maxHeartbeats 2000000 in
theorem write_many {w : World} {s m : Nat} {L : List (Int × List Int)} (c : SAt w s m L) (k : Int) (hk : (Lit.int .u16 k).wf = true) (bse : List Int) (off : Int) (t : ByteArray) (h : okW off t) (hl : bse.length = 64) (hh : hasP L k = false) (h4 : 4 ≤ L.length) :
    Calls Try.prog 16 #[.pointer (some ⟨s, 0, none⟩), .int .u16 k, .agg (bs bse), .int .i64 off, .string t] w fun e w' => e = .returned (.int .i64 10) ∧ Below w.heap.size w w' := by
  have ab : Below w.heap.size w (w.alloc (.cells (bs bse) 42)) := (Below.refl _ _).alloc (Nat.le_refl _) _
  have r0 : Row (w.alloc (.cells (bs bse) 42)) w.heap.size (bs bse) 42 := Row.new _ _ _
  have c0 := c.below ab
  have hf := find_any c0 k hk
  rw [hh] at hf
  have hwl : (atP L k).length = 128 := (c.at_wr k).1
  generalize atP L k = ys at hf hwl
  clear c
  have hz := zero73
  obtain ⟨h1, h2, h3⟩ := h
  have g1 : ¬ off < 0 := by omega
  have g2 : ¬ off > 64 := by omega
  have hw : IntKind.i64.wrap (64 - off) = 64 - off := by rw [IntKind.wrap_i64]; omega
  have g3 : ¬ (t.size : Int) > 64 - off := by omega
  have ts : Hid (1 = 1) := rfl
  go_enter Try.func16, Try.ntmps16
  go_upto_region 4 with (first
    | (go_at_call 30; refine hf.mono ?_; clear hf; rintro e w1 ⟨he, b1⟩; obtain rfl := he; have rb1 := ab.trans (b1.mono ab.size); have c1 := c0.below b1; have r1 := r0.below b1 r0.lt; clear b1 c0 r0 ab; have rA : Row (w1.alloc (.cells (bs (zs 128)) 73)) w1.heap.size (bs (zs 128)) 73 := Row.new _ _ _)
    | (have hh := ts; clear hh ts; refine store_cells rfl 73 (.tmp 11) (.tmp 34) rfl w1.heap.size (bs ys) rfl rfl 73 _ rA 128 size73 (by rw [bs_size, zs_length]) (by rw [bs_size]; exact hwl) (bs_one ys) ?_))
  have bq := below_setRow ((Below.refl w1.heap.size w1).alloc (Nat.le_refl _) (.cells (bs (zs 128)) 73)) (Nat.le_refl _) (bs ys)
  have cB := c1.below bq
  have rb1 := rb1.trans (bq.mono rb1.size)
  clear bq c1 rA r1
  generalize (w1.alloc (.cells (bs (zs 128)) 73)).setRow w1.heap.size (bs ys) = w2 at cB rb1 ⊢
  have c3 := row_at cB.row 0 _ rfl
  have HSZ : Hid (Maps.size (setD L) = L.length) := setD_size L
  have hown := cB.own
  obtain ⟨nn, HNN⟩ : ∃ nn, Hid (L.length = nn) := ⟨_, rfl⟩
  rw [HNN.out] at h4 HSZ
  have q4 : (nn : Int) ≥ 4 := by omega
  clear cB h4
  go_wp2_with (first
    | (at_len; refine wpList_len_own _ rfl _ 69 rfl 40 73 Try.underlying69 _ m _ _ rfl hown ?_; rw [HSZ.out]))
  go_ret
  exact ⟨rfl, rb1⟩

set_option maxRecDepth 20000 in
set_option maxHeartbeats 4000000 in
theorem write_has {w : World} {s m : Nat} {L : List (Int × List Int)} (c : SAt w s m L) (k : Int) (hk : (Lit.int .u16 k).wf = true) (bse : List Int) (o : Nat) (t : ByteArray) (ho : o ≤ 64) (ht : t.size ≤ 64 - o) (hl : bse.length = 64) (hb : Bytes bse) (hh : hasP L k = true) :
    Calls Try.prog 16 #[.pointer (some ⟨s, 0, none⟩), .int .u16 k, .agg (bs bse), .int .i64 o, .string t] w fun e w' => Wrote w s m L k (splice (atP L k) (64 + o) (nums t)) e w' := by
  have ab : Below w.heap.size w (w.alloc (.cells (bs bse) 42)) := (Below.refl _ _).alloc (Nat.le_refl _) _
  have r0 : Row (w.alloc (.cells (bs bse) 42)) w.heap.size (bs bse) 42 := Row.new _ _ _
  have c0 := c.below ab
  have hf := find_any c0 k hk
  rw [hh] at hf
  have HWR : Hid (Wr (atP L k)) := c.at_wr k
  have hwl : (atP L k).length = 128 := (c.at_wr k).1
  have hkb := bounds_u16 hk
  have HSM : Hid (L.length ≤ 4) := c.small
  have HPUT : Hid (∀ zz, Wr zz → ∀ W1 W2 n, Row W1 s #[.map (some m)] 71 → Below w.heap.size w W1 → W2.ownsMap Try.prog 40 wrR m n ((setD L).put (.int .u16 k) (.held zz)) → W1.mapTurned W2 m → Wrote w s m L k zz (.returned (.int .i64 0)) W2) := fun zz hz W1 W2 n hr hbb hown ht => by
    have hof : Off (· = m) W1 W2 := Off.of_grown ht.grown (fun j hj => by cases hj; rfl)
    rw [setD_put] at hown
    have hown := ownsMap_tight hown
    rw [setD_size] at hown
    refine ⟨rfl, { row := hr.off hof c.ne, own := hown, ne := c.ne, rising := putP_rising c.rising k zz, small := ?_, wr := fun p hp => ?_ }, (Off.of_below hbb).trans hof (fun j q => Or.inl (Or.inr q))⟩
    · rw [put_length c.rising, hh]
      exact c.small
    · rcases putP_mem.1 hp with rfl | ⟨hp, _⟩
      · exact ⟨hz, hkb⟩
      · exact c.wr p hp
  have HPU : Hid _ := HPUT.out (splice (atP L k) (64 + o) (nums t)) (splice_wr (c.at_wr k) (by omega))
  obtain ⟨PP, HPP⟩ : ∃ PP, Hid (Wrote w s m L k (splice (atP L k) (64 + o) (nums t)) = PP) := ⟨_, rfl⟩
  rw [HPP.out] at HPU
  show Calls Try.prog 16 _ w (Wrote w s m L k (splice (atP L k) (64 + o) (nums t)))
  rw [HPP.out]
  clear HPUT
  obtain ⟨ys, HY⟩ : ∃ ys, Hid (atP L k = ys) := ⟨_, rfl⟩
  rw [HY.out] at hf hwl HWR HPU
  have hz := zero73
  have g1 : ¬ (o : Int) < 0 := by omega
  have g2 : ¬ (o : Int) > 64 := by omega
  have hw : IntKind.i64.wrap (64 - (o : Int)) = 64 - o := by rw [IntKind.wrap_i64]; omega
  have g3 : ¬ (t.size : Int) > 64 - (o : Int) := by omega
  have lS : s < w.heap.size := c.lt (Or.inl rfl)
  have lM : m < w.heap.size := c.lt (Or.inr rfl)
  clear c
  have ts : Hid (1 = 1) := rfl
  go_enter Try.func16, Try.ntmps16
  go_upto_region 4 with (first
    | (go_at_call 30; refine hf.mono ?_; clear hf; rintro e w1 ⟨he, b1⟩; obtain rfl := he; have rb1 := ab.trans (b1.mono ab.size); have c1 := c0.below b1; have r1 := r0.below b1 r0.lt; clear b1 c0 r0 ab; have rA : Row (w1.alloc (.cells (bs (zs 128)) 73)) w1.heap.size (bs (zs 128)) 73 := Row.new _ _ _)
    | (have hh := ts; clear hh ts; refine store_cells rfl 73 (.tmp 11) (.tmp 34) rfl w1.heap.size (bs ys) rfl rfl 73 _ rA 128 size73 (by rw [bs_size, zs_length]) (by rw [bs_size]; exact hwl) (bs_one ys) ?_))
  have bq := below_setRow ((Below.refl w1.heap.size w1).alloc (Nat.le_refl _) (.cells (bs (zs 128)) 73)) (Nat.le_refl _) (bs ys)
  have rX := rA.set (bs ys)
  have r2 := r1.below bq r1.lt
  have h01 := r1.lt
  clear rA r1
  generalize (w1.alloc (.cells (bs (zs 128)) 73)).setRow w1.heap.size (bs ys) = w2 at bq rX r2 ⊢
  obtain ⟨X, HX⟩ : ∃ X, Hid (w1.heap.size = X) := ⟨_, rfl⟩
  rw [HX.out] at rX ⊢
  go_upto_region 8 with fail
  have HWZ : Hid (Wr ys) := HWR.out
  have hzl := hwl
  have hsl := slice42l X o ho
  have HSP : Hid (splice ys (plc o) (nums t) = splice ys (64 + o) (nums t)) := by
    show _ = _
    unfold plc
    split
    · have e0 : nums t = [] := List.eq_nil_of_length_eq_zero (by rw [nums_length]; omega)
      rw [e0]; simp [splice]
    · rfl
  have hpc : plc o + t.size ≤ 128 := by unfold plc; split <;> omega
  obtain ⟨pc, HPC⟩ : ∃ pc, Hid (plc o = pc) := ⟨_, rfl⟩
  rw [HPC.out] at hsl HSP hpc
  go_upto_region 9 with (first
    | (refine copy_text rfl (.tmp 49) (.tmp 50) 76 9 rfl 5 Try.underlying76 size5 X pc (64 - o) (64 - o) rfl t rfl ys 73 rX (by omega) (by omega) ?_))
  have rX9 := rX.set (bs (splice ys pc (nums t)))
  have bq := below_setRow bq (show w1.heap.size ≤ X by rw [HX.out]; exact Nat.le_refl _) (bs (splice ys pc (nums t)))
  rw [HSP.out] at rX9 bq ⊢
  have HZW : Hid (Wr (splice ys (64 + o) (nums t))) := splice_wr HWZ.out (by omega)
  generalize splice ys (64 + o) (nums t) = zz9 at rX9 bq HZW HPU ⊢
  have HZS : Hid ((bs zz9).size = 128) := by show _ = _; rw [bs_size, HZW.out.1]
  have c9 := c1.below bq
  have rb9 := rb1.trans (bq.mono rb1.size)
  clear rX bq c1 rb1 hsl
  generalize w2.setRow X (bs zz9) = W9 at rX9 c9 rb9 ⊢
  refine wp_region_last (S := fun w' => Row w' s #[.map (some m)] 71 ∧ Row w' X (bs zz9) 73 ∧ w'.ownsMap Try.prog 40 wrR m L.length (setD L) ∧ Below w.heap.size w w') 6 (by kernel_rfl) ⟨c9.row, rX9, c9.own.drew, rb9.drew⟩ fun hS => ?_
  refine wpAnyL_take (i := 0) (v := .pointer (some ⟨s, 0, none⟩)) rfl (by kernel_rfl) (by kernel_rfl) (by kernel_rfl) (by kernel_rfl) (fun _ _ _ h => h) (Or.inl ⟨by rfl, fun w _ => by rfl⟩) hS ?_
  try simp only [Act.put, List.getElem_toArray, List.getElem_cons_zero, List.getElem_cons_succ, List.setIfInBounds_toArray, List.set_cons_zero, List.set_cons_succ]
  refine wpAnyL_take (i := 1) (v := .pointer (some ⟨s, 0, none⟩)) rfl (by kernel_rfl) (by kernel_rfl) (by kernel_rfl) (by kernel_rfl) (fun _ _ _ h => h) (Or.inl ⟨by rfl, fun w _ => by go_simp⟩) hS ?_
  try simp only [Act.put, List.getElem_toArray, List.getElem_cons_zero, List.getElem_cons_succ, List.setIfInBounds_toArray, List.set_cons_zero, List.set_cons_succ]
  refine wpAnyL_take (i := 2) (v := .pointer (some ⟨s, 0, none⟩)) rfl (by kernel_rfl) (by kernel_rfl) (by kernel_rfl) (by kernel_rfl) (fun _ _ _ h => h) (Or.inl ⟨by rfl, fun w _ => by go_simp⟩) hS ?_
  try simp only [Act.put, List.getElem_toArray, List.getElem_cons_zero, List.getElem_cons_succ, List.setIfInBounds_toArray, List.set_cons_zero, List.set_cons_succ]
  refine wpAnyL_take (i := 3) (v := .map (some m)) rfl (by kernel_rfl) (by kernel_rfl) (by kernel_rfl) (by kernel_rfl) (fun _ _ _ h => h) (Or.inl ⟨by rfl, fun w h => by have c := row_at h.1 0 _ rfl; go_simp⟩) hS ?_
  try simp only [Act.put, List.getElem_toArray, List.getElem_cons_zero, List.getElem_cons_succ, List.setIfInBounds_toArray, List.set_cons_zero, List.set_cons_succ]
  refine wpAnyL_take (i := 4) (v := .int .u16 k) rfl (by kernel_rfl) (by kernel_rfl) (by kernel_rfl) (by kernel_rfl) (fun _ _ _ h => h) (Or.inl ⟨by rfl, fun w _ => by rfl⟩) hS ?_
  try simp only [Act.put, List.getElem_toArray, List.getElem_cons_zero, List.getElem_cons_succ, List.setIfInBounds_toArray, List.set_cons_zero, List.set_cons_succ]
  refine wpAnyL_take (i := 5) (v := .agg (bs zz9)) rfl (by kernel_rfl) (by kernel_rfl) (by kernel_rfl) (by kernel_rfl) (fun _ _ _ h => h) (yields_cells (by rfl) 73 (.tmp 11) rfl X rfl 73 (bs zz9) (fun w h => h.2.1) 128 Try.underlying73 rfl size73 HZS.out) hS ?_
  try simp only [Act.put, List.getElem_toArray, List.getElem_cons_zero, List.getElem_cons_succ, List.setIfInBounds_toArray, List.set_cons_zero, List.set_cons_succ]
  clear c9 rX9 rb9
  generalize W9.drew = W0 at hS ⊢
  refine wpAnyL_ready (rs := [6]) (by kernel_rfl) (by simp) ?_
  refine AllReadyL.cons rfl (fun K hK => step_update rfl _ _ _ 69 rfl 40 73 lawK Try.underlying69 _ m _ _ rfl hS.2.2.1 (by have := HSM.out; unfold maxLen; omega) _ _ _ rfl rfl (keyOf_int_mk Try.underlying40 hk) _ [] (wrR_mk HZW.out) ?_) AllReadyL.nil
  intro w2 hown2 hturn2
  have HFIN := HPU.out _ _ _ hS.1 hS.2.2.2 hown2 hturn2
  refine hK.out _ _ (fun q => absurd rfl q) ?_
  try simp only [Act.put, List.getElem_toArray, List.getElem_cons_zero, List.getElem_cons_succ, List.setIfInBounds_toArray, List.set_cons_zero, List.set_cons_succ]
  refine wpAnyL_done (by kernel_rfl) ?_ _
  clear hS hown2 hturn2
  go_wp2_with fail
  try go_ret
  exact HFIN

set_option maxRecDepth 20000 in
set_option maxHeartbeats 4000000 in
theorem write_new {w : World} {s m : Nat} {L : List (Int × List Int)} (c : SAt w s m L) (k : Int) (hk : (Lit.int .u16 k).wf = true) (bse : List Int) (o : Nat) (t : ByteArray) (ho : o ≤ 64) (ht : t.size ≤ 64 - o) (hl : bse.length = 64) (hb : Bytes bse) (hh : hasP L k = false) (h4 : L.length < 4) :
    Calls Try.prog 16 #[.pointer (some ⟨s, 0, none⟩), .int .u16 k, .agg (bs bse), .int .i64 o, .string t] w fun e w' => Wrote w s m L k (splice (bse ++ bse) (64 + o) (nums t)) e w' := by
  have ab : Below w.heap.size w (w.alloc (.cells (bs bse) 42)) := (Below.refl _ _).alloc (Nat.le_refl _) _
  have r0 : Row (w.alloc (.cells (bs bse) 42)) w.heap.size (bs bse) 42 := Row.new _ _ _
  have c0 := c.below ab
  have hf := find_any c0 k hk
  rw [hh] at hf
  have HWR : Hid (Wr (atP L k)) := c.at_wr k
  have hwl : (atP L k).length = 128 := (c.at_wr k).1
  have hkb := bounds_u16 hk
  have HSM : Hid (L.length ≤ 4) := c.small
  have HPUT : Hid (∀ zz, Wr zz → ∀ W1 W2 n, Row W1 s #[.map (some m)] 71 → Below w.heap.size w W1 → W2.ownsMap Try.prog 40 wrR m n ((setD L).put (.int .u16 k) (.held zz)) → W1.mapTurned W2 m → Wrote w s m L k zz (.returned (.int .i64 0)) W2) := fun zz hz W1 W2 n hr hbb hown ht => by
    have hof : Off (· = m) W1 W2 := Off.of_grown ht.grown (fun j hj => by cases hj; rfl)
    rw [setD_put] at hown
    have hown := ownsMap_tight hown
    rw [setD_size] at hown
    refine ⟨rfl, { row := hr.off hof c.ne, own := hown, ne := c.ne, rising := putP_rising c.rising k zz, small := ?_, wr := fun p hp => ?_ }, (Off.of_below hbb).trans hof (fun j q => Or.inl (Or.inr q))⟩
    · rw [put_length c.rising, hh]
      simp; omega
    · rcases putP_mem.1 hp with rfl | ⟨hp, _⟩
      · exact ⟨hz, hkb⟩
      · exact c.wr p hp
  have HPU : Hid _ := HPUT.out (splice (bse ++ bse) (64 + o) (nums t)) (splice_wr ⟨by simp [hl], fun y hy => by rcases List.mem_append.1 hy with q | q <;> exact hb y q⟩ (by omega))
  obtain ⟨PP, HPP⟩ : ∃ PP, Hid (Wrote w s m L k (splice (bse ++ bse) (64 + o) (nums t)) = PP) := ⟨_, rfl⟩
  rw [HPP.out] at HPU
  show Calls Try.prog 16 _ w (Wrote w s m L k (splice (bse ++ bse) (64 + o) (nums t)))
  rw [HPP.out]
  clear HPUT
  obtain ⟨ys, HY⟩ : ∃ ys, Hid (atP L k = ys) := ⟨_, rfl⟩
  rw [HY.out] at hf hwl HWR
  have hz := zero73
  have g1 : ¬ (o : Int) < 0 := by omega
  have g2 : ¬ (o : Int) > 64 := by omega
  have hw : IntKind.i64.wrap (64 - (o : Int)) = 64 - o := by rw [IntKind.wrap_i64]; omega
  have g3 : ¬ (t.size : Int) > 64 - (o : Int) := by omega
  have lS : s < w.heap.size := c.lt (Or.inl rfl)
  have lM : m < w.heap.size := c.lt (Or.inr rfl)
  clear c
  have ts : Hid (1 = 1) := rfl
  go_enter Try.func16, Try.ntmps16
  go_upto_region 4 with (first
    | (go_at_call 30; refine hf.mono ?_; clear hf; rintro e w1 ⟨he, b1⟩; obtain rfl := he; have rb1 := ab.trans (b1.mono ab.size); have c1 := c0.below b1; have r1 := r0.below b1 r0.lt; clear b1 c0 r0 ab; have rA : Row (w1.alloc (.cells (bs (zs 128)) 73)) w1.heap.size (bs (zs 128)) 73 := Row.new _ _ _)
    | (have hh := ts; clear hh ts; refine store_cells rfl 73 (.tmp 11) (.tmp 34) rfl w1.heap.size (bs ys) rfl rfl 73 _ rA 128 size73 (by rw [bs_size, zs_length]) (by rw [bs_size]; exact hwl) (bs_one ys) ?_))
  have bq := below_setRow ((Below.refl w1.heap.size w1).alloc (Nat.le_refl _) (.cells (bs (zs 128)) 73)) (Nat.le_refl _) (bs ys)
  have rX := rA.set (bs ys)
  have r2 := r1.below bq r1.lt
  have h01 := r1.lt
  clear rA r1
  generalize (w1.alloc (.cells (bs (zs 128)) 73)).setRow w1.heap.size (bs ys) = w2 at bq rX r2 ⊢
  obtain ⟨X, HX⟩ : ∃ X, Hid (w1.heap.size = X) := ⟨_, rfl⟩
  rw [HX.out] at rX ⊢
  have cB := c1.below bq
  have c3 := row_at cB.row 0 _ rfl
  have HSZ : Hid (Maps.size (setD L) = L.length) := setD_size L
  have hown := cB.own
  obtain ⟨nn, HNN⟩ : ∃ nn, Hid (L.length = nn) := ⟨_, rfl⟩
  rw [HNN.out] at h4 HSZ
  have q4 : ¬ (nn : Int) ≥ 4 := by omega
  clear cB
  have hbb : (bs bse).size = 64 := by rw [bs_size, hl]
  have hy2 : (bs ys).size = 128 := by rw [bs_size, hwl]
  obtain ⟨zz, HZ⟩ : ∃ zz, Hid (bse ++ bse = zz) := ⟨_, rfl⟩
  have HBU : Hid (Try.prog.built 73 [(0, .agg (bs bse)), (1, .agg (bs bse))] = some (bs zz)) := by show _ = _; rw [← HZ.out]; exact built73 bse bse hl hl
  have hzl : zz.length = 128 := by rw [← HZ.out]; simp [hl]
  have hb2 : (bs zz).size = 128 := by rw [bs_size, hzl]
  rw [HZ.out] at HPU
  have HWZ : Hid (Wr zz) := by rw [← HZ.out]; exact ⟨by simp [hl], fun y hy => by rcases List.mem_append.1 hy with q | q <;> exact hb y q⟩
  have t0 : Hid (2 = 2) := rfl
  go_upto_region 7 with (first
    | (have hh := t0; clear hh t0; at_len; refine wpList_len_own _ rfl _ 69 rfl 40 73 Try.underlying69 _ m _ _ rfl hown ?_; rw [HSZ.out]))
  clear c3 hown
  have t1 : Hid (2 = 2) := rfl
  go_upto_region 8 with (first
    | (have hh := t1; clear hh t1; refine load_row rfl 42 (.tmp 7) rfl w.heap.size rfl 42 (bs bse) r2 64 5 Try.underlying42 size42 hbb ?_; have t2 : Hid (2 = 2) := rfl)
    | (have hh := t2; clear hh t2; refine load_row rfl 42 (.tmp 7) rfl w.heap.size rfl 42 (bs bse) r2 64 5 Try.underlying42 size42 hbb ?_; have t3 : Hid (2 = 2) := rfl)
    | (have hh := t3; clear hh t3; refine build_parts rfl 73 #[(0, .tmp 44), (1, .tmp 45)] rfl [(0, .agg (bs bse)), (1, .agg (bs bse))] rfl _ HBU.out ?_; have t4 : Hid (2 = 2) := rfl)
    | (have hh := t4; clear hh t4; refine store_cells rfl 73 (.tmp 11) (.tmp 46) rfl X (bs zz) rfl rfl 73 _ rX 128 size73 hy2 hb2 (bs_one _) ?_))
  have bq := below_setRow bq (show w1.heap.size ≤ X by rw [HX.out]; exact Nat.le_refl _) (bs zz)
  have rX := rX.set (bs zz)
  clear r2
  generalize w2.setRow X (bs zz) = w3 at bq rX ⊢
  try simp only [Act.put, List.setIfInBounds_toArray, List.set_cons_zero, List.set_cons_succ]
  have hsl := slice42l X o ho
  have HSP : Hid (splice zz (plc o) (nums t) = splice zz (64 + o) (nums t)) := by
    show _ = _
    unfold plc
    split
    · have e0 : nums t = [] := List.eq_nil_of_length_eq_zero (by rw [nums_length]; omega)
      rw [e0]; simp [splice]
    · rfl
  have hpc : plc o + t.size ≤ 128 := by unfold plc; split <;> omega
  obtain ⟨pc, HPC⟩ : ∃ pc, Hid (plc o = pc) := ⟨_, rfl⟩
  rw [HPC.out] at hsl HSP hpc
  go_upto_region 9 with (first
    | (refine copy_text rfl (.tmp 49) (.tmp 50) 76 9 rfl 5 Try.underlying76 size5 X pc (64 - o) (64 - o) rfl t rfl zz 73 rX (by omega) (by omega) ?_))
  have rX9 := rX.set (bs (splice zz pc (nums t)))
  have bq := below_setRow bq (show w1.heap.size ≤ X by rw [HX.out]; exact Nat.le_refl _) (bs (splice zz pc (nums t)))
  rw [HSP.out] at rX9 bq ⊢
  have HZW : Hid (Wr (splice zz (64 + o) (nums t))) := splice_wr HWZ.out (by omega)
  generalize splice zz (64 + o) (nums t) = zz9 at rX9 bq HZW HPU ⊢
  have HZS : Hid ((bs zz9).size = 128) := by show _ = _; rw [bs_size, HZW.out.1]
  have c9 := c1.below bq
  have rb9 := rb1.trans (bq.mono rb1.size)
  clear rX bq c1 rb1 hsl
  generalize w3.setRow X (bs zz9) = W9 at rX9 c9 rb9 ⊢
  refine wp_region_last (S := fun w' => Row w' s #[.map (some m)] 71 ∧ Row w' X (bs zz9) 73 ∧ w'.ownsMap Try.prog 40 wrR m L.length (setD L) ∧ Below w.heap.size w w') 6 (by kernel_rfl) ⟨c9.row, rX9, c9.own.drew, rb9.drew⟩ fun hS => ?_
  refine wpAnyL_take (i := 0) (v := .pointer (some ⟨s, 0, none⟩)) rfl (by kernel_rfl) (by kernel_rfl) (by kernel_rfl) (by kernel_rfl) (fun _ _ _ h => h) (Or.inl ⟨by rfl, fun w _ => by rfl⟩) hS ?_
  try simp only [Act.put, List.getElem_toArray, List.getElem_cons_zero, List.getElem_cons_succ, List.setIfInBounds_toArray, List.set_cons_zero, List.set_cons_succ]
  refine wpAnyL_take (i := 1) (v := .pointer (some ⟨s, 0, none⟩)) rfl (by kernel_rfl) (by kernel_rfl) (by kernel_rfl) (by kernel_rfl) (fun _ _ _ h => h) (Or.inl ⟨by rfl, fun w _ => by go_simp⟩) hS ?_
  try simp only [Act.put, List.getElem_toArray, List.getElem_cons_zero, List.getElem_cons_succ, List.setIfInBounds_toArray, List.set_cons_zero, List.set_cons_succ]
  refine wpAnyL_take (i := 2) (v := .pointer (some ⟨s, 0, none⟩)) rfl (by kernel_rfl) (by kernel_rfl) (by kernel_rfl) (by kernel_rfl) (fun _ _ _ h => h) (Or.inl ⟨by rfl, fun w _ => by go_simp⟩) hS ?_
  try simp only [Act.put, List.getElem_toArray, List.getElem_cons_zero, List.getElem_cons_succ, List.setIfInBounds_toArray, List.set_cons_zero, List.set_cons_succ]
  refine wpAnyL_take (i := 3) (v := .map (some m)) rfl (by kernel_rfl) (by kernel_rfl) (by kernel_rfl) (by kernel_rfl) (fun _ _ _ h => h) (Or.inl ⟨by rfl, fun w h => by have c := row_at h.1 0 _ rfl; go_simp⟩) hS ?_
  try simp only [Act.put, List.getElem_toArray, List.getElem_cons_zero, List.getElem_cons_succ, List.setIfInBounds_toArray, List.set_cons_zero, List.set_cons_succ]
  refine wpAnyL_take (i := 4) (v := .int .u16 k) rfl (by kernel_rfl) (by kernel_rfl) (by kernel_rfl) (by kernel_rfl) (fun _ _ _ h => h) (Or.inl ⟨by rfl, fun w _ => by rfl⟩) hS ?_
  try simp only [Act.put, List.getElem_toArray, List.getElem_cons_zero, List.getElem_cons_succ, List.setIfInBounds_toArray, List.set_cons_zero, List.set_cons_succ]
  refine wpAnyL_take (i := 5) (v := .agg (bs zz9)) rfl (by kernel_rfl) (by kernel_rfl) (by kernel_rfl) (by kernel_rfl) (fun _ _ _ h => h) (yields_cells (by rfl) 73 (.tmp 11) rfl X rfl 73 (bs zz9) (fun w h => h.2.1) 128 Try.underlying73 rfl size73 HZS.out) hS ?_
  try simp only [Act.put, List.getElem_toArray, List.getElem_cons_zero, List.getElem_cons_succ, List.setIfInBounds_toArray, List.set_cons_zero, List.set_cons_succ]
  clear c9 rX9 rb9
  generalize W9.drew = W0 at hS ⊢
  refine wpAnyL_ready (rs := [6]) (by kernel_rfl) (by simp) ?_
  refine AllReadyL.cons rfl (fun K hK => step_update rfl _ _ _ 69 rfl 40 73 lawK Try.underlying69 _ m _ _ rfl hS.2.2.1 (by have := HSM.out; unfold maxLen; omega) _ _ _ rfl rfl (keyOf_int_mk Try.underlying40 hk) _ [] (wrR_mk HZW.out) ?_) AllReadyL.nil
  intro w2 hown2 hturn2
  have HFIN := HPU.out _ _ _ hS.1 hS.2.2.2 hown2 hturn2
  refine hK.out _ _ (fun q => absurd rfl q) ?_
  try simp only [Act.put, List.getElem_toArray, List.getElem_cons_zero, List.getElem_cons_succ, List.setIfInBounds_toArray, List.set_cons_zero, List.set_cons_succ]
  refine wpAnyL_done (by kernel_rfl) ?_ _
  clear hS hown2 hturn2
  go_wp2_with fail
  try go_ret
  exact HFIN

end Go.Proofs.Ytmnbfcmamhinbab.Ws
