/-
  Plain facts on undo pages: what was put is read again; unlike numbers and kinds have unlike payloads. Proved here: two data pages are alike just if all they hold is; page.Blank and page.Right of data pages; the statements' fixed run (awake). Proved here: page.Blank and page.Right of undo pages, the document's Blank and Right (varveref06); a blank page is that page's and no other one's.
-/
import Derived.Test.YtihjapfgllokgabGetU
import Derived.Test.YtihjapfgllokgabFact
import Derived.SizedLaws
import Derived.Deep.Grids
import Derived.Deep.Slices
import Derived.Lib.SmallJoins
import Derived.Carry
namespace Go.Proofs.Ytihjapfgllokgab
open Go.ChangeShapes Go.WideShapes Go.ChangeAt Go.RowKit
set_option linter.unusedVariables false
set_option linter.unusedSimpArgs false
set_option maxRecDepth 20000

theorem part_at (A B C : List Int) (n : Nat) (hA : A.length = n) (i : Nat) (hi : i < B.length) : (A ++ (B ++ C)).getD (n + i) 0 = B.getD i 0 := by
  subst hA
  rw [getD_right (by omega), show A.length + i - A.length = i by omega, getD_left hi]
/-- A live record's bytes, place by place. -/
theorem liveT_parts (o : O) (h : o.live = true) : oldT o = low 1 1 ++ (low o.page 2 ++ (low o.ts 4 ++ (low o.np 2 ++ (low o.ns 1 ++ (low o.delta.size 1 ++ nums o.delta))))) := by
  simp [oldT, h, liveT, refT, List.append_assoc]
theorem old_kind (o : O) (h : o.live = true) : (oldT o).getD 0 0 = 1 := by
  rw [liveT_parts o h, getD_left (by simp [low_length])]; simp [low]
theorem old_page (o : O) (h : o.live = true) (i : Nat) (hi : i < 2) : (oldT o).getD (1 + i) 0 = o.page / 2 ^ (8 * i) % 256 := by
  rw [liveT_parts o h, part_at _ _ _ 1 (by simp [low_length]) i (by rw [low_length]; exact hi), low_getD _ _ _ hi]
theorem old_ts (o : O) (h : o.live = true) (i : Nat) (hi : i < 4) : (oldT o).getD (3 + i) 0 = o.ts / 2 ^ (8 * i) % 256 := by
  have e : oldT o = (low 1 1 ++ low o.page 2) ++ (low o.ts 4 ++ (low o.np 2 ++ (low o.ns 1 ++ (low o.delta.size 1 ++ nums o.delta)))) := by rw [liveT_parts o h]; simp [List.append_assoc]
  rw [e, part_at _ _ _ 3 (by simp [low_length]) i (by rw [low_length]; exact hi), low_getD _ _ _ hi]
theorem old_np (o : O) (h : o.live = true) (i : Nat) (hi : i < 2) : (oldT o).getD (7 + i) 0 = o.np / 2 ^ (8 * i) % 256 := by
  have e : oldT o = (low 1 1 ++ (low o.page 2 ++ low o.ts 4)) ++ (low o.np 2 ++ (low o.ns 1 ++ (low o.delta.size 1 ++ nums o.delta))) := by rw [liveT_parts o h]; simp [List.append_assoc]
  rw [e, part_at _ _ _ 7 (by simp [low_length]) i (by rw [low_length]; exact hi), low_getD _ _ _ hi]
theorem old_ns (o : O) (h : o.live = true) (i : Nat) (hi : i < 1) : (oldT o).getD (9 + i) 0 = o.ns / 2 ^ (8 * i) % 256 := by
  have e : oldT o = (low 1 1 ++ (low o.page 2 ++ (low o.ts 4 ++ low o.np 2))) ++ (low o.ns 1 ++ (low o.delta.size 1 ++ nums o.delta)) := by rw [liveT_parts o h]; simp [List.append_assoc]
  rw [e, part_at _ _ _ 9 (by simp [low_length]) i (by rw [low_length]; exact hi), low_getD _ _ _ hi]
theorem old_size (o : O) (h : o.live = true) (i : Nat) (hi : i < 1) : (oldT o).getD (10 + i) 0 = (o.delta.size : Int) / 2 ^ (8 * i) % 256 := by
  have e : oldT o = (low 1 1 ++ (low o.page 2 ++ (low o.ts 4 ++ (low o.np 2 ++ low o.ns 1)))) ++ (low o.delta.size 1 ++ nums o.delta) := by rw [liveT_parts o h]; simp [List.append_assoc]
  rw [e, part_at _ _ _ 10 (by simp [low_length]) i (by rw [low_length]; exact hi), low_getD _ _ _ hi]
theorem old_delta (o : O) (h : o.live = true) (i : Nat) : (oldT o).getD (11 + i) 0 = (nums o.delta).getD i 0 := by
  have e : oldT o = (low 1 1 ++ (low o.page 2 ++ (low o.ts 4 ++ (low o.np 2 ++ (low o.ns 1 ++ low o.delta.size 1))))) ++ nums o.delta := by rw [liveT_parts o h]; simp [List.append_assoc]
  rw [e, getD_right (by simp [low_length])]
  congr 1
  simp [low_length]
/-- A record that stands in a text is read there. -/
theorem oAt_of (p : List Int) (hp : Bytes p) (a : Nat) (o : O) (hf : o.Fits) (hk : okO o = true) (hl : a + (oldT o).length ≤ p.length) (h : ∀ i, i < (oldT o).length → p.getD (a + i) 0 = (oldT o).getD i 0) :
    oAt p a = o ∧ oNext p a = a + (oldT o).length := by
  have hk' := hk
  unfold okO at hk'
  simp only [Bool.and_eq_true, Bool.or_eq_true, decide_eq_true_eq] at hk'
  cases hlv : o.live with
  | false =>
    have hz : o = O.zero := by rcases hk'.1 with q | q
                               · rw [hlv] at q; cases q
                               · exact q
    subst hz
    have hlen : (oldT O.zero).length = 1 := by rw [oldT_length]; rfl
    have e : getN (strOfNums p) a 1 = 0 := getN_tx hp 0 (by omega) a 1 (by omega) (by decide) fun i hi => by
      obtain rfl : i = 0 := by omega
      rw [h 0 (by omega)]; rfl
    unfold oAt oNext
    rw [e, if_pos rfl, if_pos rfl, hlen]
    exact ⟨rfl, rfl⟩
  | true =>
    have hlen : (oldT o).length = 11 + o.delta.size := by rw [oldT_length, hlv]; rfl
    rw [hlen] at h hl
    obtain ⟨f1, f2, f3, f4⟩ := hf
    have hd : o.delta.size ≤ 66 := hk'.2
    have e0 : getN (strOfNums p) a 1 = 1 := getN_tx hp 1 (by omega) a 1 (by omega) (by decide) fun i hi => by
      obtain rfl : i = 0 := by omega
      rw [h 0 (by omega), old_kind o hlv]; rfl
    have e1 : getN (strOfNums p) (a + 1) 2 = o.page := getN_tx hp _ f1.1 _ 2 (by omega) (by omega) fun i hi => by
      rw [Nat.add_assoc, h _ (by omega), old_page o hlv i hi]
    have e2 : getN (strOfNums p) (a + 3) 4 = o.ts := getN_tx hp _ f2.1 _ 4 (by omega) (by omega) fun i hi => by
      rw [Nat.add_assoc, h _ (by omega), old_ts o hlv i hi]
    have e3 : getN (strOfNums p) (a + 7) 2 = o.np := getN_tx hp _ f3.1 _ 2 (by omega) (by omega) fun i hi => by
      rw [Nat.add_assoc, h _ (by omega), old_np o hlv i hi]
    have e4 : getN (strOfNums p) (a + 9) 1 = o.ns := getN_tx hp _ f4.1 _ 1 (by omega) (by omega) fun i hi => by
      rw [Nat.add_assoc, h _ (by omega), old_ns o hlv i hi]
    have e5 : getN (strOfNums p) (a + 10) 1 = o.delta.size := getN_tx hp _ (by omega) _ 1 (by omega) (by omega) fun i hi => by
      rw [Nat.add_assoc, h _ (by omega), old_size o hlv i hi]
    have e6 : (p.drop (a + 11)).take o.delta.size = nums o.delta := by
      apply list_ext _ _ o.delta.size (by simp; omega) (nums_length _)
      intro i hi
      have := h (11 + i) (by omega)
      rw [old_delta o hlv] at this
      rw [← this]
      simp only [List.getD]
      rw [List.getElem?_take, if_pos hi, List.getElem?_drop, Nat.add_assoc]
    unfold oAt oNext
    rw [e0, e1, e2, e3, e4, e5, if_neg (by decide), if_neg (by decide), Int.toNat_natCast, e6, tx_nums, hlen]
    refine ⟨?_, by omega⟩
    cases o; simp_all
theorem oldsT_split (os : List O) (k : Nat) (o : O) (h : os[k]? = some o) : oldsT os = oldsT (os.take k) ++ (oldT o ++ oldsT (os.drop (k + 1))) := by
  have hk : k < os.length := (List.getElem?_eq_some_iff.1 h).1
  have e : os = os.take k ++ (o :: os.drop (k + 1)) := by
    have q := List.take_append_drop k os
    have q2 : os.drop k = o :: os.drop (k + 1) := by rw [List.drop_eq_getElem_cons hk]; congr 1; exact (List.getElem?_eq_some_iff.1 h).2
    rw [q2] at q; exact q.symm
  conv => lhs; rw [e]
  unfold oldsT
  rw [List.flatMap_append]; rfl
theorem readO_put (no lsn : Int) (os : List O) (hm : may os = true) (hf : ∀ o ∈ os, o.Fits) : ∀ k, k ≤ os.length → readO (payT 2 no lsn (undoT os)) 16 k = (os.take k, 16 + (oldsT (os.take k)).length)
  | 0, _ => by simp [readO, oldsT]
  | k + 1, hk => by
    have ih := readO_put no lsn os hm hf k (by omega)
    have hul := undoT_le os hm
    have hok := (may_small hm).2.2.1
    have he : os[k]? = some os[k] := by simp [show k < os.length by omega]
    have hmem : os[k] ∈ os := List.getElem_mem _
    have hsp := oldsT_split os k _ he
    have hlen : (undoT os).length = 1 + (oldsT (os.take k)).length + ((oldT os[k]).length + (oldsT (os.drop (k + 1))).length) := by
      unfold undoT
      rw [hsp]; simp [low_length]; omega
    have hat : ∀ i, i < (oldT os[k]).length → (payT 2 no lsn (undoT os)).getD (16 + (oldsT (os.take k)).length + i) 0 = (oldT os[k]).getD i 0 := by
      intro i hi
      rw [payT_at _ _ _ _ hul _ (by omega), show 16 + (oldsT (os.take k)).length + i = 15 + (1 + (oldsT (os.take k)).length + i) by omega, head_text]
      unfold undoT
      rw [hsp, ← List.append_assoc, part_at _ _ _ (1 + (oldsT (os.take k)).length) (by simp [low_length]) i hi]
    obtain ⟨h1, h2⟩ := oAt_of (payT 2 no lsn (undoT os)) (payT_bytes _ _ _ _ (undoT_bytes os)) (16 + (oldsT (os.take k)).length) os[k] (hf _ hmem) (hok _ hmem) (by rw [payT_length _ _ _ _ hul]; omega) hat
    show ((readO _ 16 k).1 ++ [oAt _ (readO _ 16 k).2], oNext _ (readO _ 16 k).2) = _
    rw [ih]
    simp only
    rw [h1, h2, oldsT_snoc os k _ he, List.take_add_one, he]
    simp; omega
theorem uOf_put (no lsn : Int) (os : List O) (hm : may os = true) (hf : ∀ o ∈ os, o.Fits) : uOf (payT 2 no lsn (undoT os)) = os := by
  have hul := undoT_le os hm
  have h15 := (may_small hm).1
  have hc : getN (strOfNums (payT 2 no lsn (undoT os))) 15 1 = os.length := getN_tx (payT_bytes _ _ _ _ (undoT_bytes os)) _ (by omega) 15 1 (by rw [payT_length _ _ _ _ hul]; omega) (by omega) fun i hi => by
    obtain rfl : i = 0 := by omega
    rw [payT_at _ _ _ _ hul _ (by omega), head_text]
    unfold undoT
    rw [getD_left (by rw [low_length]; omega), low_getD _ _ _ (by omega)]
  unfold uOf cntU
  rw [hc, Int.toNat_natCast, readO_put no lsn os hm hf _ (Nat.le_refl _), List.take_length]
theorem lsnOf_put (no lsn : Int) (os : List O) (hm : may os = true) (hl : 0 ≤ lsn ∧ lsn ≤ 18446744073709551615) : lsnOf (payT 2 no lsn (undoT os)) = lsn :=
  payT_lsn 2 no lsn _ (undoT_le os hm) (undoT_bytes os) hl
theorem putU_may (no lsn : Int) (os : List O) (hm : may os = true) : putU no lsn os = payT 2 no lsn (undoT os) := by unfold putU; rw [hm, if_pos rfl]
theorem isU_put (no on lsn : Int) (os : List O) (hm : may os = true) (hf : ∀ o ∈ os, o.Fits) (hl : 0 ≤ lsn ∧ lsn ≤ 18446744073709551615) (h1 : 0 ≤ no ∧ no ≤ 65535) (h2 : 0 ≤ on ∧ on ≤ 65535) :
    isU on (payT 2 no lsn (undoT os)) = decide (no = on) := by
  unfold isU
  rw [uOf_put no lsn os hm hf, lsnOf_put no lsn os hm hl, hm, putU_may _ _ _ hm]
  simp only [decide_true, Bool.true_and]
  apply decide_eq_decide.2
  constructor
  · intro h
    have q1 := payT_no 2 on lsn _ (undoT_le os hm) (undoT_bytes os) h2
    have q2 := payT_no 2 no lsn _ (undoT_le os hm) (undoT_bytes os) h1
    rw [h, q2] at q1
    exact q1
  · intro h; rw [h]
/-- An undo page's payload is no data page's. -/
theorem isD_undo (no on lsn : Int) (os : List O) (hm : may os = true) : isD on (payT 2 no lsn (undoT os)) = false := by
  unfold isD
  apply decide_eq_false
  intro h
  have hp := payT_length 2 no lsn _ (undoT_le os hm)
  have hb := payT_bytes 2 no lsn _ (undoT_bytes os)
  have h1 := putD_kind on (dOf (payT 2 no lsn (undoT os))) (dOf_ok _ hp hb)
  rw [h, payT_at _ _ _ _ (undoT_le os hm) _ (by omega), head_kind] at h1
  simp at h1
/-- A data page's payload is no undo page's. -/
theorem isU_data (no on : Int) (d : D) (hd : d.Ok) : isU on (putD no d) = false := by
  unfold isU
  cases hm : may (uOf (putD no d))
  · rfl
  · rw [Bool.and_eq_false_iff]
    right
    apply decide_eq_false
    intro h
    have h1 := putD_kind no d hd
    rw [← h] at h1
    unfold putU at h1
    rw [hm, if_pos rfl, payT_at _ _ _ _ (undoT_le _ hm) _ (by omega), head_kind] at h1
    simp at h1
end Go.Proofs.Ytihjapfgllokgab
namespace Go.Proofs.Ytihjapfgllokgab
open Go.ChangeShapes Go.WideShapes Go.ChangeAt Go.RowKit
set_option linter.unusedVariables false
set_option linter.unusedSimpArgs false
set_option maxRecDepth 20000
theorem equal53 (xs ys : List Int) (hx : xs.length = 64) (hy : ys.length = 64) (w : World) : (Op.equalIn 9999 53 (.agg (bs xs)) (.agg (bs ys))).run Try.prog w = .ok (decide (xs = ys)) w := by
  cases hq : Try.prog.info? 5 with
  | none => have := size5; simp [hq] at this
  | some inf =>
    have h1 := run_equalIn_array (P := Try.prog) (w := w) 9998 (bs xs) (bs ys) Try.underlying53 hq
    have h2 := eqItems_bytes (P := Try.prog) 9997 5 Try.underlying5 size5 cells5 xs ys w (List.range 64) (fun i hi => by have := List.mem_range.1 hi; omega)
    rw [all_range xs ys 64 hx hy] at h2
    exact h1.trans h2
theorem load_cells_g {P : Program} {ops : Array Oper} {rest : List Oper} {o : Oper} {a : Act} {w : World} {Q : Exit → Act → World → Prop} (hw : Region.wanted o (yielded ops a.tmps) = true) (ty : TypeId) (x : Operand) (ho : o.op = .load ty x)
    (g : Nat) (hx : a.eval x = .pointer (some ⟨g, 0, none⟩)) (t : TypeId) (cs : Array Value) (hg : Row w g cs t) (n : Nat) {d : TypeDesc}
    (hu : P.underlying ty = some d) (hd : (match d with | .struct _ | .array _ _ => true | _ => false) = true) (hi : (P.info? ty).map (·.size) = some n) (hn : cs.size = n)
    (h : wpList P ops Q rest (a.put o.dst (.agg cs)) w) : wpList P ops Q (o :: rest) a w :=
  BigFrame.wpList_want hw fun _ hK => wp_load_row ty x ho g hx t cs (0, 0) _ hg hu hd (by rw [hi, hn]) (hK _ _ h)
instance : DecidableEq D := fun a b => by
  cases a; cases b
  simp only [D.mk.injEq]
  exact inferInstance
theorem equal55 (a b : D) (ha : a.Ok) (hb : b.Ok) (w : World) : (Op.equalIn 10000 55 (.agg a.arr) (.agg b.arr)).run Try.prog w = .ok (decide (a = b)) w := by
  obtain ⟨l, t, p, s, xs⟩ := a
  obtain ⟨l', t', p', s', ys⟩ := b
  have h28 := equal53 xs ys ha.len hb.len
  unfold D.arr
  go_simp
  have e1 : (List.take 64 (List.map (Value.int .u8) xs)).toArray = bs xs := by unfold bs; rw [List.take_of_length_le (by have := ha.len; simp at this ⊢; omega)]
  have e2 : (List.take 64 (List.map (Value.int .u8) ys)).toArray = bs ys := by unfold bs; rw [List.take_of_length_le (by have := hb.len; simp at this ⊢; omega)]
  rw [e1, e2, h28]
  by_cases h1 : l = l' <;> by_cases h2 : t = t' <;> by_cases h3 : p = p' <;> by_cases h4 : s = s' <;> by_cases h5 : xs = ys <;> simp [h1, h2, h3, h4, h5]
theorem built24 (no : Int) : (Try.prog.built 24 [(1, .int .u16 no)]) = some #[.bool false, .int .u16 no] := by kernel_rfl
set_option maxHeartbeats 1000000 in
theorem blank_data (no : Int) (w : World) (hno : 0 ≤ no ∧ no ≤ 65535) :
    Calls Try.prog 14 #[.agg #[.bool false, .int .u16 no]] w fun e w' => e = .returned (.agg (bs (putD no D.zero))) ∧ Below w.heap.size w w' := by
  have hz := zero26
  have r0 : Row ((w.alloc (.cells #[.bool false, .int .u16 no] 24)).alloc (.cells (bs (zs 224)) 26)) w.heap.size #[.bool false, .int .u16 no] 24 := (Row.new _ _ _).alloc _
  have r1 : Row ((w.alloc (.cells #[.bool false, .int .u16 no] 24)).alloc (.cells (bs (zs 224)) 26)) (w.heap.size + 1) (bs (zs 224)) 26 := by have := Row.new (w.alloc (.cells #[.bool false, .int .u16 no] 24)) (bs (zs 224)) 26; simpa using this
  have ab : Below w.heap.size w ((w.alloc (.cells #[.bool false, .int .u16 no] 24)).alloc (.cells (bs (zs 224)) 26)) := ((Below.refl _ _).alloc (Nat.le_refl _) _).alloc (by simp) _
  have HP : Hid _ := fun w => putData_any no D.zero w hno D.zero_ok
  have hlen := putD_length no D.zero (zs_length _)
  obtain ⟨R, HR⟩ : ∃ R, Hid (putD no D.zero = R) := ⟨_, rfl⟩
  rw [HR.out] at HP hlen ⊢
  have c0 := row_at r0 0 _ rfl
  have c1 := row_at r0 1 _ rfl
  go_enter Try.func14, Try.ntmps14
  go_upto_region 1 with fail
  generalize (w.alloc (.cells #[.bool false, .int .u16 no] 24)).alloc (.cells (bs (zs 224)) 26) = w1 at r0 r1 ab c0 c1 ⊢
  go_wp2_with (first
    | (refine build_none rfl 55 rfl _ built55 ?_)
    | (go_at_call 27; refine (HP.out _).mono ?_; clear HP; rintro e w3 ⟨rfl, h3⟩)
    | (refine store_row rfl 26 (.tmp 2) (.tmp 18) rfl (w.heap.size + 1) R rfl rfl 26 _ (r1.below h3 r1.lt) 224 size26 (by rw [bs_size, zs_length]) hlen ?_))
  refine bodyPost_ret (v := .agg (bs R)) ?_ rfl ⟨rfl, below_setRow (ab.trans (h3.mono ab.size)) (by omega) _⟩
  exact ret_row (fn := Try.f14) rfl _ _ (w.heap.size + 1) 26 (bs R) 224 5 rfl ((r1.below h3 r1.lt).set _) Try.underlying26 size26 (by rw [bs_size, hlen])
theorem gotD_ok (no : Int) (p : List Int) (hp : p.length = 224) (hb : Bytes p) : (gotD no p).Ok := by
  unfold gotD; split
  · exact dOf_ok p hp hb
  · exact D.zero_ok
set_option maxHeartbeats 1000000 in
theorem right_data (no : Int) (p : List Int) (w : World) (hno : 0 ≤ no ∧ no ≤ 65535) (hp : p.length = 224) (hb : Bytes p) :
    Calls Try.prog 11 #[.agg #[.bool false, .int .u16 no], .agg (bs p)] w fun e w' => e = .returned (.bool (isD no p)) ∧ Below w.heap.size w w' := by
  have hz := zero55
  have r0 : Row ((w.alloc (.cells #[.bool false, .int .u16 no] 24)).alloc (.cells (bs p) 26)) w.heap.size #[.bool false, .int .u16 no] 24 := (Row.new _ _ _).alloc _
  have r1 : Row ((w.alloc (.cells #[.bool false, .int .u16 no] 24)).alloc (.cells (bs p) 26)) (w.heap.size + 1) (bs p) 26 := by have := Row.new (w.alloc (.cells #[.bool false, .int .u16 no] 24)) (bs p) 26; simpa using this
  have ab : Below w.heap.size w ((w.alloc (.cells #[.bool false, .int .u16 no] 24)).alloc (.cells (bs p) 26)) := ((Below.refl _ _).alloc (Nat.le_refl _) _).alloc (by simp) _
  have HP : Hid _ := fun w => getData_any no p w hno hp hb
  have hok := gotD_ok no p hp hb
  have hsz := D.arr_size (gotD no p) hok.len
  have hone := D.arr_one (gotD no p)
  have HE : Hid (errD no p = 0 ↔ isD no p = true) := by
    show _ ↔ _
    unfold errD
    split <;> simp_all
  obtain ⟨X, HX⟩ : ∃ R, Hid ((gotD no p).arr = R) := ⟨_, rfl⟩
  obtain ⟨E, HEE⟩ : ∃ R, Hid (errD no p = R) := ⟨_, rfl⟩
  rw [HX.out] at HP hsz hone
  rw [HEE.out] at HP HE
  have HB : Hid ((E == 0) = isD no p) := by
    show _ = _
    rw [Bool.eq_iff_iff, ← HE.out]; simp
  have hpb : (bs p).size = 224 := by rw [bs_size, hp]
  have c0 := row_at r0 0 _ rfl
  have c1 := row_at r0 1 _ rfl
  go_enter Try.func11, Try.ntmps11
  go_upto_region 1 with fail
  generalize (w.alloc (.cells #[.bool false, .int .u16 no] 24)).alloc (.cells (bs p) 26) = w1 at r0 r1 ab c0 c1 ⊢
  go_wp2_with (first
    | (refine load_row rfl 26 (.tmp 3) rfl (w.heap.size + 1) rfl 26 (bs p) r1 224 5 Try.underlying26 size26 hpb ?_)
    | (go_at_call 15; refine (HP.out _).mono ?_; clear HP; rintro e w3 ⟨rfl, h3⟩
       have q3 : Row (w3.alloc (.cells D.zero.arr 55)) w3.heap.size D.zero.arr 55 := Row.new _ _ _)
    | (refine store_cells rfl 55 (.tmp 7) (.tmp 25) rfl w3.heap.size X rfl rfl 55 _ q3 68 size55 rfl hsz hone ?_))
  have b3 : Below w.heap.size w w3 := ab.trans (h3.mono ab.size)
  go_ret
  exact ⟨ret_bool HB.out, below_setRow (b3.alloc b3.size _) b3.size _⟩
end Go.Proofs.Ytihjapfgllokgab
namespace Go.Proofs.Ytihjapfgllokgab
open Go.ChangeShapes Go.WideShapes Go.ChangeAt Go.RowKit
open Go.Deep
set_option linter.unusedVariables false
set_option linter.unusedSimpArgs false
set_option maxRecDepth 20000

theorem may_nil : may [] = true := by decide
/-- A blank page's payload. -/
def blankP (u : Bool) (no : Int) : List Int := if u then putU no 0 [] else putD no D.zero
/-- Whether a payload is that page's. -/
def isP (u : Bool) (no : Int) (p : List Int) : Bool := if u then isU no p else isD no p
theorem blankP_length (u : Bool) (no : Int) : (blankP u no).length = 224 := by
  cases u
  · exact putD_length _ _ (zs_length _)
  · show (putU no 0 []).length = 224
    exact putU_length _ _ _
theorem blankP_bytes (u : Bool) (no : Int) : Bytes (blankP u no) := by
  cases u
  · exact putD_bytes _ _ (zs_bytes _)
  · show Bytes (putU no 0 [])
    exact putU_bytes _ _ _
theorem isP_blank (u u2 : Bool) (no on : Int) (h1 : 0 ≤ no ∧ no ≤ 65535) (h2 : 0 ≤ on ∧ on ≤ 65535) : isP u2 on (blankP u no) = (decide (u = u2) && decide (no = on)) := by
  cases u <;> cases u2
  · show isD on (putD no D.zero) = _
    rw [isD_other no on D.zero D.zero_ok h1 h2]; simp
  · show isU on (putD no D.zero) = _
    rw [isU_data no on D.zero D.zero_ok]; simp
  · show isD on (putU no 0 []) = _
    rw [putU_may _ _ _ may_nil, isD_undo no on 0 [] may_nil]; simp
  · show isU on (putU no 0 []) = _
    rw [putU_may _ _ _ may_nil, isU_put no on 0 [] may_nil (by simp) (by decide) h1 h2]; simp
set_option maxHeartbeats 1000000 in
theorem blank_undo (no : Int) (w : World) (hno : 0 ≤ no ∧ no ≤ 65535) :
    Calls Try.prog 14 #[.agg #[.bool true, .int .u16 no]] w fun e w' => e = .returned (.agg (bs (putU no 0 []))) ∧ Below w.heap.size w w' := by
  have hz := zero26
  have r0 : Row ((w.alloc (.cells #[.bool true, .int .u16 no] 24)).alloc (.cells (bs (zs 224)) 26)) w.heap.size #[.bool true, .int .u16 no] 24 := (Row.new _ _ _).alloc _
  have r1 : Row ((w.alloc (.cells #[.bool true, .int .u16 no] 24)).alloc (.cells (bs (zs 224)) 26)) (w.heap.size + 1) (bs (zs 224)) 26 := by have := Row.new (w.alloc (.cells #[.bool true, .int .u16 no] 24)) (bs (zs 224)) 26; simpa using this
  have ab : Below w.heap.size w ((w.alloc (.cells #[.bool true, .int .u16 no] 24)).alloc (.cells (bs (zs 224)) 26)) := ((Below.refl _ _).alloc (Nat.le_refl _) _).alloc (by simp) _
  have HP : Hid _ := fun w => putUndo_any no 0 (.slice none 0 0) [] w (Or.inl ⟨rfl, rfl⟩) (by simp) hno (by decide)
  have hlen := putU_length no 0 []
  have e0 : errU [] = 0 := by unfold errU; rw [may_nil]; rfl
  rw [e0] at HP
  obtain ⟨R, HR⟩ : ∃ R, Hid (putU no 0 [] = R) := ⟨_, rfl⟩
  rw [HR.out] at HP hlen ⊢
  have hRb : (bs R).size = 224 := by rw [bs_size, hlen]
  have c0 := row_at r0 0 _ rfl
  have c1 := row_at r0 1 _ rfl
  go_enter Try.func14, Try.ntmps14
  go_upto_region 1 with fail
  generalize (w.alloc (.cells #[.bool true, .int .u16 no] 24)).alloc (.cells (bs (zs 224)) 26) = w1 at r0 r1 ab c0 c1 ⊢
  go_upto_region 3 with (first
    | (refine build_none rfl 64 rfl _ built64 ?_)
    | (go_at_call 26; refine (HP.out _).mono ?_; clear HP; rintro e w3 ⟨rfl, h3⟩
       have q3 : Row (w3.alloc (.cells (bs (zs 224)) 26)) w3.heap.size (bs (zs 224)) 26 := Row.new _ _ _)
    | (refine store_row rfl 26 (.tmp 3) (.tmp 12) rfl w3.heap.size R rfl rfl 26 _ q3 224 size26 (by rw [bs_size, zs_length]) hlen ?_))
  have r1 := r1.below h3 r1.lt
  have l3 := r1.lt
  have ab := ab.trans (h3.mono ab.size)
  have r1 := (r1.alloc (.cells (bs (zs 224)) 26)).other (g := w3.heap.size) (by omega) (bs R)
  have q3 := q3.set (bs R)
  have ab := below_setRow (ab.alloc ab.size (.cells (bs (zs 224)) 26)) ab.size (bs R)
  clear h3
  generalize (w3.alloc (.cells (bs (zs 224)) 26)).setRow w3.heap.size (bs R) = w4 at r1 q3 ab ⊢
  generalize w3.heap.size = g3 at q3 l3 ⊢
  go_wp2_with (first
    | (refine load_row rfl 26 (.tmp 3) rfl g3 rfl 26 (bs R) q3 224 5 Try.underlying26 size26 hRb ?_)
    | (refine store_row rfl 26 (.tmp 2) (.tmp 14) rfl (w.heap.size + 1) R rfl rfl 26 _ r1 224 size26 (by rw [bs_size, zs_length]) hlen ?_))
  refine bodyPost_ret (v := .agg (bs R)) ?_ rfl ⟨rfl, below_setRow ab (by omega) _⟩
  exact ret_row (fn := Try.f14) rfl _ _ (w.heap.size + 1) 26 (bs R) 224 5 rfl (r1.set _) Try.underlying26 size26 hRb
theorem blank_any (u : Bool) (no : Int) (w : World) (hno : 0 ≤ no ∧ no ≤ 65535) :
    Calls Try.prog 14 #[.agg #[.bool u, .int .u16 no]] w fun e w' => e = .returned (.agg (bs (blankP u no))) ∧ Below w.heap.size w w' := by
  cases u
  · exact blank_data no w hno
  · exact blank_undo no w hno
set_option maxHeartbeats 1000000 in
theorem right_undo (no : Int) (p : List Int) (w : World) (hno : 0 ≤ no ∧ no ≤ 65535) (hp : p.length = 224) (hb : Bytes p) :
    Calls Try.prog 11 #[.agg #[.bool true, .int .u16 no], .agg (bs p)] w fun e w' => e = .returned (.bool (isU no p)) ∧ Below w.heap.size w w' := by
  have hz := zero64
  have r0 : Row ((w.alloc (.cells #[.bool true, .int .u16 no] 24)).alloc (.cells (bs p) 26)) w.heap.size #[.bool true, .int .u16 no] 24 := (Row.new _ _ _).alloc _
  have r1 : Row ((w.alloc (.cells #[.bool true, .int .u16 no] 24)).alloc (.cells (bs p) 26)) (w.heap.size + 1) (bs p) 26 := by have := Row.new (w.alloc (.cells #[.bool true, .int .u16 no] 24)) (bs p) 26; simpa using this
  have ab : Below w.heap.size w ((w.alloc (.cells #[.bool true, .int .u16 no] 24)).alloc (.cells (bs p) 26)) := ((Below.refl _ _).alloc (Nat.le_refl _) _).alloc (by simp) _
  have HP : Hid (∀ w, Calls Try.prog 21 #[.int .u16 no, .agg (bs p)] w fun e w' => ∃ L oa n cap, e = .returned (.tuple #[.agg #[.int .u64 L, .slice oa n cap], .int .i64 (if isU no p then 0 else 2)]) ∧ Below w.heap.size w w') := fun w => (getUndo_any no p w hno hp hb).mono fun e w' h => by
    obtain ⟨v', h1, h2, h3⟩ := h
    obtain ⟨oa, cap, rfl, _⟩ := h2.open
    exact ⟨_, _, _, _, h1, h3⟩
  have hpb : (bs p).size = 224 := by rw [bs_size, hp]
  have c0 := row_at r0 0 _ rfl
  have c1 := row_at r0 1 _ rfl
  have HB : Hid (((if isU no p then (0 : Int) else 2) == 0) = isU no p) := by show _ = _; cases isU no p <;> rfl
  generalize (if isU no p then (0 : Int) else 2) = E at HP HB
  clear hp hb
  go_enter Try.func11, Try.ntmps11
  go_upto_region 1 with fail
  generalize (w.alloc (.cells #[.bool true, .int .u16 no] 24)).alloc (.cells (bs p) 26) = w1 at r0 r1 ab c0 c1 ⊢
  go_wp2_with (first
    | (refine load_row rfl 26 (.tmp 3) rfl (w.heap.size + 1) rfl 26 (bs p) r1 224 5 Try.underlying26 size26 hpb ?_)
    | (go_at_call 21; refine (HP.out _).mono ?_; clear HP; rintro e w3 ⟨L, oa, n, cap, rfl, h3⟩
       have q3 : Row (w3.alloc (.cells #[.int .u64 0, .slice none 0 0] 64)) w3.heap.size #[.int .u64 0, .slice none 0 0] 64 := Row.new _ _ _)
    | (refine store_cells rfl 64 (.tmp 5) (.tmp 16) rfl w3.heap.size #[.int .u64 L, .slice oa n cap] rfl rfl 64 _ q3 2 size64 rfl rfl (by simp [Value.oneCell']) ?_))
  have b3 : Below w.heap.size w w3 := ab.trans (h3.mono ab.size)
  go_ret
  exact ⟨ret_bool HB.out, below_setRow (b3.alloc b3.size _) b3.size _⟩
theorem right_any (u : Bool) (no : Int) (p : List Int) (w : World) (hno : 0 ≤ no ∧ no ≤ 65535) (hp : p.length = 224) (hb : Bytes p) :
    Calls Try.prog 11 #[.agg #[.bool u, .int .u16 no], .agg (bs p)] w fun e w' => e = .returned (.bool (isP u no p)) ∧ Below w.heap.size w w' := by
  cases u
  · exact right_data no p w hno hp hb
  · exact right_undo no p w hno hp hb
theorem equal24 (u u2 : Bool) (no on : Int) (w : World) : (Op.equalIn 10000 24 (.agg #[.bool u, .int .u16 no]) (.agg #[.bool u2, .int .u16 on])).run Try.prog w = .ok (decide (u = u2) && decide (no = on)) w := by
  go_simp
  cases u <;> cases u2 <;> by_cases h : no = on <;> simp [h]
theorem cells24 : Try.prog.cellsOf 24 = 2 := by kernel_rfl
theorem size24 : (Try.prog.info? 24).map (·.size) = some 2 := by kernel_rfl
end Go.Proofs.Ytihjapfgllokgab
