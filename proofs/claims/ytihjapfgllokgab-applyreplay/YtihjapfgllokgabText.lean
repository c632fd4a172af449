/-
  Texts as lists of bytes: a slice of an array as a text, a text copied into an array; proved here: page.refText, page.payload, page.PutData, page.LSN.
-/
import Derived.Test.YtihjapfgllokgabQMa
import Derived.Test.YtihjapfgllokgabCopy
namespace Go.Proofs.Ytihjapfgllokgab
open Go.ChangeShapes Go.WideShapes Go.ChangeAt Go.RowKit
set_option linter.unusedVariables false
set_option linter.unusedSimpArgs false
set_option maxRecDepth 20000

/-- A text's bytes. -/
def nums (t : ByteArray) : List Int := t.data.toList.map fun b => (b.toNat : Int)
theorem nums_length (t : ByteArray) : (nums t).length = t.size := by unfold nums; rw [List.length_map]; rfl
theorem nums_tx {l : List Int} (h : Bytes l) : nums (strOfNums l) = l := by
  unfold nums
  rw [strOfNums_data, List.map_map]
  conv => rhs; rw [← List.map_id l]
  apply List.map_congr_left
  intro x hx
  have := h x hx
  simp only [Function.comp, id]
  rw [UInt8.toNat_ofNat']
  omega
theorem tx_inj {a b : List Int} (ha : Bytes a) (hb : Bytes b) (h : strOfNums a = strOfNums b) : a = b := by
  rw [← nums_tx ha, ← nums_tx hb, h]
theorem nums_bytes (t : ByteArray) : Bytes (nums t) := by
  intro y hy
  obtain ⟨b, _, rfl⟩ := List.mem_map.1 hy
  have := b.toNat_lt
  omega
theorem tx_nums (t : ByteArray) : strOfNums (nums t) = t := by
  have e : (strOfNums (nums t)).data.toList = t.data.toList := by
    rw [strOfNums_data]
    unfold nums
    rw [List.map_map]
    conv => rhs; rw [← List.map_id t.data.toList]
    apply List.map_congr_left
    intro x _
    simp [Function.comp]
  have e2 : (strOfNums (nums t)).data = t.data := by rw [← Array.toArray_toList (xs := (strOfNums (nums t)).data), e]
  cases t; cases h : strOfNums (nums ⟨_⟩) with | mk d => rw [h] at e2; exact congrArg _ e2
theorem byteAt_tx {l : List Int} (h : Bytes l) (i : Nat) : byteAt (strOfNums l) i = l.getD i 0 := by
  unfold byteAt
  by_cases hi : i < l.length
  · rw [dif_pos (by rw [strOfNums_size]; exact hi)]
    have e := nums_tx h
    have : (nums (strOfNums l)).getD i 0 = l.getD i 0 := by rw [e]
    rw [← this]
    have hs : i < (strOfNums l).data.size := by have q := strOfNums_size l; have q2 : (strOfNums l).size = (strOfNums l).data.size := rfl; omega
    show (((strOfNums l).data[i]'hs).toNat : Int) = _
    unfold nums
    simp only [List.getD]
    rw [List.getElem?_map, Array.getElem?_toList, Array.getElem?_eq_getElem hs]
    rfl
  · rw [dif_neg (by rw [strOfNums_size]; exact hi)]
    simp [List.getD, List.getElem?_eq_none (by omega : l.length ≤ i)]
theorem Bytes.append {a b : List Int} (ha : Bytes a) (hb : Bytes b) : Bytes (a ++ b) := by
  intro y hy
  rcases List.mem_append.1 hy with h | h
  · exact ha y h
  · exact hb y h
theorem low_bytes (v : Int) (n : Nat) : Bytes (low v n) := by
  intro y hy
  obtain ⟨i, _, rfl⟩ := List.mem_map.1 hy
  omega
theorem zs_bytes (n : Nat) : Bytes (zs n) := by
  intro y hy
  have := List.eq_of_mem_replicate hy
  omega
theorem Bytes.sub {a b : List Int} (hb : Bytes b) (h : ∀ y ∈ a, y ∈ b) : Bytes a := fun y hy => hb y (h y hy)
theorem Bytes.splicing {l m : List Int} (o : Nat) (hl : Bytes l) (hm : Bytes m) : Bytes (splice l o m) := by
  unfold splice
  exact (hl.sub fun _ h => List.mem_of_mem_take h).append (hm.append (hl.sub fun _ h => List.mem_of_mem_drop h))
theorem tx_app {a b : List Int} : strOfNums a ++ strOfNums b = strOfNums (a ++ b) := (strOfNums_append a b).symm

/-- A part of an array as a text. -/
theorem str_part {w : World} {g : Nat} {ys : List Int} {t : TypeId} (h : Row w g (bs ys) t) (o n c : Nat) (zsl : List Int) (hz : (ys.drop o).take n = zsl) (hn : o + n ≤ ys.length) :
    (Go.convert 69 9 (.slice (some ⟨g, o, none⟩) n c)).run Try.prog w = .ok (.string (strOfNums zsl)) w := by
  subst hz
  have hl : ((ys.drop o).take n).length = n := by simp; omega
  refine run_convert_bytes_arg (P := Try.prog) w 69 5 Try.underlying69 Try.underlying5 g o n c ((ys.drop o).take n) hl ?_ 9 Try.underlying9
  intro i hi
  rw [row_cell h (o + i) (by omega)]
  simp [List.getD, hi]
theorem str_row {w : World} {g : Nat} {ys : List Int} {t : TypeId} (h : Row w g (bs ys) t) (n c : Nat) (hn : ys.length = n) :
    (Go.convert 69 9 (.slice (some ⟨g, 0, none⟩) n c)).run Try.prog w = .ok (.string (strOfNums ys)) w :=
  str_part h 0 n c ys (by rw [List.drop_zero, List.take_of_length_le (by omega)]) (by omega)

/-- copy of a text into cells. -/
def laidIn (cur : Array Value) (off : Nat) (ys : List Int) : Array Value := (cur.toList.take off ++ (bs ys).toList ++ cur.toList.drop (off + ys.length)).toArray
theorem laidIn_bs (cur : List Int) (off : Nat) (ys : List Int) : laidIn (bs cur) off ys = bs (splice cur off ys) := by simp [laidIn, bs, splice]
theorem wp_copy_text {P : Program} {o : Oper} {a : Act} {w : World} {K : Act → World → Prop} {Q : Exit → Act → World → Prop} (d s : Operand) (dT sT : TypeId)
    (ho : o.op = .call { callee := .builtin .copy, args := #[d, s], argTypes := #[dT, sT] }) (elem : TypeId) (hu : P.underlying dT = some (.slice elem)) (hsz : (P.info? elem).map (·.size) = some 1)
    (g off dLen dCap : Nat) (hd : a.eval d = .slice (some ⟨g, off, none⟩) dLen dCap) (l : List Int) (hl : Bytes l) (hs : a.eval s = .string (strOfNums l))
    (cur : Array Value) (ty : TypeId) (hg : Row w g cur ty) (hle : l.length ≤ dLen) (hfit : off + l.length ≤ cur.size) (n : Int) (hn : n = l.length)
    (h : K (a.put o.dst (.int .i64 n)) (w.setRow g (laidIn cur off l))) : Oper.wp P o a w K Q := by
  subst hn
  have hlen := strOfNums_size l
  have hst := run_storeCells_at (P := P) g off ty (bs l).toList 0 cur w hg (by simpa [bs] using hfit) (by intro v hv; have := bs_one l; rw [Array.all_eq_true_iff_forall_mem] at this; exact this v (by simpa using hv))
  have e : (cur.toList.take (off + 0) ++ (bs l).toList ++ cur.toList.drop (off + 0 + (bs l).toList.length)).toArray = laidIn cur off l := by
    simp [bs, laidIn]
  rw [e] at hst
  have hmin : Nat.min (strOfNums l).size dLen = l.length := by rw [hlen]; exact Nat.min_eq_left hle
  have hrun : (Builtin.copy_ #[dT, sT] o.type #[.slice (some ⟨g, off, none⟩) dLen dCap, .string (strOfNums l)]).run P w = .ok (goInt l.length) (w.setRow g (laidIn cur off l)) := by
    cases hq : P.info? elem with
    | none => simp [hq] at hsz
    | some i =>
      have hi : i.size = 1 := by simpa [hq] using hsz
      have e4 : List.take l.length (List.map (fun b => Value.int .u8 (b.toNat : Int)) (strOfNums l).data.toList) = (bs l).toList := by
        rw [List.take_of_length_le (by rw [List.length_map, strOfNums_data]; simp)]
        have := nums_tx hl
        unfold nums at this
        have e5 : (bs l).toList = l.map (Value.int .u8) := by simp [bs]
        rw [e5]
        conv => rhs; rw [← this]
        rw [List.map_map]; rfl
      simp [Builtin.copy_, run_underlying hu, Builtin.lenOf, Builtin.firstCells, sizeOf, typeInfo, hq, hi, hmin, e4, hst]
  unfold Oper.wp
  simp [execOp, ho, resolve, invoke, builtin, hd, hs, hrun, Result.andThen]
  exact h
theorem step_copy_text {P : Program} {ops : Array Oper} {o : Oper} {a : Act} {w : World} {K : Act → World → Prop} {Q : Exit → Act → World → Prop} {E : Prop} (hgd : o.guard = none) (d s : Operand) (dT sT : TypeId)
    (ho : o.op = .call { callee := .builtin .copy, args := #[d, s], argTypes := #[dT, sT] }) (elem : TypeId) (hu : P.underlying dT = some (.slice elem)) (hsz : (P.info? elem).map (·.size) = some 1)
    (g off dLen dCap : Nat) (hd : a.eval d = .slice (some ⟨g, off, none⟩) dLen dCap) (l : List Int) (hl : Bytes l) (hs : a.eval s = .string (strOfNums l))
    (cur : Array Value) (ty : TypeId) (hg : Row w g cur ty) (hle : l.length ≤ dLen) (hfit : off + l.length ≤ cur.size) (n : Int) (hn : n = l.length)
    (h : K (a.put o.dst (.int .i64 n)) (w.setRow g (laidIn cur off l))) :
    if Region.wanted o (yielded ops a.tmps) = true then Oper.wp P o a w K Q else E := by
  have hw : Region.wanted o (yielded ops a.tmps) = true := by simp [Region.wanted, hgd]
  rw [if_pos hw]
  exact wp_copy_text d s dT sT ho elem hu hsz g off dLen dCap hd l hl hs cur ty hg hle hfit n hn h
theorem copy_text {P : Program} {ops : Array Oper} {rest : List Oper} {o : Oper} {a : Act} {w : World} {Q : Exit → Act → World → Prop} (hgd : o.guard = none) (d s : Operand) (dT sT : TypeId)
    (ho : o.op = .call { callee := .builtin .copy, args := #[d, s], argTypes := #[dT, sT] }) (elem : TypeId) (hu : P.underlying dT = some (.slice elem)) (hsz : (P.info? elem).map (·.size) = some 1)
    (g off dLen dCap : Nat) (hd : a.eval d = .slice (some ⟨g, off, none⟩) dLen dCap) (l : List Int) (hl : Bytes l) (hs : a.eval s = .string (strOfNums l))
    (cur : Array Value) (ty : TypeId) (hg : Row w g cur ty) (hle : l.length ≤ dLen) (hfit : off + l.length ≤ cur.size) (n : Int) (hn : n = l.length)
    (h : wpList P ops Q rest (a.put o.dst (.int .i64 n)) (w.setRow g (laidIn cur off l))) : wpList P ops Q (o :: rest) a w :=
  wpList_plain hgd fun _ hK => wp_copy_text d s dT sT ho elem hu hsz g off dLen dCap hd l hl hs cur ty hg hle hfit n hn (hK _ _ h)

theorem put_at (v : Int) (n : Nat) (r : List Int) (hr : low v n = r) (hv : 0 ≤ v) (hv' : v ≤ 18446744073709551615) (hn : n ≤ 8) (w : World) :
    Calls Try.prog 46 #[.int .u64 v, .int .i64 n] w fun e w' => e = .returned (.string (strOfNums r)) ∧ Below w.heap.size w w' := by subst hr; exact put_any v n w hv hv' hn
/-- The text of a Ref. -/
def refT (p s : Int) : List Int := low p 2 ++ low s 1
theorem refT_length (p s : Int) : (refT p s).length = 3 := by simp [refT, low_length]
theorem refT_bytes (p s : Int) : Bytes (refT p s) := (low_bytes _ _).append (low_bytes _ _)
set_option maxHeartbeats 1000000 in
theorem ref_any (p s : Int) (w : World) (hp : 0 ≤ p ∧ p ≤ 65535) (hs : 0 ≤ s ∧ s ≤ 255) :
    Calls Try.prog 49 #[.agg #[.int .u16 p, .int .u8 s]] w fun e w' => e = .returned (.string (strOfNums (refT p s))) ∧ Below w.heap.size w w' := by
  have r0 : Row (w.alloc (.cells #[.int .u16 p, .int .u8 s] 33)) w.heap.size #[.int .u16 p, .int .u8 s] 33 := Row.new _ _ _
  have b0 : Below w.heap.size w (w.alloc (.cells #[.int .u16 p, .int .u8 s] 33)) := (Below.refl _ _).alloc (Nat.le_refl _) _
  have HA : Hid (strOfNums (low p 2) ++ strOfNums (low s 1) = strOfNums (refT p s)) := tx_app
  have e1 : IntKind.u64.wrap p = p := by rw [IntKind.wrap_u64]; omega
  have e2 : IntKind.u64.wrap s = s := by rw [IntKind.wrap_u64]; omega
  have hz1 : (strOfNums (low p 2)).size = 2 := rfl
  have hz2 : (strOfNums (low s 1)).size = 1 := rfl
  go_enter Try.func49, Try.ntmps49
  go_upto_region 1 with fail
  generalize w.alloc (.cells #[.int .u16 p, .int .u8 s] 33) = w1 at r0 b0 ⊢
  refine wp_region_held_drew (S := fun w' => Row w' w.heap.size #[.int .u16 p, .int .u8 s] 33 ∧ Below w.heap.size w w') (by kernel_rfl) ⟨r0, b0.drew⟩ fun hS => ?_
  clear r0 b0
  refine wpAnyH_take (i := 0) (v := .pointer (some ⟨w.heap.size, 0, none⟩)) rfl (by kernel_rfl) (by kernel_rfl) (by kernel_rfl) (fun _ _ _ h => h) (Or.inl ⟨by rfl, fun w _ => by go_simp⟩) hS ?_
  try simp only [Act.put, List.getElem_toArray, List.getElem_cons_zero, List.getElem_cons_succ, List.setIfInBounds_toArray, List.set_cons_zero, List.set_cons_succ]
  refine wpAnyH_take (i := 1) (v := .int .u16 p) rfl (by kernel_rfl) (by kernel_rfl) (by kernel_rfl) (fun _ _ _ h => h) (Or.inl ⟨by rfl, fun w h => by have c := row_at h.1 0 _ rfl; go_simp⟩) hS ?_
  try simp only [Act.put, List.getElem_toArray, List.getElem_cons_zero, List.getElem_cons_succ, List.setIfInBounds_toArray, List.set_cons_zero, List.set_cons_succ]
  refine wpAnyH_take (i := 2) (v := .int .u64 p) rfl (by kernel_rfl) (by kernel_rfl) (by kernel_rfl) (fun _ _ _ h => h) (Or.inl ⟨by rfl, fun w _ => by go_simp⟩) hS ?_
  try simp only [Act.put, List.getElem_toArray, List.getElem_cons_zero, List.getElem_cons_succ, List.setIfInBounds_toArray, List.set_cons_zero, List.set_cons_succ]
  refine wpAnyH_take (i := 4) (v := .pointer (some ⟨w.heap.size, 1, none⟩)) rfl (by kernel_rfl) (by kernel_rfl) (by kernel_rfl) (fun _ _ _ h => h) (Or.inl ⟨by rfl, fun w _ => by go_simp⟩) hS ?_
  try simp only [Act.put, List.getElem_toArray, List.getElem_cons_zero, List.getElem_cons_succ, List.setIfInBounds_toArray, List.set_cons_zero, List.set_cons_succ]
  refine wpAnyH_take (i := 5) (v := .int .u8 s) rfl (by kernel_rfl) (by kernel_rfl) (by kernel_rfl) (fun _ _ _ h => h) (Or.inl ⟨by rfl, fun w h => by have c := row_at h.1 1 _ rfl; go_simp⟩) hS ?_
  try simp only [Act.put, List.getElem_toArray, List.getElem_cons_zero, List.getElem_cons_succ, List.setIfInBounds_toArray, List.set_cons_zero, List.set_cons_succ]
  refine wpAnyH_take (i := 6) (v := .int .u64 s) rfl (by kernel_rfl) (by kernel_rfl) (by kernel_rfl) (fun _ _ _ h => h) (Or.inl ⟨by rfl, fun w _ => by go_simp⟩) hS ?_
  try simp only [Act.put, List.getElem_toArray, List.getElem_cons_zero, List.getElem_cons_succ, List.setIfInBounds_toArray, List.set_cons_zero, List.set_cons_succ]
  refine wpAnyH_ready (rs := [3]) (by kernel_rfl) (by simp) ?_
  refine AllReadyH.cons rfl (fun K hK => ?_) AllReadyH.nil
  go_simp
  go_at_call 46
  refine (put_any p 2 _ (by omega) (by omega) (by decide)).mono ?_
  rintro e wc ⟨rfl, hcb⟩
  refine hK.out _ _ (⟨hS.1.below hcb hS.1.lt, hS.2.trans (hcb.mono hS.2.size)⟩) fun hS => ?_
  try simp only [Act.put, List.getElem_toArray, List.getElem_cons_zero, List.getElem_cons_succ, List.setIfInBounds_toArray, List.set_cons_zero, List.set_cons_succ]
  refine wpAnyH_ready (rs := [7]) (by kernel_rfl) (by simp) ?_
  refine AllReadyH.cons rfl (fun K hK => ?_) AllReadyH.nil
  go_simp
  go_at_call 46
  refine (put_any s 1 _ (by omega) (by omega) (by decide)).mono ?_
  rintro e wc ⟨rfl, hcb⟩
  refine hK.out _ _ (⟨hS.1.below hcb hS.1.lt, hS.2.trans (hcb.mono hS.2.size)⟩) fun hS => ?_
  try simp only [Act.put, List.getElem_toArray, List.getElem_cons_zero, List.getElem_cons_succ, List.setIfInBounds_toArray, List.set_cons_zero, List.set_cons_succ]
  refine wpAnyH_take (i := 8) (v := .string (strOfNums (refT p s))) rfl (by kernel_rfl) (by kernel_rfl) (by kernel_rfl) (fun _ _ _ h => h) (Or.inl ⟨by rfl, fun w _ => by go_simp; exact HA.out⟩) hS ?_
  try simp only [Act.put, List.getElem_toArray, List.getElem_cons_zero, List.getElem_cons_succ, List.setIfInBounds_toArray, List.set_cons_zero, List.set_cons_succ]
  refine wpAnyH_take (i := 9) (v := .string (strOfNums (refT p s))) rfl (by kernel_rfl) (by kernel_rfl) (by kernel_rfl) (fun _ _ _ h => h) (Or.inl ⟨by rfl, fun w _ => by go_simp⟩) hS ?_
  try simp only [Act.put, List.getElem_toArray, List.getElem_cons_zero, List.getElem_cons_succ, List.setIfInBounds_toArray, List.set_cons_zero, List.set_cons_succ]
  refine wpAnyH_done (by kernel_rfl) ?_ _
  go_wp2
  go_ret
  exact ⟨rfl, hS.2⟩

/-- A page's head, without its sum. -/
def headT (k no lsn : Int) : List Int := low k 1 ++ low no 2 ++ low 0 4 ++ low lsn 8
theorem headT_length (k no lsn : Int) : (headT k no lsn).length = 15 := by simp [headT, low_length]
theorem headT_bytes (k no lsn : Int) : Bytes (headT k no lsn) := (((low_bytes _ _).append (low_bytes _ _)).append (low_bytes _ _)).append (low_bytes _ _)
/-- A text as a payload: noughts behind. -/
def padT (l : List Int) : List Int := splice (zs 224) 0 l
theorem padT_length (l : List Int) (h : l.length ≤ 224) : (padT l).length = 224 := by unfold padT; rw [length_splice _ _ _ (by rw [zs_length]; omega), zs_length]
theorem padT_bytes (l : List Int) (h : Bytes l) : Bytes (padT l) := (zs_bytes _).splicing _ h
/-- A text's sum. -/
def sumT (l : List Int) : Int := u (more 0#32 (strOfNums l))
theorem sumT_fits (l : List Int) : 0 ≤ sumT l ∧ sumT l ≤ 4294967295 := u_fits _
/-- A payload with its sum laid in. -/
def sealT (q : List Int) : List Int := splice q 3 (low (sumT q) 4)
theorem sealT_length (q : List Int) (h : q.length = 224) : (sealT q).length = 224 := by unfold sealT; rw [length_splice _ _ _ (by rw [low_length]; omega), h]
theorem sealT_bytes (q : List Int) (h : Bytes q) : Bytes (sealT q) := h.splicing _ (low_bytes _ _)
/-- The payload of a head and a text. -/
def payT (k no lsn : Int) (t : List Int) : List Int := sealT (padT (headT k no lsn ++ t))
theorem payT_length (k no lsn : Int) (t : List Int) (h : t.length ≤ 209) : (payT k no lsn t).length = 224 := sealT_length _ (padT_length _ (by rw [List.length_append, headT_length]; omega))
theorem payT_bytes (k no lsn : Int) (t : List Int) (h : Bytes t) : Bytes (payT k no lsn t) := sealT_bytes _ (padT_bytes _ ((headT_bytes _ _ _).append h))
theorem slice26 (g : Nat) (w : World) : (Instr.sliceAt 26 (.pointer (some ⟨g, 0, none⟩)) none none none).run Try.prog w = .ok (.slice (some ⟨g, 0, none⟩) 224 224) w := by go_simp
theorem slice26' (g : Nat) (w : World) : (Instr.sliceAt 26 (.pointer (some ⟨g, 0, none⟩)) (some (.int .i64 3)) none none).run Try.prog w = .ok (.slice (some ⟨g, 3, none⟩) 221 221) w := by go_simp

set_option maxHeartbeats 1000000 in
theorem payload_any (k no lsn : Int) (t : List Int) (w : World) (hk : 0 ≤ k ∧ k ≤ 255) (hno : 0 ≤ no ∧ no ≤ 65535) (hl : 0 ≤ lsn ∧ lsn ≤ 18446744073709551615) (ht : t.length ≤ 209) (hty : Bytes t) :
    Calls Try.prog 48 #[.int .u64 k, .int .u16 no, .int .u64 lsn, .string (strOfNums t)] w fun e w' => e = .returned (.agg (bs (payT k no lsn t))) ∧ Below w.heap.size w w' := by
  have hz := zero26
  have r0 : Row (w.alloc (.cells (bs (zs 224)) 26)) w.heap.size (bs (zs 224)) 26 := Row.new _ _ _
  have b0 : Below w.heap.size w (w.alloc (.cells (bs (zs 224)) 26)) := (Below.refl _ _).alloc (Nat.le_refl _) _
  have ewn : IntKind.u64.wrap no = no := by rw [IntKind.wrap_u64]; omega
  obtain ⟨H, HH⟩ : ∃ H, Hid (headT k no lsn = H) := ⟨_, rfl⟩
  obtain ⟨K1, HK1⟩ : ∃ A, Hid (low k 1 = A) := ⟨_, rfl⟩
  obtain ⟨N2, HN2⟩ : ∃ A, Hid (low no 2 = A) := ⟨_, rfl⟩
  obtain ⟨Z4, HZ4⟩ : ∃ A, Hid (low 0 4 = A) := ⟨_, rfl⟩
  obtain ⟨L8, HL8⟩ : ∃ A, Hid (low lsn 8 = A) := ⟨_, rfl⟩
  obtain ⟨A2, HA2⟩ : ∃ A, Hid (K1 ++ N2 = A) := ⟨_, rfl⟩
  obtain ⟨A3, HA3⟩ : ∃ A, Hid (A2 ++ Z4 = A) := ⟨_, rfl⟩
  have ha1 : strOfNums K1 ++ strOfNums N2 = strOfNums A2 := by rw [tx_app, HA2.out]
  have ha2 : strOfNums A2 ++ strOfNums Z4 = strOfNums A3 := by rw [tx_app, HA3.out]
  have ha3 : strOfNums A3 ++ strOfNums L8 = strOfNums H := by rw [tx_app, ← HA3.out, ← HA2.out, ← HK1.out, ← HN2.out, ← HZ4.out, ← HL8.out, ← HH.out]; rfl
  have hz1 : (strOfNums K1).size = 1 := by rw [strOfNums_size, ← HK1.out, low_length]
  have hz2 : (strOfNums N2).size = 2 := by rw [strOfNums_size, ← HN2.out, low_length]
  have hz4 : (strOfNums Z4).size = 4 := by rw [strOfNums_size, ← HZ4.out, low_length]
  have hz6 : (strOfNums L8).size = 8 := by rw [strOfNums_size, ← HL8.out, low_length]
  have hz3 : (strOfNums A2).size = 3 := by rw [← ha1, ByteArray.size_append, hz1, hz2]
  have hz5 : (strOfNums A3).size = 7 := by rw [← ha2, ByteArray.size_append, hz3, hz4]
  have P1 : Hid _ := put_at k 1 K1 HK1.out (by omega) (by omega) (by decide)
  have P2 : Hid _ := put_at no 2 N2 HN2.out (by omega) (by omega) (by decide)
  have P3 : Hid _ := put_at 0 4 Z4 HZ4.out (by omega) (by omega) (by decide)
  have P4 : Hid _ := put_at lsn 8 L8 HL8.out (by omega) (by omega) (by decide)
  have hH15 : H.length = 15 := by rw [← HH.out]; exact headT_length _ _ _
  have hHb : Bytes H := by rw [← HH.out]; exact headT_bytes _ _ _
  have hz7 : (strOfNums H).size = 15 := by rw [strOfNums_size, hH15]
  have hz8 : (strOfNums t).size = t.length := strOfNums_size t
  have ha4 : strOfNums H ++ strOfNums t = strOfNums (H ++ t) := tx_app
  go_enter Try.func48, Try.ntmps48
  go_upto_region 2 with (first
    | (go_at_call 46; refine (P1.out _).mono ?_; clear P1; rintro e w1 ⟨rfl, h1⟩)
    | (go_at_call 46; refine (P2.out _).mono ?_; clear P2; rintro e w2 ⟨rfl, h2⟩)
    | (go_at_call 46; refine (P3.out _).mono ?_; clear P3; rintro e w3 ⟨rfl, h3⟩)
    | (go_at_call 46; refine (P4.out _).mono ?_; clear P4; rintro e w4 ⟨rfl, h4⟩))
  have b4 : Below w.heap.size w w4 := (((b0.trans (h1.mono b0.size)).trans (h2.mono (b0.trans (h1.mono b0.size)).size)).trans (h3.mono ((b0.trans (h1.mono b0.size)).trans (h2.mono (b0.trans (h1.mono b0.size)).size)).size)).trans (h4.mono (((b0.trans (h1.mono b0.size)).trans (h2.mono (b0.trans (h1.mono b0.size)).size)).trans (h3.mono ((b0.trans (h1.mono b0.size)).trans (h2.mono (b0.trans (h1.mono b0.size)).size)).size)).size)
  have s1 := r0.below h1 r0.lt
  have s2 := s1.below h2 s1.lt
  have s3 := s2.below h3 s2.lt
  have s4 := s3.below h4 s3.lt
  clear r0 b0 s1 s2 s3 h1 h2 h3 h4 ha1 ha2 ha3 hz1 hz2 hz3 hz4 hz5 hz6
  have hgt := s4.lt
  have a0 := s4.alloc (.cells (bs (zs 224)) 26)
  have a1 : Row (w4.alloc (.cells (bs (zs 224)) 26)) w4.heap.size (bs (zs 224)) 26 := Row.new _ _ _
  have ab : Below w.heap.size w (w4.alloc (.cells (bs (zs 224)) 26)) := b4.alloc b4.size _
  have hlen : (H ++ t).length ≤ 224 := by rw [List.length_append]; omega
  have hfit : 0 + (H ++ t).length ≤ (bs (zs 224)).size := by rw [bs_size, zs_length]; omega
  have hby : Bytes (H ++ t) := hHb.append hty
  obtain ⟨n, HN⟩ : ∃ n : Int, Hid (n = ((H ++ t).length : Int)) := ⟨_, rfl⟩
  go_upto_region 4 with (refine copy_text rfl (.tmp 22) (.tmp 25) 69 9 rfl 5 Try.underlying69 size5 w4.heap.size 0 224 224 rfl (H ++ t) hby rfl (bs (zs 224)) 26 a1 hlen hfit n HN.out ?_)
  have c0 : Row ((w4.alloc (.cells (bs (zs 224)) 26)).setRow w4.heap.size (laidIn (bs (zs 224)) 0 (H ++ t))) w.heap.size (bs (zs 224)) 26 := a0.other (by omega) _
  have c1 : Row ((w4.alloc (.cells (bs (zs 224)) 26)).setRow w4.heap.size (laidIn (bs (zs 224)) 0 (H ++ t))) w4.heap.size (bs (padT (H ++ t))) 26 := by have := a1.set (laidIn (bs (zs 224)) 0 (H ++ t)); rw [laidIn_bs] at this ⊢; exact this
  have cb : Below w.heap.size w ((w4.alloc (.cells (bs (zs 224)) 26)).setRow w4.heap.size (laidIn (bs (zs 224)) 0 (H ++ t))) := below_setRow ab b4.size _
  clear a0 a1 ab s4
  generalize (w4.alloc (.cells (bs (zs 224)) 26)).setRow w4.heap.size (laidIn (bs (zs 224)) 0 (H ++ t)) = w5 at c0 c1 cb ⊢
  have hg2 := b4.size
  generalize w4.heap.size = g at c1 hg2 hgt ⊢
  have hql := padT_length (H ++ t) hlen
  have hqb := padT_bytes (H ++ t) hby
  obtain ⟨q, HQ⟩ : ∃ q, Hid (padT (H ++ t) = q) := ⟨_, rfl⟩
  rw [HQ.out] at c1 hql hqb
  obtain ⟨sm, HS⟩ : ∃ x, Hid (sumT q = x) := ⟨_, rfl⟩
  have hsf := sumT_fits q
  rw [HS.out] at hsf
  have ews : IntKind.u64.wrap sm = sm := by rw [IntKind.wrap_u64]; omega
  have hqz : (strOfNums q).size ≤ maxLen := by rw [strOfNums_size, hql]; unfold maxLen; omega
  have HRES : Hid (bs (payT k no lsn t) = laidIn (bs q) 3 (low sm 4)) := by show _ = _; rw [laidIn_bs, ← HS.out, ← HQ.out, ← HH.out]; rfl
  have hRl := payT_length k no lsn t ht
  refine wp_region_held_drew (S := fun w' => Row w' w.heap.size (bs (zs 224)) 26 ∧ Below w.heap.size w w') (by kernel_rfl) ⟨c0, cb.drew⟩ fun hS => ?_
  have c2 : Row w5.drew g (bs q) 26 := c1
  clear c0 c1 cb
  refine wpAnyH_take (i := 0) (v := .slice (some ⟨g, 3, none⟩) 221 221) rfl (by kernel_rfl) (by kernel_rfl) (by kernel_rfl) (fun _ _ _ h => h) (Or.inl ⟨by rfl, fun w _ => by go_simp⟩) hS ?_
  try simp only [Act.put, List.getElem_toArray, List.getElem_cons_zero, List.getElem_cons_succ, List.setIfInBounds_toArray, List.set_cons_zero, List.set_cons_succ]
  refine wpAnyH_take (i := 1) (v := .slice (some ⟨g, 0, none⟩) 224 224) rfl (by kernel_rfl) (by kernel_rfl) (by kernel_rfl) (fun _ _ _ h => h) (Or.inl ⟨by rfl, fun w _ => by go_simp⟩) hS ?_
  try simp only [Act.put, List.getElem_toArray, List.getElem_cons_zero, List.getElem_cons_succ, List.setIfInBounds_toArray, List.set_cons_zero, List.set_cons_succ]
  refine wpAnyH_ready (rs := [2]) (by kernel_rfl) (by simp) ?_
  refine AllReadyH.cons rfl (fun K hK => ?_) AllReadyH.nil
  have cc := str_row c2 224 224 hql
  go_simp
  refine hK.out _ _ (hS) fun hS => ?_
  try simp only [Act.put, List.getElem_toArray, List.getElem_cons_zero, List.getElem_cons_succ, List.setIfInBounds_toArray, List.set_cons_zero, List.set_cons_succ]
  clear cc
  refine wpAnyH_ready (rs := [3]) (by kernel_rfl) (by simp) ?_
  refine AllReadyH.cons rfl (fun K hK => ?_) AllReadyH.nil
  go_simp
  go_at_call 64
  refine (sum_any (strOfNums q) _ hqz).mono ?_
  have HS2 : u (more 0#32 (strOfNums q)) = sm := HS.out
  rw [HS2]
  clear HS2
  rintro e wc ⟨rfl, rfl⟩
  refine hK.out _ _ (hS) fun hS => ?_
  try simp only [Act.put, List.getElem_toArray, List.getElem_cons_zero, List.getElem_cons_succ, List.setIfInBounds_toArray, List.set_cons_zero, List.set_cons_succ]
  refine wpAnyH_take (i := 4) (v := .int .u64 sm) rfl (by kernel_rfl) (by kernel_rfl) (by kernel_rfl) (fun _ _ _ h => h) (Or.inl ⟨by rfl, fun w _ => by go_simp⟩) hS ?_
  try simp only [Act.put, List.getElem_toArray, List.getElem_cons_zero, List.getElem_cons_succ, List.setIfInBounds_toArray, List.set_cons_zero, List.set_cons_succ]
  refine wpAnyH_ready (rs := [5]) (by kernel_rfl) (by simp) ?_
  refine AllReadyH.cons rfl (fun K hK => ?_) AllReadyH.nil
  go_simp
  go_at_call 46
  refine (put_any sm 4 _ (by omega) (by omega) (by decide)).mono ?_
  rintro e wc ⟨rfl, hcb⟩
  refine hK.out _ _ (⟨hS.1.below hcb hS.1.lt, hS.2.trans (hcb.mono hS.2.size)⟩) fun hS => ?_
  try simp only [Act.put, List.getElem_toArray, List.getElem_cons_zero, List.getElem_cons_succ, List.setIfInBounds_toArray, List.set_cons_zero, List.set_cons_succ]
  have c3 := c2.below hcb c2.lt
  refine wpAnyH_ready (rs := [6]) (by kernel_rfl) (by simp) ?_
  refine AllReadyH.cons rfl (fun K hK => step_copy_text rfl (.tmp 27) (.tmp 32) 69 9 rfl 5 Try.underlying69 size5 g 3 221 221 rfl (low sm 4) (low_bytes _ _) rfl (bs q) 26 c3 (by rw [low_length]; omega) (by rw [low_length, bs_size, hql]; omega) 4 rfl (hK.out _ _ ⟨hS.1.other (by omega) _, below_setRow hS.2 hg2 _⟩ fun hS => ?_)) AllReadyH.nil
  try simp only [Act.put, List.getElem_toArray, List.getElem_cons_zero, List.getElem_cons_succ, List.setIfInBounds_toArray, List.set_cons_zero, List.set_cons_succ]
  have c4 := c3.set (laidIn (bs q) 3 (low sm 4))
  rw [← HRES.out] at c4 hS ⊢
  refine wpAnyH_done (by kernel_rfl) ?_ _
  go_wp2_with (first
    | (refine load_row rfl 26 (.tmp 10) rfl g rfl 26 (bs (payT k no lsn t)) c4 224 5 Try.underlying26 size26 (by rw [bs_size, hRl]) ?_)
    | (refine store_row rfl 26 (.tmp 8) (.tmp 34) rfl w.heap.size (payT k no lsn t) rfl rfl 26 _ hS.1 224 size26 (by rw [bs_size, zs_length]) hRl ?_))
  refine bodyPost_ret (v := .agg (bs (payT k no lsn t))) ?_ rfl ⟨rfl, below_setRow hS.2 (Nat.le_refl _) _⟩
  exact ret_row (fn := Try.f48) rfl _ _ w.heap.size 26 (bs (payT k no lsn t)) 224 5 rfl (hS.1.set _) Try.underlying26 size26 (by rw [bs_size, hRl])
end Go.Proofs.Ytihjapfgllokgab
