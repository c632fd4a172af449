/-
  Proved here: what the document's machine tells of a page that a transaction has written.
-/
import Derived.Test.YtpncmbkklkfmnaaMrg
namespace Go.Proofs.Ytpncmbkklkfmnaa
open Go.ChangeShapes Go.WideShapes Go.ChangeAt Go.RowKit
open Go.Deep Go.Maps
set_option linter.unusedVariables false
set_option linter.unusedSimpArgs false
set_option maxRecDepth 20000

theorem ret_two {P : Program} {fn : Func} {p c : Tmp} {ty : TypeId} (h : fn.results = #[.cell p ty, .tmp c]) (tmps : Array Value) (w : World) (g : Nat) (t : TypeId) (cs : Array Value) (n : Nat) (e : TypeId) (y : Value)
    (hp : tmps.getD p undef = .pointer (some ⟨g, 0, none⟩)) (hc : tmps.getD c undef = y) (hg : Row w g cs t)
    (hu : P.underlying ty = some (.array n e)) (hi : (P.info? ty).map (·.size) = some n) (hn : cs.size = n) :
    (results fn tmps).run P w = .ok (.tuple #[.agg cs, y]) w := by
  have hp' : tmps[p]?.getD undef = .pointer (some ⟨g, 0, none⟩) := by simpa using hp
  have hc' : tmps[c]?.getD undef = y := by simpa using hc
  simp [results, h, hp', hc', asAddr, run_loadVar_row w g t ty cs (0, 0) _ hg hu rfl (by rw [hi, hn])]
theorem wrR_step {ds : List Dn} {j : Nat} {d : Dn} (h : ds[j]? = some d) (x k : Int) (b : List Int) : wrR' (ds.take (j + 1)) x k b = wrS x k (wrR' (ds.take j) x k b) d := by
  rw [take_snoc h]
  unfold wrR'
  rw [List.foldl_append]
  rfl
theorem index9 (s : ByteArray) (m : Nat) (h : m < s.size) (w : World) : (Instr.index 9 (.string s) (.int .i64 (m : Int))).run Try.prog w = .ok (.int .u8 ((nums s).getD m 0)) w := by
  unfold Instr.index asIntOf
  have e : (nums s).getD m 0 = ((s[m]'h).toNat : Int) := by
    have hl : m < s.data.toList.length := by simpa using h
    simp [nums, List.getD, List.getElem?_map, List.getElem?_eq_getElem hl]
    rfl
  rw [e]
  simp [Sem.run_bind, run_underlying Try.underlying9, h]
theorem splice_next (b l : List Int) (o m : Nat) (h : m < l.length) (hb : o + l.length ≤ b.length) : (splice b o (l.take m)).set (o + m) (l.getD m 0) = splice b o (l.take (m + 1)) := by
  refine List.ext_getElem? fun i => ?_
  unfold splice
  have h1 : (l.take m).length = m := by rw [List.length_take]; omega
  have h2 : (l.take (m + 1)).length = m + 1 := by rw [List.length_take]; omega
  have h3 : (b.take o).length = o := by rw [List.length_take]; omega
  have hg : l[m]? = some (l.getD m 0) := by simp [List.getD, h]
  have e : l.take (m + 1) = l.take m ++ [l.getD m 0] := by rw [List.take_add_one, hg]; rfl
  rw [List.getElem?_set, h1, h2]
  by_cases q : o + m = i
  · subst q
    rw [if_pos rfl, if_pos (by simp [h1, h3]; omega), e]
    simp only [List.append_assoc]
    rw [List.getElem?_append_right (by omega), h3, List.getElem?_append_right (by omega), h1]
    simp
  · rw [if_neg q, e]
    simp only [List.append_assoc]
    by_cases q2 : i < o
    · have a1 : ∀ Y : List Int, (b.take o ++ Y)[i]? = (b.take o)[i]? := fun Y => List.getElem?_append_left (by omega)
      rw [a1, a1]
    · have a2 : ∀ Y : List Int, (b.take o ++ Y)[i]? = Y[i - o]? := fun Y => by rw [List.getElem?_append_right (by omega), h3]
      rw [a2, a2]
      by_cases q3 : i < o + m
      · have a3 : ∀ Y : List Int, (l.take m ++ Y)[i - o]? = (l.take m)[i - o]? := fun Y => List.getElem?_append_left (by omega)
        rw [a3, a3]
      · have a4 : ∀ Y : List Int, (l.take m ++ Y)[i - o]? = Y[i - o - m]? := fun Y => by rw [List.getElem?_append_right (by omega), h1]
        have a5 : ∀ (z : Int) (Y : List Int), ([z] ++ Y)[i - o - m]? = Y[i - o - m - 1]? := fun z Y => by rw [List.getElem?_append_right (by simp; omega)]; rfl
        rw [a4, a4, a5, List.getElem?_drop, List.getElem?_drop]
        congr 1
        omega
/-- Writes that were done lie within a body. -/
def Fit (ds : List Dn) : Prop := ∀ d ∈ ds, d.c.kind = 2 → d.r.err = 0 → fitsB d.c.off d.c.str = true
set_option maxHeartbeats 8000000 in
theorem wrote_ref {w0 w : World} {r n : Nat} {mx : Int} {v : Value} {ds : List Dn} (h : RM w0 w r n mx v ds) (hft : Fit ds) (x k : Int) (was : List Int) (hwas : Wr was) : Calls Try.prog 26 #[.pointer (some ⟨r, 0, none⟩), .int .u64 x, .int .u16 k, .agg (bs was)] w fun e w' => e = .returned (.tuple #[.agg (bs (wrR' ds x k was).1), .bool (wrR' ds x k was).2]) ∧ Below w.heap.size w w' := by
  have hbw : Below w.heap.size w ((w.alloc (.cells (bs was) 38)).alloc (.cells (bs (zs 64)) 38)) := ((Below.refl _ _).alloc (Nat.le_refl _) _).alloc (by simp) _
  have HFT : Hid (∀ d ∈ ds, d.c.kind = 2 → d.r.err = 0 → fitsB d.c.off d.c.str = true) := hft
  have ra0 : Row ((w.alloc (.cells (bs was) 38)).alloc (.cells (bs (zs 64)) 38)) w.heap.size (bs was) 38 := (Row.new _ _ _).alloc _
  have e1 : (w.alloc (.cells (bs was) 38)).heap.size = w.heap.size + 1 := Array.size_push ..
  have rz0 : Row ((w.alloc (.cells (bs was) 38)).alloc (.cells (bs (zs 64)) 38)) (w.heap.size + 1) (bs (zs 64)) 38 := by have := Row.new (w.alloc (.cells (bs was) 38)) (bs (zs 64)) 38; rw [e1] at this; exact this
  obtain ⟨oa, cap, rfl, hel⟩ := h.form
  have HEL : Hid (∀ i d, ds[i]? = some d → ∃ a : Addr, oa = some a ∧ ∀ j u, d.cells[j]? = some u → w.cell? ((a.add (i * 72)).add j) = some u) := hel
  have HOKD : Hid (∀ d ∈ ds, d.Ok) := h.ok
  have c2 := row_at h.row 2 _ rfl
  have hfew := h.few
  obtain ⟨N, HN⟩ : ∃ N, Hid (ds.length = N) := ⟨_, rfl⟩
  rw [HN.out] at c2 hfew
  have hz63 := zero63
  have HZ63 : Hid (Dn.zero.arr.size = 72) := Dn.arr_size Dn.zero_ok
  generalize Dn.zero.arr = Z63 at hz63 HZ63
  clear hel
  obtain ⟨PP, HPP⟩ : ∃ PP : Ending → World → Prop, Hid (PP = fun e w' => e = .returned (.tuple #[.agg (bs (wrR' ds x k was).1), .bool (wrR' ds x k was).2]) ∧ Below w.heap.size w w') := ⟨_, rfl⟩
  rw [← HPP.out]
  have c2W := cell_keep c2 hbw
  have hz38 := zero38
  have HZ8 : Hid ((bs (zs 64)).size = 64) := by rw [bs_size]; exact zs_length _
  have HI0 : Hid (wrR' (ds.take 0) x k was = (was, false) ∧ Wr was) := ⟨rfl, hwas⟩
  obtain ⟨WW, HWW⟩ : ∃ WW, Hid ((w.alloc (.cells (bs was) 38)).alloc (.cells (bs (zs 64)) 38) = WW) := ⟨_, rfl⟩
  rw [HWW.out] at hbw ra0 rz0 c2W
  clear h hwas e1 c2
  go_enter Try.func26, Try.ntmps26
  go_upto_region 1 with fail
  rw [HWW.out]
  obtain ⟨Z8, HZ8D⟩ : ∃ Z8, Hid (bs (zs 64) = Z8) := ⟨_, rfl⟩
  rw [HZ8D.out] at rz0 HZ8 hz38
  obtain ⟨A0, HA0⟩ : ∃ A0, Hid (w.heap.size = A0) := ⟨_, rfl⟩
  rw [HA0.out] at ra0 rz0 ⊢
  go_upto_region 3 with fail
  clear c2W
  go_loopw [10, 12, 13, 19] (fun o _ _ i wr => ∃ (j : Nat) (b : List Int) (ok : Bool), i = .int .i64 j ∧ j ≤ N ∧ Row wr A0 (bs b) 38 ∧ Row wr (A0 + 1) Z8 38 ∧ Below w.heap.size w wr ∧ o = .bool ok ∧ Hid (wrR' (ds.take j) x k was = (b, ok) ∧ Wr b)) (fun _ _ _ i _ => N - (intOf i).toNat)
  case atStart => exact ⟨0, was, false, rfl, Nat.zero_le _, ra0, rz0, hbw, rfl, HI0⟩
  case round =>
    clear ra0 rz0 hbw HI0
    obtain ⟨j, b, ok, rfl, hj, ra, rz, rb, rfl, HI⟩ := hrel
    by_cases hlt : (j : Int) < N
    · have hzl := rz.lt
      obtain ⟨d, hd⟩ : ∃ d, ds[j]? = some d := ⟨_, List.getElem?_eq_getElem (by rw [HN.out]; omega)⟩
      obtain ⟨a, rfl, hcell⟩ := HEL.out j d hd
      have hcell2 : ∀ i u, d.cells[i]? = some u → wr.cell? ((a.add (j * 72)).add i) = some u := fun i u h => cell_keep (hcell i u h) rb
      have HDK : Hid d.Ok := HOKD.out d (List.mem_of_getElem? hd)
      have HJ : Hid (ds[j]? = some d) := hd
      have rn : Row (wr.alloc (.cells Z63 63)) wr.heap.size Z63 63 := Row.new _ _ _
      obtain ⟨DA, HDA⟩ : ∃ DA, Hid (d.arr = DA) := ⟨_, rfl⟩
      have HAR : Hid (d.cells.toArray = DA) := by rw [← HDA.out]; rfl
      have HDL : Hid (d.cells.length = 72) := Dn.cells_length HDK.out
      have HDS : Hid (DA.size = 72) := by rw [← HDA.out]; exact Dn.arr_size HDK.out
      have HDO : Hid (DA.all (·.oneCell') = true) := by rw [← HDA.out]; exact d.one
      have HDC : Hid (DA[0]? = some (.int .u8 d.c.kind) ∧ DA[1]? = some (.int .u64 d.c.txn) ∧ DA[2]? = some (.int .u16 d.c.page) ∧ DA[3]? = some (.int .i64 d.c.off) ∧ DA[4]? = some (.string d.c.str) ∧ DA[5]? = some (.int .i64 d.r.err) ∧ DA[6]? = some (.int .u64 d.r.txn) ∧ DA[7]? = some (.int .u32 d.r.ts)) := by rw [← HDA.out]; exact ⟨rfl, rfl, rfl, rfl, rfl, rfl, rfl, rfl⟩
      have bX : Below wr.heap.size wr ((wr.alloc (.cells Z63 63)).setRow wr.heap.size DA) := below_setRow ((Below.refl _ _).alloc (Nat.le_refl _) _) (Nat.le_refl _) _
      have rX : Row ((wr.alloc (.cells Z63 63)).setRow wr.heap.size DA) wr.heap.size DA 63 := rn.set _
      have rb3 := rb.trans (bX.mono rb.size)
      have hw1 : IntKind.i64.wrap ((j : Int) + 1) = ((j + 1 : Nat) : Int) := by rw [IntKind.wrap_i64]; omega
      clear hcell hd
      have tl : Hid (1 = 1) := rfl
      have ts : Hid (1 = 1) := rfl
      go_upto_region 5 with (first
        | (have hh := tl; clear hh tl; refine wpList_load_any rfl 63 (.tmp 21) rfl _ rfl d.cells _ hcell2 Try.underlying63 rfl (by rw [size63, HDL.out]) ?_; rw [HAR.out])
        | (have hh := ts; clear hh ts; refine store_cells rfl 63 (.tmp 12) (.tmp 22) rfl wr.heap.size DA rfl rfl 63 _ rn 72 size63 HZ63.out HDS.out HDO.out ?_))
      clear rn hcell2
      have ra3 := ra.below bX (Nat.lt_of_succ_lt hzl)
      have rz3 := rz.below bX hzl
      have HXA : Hid (A0 + 1 < wr.heap.size) := hzl
      clear ra rz hzl
      generalize (wr.alloc (.cells Z63 63)).setRow wr.heap.size DA = W3 at rX rb3 bX ra3 rz3 ⊢
      generalize wr.heap.size = X at rX bX HXA ⊢
      have d0 := row_at rX 0 _ HDC.out.1
      have d1 := row_at rX 1 _ HDC.out.2.1
      have d2 := row_at rX 2 _ HDC.out.2.2.1
      have d3 := row_at rX 3 _ HDC.out.2.2.2.1
      have d4 := row_at rX 4 _ HDC.out.2.2.2.2.1
      have d5 := row_at rX 5 _ HDC.out.2.2.2.2.2.1
      have d6 := row_at rX 6 _ HDC.out.2.2.2.2.2.2.1
      have d7 := row_at rX 7 _ HDC.out.2.2.2.2.2.2.2
      have HST := wrR_step HJ.out x k was
      rw [HI.out.1] at HST
      have HS2 : Hid (wrR' (ds.take (j + 1)) x k was = wrS x k (b, ok) d) := HST
      clear bX HST
      by_cases h0 : d.c.kind = 2
      · have k0 : (d.c.kind == 2) = true := by simpa using h0
        by_cases h1 : d.c.txn = x
        · have k1 : (d.c.txn == x) = true := by simpa using h1
          by_cases h2 : d.c.page = k
          · have k2 : (d.c.page == k) = true := by simpa using h2
            by_cases h3 : d.r.err = 0
            · have k3 : (d.r.err == 0) = true := by simpa using h3
              have HFI : Hid (fitsB d.c.off d.c.str = true) := HFT.out d (List.mem_of_getElem? HJ.out) h0 h3
              obtain ⟨o, heo⟩ : ∃ o : Nat, (o : Int) = d.c.off := ⟨d.c.off.toNat, by have := HFI.out; simp only [fitsB, Bool.and_eq_true, decide_eq_true_eq] at this; omega⟩
              have hos : o + d.c.str.size ≤ 64 := by have := HFI.out; simp only [fitsB, Bool.and_eq_true, decide_eq_true_eq] at this; omega
              have HF2 : Hid (wrR' (ds.take (j + 1)) x k was = (splice b o (nums d.c.str), true) ∧ Wr (splice b o (nums d.c.str))) := ⟨by rw [HS2.out]; simp only [wrS, isW, h0, h1, h2, h3]; simp; unfold wrote; rw [← heo]; rfl, wrote_wr HI.out.2 hos⟩
              have HEO : Hid ((o : Int) = d.c.off) := heo
              have HBL : Hid (b.length = 64) := HI.out.2.1
              clear h0 h1 h2 h3 heo
              obtain ⟨ln, HLN⟩ : ∃ ln, Hid (d.c.str.size = ln) := ⟨_, rfl⟩
              rw [HLN.out] at hos
              have HP0 : Hid (splice b o ((nums d.c.str).take 0) = b) := by show _ = _; simp [splice]
              go_upto_region 8 with fail
              have HLT : Hid ((j : Int) < N) := hlt
              clear d0 d1 d2 d3 d5 d6 d7 k0 k1 k2 k3 hlt
              rename World => wo
              go_loopw [13] (fun i wr => ∃ (m : Nat), i = .int .i64 m ∧ m ≤ ln ∧ Row wr A0 (bs (splice b o ((nums d.c.str).take m))) 38 ∧ Row wr (A0 + 1) Z8 38 ∧ Row wr X DA 63 ∧ Below w.heap.size w wr) (fun i _ => ln - (intOf i).toNat)
              case atStart => exact ⟨0, rfl, Nat.zero_le _, by rw [HP0.out]; exact ra3, rz3, rX, rb3⟩
              case round =>
                clear ra3 rz3 rX rb3 d4
                obtain ⟨m, rfl, hm, ra, rz, rX, rb⟩ := hrel
                have d4 := row_at rX 4 _ HDC.out.2.2.2.2.1
                have hl4 : (d.c.str.size : Int) = ln := by rw [HLN.out]
                have HSZ : Hid _ := hl4
                clear hl4
                obtain ⟨str, HSTR⟩ : ∃ str, Hid (d.c.str = str) := ⟨_, rfl⟩
                have HLN2 : Hid (str.size = ln) := by rw [← HSTR.out]; exact HLN.out
                by_cases hlm : (m : Int) < ln
                · obtain ⟨q, HQ⟩ : ∃ q, Hid (o + m = q) := ⟨_, rfl⟩
                  have hwo : IntKind.i64.wrap (d.c.off + (m : Int)) = (q : Int) := by have := HEO.out; have := HQ.out; rw [IntKind.wrap_i64]; omega
                  have hwm : IntKind.i64.wrap ((m : Int) + 1) = ((m + 1 : Nat) : Int) := by rw [IntKind.wrap_i64]; omega
                  have hlm2 : (m : Int) < (d.c.str.size : Int) := by rw [HSZ.out]; exact hlm
                  obtain ⟨by_, HBY⟩ : ∃ y, Hid ((nums d.c.str).getD m 0 = y) := ⟨_, rfl⟩
                  have HIX : Hid (∀ w, (Instr.index 9 (.string d.c.str) (.int .i64 (m : Int))).run Try.prog w = .ok (.int .u8 by_) w) := fun w => by rw [← HBY.out]; exact index9 _ m (by rw [HLN.out]; omega) w
                  have HNX : Hid ((splice b o ((nums d.c.str).take m)).set (o + m) by_ = splice b o ((nums d.c.str).take (m + 1))) := by
                    rw [← HBY.out]
                    exact splice_next b (nums d.c.str) o m (by rw [nums_length, HLN.out]; omega) (by rw [nums_length, HBL.out, HLN.out]; exact hos)
                  have HCL : Hid ((splice b o ((nums d.c.str).take m)).length = 64) := by
                    show _ = _
                    rw [length_splice _ _ _ (by rw [List.length_take, HBL.out, nums_length, HLN.out]; omega), HBL.out]
                  obtain ⟨cu, HCU⟩ : ∃ cu, Hid (splice b o ((nums d.c.str).take m) = cu) := ⟨_, rfl⟩
                  rw [HCU.out] at ra HNX HCL
                  have hcell := row_cell ra q (by have := HQ.out; rw [HCL.out]; omega)
                  go_upto_region 10 with fail
                  refine wp_region_last (S := fun w' => Row w' X DA 63 ∧ Row w' A0 (bs cu) 38) 11 (by kernel_rfl) ⟨rX, ra⟩ fun hS => ?_
                  refine wpAnyL_take (i := 0) (v := .pointer (some ⟨X, 0, none⟩)) rfl (by kernel_rfl) (by kernel_rfl) (by kernel_rfl) (by kernel_rfl) (fun _ _ _ h => h) (Or.inl ⟨by rfl, fun w _ => by go_simp⟩) hS ?_
                  try simp only [Act.put, List.getElem_toArray, List.getElem_cons_zero, List.getElem_cons_succ, List.setIfInBounds_toArray, List.set_cons_zero, List.set_cons_succ]
                  refine wpAnyL_take (i := 1) (v := .pointer (some ⟨X, 3, none⟩)) rfl (by kernel_rfl) (by kernel_rfl) (by kernel_rfl) (by kernel_rfl) (fun _ _ _ h => h) (Or.inl ⟨by rfl, fun w _ => by go_simp⟩) hS ?_
                  try simp only [Act.put, List.getElem_toArray, List.getElem_cons_zero, List.getElem_cons_succ, List.setIfInBounds_toArray, List.set_cons_zero, List.set_cons_succ]
                  refine wpAnyL_take (i := 2) (v := .int .i64 d.c.off) rfl (by kernel_rfl) (by kernel_rfl) (by kernel_rfl) (by kernel_rfl) (fun _ _ _ h => h) (Or.inl ⟨by rfl, fun w h => by have c := row_at h.1 3 _ HDC.out.2.2.2.1; go_simp⟩) hS ?_
                  try simp only [Act.put, List.getElem_toArray, List.getElem_cons_zero, List.getElem_cons_succ, List.setIfInBounds_toArray, List.set_cons_zero, List.set_cons_succ]
                  refine wpAnyL_take (i := 3) (v := .int .i64 (m : Int)) rfl (by kernel_rfl) (by kernel_rfl) (by kernel_rfl) (by kernel_rfl) (fun _ _ _ h => h) (Or.inl ⟨by rfl, fun w _ => by rfl⟩) hS ?_
                  try simp only [Act.put, List.getElem_toArray, List.getElem_cons_zero, List.getElem_cons_succ, List.setIfInBounds_toArray, List.set_cons_zero, List.set_cons_succ]
                  refine wpAnyL_take (i := 4) (v := .int .i64 (q : Int)) rfl (by kernel_rfl) (by kernel_rfl) (by kernel_rfl) (by kernel_rfl) (fun _ _ _ h => h) (Or.inl ⟨by rfl, fun w h => by have c := hwo; go_simp⟩) hS ?_
                  try simp only [Act.put, List.getElem_toArray, List.getElem_cons_zero, List.getElem_cons_succ, List.setIfInBounds_toArray, List.set_cons_zero, List.set_cons_succ]
                  refine wpAnyL_take (i := 5) (v := .pointer (some ⟨X, 0, none⟩)) rfl (by kernel_rfl) (by kernel_rfl) (by kernel_rfl) (by kernel_rfl) (fun _ _ _ h => h) (Or.inl ⟨by rfl, fun w _ => by go_simp⟩) hS ?_
                  try simp only [Act.put, List.getElem_toArray, List.getElem_cons_zero, List.getElem_cons_succ, List.setIfInBounds_toArray, List.set_cons_zero, List.set_cons_succ]
                  refine wpAnyL_take (i := 6) (v := .pointer (some ⟨X, 4, none⟩)) rfl (by kernel_rfl) (by kernel_rfl) (by kernel_rfl) (by kernel_rfl) (fun _ _ _ h => h) (Or.inl ⟨by rfl, fun w _ => by go_simp⟩) hS ?_
                  try simp only [Act.put, List.getElem_toArray, List.getElem_cons_zero, List.getElem_cons_succ, List.setIfInBounds_toArray, List.set_cons_zero, List.set_cons_succ]
                  refine wpAnyL_take (i := 7) (v := .string d.c.str) rfl (by kernel_rfl) (by kernel_rfl) (by kernel_rfl) (by kernel_rfl) (fun _ _ _ h => h) (Or.inl ⟨by rfl, fun w h => by have c := row_at h.1 4 _ HDC.out.2.2.2.2.1; go_simp⟩) hS ?_
                  try simp only [Act.put, List.getElem_toArray, List.getElem_cons_zero, List.getElem_cons_succ, List.setIfInBounds_toArray, List.set_cons_zero, List.set_cons_succ]
                  refine wpAnyL_take (i := 8) (v := .int .i64 (m : Int)) rfl (by kernel_rfl) (by kernel_rfl) (by kernel_rfl) (by kernel_rfl) (fun _ _ _ h => h) (Or.inl ⟨by rfl, fun w _ => by rfl⟩) hS ?_
                  try simp only [Act.put, List.getElem_toArray, List.getElem_cons_zero, List.getElem_cons_succ, List.setIfInBounds_toArray, List.set_cons_zero, List.set_cons_succ]
                  refine wpAnyL_take (i := 9) (v := .int .u8 by_) rfl (by kernel_rfl) (by kernel_rfl) (by kernel_rfl) (by kernel_rfl) (fun _ _ _ h => h) (Or.inl ⟨by rfl, fun w h => by have c := HIX.out; go_simp⟩) hS ?_
                  try simp only [Act.put, List.getElem_toArray, List.getElem_cons_zero, List.getElem_cons_succ, List.setIfInBounds_toArray, List.set_cons_zero, List.set_cons_succ]
                  have rz5 : Row wr.drew (A0 + 1) Z8 38 := rz
                  have rb5 := rb.drew
                  clear ra rX rz rb hcell d4
                  generalize wr.drew = W5 at hS rz5 rb5 ⊢
                  have h64 : (q : Int) < 64 := by have := HQ.out; omega
                  refine wpAnyL_ready (rs := [10]) (by kernel_rfl) (by simp) ?_
                  refine AllReadyL.cons rfl (fun K hK => ?_) AllReadyL.nil
                  go_simp
                  refine hK.out _ _ (fun _ => hS) ?_
                  try simp only [Act.put, List.getElem_toArray, List.getElem_cons_zero, List.getElem_cons_succ, List.setIfInBounds_toArray, List.set_cons_zero, List.set_cons_succ]
                  have hcell := row_cell hS.2 q (by have := HQ.out; rw [HCL.out]; omega)
                  have hfz := row_frozen hS.2 q
                  have R6 : Row (W5.setCell ⟨A0, q, none⟩ (.int .u8 by_)) A0 (bs (splice b o ((nums d.c.str).take (m + 1)))) 38 := by rw [← HNX.out, HQ.out]; exact row_setCell hS.2 q by_
                  have O6 : Off (· = A0) W5 (W5.setCell ⟨A0, q, none⟩ (.int .u8 by_)) := Off.of_setCell _ _ _ rfl
                  have X6 := hS.1.off O6 (by have := HXA.out; omega)
                  have Z6 := rz5.off O6 (by omega)
                  have B6 : Below w.heap.size w (W5.setCell ⟨A0, q, none⟩ (.int .u8 by_)) := rb5.trans (O6.below rb5.size (fun k e => by rw [e, HA0.out]; exact Nat.le_refl _))
                  clear hS rz5 rb5 O6
                  refine wpAnyL_ready (rs := [11]) (by kernel_rfl) (by simp) ?_
                  refine AllReadyL.cons rfl (fun K hK => ?_) AllReadyL.nil
                  go_simp
                  refine hK.out _ _ (fun q => absurd rfl q) ?_
                  try simp only [Act.put, List.getElem_toArray, List.getElem_cons_zero, List.getElem_cons_succ, List.setIfInBounds_toArray, List.set_cons_zero, List.set_cons_succ]
                  refine wpAnyL_done (by kernel_rfl) ?_ _
                  clear hcell hfz
                  generalize W5.setCell ⟨A0, q, none⟩ (.int .u8 by_) = W6 at R6 X6 Z6 B6 ⊢
                  go_wp2
                  go_roundw
                  case rel => exact ⟨m + 1, by first | rfl | simp, by omega, R6, Z6, X6, B6⟩
                  case measure => simp only [intOf]; omega
                · have hlm2 : ¬ (m : Int) < (d.c.str.size : Int) := by rw [HSZ.out]; exact hlm
                  have HME : Hid ((nums d.c.str).take m = nums d.c.str) := List.take_of_length_le (by rw [nums_length, HLN.out]; omega)
                  rw [HME.out] at ra
                  go_wp2
                  go_roundw
                  case rel => exact ⟨j + 1, _, _, by first | rfl | simp, by have := HLT.out; omega, ra, rz, rb, rfl, HF2⟩
                  case measure => have := HLT.out; simp only [intOf]; omega
            · have k3 : (d.r.err == 0) = false := by simpa using h3
              have HF2 : Hid (wrR' (ds.take (j + 1)) x k was = (b, ok) ∧ Wr b) := ⟨by rw [HS2.out]; simp [wrS, isW, h3], HI.out.2⟩
              clear h3
              go_wp2
              go_roundw
              case rel => exact ⟨j + 1, _, _, by first | rfl | simp, by omega, ra3, rz3, rb3, rfl, HF2⟩
              case measure => simp only [intOf]; omega
          · have k2 : (d.c.page == k) = false := by simpa using h2
            have HF2 : Hid (wrR' (ds.take (j + 1)) x k was = (b, ok) ∧ Wr b) := ⟨by rw [HS2.out]; simp [wrS, isW, h2], HI.out.2⟩
            clear h2
            go_wp2
            go_roundw
            case rel => exact ⟨j + 1, _, _, by first | rfl | simp, by omega, ra3, rz3, rb3, rfl, HF2⟩
            case measure => simp only [intOf]; omega
        · have k1 : (d.c.txn == x) = false := by simpa using h1
          have HF2 : Hid (wrR' (ds.take (j + 1)) x k was = (b, ok) ∧ Wr b) := ⟨by rw [HS2.out]; simp [wrS, isW, h1], HI.out.2⟩
          clear h1
          go_wp2
          go_roundw
          case rel => exact ⟨j + 1, _, _, by first | rfl | simp, by omega, ra3, rz3, rb3, rfl, HF2⟩
          case measure => simp only [intOf]; omega
      · have k0 : (d.c.kind == 2) = false := by simpa using h0
        have HF2 : Hid (wrR' (ds.take (j + 1)) x k was = (b, ok) ∧ Wr b) := ⟨by rw [HS2.out]; simp [wrS, isW, h0], HI.out.2⟩
        clear h0
        go_wp2
        go_roundw
        case rel => exact ⟨j + 1, _, _, by first | rfl | simp, by omega, ra3, rz3, rb3, rfl, HF2⟩
        case measure => simp only [intOf]; omega
    · have HF : Hid (wrR' ds x k was = (b, ok)) := by
        have := HI.out.1
        rw [List.take_of_length_le (by rw [HN.out]; omega)] at this
        exact this
      have HBS : Hid ((bs b).size = 64) := by rw [bs_size]; exact HI.out.2.1
      have hbo := bs_one b
      have tl : Hid (1 = 1) := rfl
      have ts : Hid (1 = 1) := rfl
      go_wp2_with (first
        | (have hh := tl; clear hh tl; refine load_cells rfl 38 (.tmp 7) rfl A0 rfl 38 (bs b) ra 64 Try.underlying38 rfl size38 HBS.out ?_)
        | (have hh := ts; clear hh ts; refine store_cells rfl 38 (.tmp 8) (.tmp 67) rfl (A0 + 1) (bs b) rfl rfl 38 _ rz 64 size38 HZ8.out HBS.out hbo ?_))
      refine bodyPost_ret (v := .tuple #[.agg (bs b), .bool ok]) (ret_two (fn := Try.f26) rfl _ _ (A0 + 1) 38 (bs b) 64 5 _ rfl rfl (rz.set _) Try.underlying38 size38 HBS.out) rfl ?_
      rw [HPP.out]
      exact ⟨by rw [HF.out], below_setRow rb (by rw [HA0.out]; exact Nat.le_succ _) _⟩
end Go.Proofs.Ytpncmbkklkfmnaa
