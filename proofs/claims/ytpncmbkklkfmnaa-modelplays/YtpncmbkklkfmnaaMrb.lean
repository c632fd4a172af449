/-
  Proved here: what the document's machine tells of begins and of the last commit.
-/
import Derived.Test.YtpncmbkklkfmnaaMdn
namespace Go.Proofs.Ytpncmbkklkfmnaa
open Go.ChangeShapes Go.WideShapes Go.ChangeAt Go.RowKit
open Go.Deep Go.Maps
set_option linter.unusedVariables false
set_option linter.unusedSimpArgs false
set_option maxRecDepth 20000


theorem drop_cons {ds : List Dn} {j : Nat} {d : Dn} (h : ds[j]? = some d) : ds.drop j = d :: ds.drop (j + 1) := by
  obtain ⟨hl, e⟩ := List.getElem?_eq_some_iff.1 h
  rw [List.drop_eq_getElem_cons hl, e]
theorem take_snoc {ds : List Dn} {j : Nat} {d : Dn} (h : ds[j]? = some d) : ds.take (j + 1) = ds.take j ++ [d] := by
  rw [List.take_add_one, h]; rfl
set_option maxHeartbeats 2000000 in
theorem begin_ref {w0 w : World} {r n : Nat} {mx : Int} {v : Value} {ds : List Dn} (h : RM w0 w r n mx v ds) (x : Int) : Calls Try.prog 25 #[.pointer (some ⟨r, 0, none⟩), .int .u64 x] w fun e w' => e = .returned (.int .u32 (bgV ds x)) ∧ Below w.heap.size w w' := by
  obtain ⟨oa, cap, rfl, hel⟩ := h.form
  have HEL : Hid (∀ i d, ds[i]? = some d → ∃ a : Addr, oa = some a ∧ ∀ j u, d.cells[j]? = some u → w.cell? ((a.add (i * 72)).add j) = some u) := hel
  have HOKD : Hid (∀ d ∈ ds, d.Ok) := h.ok
  have c2 := row_at h.row 2 _ rfl
  have hfew := h.few
  obtain ⟨N, HN⟩ : ∃ N, Hid (ds.length = N) := ⟨_, rfl⟩
  rw [HN.out] at c2 hfew
  have hz63 := zero63
  have HZ63 : Hid (Dn.zero.arr.size = 72) := Dn.arr_size Dn.zero_ok
  generalize Dn.zero.arr = Z63 at hz63 HZ63
  clear hel
  obtain ⟨PP, HPP⟩ : ∃ PP : Ending → World → Prop, Hid (PP = fun e w' => e = .returned (.int .u32 (bgV ds x)) ∧ Below w.heap.size w w') := ⟨_, rfl⟩
  rw [← HPP.out]
  clear h
  go_enter Try.func25, Try.ntmps25
  go_upto_region 2 with fail
  go_loopw [6, 12] (fun _ i wr => ∃ j : Nat, i = .int .i64 j ∧ j ≤ N ∧ Below w.heap.size w wr ∧ Hid (bgV ds x = bgV (ds.drop j) x)) (fun _ i _ => N - (intOf i).toNat)
  case atStart => exact ⟨0, rfl, Nat.zero_le _, Below.refl _ _, rfl⟩
  case round =>
    obtain ⟨j, rfl, hj, rb, HI⟩ := hrel
    by_cases hlt : (j : Int) < N
    · obtain ⟨d, hd⟩ : ∃ d, ds[j]? = some d := ⟨_, List.getElem?_eq_getElem (by rw [HN.out]; omega)⟩
      obtain ⟨a, rfl, hcell⟩ := HEL.out j d hd
      have hcell2 : ∀ i u, d.cells[i]? = some u → wr.cell? ((a.add (j * 72)).add i) = some u := fun i u h => cell_keep (hcell i u h) rb
      have HDK : Hid d.Ok := HOKD.out d (List.mem_of_getElem? hd)
      have HJ : Hid (ds[j]? = some d) := hd
      have rn : Row (wr.alloc (.cells Z63 63)) wr.heap.size Z63 63 := Row.new _ _ _
      obtain ⟨DA, HDA⟩ : ∃ DA, Hid (d.arr = DA) := ⟨_, rfl⟩
      have HAR : Hid (d.cells.toArray = DA) := by rw [← HDA.out]; rfl
      have HDL : Hid (d.cells.length = 72) := Dn.cells_length HDK.out
      have HDS : Hid (DA.size = 72) := by rw [← HDA.out]; exact Dn.arr_size HDK.out
      have HDO : Hid (DA.all (·.oneCell') = true) := by rw [← HDA.out]; exact d.one
      have HDC : Hid (DA[0]? = some (.int .u8 d.c.kind) ∧ DA[1]? = some (.int .u64 d.c.txn) ∧ DA[2]? = some (.int .u16 d.c.page) ∧ DA[3]? = some (.int .i64 d.c.off) ∧ DA[4]? = some (.string d.c.str) ∧ DA[5]? = some (.int .i64 d.r.err) ∧ DA[6]? = some (.int .u64 d.r.txn) ∧ DA[7]? = some (.int .u32 d.r.ts)) := by rw [← HDA.out]; exact ⟨rfl, rfl, rfl, rfl, rfl, rfl, rfl, rfl⟩
      have bX : Below wr.heap.size wr ((wr.alloc (.cells Z63 63)).setRow wr.heap.size DA) := below_setRow ((Below.refl _ _).alloc (Nat.le_refl _) _) (Nat.le_refl _) _
      have rX : Row ((wr.alloc (.cells Z63 63)).setRow wr.heap.size DA) wr.heap.size DA 63 := rn.set _
      have rb3 := rb.trans (bX.mono rb.size)
      have hw1 : IntKind.i64.wrap ((j : Int) + 1) = ((j + 1 : Nat) : Int) := by rw [IntKind.wrap_i64]; omega
      clear hcell hd
      have tl : Hid (1 = 1) := rfl
      have ts : Hid (1 = 1) := rfl
      go_upto_region 4 with (first
        | (have hh := tl; clear hh tl; refine wpList_load_any rfl 63 (.tmp 14) rfl _ rfl d.cells _ hcell2 Try.underlying63 rfl (by rw [size63, HDL.out]) ?_; rw [HAR.out])
        | (have hh := ts; clear hh ts; refine store_cells rfl 63 (.tmp 6) (.tmp 15) rfl wr.heap.size DA rfl rfl 63 _ rn 72 size63 HZ63.out HDS.out HDO.out ?_))
      clear rn hcell2
      generalize (wr.alloc (.cells Z63 63)).setRow wr.heap.size DA = W3 at rX rb3 bX  ⊢
      generalize wr.heap.size = X at rX bX  ⊢
      have d0 := row_at rX 0 _ HDC.out.1
      have d1 := row_at rX 1 _ HDC.out.2.1
      have d2 := row_at rX 2 _ HDC.out.2.2.1
      have d3 := row_at rX 3 _ HDC.out.2.2.2.1
      have d4 := row_at rX 4 _ HDC.out.2.2.2.2.1
      have d5 := row_at rX 5 _ HDC.out.2.2.2.2.2.1
      have d6 := row_at rX 6 _ HDC.out.2.2.2.2.2.2.1
      have d7 := row_at rX 7 _ HDC.out.2.2.2.2.2.2.2
      have HST : Hid (isB d x = false → bgV (ds.drop j) x = bgV (ds.drop (j + 1)) x) := fun q => by
        rw [drop_cons HJ.out]
        unfold bgV
        rw [List.find?_cons, q]
      have HSU : Hid (isB d x = true → bgV (ds.drop j) x = d.r.ts) := fun q => by
        rw [drop_cons HJ.out]
        unfold bgV
        rw [List.find?_cons, q]
      clear bX
      by_cases h0 : d.c.kind = 0
      · have k0 : (d.c.kind == 0) = true := by simpa using h0
        by_cases h1 : d.r.err = 0
        · have k1 : (d.r.err == 0) = true := by simpa using h1
          by_cases h2 : d.r.txn = x
          · have k2 : (d.r.txn == x) = true := by simpa using h2
            have HF : Hid (bgV ds x = d.r.ts) := by show _ = _; rw [HI.out]; exact HSU.out (by simp [isB, h0, h1, h2])
            clear h0 h1 h2
            go_wp2
            rw [HPP.out]
            exact ⟨by rw [HF.out] <;> rfl, rb3⟩
          · have k2 : (d.r.txn == x) = false := by simpa using h2
            have HF := HST.out (by simp [isB, h2])
            clear h0 h1 h2
            go_wp2
            go_roundw
            case rel => exact ⟨j + 1, by first | rfl | simp, by omega, rb3, HI.out.trans HF⟩
            case measure => simp only [intOf]; omega
        · have k1 : (d.r.err == 0) = false := by simpa using h1
          have HF := HST.out (by simp [isB, h1])
          clear h0 h1
          go_wp2
          go_roundw
          case rel => exact ⟨j + 1, by first | rfl | simp, by omega, rb3, HI.out.trans HF⟩
          case measure => simp only [intOf]; omega
      · have k0 : (d.c.kind == 0) = false := by simpa using h0
        have HF := HST.out (by simp [isB, h0])
        clear h0
        go_wp2
        go_roundw
        case rel => exact ⟨j + 1, by first | rfl | simp, by omega, rb3, HI.out.trans HF⟩
        case measure => simp only [intOf]; omega
    · have HF : Hid (bgV ds x = 0) := by
        show _ = _
        rw [HI.out, List.drop_of_length_le (by rw [HN.out]; omega)]
        rfl
      go_wp2
      rw [HPP.out]
      exact ⟨by rw [HF.out] <;> rfl, rb⟩

theorem max_if (a b : Int) : max a b = if a < b then b else a := by split <;> omega
theorem lsV_step {ds : List Dn} {j : Nat} {d : Dn} (h : ds[j]? = some d) : lsV (ds.take (j + 1)) = if d.c.kind = 3 ∧ d.r.err = 0 then max (lsV (ds.take j)) d.r.ts else lsV (ds.take j) := by
  rw [take_snoc h]
  unfold lsV
  rw [List.foldl_append]
  rfl
set_option maxHeartbeats 2000000 in
theorem last_ref {w0 w : World} {r n : Nat} {mx : Int} {v : Value} {ds : List Dn} (h : RM w0 w r n mx v ds) : Calls Try.prog 15 #[.pointer (some ⟨r, 0, none⟩)] w fun e w' => e = .returned (.int .u32 (lsV ds)) ∧ Below w.heap.size w w' := by
  obtain ⟨oa, cap, rfl, hel⟩ := h.form
  have HEL : Hid (∀ i d, ds[i]? = some d → ∃ a : Addr, oa = some a ∧ ∀ j u, d.cells[j]? = some u → w.cell? ((a.add (i * 72)).add j) = some u) := hel
  have HOKD : Hid (∀ d ∈ ds, d.Ok) := h.ok
  have c2 := row_at h.row 2 _ rfl
  have hfew := h.few
  obtain ⟨N, HN⟩ : ∃ N, Hid (ds.length = N) := ⟨_, rfl⟩
  rw [HN.out] at c2 hfew
  have hz63 := zero63
  have HZ63 : Hid (Dn.zero.arr.size = 72) := Dn.arr_size Dn.zero_ok
  generalize Dn.zero.arr = Z63 at hz63 HZ63
  clear hel
  obtain ⟨PP, HPP⟩ : ∃ PP : Ending → World → Prop, Hid (PP = fun e w' => e = .returned (.int .u32 (lsV ds)) ∧ Below w.heap.size w w') := ⟨_, rfl⟩
  rw [← HPP.out]
  clear h
  go_enter Try.func15, Try.ntmps15
  go_upto_region 3 with fail
  go_loopw [3, 5, 11] (fun t _ i wr => ∃ (j : Nat) (y : Int), i = .int .i64 j ∧ j ≤ N ∧ Below w.heap.size w wr ∧ t = .int .u32 y ∧ Hid (lsV (ds.take j) = y)) (fun _ _ i _ => N - (intOf i).toNat)
  case atStart => exact ⟨0, 0, rfl, Nat.zero_le _, Below.refl _ _, rfl, rfl⟩
  case round =>
    obtain ⟨j, y, rfl, hj, rb, rfl, HI⟩ := hrel
    by_cases hlt : (j : Int) < N
    · obtain ⟨d, hd⟩ : ∃ d, ds[j]? = some d := ⟨_, List.getElem?_eq_getElem (by rw [HN.out]; omega)⟩
      obtain ⟨a, rfl, hcell⟩ := HEL.out j d hd
      have hcell2 : ∀ i u, d.cells[i]? = some u → wr.cell? ((a.add (j * 72)).add i) = some u := fun i u h => cell_keep (hcell i u h) rb
      have HDK : Hid d.Ok := HOKD.out d (List.mem_of_getElem? hd)
      have HJ : Hid (ds[j]? = some d) := hd
      have rn : Row (wr.alloc (.cells Z63 63)) wr.heap.size Z63 63 := Row.new _ _ _
      obtain ⟨DA, HDA⟩ : ∃ DA, Hid (d.arr = DA) := ⟨_, rfl⟩
      have HAR : Hid (d.cells.toArray = DA) := by rw [← HDA.out]; rfl
      have HDL : Hid (d.cells.length = 72) := Dn.cells_length HDK.out
      have HDS : Hid (DA.size = 72) := by rw [← HDA.out]; exact Dn.arr_size HDK.out
      have HDO : Hid (DA.all (·.oneCell') = true) := by rw [← HDA.out]; exact d.one
      have HDC : Hid (DA[0]? = some (.int .u8 d.c.kind) ∧ DA[1]? = some (.int .u64 d.c.txn) ∧ DA[2]? = some (.int .u16 d.c.page) ∧ DA[3]? = some (.int .i64 d.c.off) ∧ DA[4]? = some (.string d.c.str) ∧ DA[5]? = some (.int .i64 d.r.err) ∧ DA[6]? = some (.int .u64 d.r.txn) ∧ DA[7]? = some (.int .u32 d.r.ts)) := by rw [← HDA.out]; exact ⟨rfl, rfl, rfl, rfl, rfl, rfl, rfl, rfl⟩
      have bX : Below wr.heap.size wr ((wr.alloc (.cells Z63 63)).setRow wr.heap.size DA) := below_setRow ((Below.refl _ _).alloc (Nat.le_refl _) _) (Nat.le_refl _) _
      have rX : Row ((wr.alloc (.cells Z63 63)).setRow wr.heap.size DA) wr.heap.size DA 63 := rn.set _
      have rb3 := rb.trans (bX.mono rb.size)
      have hw1 : IntKind.i64.wrap ((j : Int) + 1) = ((j + 1 : Nat) : Int) := by rw [IntKind.wrap_i64]; omega
      clear hcell hd
      have tl : Hid (1 = 1) := rfl
      have ts : Hid (1 = 1) := rfl
      go_upto_region 5 with (first
        | (have hh := tl; clear hh tl; refine wpList_load_any rfl 63 (.tmp 13) rfl _ rfl d.cells _ hcell2 Try.underlying63 rfl (by rw [size63, HDL.out]) ?_; rw [HAR.out])
        | (have hh := ts; clear hh ts; refine store_cells rfl 63 (.tmp 5) (.tmp 14) rfl wr.heap.size DA rfl rfl 63 _ rn 72 size63 HZ63.out HDS.out HDO.out ?_))
      clear rn hcell2
      generalize (wr.alloc (.cells Z63 63)).setRow wr.heap.size DA = W3 at rX rb3 bX  ⊢
      generalize wr.heap.size = X at rX bX  ⊢
      have d0 := row_at rX 0 _ HDC.out.1
      have d1 := row_at rX 1 _ HDC.out.2.1
      have d2 := row_at rX 2 _ HDC.out.2.2.1
      have d3 := row_at rX 3 _ HDC.out.2.2.2.1
      have d4 := row_at rX 4 _ HDC.out.2.2.2.2.1
      have d5 := row_at rX 5 _ HDC.out.2.2.2.2.2.1
      have d6 := row_at rX 6 _ HDC.out.2.2.2.2.2.2.1
      have d7 := row_at rX 7 _ HDC.out.2.2.2.2.2.2.2
      have HST := lsV_step HJ.out
      rw [HI.out] at HST
      have HS2 : Hid _ := HST
      clear bX HST
      by_cases h0 : d.c.kind = 3
      · have k0 : (d.c.kind == 3) = true := by simpa using h0
        by_cases h1 : d.r.err = 0
        · have k1 : (d.r.err == 0) = true := by simpa using h1
          have HF := HS2.out
          rw [if_pos ⟨h0, h1⟩] at HF
          have HF2 : Hid (lsV (ds.take (j + 1)) = if y < d.r.ts then d.r.ts else y) := by show _ = _; rw [HF, max_if]
          clear h0 h1 HF
          go_wp2
          go_roundw
          case rel => exact ⟨j + 1, _, by first | rfl | simp, by omega, rb3, rfl, HF2⟩
          case measure => simp only [intOf]; omega
        · have k1 : (d.r.err == 0) = false := by simpa using h1
          have HF := HS2.out
          rw [if_neg (fun q => h1 q.2)] at HF
          have HF2 : Hid (lsV (ds.take (j + 1)) = y) := HF
          clear h0 h1 HF
          go_wp2
          go_roundw
          case rel => exact ⟨j + 1, _, by first | rfl | simp, by omega, rb3, rfl, HF2⟩
          case measure => simp only [intOf]; omega
      · have k0 : (d.c.kind == 3) = false := by simpa using h0
        have HF := HS2.out
        rw [if_neg (fun q => h0 q.1)] at HF
        have HF2 : Hid (lsV (ds.take (j + 1)) = y) := HF
        clear h0 HF
        go_wp2
        go_roundw
        case rel => exact ⟨j + 1, _, by first | rfl | simp, by omega, rb3, rfl, HF2⟩
        case measure => simp only [intOf]; omega
    · have HF : Hid (lsV ds = y) := by
        have := HI.out
        rw [List.take_of_length_le (by rw [HN.out]; omega)] at this
        exact this
      go_wp2
      rw [HPP.out]
      exact ⟨by rw [HF.out] <;> rfl, rb⟩
end Go.Proofs.Ytpncmbkklkfmnaa
