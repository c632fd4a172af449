/-
  Proved here: what the document's machine answers to those who read, write or commit.
-/
import Derived.Test.YtpncmbkklkfmnaaMre
import Derived.Test.YtpncmbkklkfmnaaJm
namespace Go.Proofs.Ytpncmbkklkfmnaa
open Go.ChangeShapes Go.WideShapes Go.ChangeAt Go.RowKit
open Go.Deep Go.Maps
set_option linter.unusedVariables false
set_option linter.unusedSimpArgs false
set_option maxRecDepth 20000

set_option maxHeartbeats 4000000 in
theorem ans_read {w0 w : World} {r n : Nat} {mx : Int} {v : Value} {ds : List Dn} (h : RM w0 w r n mx v ds) (c : Cal) (hc : c.Ok) (hno : ∀ d ∈ ds, ¬ (d.c.kind = 7 ∧ d.r.err = 0)) (hk : c.kind = 1) (hp : c.page < n) (st : Int) (b : Bool) (hbg : ∀ W, Below w.heap.size w W → Calls Try.prog 32 #[.pointer (some ⟨r, 0, none⟩), .int .u64 c.txn] W fun e w' => e = .returned (.tuple #[.int .u32 st, .bool b]) ∧ Below W.heap.size W w') (hb0 : b = true) (V : Ver) (hV : V.Ok) (h17 : ∀ W, Below w.heap.size w W → Calls Try.prog 17 #[.pointer (some ⟨r, 0, none⟩), .int .u16 c.page, .int .u32 st] W fun e w' => e = .returned (.agg V.arr) ∧ Below W.heap.size W w') (B : List Int) (fl : Bool) (hB : B.length = 64) (h26 : ∀ W, Below w.heap.size w W → Calls Try.prog 26 #[.pointer (some ⟨r, 0, none⟩), .int .u64 c.txn, .int .u16 c.page, .agg (bs V.body)] W fun e w' => e = .returned (.tuple #[.agg (bs B), .bool fl]) ∧ Below W.heap.size W w') : Calls Try.prog 23 #[.pointer (some ⟨r, 0, none⟩), .agg c.arr] w fun e w' => e = .returned (.agg (Rep.mk 0 0 (if fl = true then st else V.ts) B).arr) ∧ Below w.heap.size w w' := by
  have HRM : Hid (RM w0 w r n mx v ds) := h
  have HCO : Hid c.Ok := hc
  have HNO : Hid (∀ d ∈ ds, ¬ (d.c.kind = 7 ∧ d.r.err = 0)) := hno
  have HBG : Hid _ := hbg
  clear hbg
  have H17 : Hid _ := h17
  clear h17
  have H26 : Hid _ := h26
  clear h26
  have HVO : Hid V.Ok := hV
  clear hV
  have HB : Hid (B.length = 64) := hB
  clear hB
  obtain ⟨oa, cap, rfl, hel⟩ := h.form
  have HEL : Hid (∀ i d, ds[i]? = some d → ∃ a : Addr, oa = some a ∧ ∀ j u, d.cells[j]? = some u → w.cell? ((a.add (i * 72)).add j) = some u) := hel
  have HOKD : Hid (∀ d ∈ ds, d.Ok) := h.ok
  have c2 := row_at h.row 2 _ rfl
  have hfew := h.few
  obtain ⟨N, HN⟩ : ∃ N, Hid (ds.length = N) := ⟨_, rfl⟩
  rw [HN.out] at c2 hfew
  have hz63 := zero63
  have HZ63 : Hid (Dn.zero.arr.size = 72) := Dn.arr_size Dn.zero_ok
  generalize Dn.zero.arr = Z63 at hz63 HZ63
  clear hel
  obtain ⟨PP, HPP⟩ : ∃ PP : Ending → World → Prop, Hid (PP = fun e w' => e = .returned (.agg (Rep.mk 0 0 (if fl = true then st else V.ts) B).arr) ∧ Below w.heap.size w w') := ⟨_, rfl⟩
  rw [← HPP.out]
  have hz40 := zero40
  have HZS : Hid (Rep.zero.arr.size = 67) := rz
  generalize Rep.zero.arr = Z at hz40 HZS
  have ab : Below w.heap.size w (w.alloc (.cells c.arr 35)) := (Below.refl _ _).alloc (Nat.le_refl _) _
  have e1 : (w.alloc (.cells c.arr 35)).heap.size = w.heap.size + 1 := Array.size_push ..
  have ab1 : Below w.heap.size w ((w.alloc (.cells c.arr 35)).alloc (.cells Z 40)) := ab.alloc ab.size _
  have rx1 : Row ((w.alloc (.cells c.arr 35)).alloc (.cells Z 40)) w.heap.size c.arr 35 := (Row.new _ _ _).alloc _
  have r40 : Row ((w.alloc (.cells c.arr 35)).alloc (.cells Z 40)) (w.heap.size + 1) Z 40 := by have := Row.new (w.alloc (.cells c.arr 35)) Z 40; rw [e1] at this; exact this
  have c2W := cell_keep c2 ab1
  clear h hc hno c2 ab e1
  go_enter Try.func23, Try.ntmps23
  go_upto_region 1 with fail
  generalize (w.alloc (.cells c.arr 35)).alloc (.cells Z 40) = WW at ab1 rx1 r40 c2W ⊢
  obtain ⟨A0, HA0⟩ : ∃ A0, Hid (w.heap.size = A0) := ⟨_, rfl⟩
  rw [HA0.out] at r40 rx1 ⊢
  have rx1 : Row WW A0 #[.int .u8 c.kind, .int .u64 c.txn, .int .u16 c.page, .int .i64 c.off, .string c.str] 35 := rx1
  go_upto_region 2 with fail
  clear c2W
  go_loopw [6, 24] (fun _ i wr => ∃ j : Nat, i = .int .i64 j ∧ j ≤ N ∧ Row wr A0 #[.int .u8 c.kind, .int .u64 c.txn, .int .u16 c.page, .int .i64 c.off, .string c.str] 35 ∧ Row wr (A0 + 1) Z 40 ∧ Below w.heap.size w wr) (fun _ i _ => N - (intOf i).toNat)
  case atStart => exact ⟨0, rfl, Nat.zero_le _, rx1, r40, ab1⟩
  case round =>
    clear rx1 r40 ab1
    obtain ⟨j, rfl, hj, rx, rz, rb⟩ := hrel
    by_cases hlt : (j : Int) < N
    · have hzl := rz.lt
      have hxl := rx.lt
      obtain ⟨d, hd⟩ : ∃ d, ds[j]? = some d := ⟨_, List.getElem?_eq_getElem (by rw [HN.out]; omega)⟩
      obtain ⟨a, rfl, hcell⟩ := HEL.out j d hd
      have hcell2 : ∀ i u, d.cells[i]? = some u → wr.cell? ((a.add (j * 72)).add i) = some u := fun i u h => cell_keep (hcell i u h) rb
      have HDK : Hid d.Ok := HOKD.out d (List.mem_of_getElem? hd)
      have HJ : Hid (ds[j]? = some d) := hd
      have rn : Row (wr.alloc (.cells Z63 63)) wr.heap.size Z63 63 := Row.new _ _ _
      obtain ⟨DA, HDA⟩ : ∃ DA, Hid (d.arr = DA) := ⟨_, rfl⟩
      have HAR : Hid (d.cells.toArray = DA) := by rw [← HDA.out]; rfl
      have HDL : Hid (d.cells.length = 72) := Dn.cells_length HDK.out
      have HDS : Hid (DA.size = 72) := by rw [← HDA.out]; exact Dn.arr_size HDK.out
      have HDO : Hid (DA.all (·.oneCell') = true) := by rw [← HDA.out]; exact d.one
      have HDC : Hid (DA[0]? = some (.int .u8 d.c.kind) ∧ DA[1]? = some (.int .u64 d.c.txn) ∧ DA[2]? = some (.int .u16 d.c.page) ∧ DA[3]? = some (.int .i64 d.c.off) ∧ DA[4]? = some (.string d.c.str) ∧ DA[5]? = some (.int .i64 d.r.err) ∧ DA[6]? = some (.int .u64 d.r.txn) ∧ DA[7]? = some (.int .u32 d.r.ts)) := by rw [← HDA.out]; exact ⟨rfl, rfl, rfl, rfl, rfl, rfl, rfl, rfl⟩
      have bX : Below wr.heap.size wr ((wr.alloc (.cells Z63 63)).setRow wr.heap.size DA) := below_setRow ((Below.refl _ _).alloc (Nat.le_refl _) _) (Nat.le_refl _) _
      have rX : Row ((wr.alloc (.cells Z63 63)).setRow wr.heap.size DA) wr.heap.size DA 63 := rn.set _
      have rb3 := rb.trans (bX.mono rb.size)
      have hw1 : IntKind.i64.wrap ((j : Int) + 1) = ((j + 1 : Nat) : Int) := by rw [IntKind.wrap_i64]; omega
      clear hcell hd
      have tl : Hid (1 = 1) := rfl
      have ts : Hid (1 = 1) := rfl
      go_upto_region 4 with (first
        | (have hh := tl; clear hh tl; refine wpList_load_any rfl 63 (.tmp 26) rfl _ rfl d.cells _ hcell2 Try.underlying63 rfl (by rw [size63, HDL.out]) ?_; rw [HAR.out])
        | (have hh := ts; clear hh ts; refine store_cells rfl 63 (.tmp 6) (.tmp 27) rfl wr.heap.size DA rfl rfl 63 _ rn 72 size63 HZ63.out HDS.out HDO.out ?_))
      clear rn hcell2
      have rx3 := rx.below bX hxl
      have rz3 := rz.below bX hzl
      clear rx rz hzl hxl
      generalize (wr.alloc (.cells Z63 63)).setRow wr.heap.size DA = W3 at rX rb3 bX rx3 rz3 ⊢
      generalize wr.heap.size = X at rX bX  ⊢
      have d0 := row_at rX 0 _ HDC.out.1
      have d1 := row_at rX 1 _ HDC.out.2.1
      have d2 := row_at rX 2 _ HDC.out.2.2.1
      have d3 := row_at rX 3 _ HDC.out.2.2.2.1
      have d4 := row_at rX 4 _ HDC.out.2.2.2.2.1
      have d5 := row_at rX 5 _ HDC.out.2.2.2.2.2.1
      have d6 := row_at rX 6 _ HDC.out.2.2.2.2.2.2.1
      have d7 := row_at rX 7 _ HDC.out.2.2.2.2.2.2.2
      have HNK : Hid _ := HNO.out d (List.mem_of_getElem? HJ.out)
      clear bX d1 d2 d3 d4 d6 d7
      by_cases h0 : d.c.kind = 7
      · have k0 : (d.c.kind == 7) = true := by simpa using h0
        have k1 : (d.r.err == 0) = false := by
          by_cases h1 : d.r.err = 0
          · exact absurd ⟨h0, h1⟩ HNK.out
          · simpa using h1
        clear h0
        go_wp2
        go_roundw
        case rel => exact ⟨j + 1, by first | rfl | simp, by omega, rx3, rz3, rb3⟩
        case measure => simp only [intOf]; omega
      · have k0 : (d.c.kind == 7) = false := by simpa using h0
        clear h0
        go_wp2
        go_roundw
        case rel => exact ⟨j + 1, by first | rfl | simp, by omega, rx3, rz3, rb3⟩
        case measure => simp only [intOf]; omega
    · clear HEL HOKD HNO hz63 HZ63
      go_upto_region 7 with fail
      have M := (HRM.out.below rb).row
      have k7 : ¬ c.kind > 7 := by omega
      have k1 : c.kind ≥ 1 := by omega
      have k2 : c.kind ≤ 2 := by omega
      have hwp : IntKind.i64.wrap c.page = c.page := by rw [IntKind.wrap_i64]; have := HCO.out.p; omega
      have k3 : ¬ c.page ≥ (n : Int) := by omega
      have q2 : (c.kind == 2) = false := by rw [hk]; rfl
      refine wp_region_held_drew (S := fun w' => Row w' A0 #[.int .u8 c.kind, .int .u64 c.txn, .int .u16 c.page, .int .i64 c.off, .string c.str] 35 ∧ Row w' r #[.int .i64 n, .int .u32 mx, .slice oa ds.length cap] 30 ∧ Below w.heap.size w w') (by kernel_rfl) ⟨rx, M, rb.drew⟩ fun hS => ?_
      have rz2 : Row wr.drew (A0 + 1) Z 40 := rz
      clear rx rz rb M
      generalize wr.drew = W2 at hS rz2 ⊢
      refine wpAnyH_take (i := 0) (v := .pointer (some ⟨A0, 0, none⟩)) rfl (by kernel_rfl) (by kernel_rfl) (by kernel_rfl) (fun _ _ _ h => h) (Or.inl ⟨by rfl, fun w _ => by go_simp⟩) hS ?_
      try simp only [Act.put, List.getElem_toArray, List.getElem_cons_zero, List.getElem_cons_succ, List.setIfInBounds_toArray, List.set_cons_zero, List.set_cons_succ]
      refine wpAnyH_take (i := 1) (v := .int .u8 c.kind) rfl (by kernel_rfl) (by kernel_rfl) (by kernel_rfl) (fun _ _ _ h => h) (Or.inl ⟨by rfl, fun w h => by have c := row_at h.1 0 _ rfl; go_simp⟩) hS ?_
      try simp only [Act.put, List.getElem_toArray, List.getElem_cons_zero, List.getElem_cons_succ, List.setIfInBounds_toArray, List.set_cons_zero, List.set_cons_succ]
      refine wpAnyH_take (i := 2) (v := .bool false) rfl (by kernel_rfl) (by kernel_rfl) (by kernel_rfl) (fun _ _ _ h => h) (Or.inl ⟨by rfl, fun w _ => by go_simp⟩) hS ?_
      try simp only [Act.put, List.getElem_toArray, List.getElem_cons_zero, List.getElem_cons_succ, List.setIfInBounds_toArray, List.set_cons_zero, List.set_cons_succ]
      refine wpAnyH_take (i := 3) (v := .bool false) rfl (by kernel_rfl) (by kernel_rfl) (by kernel_rfl) (fun _ _ _ h => h) (Or.inl ⟨by rfl, fun w _ => by go_simp⟩) hS ?_
      try simp only [Act.put, List.getElem_toArray, List.getElem_cons_zero, List.getElem_cons_succ, List.setIfInBounds_toArray, List.set_cons_zero, List.set_cons_succ]
      refine wpAnyH_take (i := 4) (v := .pointer (some ⟨A0, 0, none⟩)) rfl (by kernel_rfl) (by kernel_rfl) (by kernel_rfl) (fun _ _ _ h => h) (Or.inl ⟨by rfl, fun w _ => by go_simp⟩) hS ?_
      try simp only [Act.put, List.getElem_toArray, List.getElem_cons_zero, List.getElem_cons_succ, List.setIfInBounds_toArray, List.set_cons_zero, List.set_cons_succ]
      refine wpAnyH_take (i := 5) (v := .int .u8 c.kind) rfl (by kernel_rfl) (by kernel_rfl) (by kernel_rfl) (fun _ _ _ h => h) (Or.inl ⟨by rfl, fun w h => by have c := row_at h.1 0 _ rfl; go_simp⟩) hS ?_
      try simp only [Act.put, List.getElem_toArray, List.getElem_cons_zero, List.getElem_cons_succ, List.setIfInBounds_toArray, List.set_cons_zero, List.set_cons_succ]
      refine wpAnyH_take (i := 6) (v := .bool true) rfl (by kernel_rfl) (by kernel_rfl) (by kernel_rfl) (fun _ _ _ h => h) (Or.inl ⟨by rfl, fun w _ => by go_simp⟩) hS ?_
      try simp only [Act.put, List.getElem_toArray, List.getElem_cons_zero, List.getElem_cons_succ, List.setIfInBounds_toArray, List.set_cons_zero, List.set_cons_succ]
      refine wpAnyH_take (i := 7) (v := .bool true) rfl (by kernel_rfl) (by kernel_rfl) (by kernel_rfl) (fun _ _ _ h => h) (Or.inl ⟨by rfl, fun w _ => by go_simp⟩) hS ?_
      try simp only [Act.put, List.getElem_toArray, List.getElem_cons_zero, List.getElem_cons_succ, List.setIfInBounds_toArray, List.set_cons_zero, List.set_cons_succ]
      refine wpAnyH_take (i := 8) (v := .pointer (some ⟨A0, 0, none⟩)) rfl (by kernel_rfl) (by kernel_rfl) (by kernel_rfl) (fun _ _ _ h => h) (Or.inl ⟨by rfl, fun w _ => by go_simp⟩) hS ?_
      try simp only [Act.put, List.getElem_toArray, List.getElem_cons_zero, List.getElem_cons_succ, List.setIfInBounds_toArray, List.set_cons_zero, List.set_cons_succ]
      refine wpAnyH_take (i := 9) (v := .int .u8 c.kind) rfl (by kernel_rfl) (by kernel_rfl) (by kernel_rfl) (fun _ _ _ h => h) (Or.inl ⟨by rfl, fun w h => by have c := row_at h.1 0 _ rfl; go_simp⟩) hS ?_
      try simp only [Act.put, List.getElem_toArray, List.getElem_cons_zero, List.getElem_cons_succ, List.setIfInBounds_toArray, List.set_cons_zero, List.set_cons_succ]
      refine wpAnyH_take (i := 10) (v := .bool true) rfl (by kernel_rfl) (by kernel_rfl) (by kernel_rfl) (fun _ _ _ h => h) (Or.inl ⟨by rfl, fun w _ => by go_simp⟩) hS ?_
      try simp only [Act.put, List.getElem_toArray, List.getElem_cons_zero, List.getElem_cons_succ, List.setIfInBounds_toArray, List.set_cons_zero, List.set_cons_succ]
      refine wpAnyH_take (i := 11) (v := .bool true) rfl (by kernel_rfl) (by kernel_rfl) (by kernel_rfl) (fun _ _ _ h => h) (Or.inl ⟨by rfl, fun w _ => by go_simp⟩) hS ?_
      try simp only [Act.put, List.getElem_toArray, List.getElem_cons_zero, List.getElem_cons_succ, List.setIfInBounds_toArray, List.set_cons_zero, List.set_cons_succ]
      refine wpAnyH_take (i := 12) (v := .bool true) rfl (by kernel_rfl) (by kernel_rfl) (by kernel_rfl) (fun _ _ _ h => h) (Or.inl ⟨by rfl, fun w _ => by go_simp⟩) hS ?_
      try simp only [Act.put, List.getElem_toArray, List.getElem_cons_zero, List.getElem_cons_succ, List.setIfInBounds_toArray, List.set_cons_zero, List.set_cons_succ]
      refine wpAnyH_take (i := 13) (v := .pointer (some ⟨A0, 2, none⟩)) rfl (by kernel_rfl) (by kernel_rfl) (by kernel_rfl) (fun _ _ _ h => h) (Or.inl ⟨by rfl, fun w _ => by go_simp⟩) hS ?_
      try simp only [Act.put, List.getElem_toArray, List.getElem_cons_zero, List.getElem_cons_succ, List.setIfInBounds_toArray, List.set_cons_zero, List.set_cons_succ]
      refine wpAnyH_take (i := 14) (v := .int .u16 c.page) rfl (by kernel_rfl) (by kernel_rfl) (by kernel_rfl) (fun _ _ _ h => h) (Or.inl ⟨by rfl, fun w h => by have c := row_at h.1 2 _ rfl; go_simp⟩) hS ?_
      try simp only [Act.put, List.getElem_toArray, List.getElem_cons_zero, List.getElem_cons_succ, List.setIfInBounds_toArray, List.set_cons_zero, List.set_cons_succ]
      refine wpAnyH_take (i := 15) (v := .int .i64 c.page) rfl (by kernel_rfl) (by kernel_rfl) (by kernel_rfl) (fun _ _ _ h => h) (Or.inl ⟨by rfl, fun w _ => by go_simp⟩) hS ?_
      try simp only [Act.put, List.getElem_toArray, List.getElem_cons_zero, List.getElem_cons_succ, List.setIfInBounds_toArray, List.set_cons_zero, List.set_cons_succ]
      refine wpAnyH_take (i := 16) (v := .pointer (some ⟨r, 0, none⟩)) rfl (by kernel_rfl) (by kernel_rfl) (by kernel_rfl) (fun _ _ _ h => h) (Or.inl ⟨by rfl, fun w _ => by go_simp⟩) hS ?_
      try simp only [Act.put, List.getElem_toArray, List.getElem_cons_zero, List.getElem_cons_succ, List.setIfInBounds_toArray, List.set_cons_zero, List.set_cons_succ]
      refine wpAnyH_take (i := 17) (v := .pointer (some ⟨r, 0, none⟩)) rfl (by kernel_rfl) (by kernel_rfl) (by kernel_rfl) (fun _ _ _ h => h) (Or.inl ⟨by rfl, fun w _ => by go_simp⟩) hS ?_
      try simp only [Act.put, List.getElem_toArray, List.getElem_cons_zero, List.getElem_cons_succ, List.setIfInBounds_toArray, List.set_cons_zero, List.set_cons_succ]
      refine wpAnyH_take (i := 18) (v := .pointer (some ⟨r, 0, none⟩)) rfl (by kernel_rfl) (by kernel_rfl) (by kernel_rfl) (fun _ _ _ h => h) (Or.inl ⟨by rfl, fun w _ => by go_simp⟩) hS ?_
      try simp only [Act.put, List.getElem_toArray, List.getElem_cons_zero, List.getElem_cons_succ, List.setIfInBounds_toArray, List.set_cons_zero, List.set_cons_succ]
      refine wpAnyH_take (i := 19) (v := .int .i64 n) rfl (by kernel_rfl) (by kernel_rfl) (by kernel_rfl) (fun _ _ _ h => h) (Or.inl ⟨by rfl, fun w h => by have c := row_at h.2.1 0 _ rfl; go_simp⟩) hS ?_
      try simp only [Act.put, List.getElem_toArray, List.getElem_cons_zero, List.getElem_cons_succ, List.setIfInBounds_toArray, List.set_cons_zero, List.set_cons_succ]
      refine wpAnyH_take (i := 20) (v := .bool false) rfl (by kernel_rfl) (by kernel_rfl) (by kernel_rfl) (fun _ _ _ h => h) (Or.inl ⟨by rfl, fun w _ => by go_simp⟩) hS ?_
      try simp only [Act.put, List.getElem_toArray, List.getElem_cons_zero, List.getElem_cons_succ, List.setIfInBounds_toArray, List.set_cons_zero, List.set_cons_succ]
      refine wpAnyH_take (i := 21) (v := .bool false) rfl (by kernel_rfl) (by kernel_rfl) (by kernel_rfl) (fun _ _ _ h => h) (Or.inl ⟨by rfl, fun w _ => by go_simp⟩) hS ?_
      try simp only [Act.put, List.getElem_toArray, List.getElem_cons_zero, List.getElem_cons_succ, List.setIfInBounds_toArray, List.set_cons_zero, List.set_cons_succ]
      refine wpAnyH_take (i := 22) (v := .bool false) rfl (by kernel_rfl) (by kernel_rfl) (by kernel_rfl) (fun _ _ _ h => h) (Or.inl ⟨by rfl, fun w _ => by go_simp⟩) hS ?_
      try simp only [Act.put, List.getElem_toArray, List.getElem_cons_zero, List.getElem_cons_succ, List.setIfInBounds_toArray, List.set_cons_zero, List.set_cons_succ]
      refine wpAnyH_take (i := 23) (v := .bool false) rfl (by kernel_rfl) (by kernel_rfl) (by kernel_rfl) (fun _ _ _ h => h) (Or.inl ⟨by rfl, fun w _ => by go_simp⟩) hS ?_
      try simp only [Act.put, List.getElem_toArray, List.getElem_cons_zero, List.getElem_cons_succ, List.setIfInBounds_toArray, List.set_cons_zero, List.set_cons_succ]
      refine wpAnyH_take (i := 24) (v := .pointer (some ⟨A0, 0, none⟩)) rfl (by kernel_rfl) (by kernel_rfl) (by kernel_rfl) (fun _ _ _ h => h) (Or.inl ⟨by rfl, fun w _ => by go_simp⟩) hS ?_
      try simp only [Act.put, List.getElem_toArray, List.getElem_cons_zero, List.getElem_cons_succ, List.setIfInBounds_toArray, List.set_cons_zero, List.set_cons_succ]
      refine wpAnyH_take (i := 25) (v := .int .u8 c.kind) rfl (by kernel_rfl) (by kernel_rfl) (by kernel_rfl) (fun _ _ _ h => h) (Or.inl ⟨by rfl, fun w h => by have c := row_at h.1 0 _ rfl; go_simp⟩) hS ?_
      try simp only [Act.put, List.getElem_toArray, List.getElem_cons_zero, List.getElem_cons_succ, List.setIfInBounds_toArray, List.set_cons_zero, List.set_cons_succ]
      refine wpAnyH_take (i := 26) (v := .bool false) rfl (by kernel_rfl) (by kernel_rfl) (by kernel_rfl) (fun _ _ _ h => h) (Or.inl ⟨by rfl, fun w _ => by go_simp⟩) hS ?_
      try simp only [Act.put, List.getElem_toArray, List.getElem_cons_zero, List.getElem_cons_succ, List.setIfInBounds_toArray, List.set_cons_zero, List.set_cons_succ]
      refine wpAnyH_take (i := 27) (v := .bool false) rfl (by kernel_rfl) (by kernel_rfl) (by kernel_rfl) (fun _ _ _ h => h) (Or.inl ⟨by rfl, fun w _ => by go_simp⟩) hS ?_
      try simp only [Act.put, List.getElem_toArray, List.getElem_cons_zero, List.getElem_cons_succ, List.setIfInBounds_toArray, List.set_cons_zero, List.set_cons_succ]
      refine wpAnyH_take (i := 28) (v := undef) rfl (by kernel_rfl) (by kernel_rfl) (by kernel_rfl) (fun _ _ _ h => h) (Or.inr ⟨by rfl, rfl⟩) hS ?_
      try simp only [Act.put, List.getElem_toArray, List.getElem_cons_zero, List.getElem_cons_succ, List.setIfInBounds_toArray, List.set_cons_zero, List.set_cons_succ]
      refine wpAnyH_take (i := 29) (v := undef) rfl (by kernel_rfl) (by kernel_rfl) (by kernel_rfl) (fun _ _ _ h => h) (Or.inr ⟨by rfl, rfl⟩) hS ?_
      try simp only [Act.put, List.getElem_toArray, List.getElem_cons_zero, List.getElem_cons_succ, List.setIfInBounds_toArray, List.set_cons_zero, List.set_cons_succ]
      refine wpAnyH_take (i := 30) (v := undef) rfl (by kernel_rfl) (by kernel_rfl) (by kernel_rfl) (fun _ _ _ h => h) (Or.inr ⟨by rfl, rfl⟩) hS ?_
      try simp only [Act.put, List.getElem_toArray, List.getElem_cons_zero, List.getElem_cons_succ, List.setIfInBounds_toArray, List.set_cons_zero, List.set_cons_succ]
      refine wpAnyH_take (i := 31) (v := undef) rfl (by kernel_rfl) (by kernel_rfl) (by kernel_rfl) (fun _ _ _ h => h) (Or.inr ⟨by rfl, rfl⟩) hS ?_
      try simp only [Act.put, List.getElem_toArray, List.getElem_cons_zero, List.getElem_cons_succ, List.setIfInBounds_toArray, List.set_cons_zero, List.set_cons_succ]
      refine wpAnyH_take (i := 32) (v := undef) rfl (by kernel_rfl) (by kernel_rfl) (by kernel_rfl) (fun _ _ _ h => h) (Or.inr ⟨by rfl, rfl⟩) hS ?_
      try simp only [Act.put, List.getElem_toArray, List.getElem_cons_zero, List.getElem_cons_succ, List.setIfInBounds_toArray, List.set_cons_zero, List.set_cons_succ]
      refine wpAnyH_take (i := 33) (v := undef) rfl (by kernel_rfl) (by kernel_rfl) (by kernel_rfl) (fun _ _ _ h => h) (Or.inr ⟨by rfl, rfl⟩) hS ?_
      try simp only [Act.put, List.getElem_toArray, List.getElem_cons_zero, List.getElem_cons_succ, List.setIfInBounds_toArray, List.set_cons_zero, List.set_cons_succ]
      refine wpAnyH_take (i := 34) (v := undef) rfl (by kernel_rfl) (by kernel_rfl) (by kernel_rfl) (fun _ _ _ h => h) (Or.inr ⟨by rfl, rfl⟩) hS ?_
      try simp only [Act.put, List.getElem_toArray, List.getElem_cons_zero, List.getElem_cons_succ, List.setIfInBounds_toArray, List.set_cons_zero, List.set_cons_succ]
      refine wpAnyH_take (i := 35) (v := undef) rfl (by kernel_rfl) (by kernel_rfl) (by kernel_rfl) (fun _ _ _ h => h) (Or.inr ⟨by rfl, rfl⟩) hS ?_
      try simp only [Act.put, List.getElem_toArray, List.getElem_cons_zero, List.getElem_cons_succ, List.setIfInBounds_toArray, List.set_cons_zero, List.set_cons_succ]
      refine wpAnyH_take (i := 36) (v := undef) rfl (by kernel_rfl) (by kernel_rfl) (by kernel_rfl) (fun _ _ _ h => h) (Or.inr ⟨by rfl, rfl⟩) hS ?_
      try simp only [Act.put, List.getElem_toArray, List.getElem_cons_zero, List.getElem_cons_succ, List.setIfInBounds_toArray, List.set_cons_zero, List.set_cons_succ]
      refine wpAnyH_take (i := 37) (v := undef) rfl (by kernel_rfl) (by kernel_rfl) (by kernel_rfl) (fun _ _ _ h => h) (Or.inr ⟨by rfl, rfl⟩) hS ?_
      try simp only [Act.put, List.getElem_toArray, List.getElem_cons_zero, List.getElem_cons_succ, List.setIfInBounds_toArray, List.set_cons_zero, List.set_cons_succ]
      refine wpAnyH_take (i := 38) (v := undef) rfl (by kernel_rfl) (by kernel_rfl) (by kernel_rfl) (fun _ _ _ h => h) (Or.inr ⟨by rfl, rfl⟩) hS ?_
      try simp only [Act.put, List.getElem_toArray, List.getElem_cons_zero, List.getElem_cons_succ, List.setIfInBounds_toArray, List.set_cons_zero, List.set_cons_succ]
      refine wpAnyH_take (i := 39) (v := undef) rfl (by kernel_rfl) (by kernel_rfl) (by kernel_rfl) (fun _ _ _ h => h) (Or.inr ⟨by rfl, rfl⟩) hS ?_
      try simp only [Act.put, List.getElem_toArray, List.getElem_cons_zero, List.getElem_cons_succ, List.setIfInBounds_toArray, List.set_cons_zero, List.set_cons_succ]
      refine wpAnyH_take (i := 40) (v := undef) rfl (by kernel_rfl) (by kernel_rfl) (by kernel_rfl) (fun _ _ _ h => h) (Or.inr ⟨by rfl, rfl⟩) hS ?_
      try simp only [Act.put, List.getElem_toArray, List.getElem_cons_zero, List.getElem_cons_succ, List.setIfInBounds_toArray, List.set_cons_zero, List.set_cons_succ]
      refine wpAnyH_take (i := 41) (v := undef) rfl (by kernel_rfl) (by kernel_rfl) (by kernel_rfl) (fun _ _ _ h => h) (Or.inr ⟨by rfl, rfl⟩) hS ?_
      try simp only [Act.put, List.getElem_toArray, List.getElem_cons_zero, List.getElem_cons_succ, List.setIfInBounds_toArray, List.set_cons_zero, List.set_cons_succ]
      refine wpAnyH_take (i := 42) (v := undef) rfl (by kernel_rfl) (by kernel_rfl) (by kernel_rfl) (fun _ _ _ h => h) (Or.inr ⟨by rfl, rfl⟩) hS ?_
      try simp only [Act.put, List.getElem_toArray, List.getElem_cons_zero, List.getElem_cons_succ, List.setIfInBounds_toArray, List.set_cons_zero, List.set_cons_succ]
      refine wpAnyH_take (i := 43) (v := undef) rfl (by kernel_rfl) (by kernel_rfl) (by kernel_rfl) (fun _ _ _ h => h) (Or.inr ⟨by rfl, rfl⟩) hS ?_
      try simp only [Act.put, List.getElem_toArray, List.getElem_cons_zero, List.getElem_cons_succ, List.setIfInBounds_toArray, List.set_cons_zero, List.set_cons_succ]
      refine wpAnyH_take (i := 44) (v := undef) rfl (by kernel_rfl) (by kernel_rfl) (by kernel_rfl) (fun _ _ _ h => h) (Or.inr ⟨by rfl, rfl⟩) hS ?_
      try simp only [Act.put, List.getElem_toArray, List.getElem_cons_zero, List.getElem_cons_succ, List.setIfInBounds_toArray, List.set_cons_zero, List.set_cons_succ]
      refine wpAnyH_take (i := 45) (v := .bool false) rfl (by kernel_rfl) (by kernel_rfl) (by kernel_rfl) (fun _ _ _ h => h) (Or.inl ⟨by rfl, fun w _ => by go_simp⟩) hS ?_
      try simp only [Act.put, List.getElem_toArray, List.getElem_cons_zero, List.getElem_cons_succ, List.setIfInBounds_toArray, List.set_cons_zero, List.set_cons_succ]
      refine wpAnyH_take (i := 46) (v := .bool false) rfl (by kernel_rfl) (by kernel_rfl) (by kernel_rfl) (fun _ _ _ h => h) (Or.inl ⟨by rfl, fun w _ => by go_simp⟩) hS ?_
      try simp only [Act.put, List.getElem_toArray, List.getElem_cons_zero, List.getElem_cons_succ, List.setIfInBounds_toArray, List.set_cons_zero, List.set_cons_succ]
      refine wpAnyH_done (by kernel_rfl) ?_ _
      obtain ⟨rx2, rm2, rb2⟩ := hS
      have e0 := row_at rx2 0 _ rfl
      have k0 : (c.kind == 0) = false := by have : ¬ c.kind = 0 := (by omega); simpa using this
      have k4 : ¬ c.kind > 4 := by omega
      have e1 := row_at rx2 1 _ rfl
      have hcl := HBG.out W2 rb2
      have g1 : (c.kind == 1) = true := by rw [hk]; rfl
      have g2 : (c.kind == 2) = false := by rw [hk]; rfl
      have g3 : (c.kind == 3) = false := by rw [hk]; rfl
      subst hb0
      clear k1 k2 k3 k7 q2 hwp
      have hz44 := zero44
      have HZ4 : Hid (Ver.zero.arr.size = 65) := vz
      generalize Ver.zero.arr = Z4 at hz44 HZ4
      have hz38 := zero38
      have bz := built38_none
      have HZ8 : Hid ((bs (zs 64)).size = 64) := by rw [bs_size]; exact zs_length _
      obtain ⟨Z8, HZ8D⟩ : ∃ Z8, Hid (bs (zs 64) = Z8) := ⟨_, rfl⟩
      have HVS : Hid (V.arr.size = 65) := Ver.arr_size HVO.out
      have vo := V.one
      have HVT : Hid (V.arr[0]? = some (.int .u32 V.ts)) := rfl
      have HBL2 : Hid ((V.body.map (Value.int .u8)).length = 64) := by show _ = _; rw [List.length_map]; exact HVO.out.wr.1
      have HBA0 : Hid ((V.body.map (Value.int .u8)).toArray = bs V.body) := rfl
      obtain ⟨VA, HVA⟩ : ∃ VA, Hid (V.arr = VA) := ⟨_, rfl⟩
      rw [HVA.out] at H17 HVS vo HVT
      obtain ⟨BL, HBL⟩ : ∃ BL, Hid (V.body.map (Value.int .u8) = BL) := ⟨_, rfl⟩
      rw [HBL.out] at HBL2 HBA0
      obtain ⟨B0, HB0⟩ : ∃ B0, Hid (bs V.body = B0) := ⟨_, rfl⟩
      rw [HB0.out] at HBA0 H26
      have HBS : Hid ((bs B).size = 64) := by rw [bs_size]; exact HB.out
      have hbo := bs_one B
      have bu0 := fun t => built40_body t B HB.out
      obtain ⟨BA, HBA⟩ : ∃ BA, Hid (bs B = BA) := ⟨_, rfl⟩
      rw [HBA.out] at H26 HBS hbo bu0
      rw [HZ8D.out] at hz38 HZ8
      clear bz
      have HBU : Hid (∀ t, Try.prog.built 40 [(2, .int .u32 t), (3, .agg BA)] = some (Rep.mk 0 0 t B).arr) := bu0
      clear bu0
      have tv : Hid (1 = 1) := rfl
      clear hk
      go_upto_region 22 with (first
        | (have hh := hcl; clear hh; go_at_call 32; refine Calls.mono hcl ?_; clear hcl; rintro e W3 ⟨he, hb⟩; obtain rfl := he; have rx2 := rx2.below hb rx2.lt; have rz2 := rz2.below hb rz2.lt; have rb2 := rb2.trans (hb.mono rb2.size); clear hb; have e0 := row_at rx2 0 _ rfl; have e2 := row_at rx2 2 _ rfl; have hc17 := H17.out W3 rb2)
        | (have hh := hc17; clear hh; go_at_call 17; refine Calls.mono hc17 ?_; clear hc17; rintro e W4 ⟨he, hb⟩; obtain rfl := he; have rx2 := rx2.below hb rx2.lt; have rz2 := rz2.below hb rz2.lt; have rb2 := rb2.trans (hb.mono rb2.size); clear hb; have rn : Row (W4.alloc (.cells Z4 44)) W4.heap.size Z4 44 := Row.new _ _ _)
        | (have hh := tv; clear hh tv; refine store_cells rfl 44 (.tmp 11) (.tmp 126) rfl W4.heap.size VA rfl rfl 44 _ rn 65 size44 HZ4.out HVS.out vo ?_))
      have bn : Below W4.heap.size W4 ((W4.alloc (.cells Z4 44)).setRow W4.heap.size VA) := below_setRow ((Below.refl _ _).alloc (Nat.le_refl _) _) (Nat.le_refl _) _
      have rV : Row ((W4.alloc (.cells Z4 44)).setRow W4.heap.size VA) W4.heap.size VA 44 := rn.set _
      have rx5 := rx2.below bn rx2.lt
      have rz5 := rz2.below bn rz2.lt
      have rb5 := rb2.trans (bn.mono rb2.size)
      have hXz : A0 + 1 < W4.heap.size := rz2.lt
      clear rn bn e0 e1 e2
      generalize (W4.alloc (.cells Z4 44)).setRow W4.heap.size VA = W5 at rV rx5 rz5 rb5 ⊢
      generalize W4.heap.size = X5 at rV hXz ⊢
      have e1 := row_at rx5 1 _ rfl
      have e2 := row_at rx5 2 _ rfl
      have hcells : ∀ j u, BL[j]? = some u → W5.cell? ((⟨X5, 1, none⟩ : Addr).add j) = some u := by rw [← HBL.out]; exact vbody_cells HVA.out rV
      have hc26 := H26.out W5 rb5
      have tl : Hid (1 = 1) := rfl
      have ts : Hid (1 = 1) := rfl
      go_upto_region 23 with (first
        | (have hh := tl; clear hh tl; refine wpList_load_any rfl 38 (.tmp 133) rfl ⟨X5, 1, none⟩ rfl BL _ hcells Try.underlying38 rfl (by rw [size38, HBL2.out]) ?_; rw [HBA0.out])
        | (have hh := hc26; clear hh; go_at_call 26; refine Calls.mono hc26 ?_; clear hc26; rintro e W6 ⟨he, hb⟩; obtain rfl := he; have rV6 := rV.below hb rV.lt; have rz6 := rz5.below hb rz5.lt; have rb6 := rb5.trans (hb.mono rb5.size); clear hb; have rn : Row (W6.alloc (.cells Z8 38)) W6.heap.size Z8 38 := Row.new _ _ _)
        | (have hh := ts; clear hh ts; refine store_cells rfl 38 (.tmp 12) (.tmp 136) rfl W6.heap.size BA rfl rfl 38 _ rn 64 size38 HZ8.out HBS.out hbo ?_))
      have bn : Below W6.heap.size W6 ((W6.alloc (.cells Z8 38)).setRow W6.heap.size BA) := below_setRow ((Below.refl _ _).alloc (Nat.le_refl _) _) (Nat.le_refl _) _
      have rB : Row ((W6.alloc (.cells Z8 38)).setRow W6.heap.size BA) W6.heap.size BA 38 := rn.set _
      have rV7 := rV6.below bn rV6.lt
      have rz7 := rz6.below bn rz6.lt
      have rb7 := rb6.trans (bn.mono rb6.size)
      have hXB : X5 < W6.heap.size := rV6.lt
      clear rn bn e1 e2 hcells rV6 rz6 rb6 rV rz5 rb5 rx5 rx2 rz2 rb2
      generalize (W6.alloc (.cells Z8 38)).setRow W6.heap.size BA = W7 at rV7 rz7 rb7 rB ⊢
      generalize W6.heap.size = X7 at rB hXB ⊢
      have HXA : Hid (w.heap.size ≤ X5) := by show _ ≤ _; rw [HA0.out]; omega
      cases fl with
      | true =>
        have ev := row_at rV7 0 _ HVT.out
        have fv := row_frozen rV7 0
        have O8 : Off (· = X5) W7 (W7.setCell ⟨X5, 0, none⟩ (.int .u32 st)) := Off.of_setCell _ _ _ rfl
        have V8 := row_set rV7 0 (.int .u32 st)
        have HV8 : Hid ((VA.setIfInBounds 0 (.int .u32 st))[0]? = some (.int .u32 st)) := by show _ = _; rw [Array.getElem?_setIfInBounds_self_of_lt (by rw [HVS.out]; decide)]
        have rz8 := rz7.off O8 (by omega)
        have rB8 := rB.off O8 (by omega)
        have rb8 : Below w.heap.size w (W7.setCell ⟨X5, 0, none⟩ (.int .u32 st)) := rb7.trans (O8.below rb7.size (fun q e => by rw [e]; exact HXA.out))
        go_upto_region 25 with fail
        clear ev fv O8 rV7 rz7 rB rb7
        generalize W7.setCell ⟨X5, 0, none⟩ (.int .u32 st) = W8 at V8 rz8 rB8 rb8 ⊢
        have ev := row_at V8 0 _ HV8.out
        have tm : Hid (1 = 1) := rfl
        have bu := HBU.out st
        have HFS : Hid ((Rep.mk 0 0 st B).arr.size = 67) := Rep.arr_size (HB.out)
        have fo := (Rep.mk 0 0 st B).one
        obtain ⟨FA, HFA⟩ : ∃ FA, Hid ((Rep.mk 0 0 st B).arr = FA) := ⟨_, rfl⟩
        rw [HFA.out] at bu HFS fo
        try clear hk
        have tb : Hid (1 = 1) := rfl
        have ts : Hid (1 = 1) := rfl
        go_wp2_with (first
          | (have hh := tm; clear hh tm; refine load_cells rfl 38 (.tmp 12) rfl X7 rfl 38 BA rB8 64 Try.underlying38 rfl size38 HBS.out ?_)
          | (have hh := tb; clear hh tb; refine build_cells rfl 40 #[(2, .tmp 142), (3, .tmp 143)] rfl [(2, .int .u32 st), (3, .agg BA)] rfl FA bu ?_)
          | (have hh := ts; clear hh ts; refine store_cells rfl 40 (.tmp 4) (.tmp 144) rfl (A0 + 1) FA rfl rfl 40 _ rz8 67 size40 HZS.out HFS.out fo ?_))
        refine bodyPost_ret (v := .agg FA) (ret_cell (fn := Try.f23) rfl _ _ (A0 + 1) 40 FA _ rfl (rz8.set _) Try.underlying40 rfl (by rw [size40, HFS.out])) rfl ?_
        rw [HPP.out]
        exact ⟨by first | rw [HFA.out] | exact congrArg (fun x => Ending.returned (.agg x)) HFA.out.symm, below_setRow rb8 (by rw [HA0.out]; exact Nat.le_succ _) _⟩
      | false =>
        have ev := row_at rV7 0 _ HVT.out
        have tm : Hid (1 = 1) := rfl
        have bu := HBU.out V.ts
        have HFS : Hid ((Rep.mk 0 0 V.ts B).arr.size = 67) := Rep.arr_size (HB.out)
        have fo := (Rep.mk 0 0 V.ts B).one
        obtain ⟨FA, HFA⟩ : ∃ FA, Hid ((Rep.mk 0 0 V.ts B).arr = FA) := ⟨_, rfl⟩
        rw [HFA.out] at bu HFS fo
        try clear hk
        have tb : Hid (1 = 1) := rfl
        have ts : Hid (1 = 1) := rfl
        go_wp2_with (first
          | (have hh := tm; clear hh tm; refine load_cells rfl 38 (.tmp 12) rfl X7 rfl 38 BA rB 64 Try.underlying38 rfl size38 HBS.out ?_)
          | (have hh := tb; clear hh tb; refine build_cells rfl 40 #[(2, .tmp 142), (3, .tmp 143)] rfl [(2, .int .u32 V.ts), (3, .agg BA)] rfl FA bu ?_)
          | (have hh := ts; clear hh ts; refine store_cells rfl 40 (.tmp 4) (.tmp 144) rfl (A0 + 1) FA rfl rfl 40 _ rz7 67 size40 HZS.out HFS.out fo ?_))
        refine bodyPost_ret (v := .agg FA) (ret_cell (fn := Try.f23) rfl _ _ (A0 + 1) 40 FA _ rfl (rz7.set _) Try.underlying40 rfl (by rw [size40, HFS.out])) rfl ?_
        rw [HPP.out]
        exact ⟨by first | rw [HFA.out] | exact congrArg (fun x => Ending.returned (.agg x)) HFA.out.symm, below_setRow rb7 (by rw [HA0.out]; exact Nat.le_succ _) _⟩
end Go.Proofs.Ytpncmbkklkfmnaa
