/-
  Proved here: how many pages a transaction has written, and how many transactions are live, as the document's machine tells it.
-/
import Derived.Test.YtpncmbkklkfmnaaMrw
namespace Go.Proofs.Ytpncmbkklkfmnaa
open Go.ChangeShapes Go.WideShapes Go.ChangeAt Go.RowKit
open Go.Deep Go.Maps
set_option linter.unusedVariables false
set_option linter.unusedSimpArgs false
set_option maxRecDepth 20000


theorem wrR_wr {ds : List Dn} (hft : Fit ds) (x k : Int) {b : List Int} (hb : Wr b) : Wr (wrR' ds x k b).1 := by
  unfold wrR'
  have gen : ∀ (l : List Dn) (p : List Int × Bool), (∀ d ∈ l, d.c.kind = 2 → d.r.err = 0 → fitsB d.c.off d.c.str = true) → Wr p.1 → Wr (l.foldl (wrS x k) p).1 := by
    intro l
    induction l with
    | nil => intro p _ h; exact h
    | cons d r ih =>
      intro p hf h
      rw [List.foldl_cons]
      refine ih _ (fun e he => hf e (List.mem_cons_of_mem _ he)) ?_
      unfold wrS
      split
      · rename_i q
        simp only [isW, Bool.and_eq_true, decide_eq_true_eq] at q
        have hfi := hf d (List.mem_cons_self ..) q.1.1.1 q.2
        simp only [fitsB, Bool.and_eq_true, decide_eq_true_eq] at hfi
        show Wr (wrote p.1 d.c.off d.c.str)
        unfold wrote
        exact wrote_wr h (by omega)
      · exact h
  exact gen ds (b, false) hft hb
theorem built38_none : Try.prog.built 38 [] = some (bs (zs 64)) := by kernel_rfl
/-- How many pages below a number a transaction has written. -/
def cntW (ds : List Dn) (x : Int) : Nat → Nat
  | 0 => 0
  | p + 1 => cntW ds x p + if (wrR' ds x p (zs 64)).2 = true then 1 else 0
theorem cntW_le (ds : List Dn) (x : Int) : ∀ p, cntW ds x p ≤ p
  | 0 => Nat.le_refl _
  | p + 1 => by
    have := cntW_le ds x p
    unfold cntW
    split <;> omega
theorem RM.same {w0 w w' : World} {r n : Nat} {mx : Int} {v : Value} {ds : List Dn} (h : RM w0 w r n mx v ds) (hb : Below w.heap.size w w') : RM w0 w' r n mx v ds := h.below hb
set_option maxHeartbeats 4000000 in
theorem count_ref {w0 w : World} {r n : Nat} {mx : Int} {v : Value} {ds : List Dn} (h : RM w0 w r n mx v ds) (hft : Fit ds) (hn : n ≤ 16) (x : Int) : Calls Try.prog 33 #[.pointer (some ⟨r, 0, none⟩), .int .u64 x] w fun e w' => e = .returned (.int .i64 (cntW ds x n : Nat)) ∧ Below w.heap.size w w' := by
  have HRM : Hid (RM w0 w r n mx v ds) := h
  have HFT : Hid (Fit ds) := hft
  have HWR : Hid (∀ W, Below w.heap.size w W → ∀ p : Nat, Calls Try.prog 26 #[.pointer (some ⟨r, 0, none⟩), .int .u64 x, .int .u16 (p : Int), .agg (bs (zs 64))] W fun e w' => e = .returned (.tuple #[.agg (bs (wrR' ds x p (zs 64)).1), .bool (wrR' ds x p (zs 64)).2]) ∧ Below W.heap.size W w') := fun W hb p => wrote_ref (h.below hb) hft x p (zs 64) zs_wr
  have HWL : Hid (∀ p : Nat, (wrR' ds x p (zs 64)).1.length = 64) := fun p => (wrR_wr hft x p zs_wr).1
  have bz := built38_none
  have hz38 := zero38
  have HZ8 : Hid ((bs (zs 64)).size = 64) := by rw [bs_size]; exact zs_length _
  obtain ⟨Z8, HZD⟩ : ∃ Z8, Hid (bs (zs 64) = Z8) := ⟨_, rfl⟩
  rw [HZD.out] at bz hz38 HZ8 HWR
  obtain ⟨PP, HPP⟩ : ∃ PP : Ending → World → Prop, Hid (PP = fun e w' => e = .returned (.int .i64 (cntW ds x n : Nat)) ∧ Below w.heap.size w w') := ⟨_, rfl⟩
  rw [← HPP.out]
  clear h hft
  go_enter Try.func33, Try.ntmps33
  go_upto_region 3 with fail
  go_loopw [5, 6, 7, 8] (fun k i _ _ wr => ∃ (p : Nat), i = .int .i64 p ∧ p ≤ n ∧ Below w.heap.size w wr ∧ k = .int .i64 (cntW ds x p : Nat)) (fun _ i _ _ _ => n - (intOf i).toNat)
  case atStart => exact ⟨0, rfl, Nat.zero_le _, Below.refl _ _, rfl⟩
  case round =>
    obtain ⟨p, rfl, hp, rb, rfl⟩ := hrel
    have c0 := row_at (HRM.out.below rb).row 0 _ rfl
    have hcp := cntW_le ds x p
    obtain ⟨cn, HCN⟩ : ∃ cn, Hid (cntW ds x p = cn) := ⟨_, rfl⟩
    rw [HCN.out] at hcp ⊢
    by_cases hlt : (p : Int) < n
    · have hwp : IntKind.u16.wrap (p : Int) = (p : Int) := by rw [IntKind.wrap_u16]; omega
      have hw1 : IntKind.i64.wrap ((p : Int) + 1) = ((p + 1 : Nat) : Int) := by rw [IntKind.wrap_i64]; omega
      have hw2 : IntKind.i64.wrap ((cn : Int) + 1) = ((cn + 1 : Nat) : Int) := by rw [IntKind.wrap_i64]; omega
      have hcall := HWR.out wr rb p
      have hl := HWL.out p
      have HST : Hid (cntW ds x (p + 1) = cn + if (wrR' ds x p (zs 64)).2 = true then 1 else 0) := by show _ = _; rw [← HCN.out]; rfl
      obtain ⟨ok, HOK⟩ : ∃ ok, Hid ((wrR' ds x p (zs 64)).2 = ok) := ⟨_, rfl⟩
      obtain ⟨B, HB⟩ : ∃ B, Hid ((wrR' ds x p (zs 64)).1 = B) := ⟨_, rfl⟩
      rw [HB.out] at hl hcall
      rw [HOK.out] at hcall HST
      have HBS : Hid ((bs B).size = 64) := by rw [bs_size]; exact hl
      have hbo := bs_one B
      clear hl
      obtain ⟨BA, HBA⟩ : ∃ BA, Hid (bs B = BA) := ⟨_, rfl⟩
      rw [HBA.out] at hcall HBS hbo
      have tb : Hid (1 = 1) := rfl
      have ts : Hid (1 = 1) := rfl
      go_upto_region 6 with (first
        | (have hh := tb; clear hh tb; refine build_cells rfl 38 #[] rfl _ rfl Z8 bz ?_)
        | (go_at_call 26; refine Calls.mono hcall ?_; clear hcall; rintro e W1 ⟨he, hb1⟩; obtain rfl := he; have rn : Row (W1.alloc (.cells Z8 38)) W1.heap.size Z8 38 := Row.new _ _ _)
        | (have hh := ts; clear hh ts; refine store_cells rfl 38 (.tmp 7) (.tmp 24) rfl W1.heap.size BA rfl rfl 38 _ rn 64 size38 HZ8.out HBS.out hbo ?_))
      have bn : Below W1.heap.size W1 ((W1.alloc (.cells Z8 38)).setRow W1.heap.size BA) := below_setRow ((Below.refl _ _).alloc (Nat.le_refl _) _) (Nat.le_refl _) _
      have rb1 := rb.trans (hb1.mono rb.size)
      have rb2 := rb1.trans (bn.mono rb1.size)
      clear rn bn c0 rb1 hb1 rb
      generalize (W1.alloc (.cells Z8 38)).setRow W1.heap.size BA = W2 at rb2 ⊢
      cases ok with
      | true =>
        have HS2 : Hid (cntW ds x (p + 1) = cn + 1) := HST.out
        clear HST
        go_wp2
        go_roundw
        case rel => exact ⟨p + 1, by first | rfl | simp, by omega, rb2, by rw [HS2.out] <;> first | rfl | simp⟩
        case measure => simp only [intOf]; omega
      | false =>
        have HS2 : Hid (cntW ds x (p + 1) = cn) := HST.out
        clear HST
        go_wp2
        go_roundw
        case rel => exact ⟨p + 1, by first | rfl | simp, by omega, rb2, by rw [HS2.out] <;> first | rfl | simp⟩
        case measure => simp only [intOf]; omega
    · have HPN : Hid (p = n) := by show _ = _; omega
      go_wp2
      rw [HPP.out]
      exact ⟨by rw [← HPN.out, HCN.out] <;> rfl, rb⟩
/-- How many are live, and how many have begun, among the first ones. -/
def lvS (ds : List Dn) (p : Int × Int) (d : Dn) : Int × Int := if d.c.kind = 0 ∧ d.r.err = 0 then (p.1 + (if (bgR ds d.r.txn).2 = true then 1 else 0), p.2 + 1) else p
def lvP (ds : List Dn) (j : Nat) : Int × Int := (ds.take j).foldl (lvS ds) (0, 0)
def lvR (ds : List Dn) : Int × Int := ds.foldl (lvS ds) (0, 0)
theorem lvP_step {ds : List Dn} {j : Nat} {d : Dn} (h : ds[j]? = some d) : lvP ds (j + 1) = lvS ds (lvP ds j) d := by
  unfold lvP
  rw [take_snoc h, List.foldl_append]
  rfl
set_option maxHeartbeats 4000000 in
theorem live_ref {w0 w : World} {r n : Nat} {mx : Int} {v : Value} {ds : List Dn} (h : RM w0 w r n mx v ds) : Calls Try.prog 31 #[.pointer (some ⟨r, 0, none⟩)] w fun e w' => e = .returned (.tuple #[.int .i64 (lvR ds).1, .int .u64 (lvR ds).2]) ∧ Below w.heap.size w w' := by
  have HRM : Hid (RM w0 w r n mx v ds) := h
  have HBG : Hid (∀ W, Below w.heap.size w W → ∀ x : Int, Calls Try.prog 32 #[.pointer (some ⟨r, 0, none⟩), .int .u64 x] W fun e w' => e = .returned (.tuple #[.int .u32 (bgR ds x).1, .bool (bgR ds x).2]) ∧ Below W.heap.size W w') := fun W hb x => begun_ref (h.below hb) x
  obtain ⟨oa, cap, rfl, hel⟩ := h.form
  have HEL : Hid (∀ i d, ds[i]? = some d → ∃ a : Addr, oa = some a ∧ ∀ j u, d.cells[j]? = some u → w.cell? ((a.add (i * 72)).add j) = some u) := hel
  have HOKD : Hid (∀ d ∈ ds, d.Ok) := h.ok
  have c2 := row_at h.row 2 _ rfl
  have hfew := h.few
  obtain ⟨N, HN⟩ : ∃ N, Hid (ds.length = N) := ⟨_, rfl⟩
  rw [HN.out] at c2 hfew
  have hz63 := zero63
  have HZ63 : Hid (Dn.zero.arr.size = 72) := Dn.arr_size Dn.zero_ok
  generalize Dn.zero.arr = Z63 at hz63 HZ63
  clear hel
  obtain ⟨PP, HPP⟩ : ∃ PP : Ending → World → Prop, Hid (PP = fun e w' => e = .returned (.tuple #[.int .i64 (lvR ds).1, .int .u64 (lvR ds).2]) ∧ Below w.heap.size w w') := ⟨_, rfl⟩
  rw [← HPP.out]
  clear h
  go_enter Try.func31, Try.ntmps31
  go_upto_region 3 with fail
  go_loopw [4, 5, 7, 8, 9, 15] (fun a c _ _ _ i wr => ∃ (j : Nat) (y z : Nat), i = .int .i64 j ∧ j ≤ N ∧ Below w.heap.size w wr ∧ a = .int .i64 (y : Int) ∧ c = .int .u64 (z : Int) ∧ y ≤ j ∧ z ≤ j ∧ Hid (lvP ds j = ((y : Int), (z : Int)))) (fun _ _ _ _ _ i _ => N - (intOf i).toNat)
  case atStart => exact ⟨0, 0, 0, rfl, Nat.zero_le _, Below.refl _ _, rfl, rfl, Nat.le_refl _, Nat.le_refl _, rfl⟩
  case round =>
    obtain ⟨j, y, z, rfl, hj, rb, rfl, rfl, hy, hz, HI⟩ := hrel
    by_cases hlt : (j : Int) < N
    · obtain ⟨d, hd⟩ : ∃ d, ds[j]? = some d := ⟨_, List.getElem?_eq_getElem (by rw [HN.out]; omega)⟩
      obtain ⟨a, rfl, hcell⟩ := HEL.out j d hd
      have hcell2 : ∀ i u, d.cells[i]? = some u → wr.cell? ((a.add (j * 72)).add i) = some u := fun i u h => cell_keep (hcell i u h) rb
      have HDK : Hid d.Ok := HOKD.out d (List.mem_of_getElem? hd)
      have HJ : Hid (ds[j]? = some d) := hd
      have rn : Row (wr.alloc (.cells Z63 63)) wr.heap.size Z63 63 := Row.new _ _ _
      obtain ⟨DA, HDA⟩ : ∃ DA, Hid (d.arr = DA) := ⟨_, rfl⟩
      have HAR : Hid (d.cells.toArray = DA) := by rw [← HDA.out]; rfl
      have HDL : Hid (d.cells.length = 72) := Dn.cells_length HDK.out
      have HDS : Hid (DA.size = 72) := by rw [← HDA.out]; exact Dn.arr_size HDK.out
      have HDO : Hid (DA.all (·.oneCell') = true) := by rw [← HDA.out]; exact d.one
      have HDC : Hid (DA[0]? = some (.int .u8 d.c.kind) ∧ DA[1]? = some (.int .u64 d.c.txn) ∧ DA[2]? = some (.int .u16 d.c.page) ∧ DA[3]? = some (.int .i64 d.c.off) ∧ DA[4]? = some (.string d.c.str) ∧ DA[5]? = some (.int .i64 d.r.err) ∧ DA[6]? = some (.int .u64 d.r.txn) ∧ DA[7]? = some (.int .u32 d.r.ts)) := by rw [← HDA.out]; exact ⟨rfl, rfl, rfl, rfl, rfl, rfl, rfl, rfl⟩
      have bX : Below wr.heap.size wr ((wr.alloc (.cells Z63 63)).setRow wr.heap.size DA) := below_setRow ((Below.refl _ _).alloc (Nat.le_refl _) _) (Nat.le_refl _) _
      have rX : Row ((wr.alloc (.cells Z63 63)).setRow wr.heap.size DA) wr.heap.size DA 63 := rn.set _
      have rb3 := rb.trans (bX.mono rb.size)
      have hw1 : IntKind.i64.wrap ((j : Int) + 1) = ((j + 1 : Nat) : Int) := by rw [IntKind.wrap_i64]; omega
      clear hcell hd
      have tl : Hid (1 = 1) := rfl
      have ts : Hid (1 = 1) := rfl
      go_upto_region 5 with (first
        | (have hh := tl; clear hh tl; refine wpList_load_any rfl 63 (.tmp 17) rfl _ rfl d.cells _ hcell2 Try.underlying63 rfl (by rw [size63, HDL.out]) ?_; rw [HAR.out])
        | (have hh := ts; clear hh ts; refine store_cells rfl 63 (.tmp 7) (.tmp 18) rfl wr.heap.size DA rfl rfl 63 _ rn 72 size63 HZ63.out HDS.out HDO.out ?_))
      clear rn hcell2
      generalize (wr.alloc (.cells Z63 63)).setRow wr.heap.size DA = W3 at rX rb3 bX  ⊢
      generalize wr.heap.size = X at rX bX  ⊢
      have d0 := row_at rX 0 _ HDC.out.1
      have d1 := row_at rX 1 _ HDC.out.2.1
      have d2 := row_at rX 2 _ HDC.out.2.2.1
      have d3 := row_at rX 3 _ HDC.out.2.2.2.1
      have d4 := row_at rX 4 _ HDC.out.2.2.2.2.1
      have d5 := row_at rX 5 _ HDC.out.2.2.2.2.2.1
      have d6 := row_at rX 6 _ HDC.out.2.2.2.2.2.2.1
      have d7 := row_at rX 7 _ HDC.out.2.2.2.2.2.2.2
      have HST := lvP_step HJ.out
      rw [HI.out] at HST
      have HS2 : Hid (lvP ds (j + 1) = lvS ds ((y : Int), (z : Int)) d) := HST
      have hwy : IntKind.i64.wrap ((y : Int) + 1) = ((y + 1 : Nat) : Int) := by rw [IntKind.wrap_i64]; omega
      have hwz : IntKind.u64.wrap ((z : Int) + 1) = ((z + 1 : Nat) : Int) := by rw [IntKind.wrap_u64]; omega
      clear bX HST
      by_cases h0 : d.c.kind = 0
      · have k0 : (d.c.kind == 0) = true := by simpa using h0
        by_cases h1 : d.r.err = 0
        · have k1 : (d.r.err == 0) = true := by simpa using h1
          have hbg := HBG.out W3 rb3 d.r.txn
          have HS3 : Hid (lvP ds (j + 1) = ((y : Int) + (if (bgR ds d.r.txn).2 = true then 1 else 0), (z : Int) + 1)) := by show _ = _; rw [HS2.out]; simp [lvS, h0, h1]
          obtain ⟨ok, HOK⟩ : ∃ ok, Hid ((bgR ds d.r.txn).2 = ok) := ⟨_, rfl⟩
          obtain ⟨st, HSTV⟩ : ∃ st, Hid ((bgR ds d.r.txn).1 = st) := ⟨_, rfl⟩
          rw [HOK.out, HSTV.out] at hbg
          rw [HOK.out] at HS3
          clear h0 h1
          cases ok with
          | true =>
            have HF2 : Hid (lvP ds (j + 1) = (((y + 1 : Nat) : Int), ((z + 1 : Nat) : Int))) := by show _ = _; rw [HS3.out]; simp
            clear HS3
            go_wp2_with (go_at_call 32; refine Calls.mono hbg ?_; clear hbg; rintro e W4 ⟨he, hb4⟩; obtain rfl := he; have rb4 := rb3.trans (hb4.mono rb3.size))
            go_roundw
            case rel => exact ⟨j + 1, y + 1, z + 1, by first | rfl | simp, by omega, rb4, by first | rfl | simp, by first | rfl | simp, by omega, by omega, HF2⟩
            case measure => simp only [intOf]; omega
          | false =>
            have HF2 : Hid (lvP ds (j + 1) = ((y : Int), ((z + 1 : Nat) : Int))) := by show _ = _; rw [HS3.out]; simp
            clear HS3
            go_wp2_with (go_at_call 32; refine Calls.mono hbg ?_; clear hbg; rintro e W4 ⟨he, hb4⟩; obtain rfl := he; have rb4 := rb3.trans (hb4.mono rb3.size))
            go_roundw
            case rel => exact ⟨j + 1, y, z + 1, by first | rfl | simp, by omega, rb4, by first | rfl | simp, by first | rfl | simp, by omega, by omega, HF2⟩
            case measure => simp only [intOf]; omega
        · have k1 : (d.r.err == 0) = false := by simpa using h1
          have HF2 : Hid (lvP ds (j + 1) = ((y : Int), (z : Int))) := by show _ = _; rw [HS2.out]; simp [lvS, h1]
          clear h0 h1
          go_wp2
          go_roundw
          case rel => exact ⟨j + 1, y, z, by first | rfl | simp, by omega, rb3, by first | rfl | simp, by first | rfl | simp, by omega, by omega, HF2⟩
          case measure => simp only [intOf]; omega
      · have k0 : (d.c.kind == 0) = false := by simpa using h0
        have HF2 : Hid (lvP ds (j + 1) = ((y : Int), (z : Int))) := by show _ = _; rw [HS2.out]; simp [lvS, h0]
        clear h0
        go_wp2
        go_roundw
        case rel => exact ⟨j + 1, y, z, by first | rfl | simp, by omega, rb3, by first | rfl | simp, by first | rfl | simp, by omega, by omega, HF2⟩
        case measure => simp only [intOf]; omega
    · have HF : Hid (lvR ds = ((y : Int), (z : Int))) := by
        have := HI.out
        unfold lvP at this
        rw [List.take_of_length_le (by rw [HN.out]; omega)] at this
        exact this
      go_wp2
      rw [HPP.out]
      exact ⟨by rw [HF.out] <;> rfl, rb⟩
end Go.Proofs.Ytpncmbkklkfmnaa
