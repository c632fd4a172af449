/-
  Proved here: what the document's machine tells of who is live.
-/
import Derived.Test.YtpncmbkklkfmnaaMrb
namespace Go.Proofs.Ytpncmbkklkfmnaa
open Go.ChangeShapes Go.WideShapes Go.ChangeAt Go.RowKit
open Go.Deep Go.Maps
set_option linter.unusedVariables false
set_option linter.unusedSimpArgs false
set_option maxRecDepth 20000


theorem bgR_step {ds : List Dn} {j : Nat} {d : Dn} (h : ds[j]? = some d) (x : Int) : bgR (ds.take (j + 1)) x = bgS x (bgR (ds.take j) x) d := by
  rw [take_snoc h]
  unfold bgR
  rw [List.foldl_append]
  rfl
set_option maxHeartbeats 4000000 in
theorem begun_ref {w0 w : World} {r n : Nat} {mx : Int} {v : Value} {ds : List Dn} (h : RM w0 w r n mx v ds) (x : Int) : Calls Try.prog 32 #[.pointer (some ⟨r, 0, none⟩), .int .u64 x] w fun e w' => e = .returned (.tuple #[.int .u32 (bgR ds x).1, .bool (bgR ds x).2]) ∧ Below w.heap.size w w' := by
  obtain ⟨oa, cap, rfl, hel⟩ := h.form
  have HEL : Hid (∀ i d, ds[i]? = some d → ∃ a : Addr, oa = some a ∧ ∀ j u, d.cells[j]? = some u → w.cell? ((a.add (i * 72)).add j) = some u) := hel
  have HOKD : Hid (∀ d ∈ ds, d.Ok) := h.ok
  have c2 := row_at h.row 2 _ rfl
  have hfew := h.few
  obtain ⟨N, HN⟩ : ∃ N, Hid (ds.length = N) := ⟨_, rfl⟩
  rw [HN.out] at c2 hfew
  have hz63 := zero63
  have HZ63 : Hid (Dn.zero.arr.size = 72) := Dn.arr_size Dn.zero_ok
  generalize Dn.zero.arr = Z63 at hz63 HZ63
  clear hel
  obtain ⟨PP, HPP⟩ : ∃ PP : Ending → World → Prop, Hid (PP = fun e w' => e = .returned (.tuple #[.int .u32 (bgR ds x).1, .bool (bgR ds x).2]) ∧ Below w.heap.size w w') := ⟨_, rfl⟩
  rw [← HPP.out]
  clear h
  go_enter Try.func32, Try.ntmps32
  go_upto_region 3 with fail
  go_loopw [6, 7, 9, 15] (fun s o _ i wr => ∃ (j : Nat) (y : Int) (b : Bool), i = .int .i64 j ∧ j ≤ N ∧ Below w.heap.size w wr ∧ s = .int .u32 y ∧ o = .bool b ∧ Hid (bgR (ds.take j) x = (y, b))) (fun _ _ _ i _ => N - (intOf i).toNat)
  case atStart => exact ⟨0, 0, false, rfl, Nat.zero_le _, Below.refl _ _, rfl, rfl, rfl⟩
  case round =>
    obtain ⟨j, y, b, rfl, hj, rb, rfl, rfl, HI⟩ := hrel
    by_cases hlt : (j : Int) < N
    · obtain ⟨d, hd⟩ : ∃ d, ds[j]? = some d := ⟨_, List.getElem?_eq_getElem (by rw [HN.out]; omega)⟩
      obtain ⟨a, rfl, hcell⟩ := HEL.out j d hd
      have hcell2 : ∀ i u, d.cells[i]? = some u → wr.cell? ((a.add (j * 72)).add i) = some u := fun i u h => cell_keep (hcell i u h) rb
      have HDK : Hid d.Ok := HOKD.out d (List.mem_of_getElem? hd)
      have HJ : Hid (ds[j]? = some d) := hd
      have rn : Row (wr.alloc (.cells Z63 63)) wr.heap.size Z63 63 := Row.new _ _ _
      obtain ⟨DA, HDA⟩ : ∃ DA, Hid (d.arr = DA) := ⟨_, rfl⟩
      have HAR : Hid (d.cells.toArray = DA) := by rw [← HDA.out]; rfl
      have HDL : Hid (d.cells.length = 72) := Dn.cells_length HDK.out
      have HDS : Hid (DA.size = 72) := by rw [← HDA.out]; exact Dn.arr_size HDK.out
      have HDO : Hid (DA.all (·.oneCell') = true) := by rw [← HDA.out]; exact d.one
      have HDC : Hid (DA[0]? = some (.int .u8 d.c.kind) ∧ DA[1]? = some (.int .u64 d.c.txn) ∧ DA[2]? = some (.int .u16 d.c.page) ∧ DA[3]? = some (.int .i64 d.c.off) ∧ DA[4]? = some (.string d.c.str) ∧ DA[5]? = some (.int .i64 d.r.err) ∧ DA[6]? = some (.int .u64 d.r.txn) ∧ DA[7]? = some (.int .u32 d.r.ts)) := by rw [← HDA.out]; exact ⟨rfl, rfl, rfl, rfl, rfl, rfl, rfl, rfl⟩
      have bX : Below wr.heap.size wr ((wr.alloc (.cells Z63 63)).setRow wr.heap.size DA) := below_setRow ((Below.refl _ _).alloc (Nat.le_refl _) _) (Nat.le_refl _) _
      have rX : Row ((wr.alloc (.cells Z63 63)).setRow wr.heap.size DA) wr.heap.size DA 63 := rn.set _
      have rb3 := rb.trans (bX.mono rb.size)
      have hw1 : IntKind.i64.wrap ((j : Int) + 1) = ((j + 1 : Nat) : Int) := by rw [IntKind.wrap_i64]; omega
      clear hcell hd
      have tl : Hid (1 = 1) := rfl
      have ts : Hid (1 = 1) := rfl
      go_upto_region 5 with (first
        | (have hh := tl; clear hh tl; refine wpList_load_any rfl 63 (.tmp 17) rfl _ rfl d.cells _ hcell2 Try.underlying63 rfl (by rw [size63, HDL.out]) ?_; rw [HAR.out])
        | (have hh := ts; clear hh ts; refine store_cells rfl 63 (.tmp 9) (.tmp 18) rfl wr.heap.size DA rfl rfl 63 _ rn 72 size63 HZ63.out HDS.out HDO.out ?_))
      clear rn hcell2
      generalize (wr.alloc (.cells Z63 63)).setRow wr.heap.size DA = W3 at rX rb3 bX  ⊢
      generalize wr.heap.size = X at rX bX  ⊢
      have d0 := row_at rX 0 _ HDC.out.1
      have d1 := row_at rX 1 _ HDC.out.2.1
      have d2 := row_at rX 2 _ HDC.out.2.2.1
      have d3 := row_at rX 3 _ HDC.out.2.2.2.1
      have d4 := row_at rX 4 _ HDC.out.2.2.2.2.1
      have d5 := row_at rX 5 _ HDC.out.2.2.2.2.2.1
      have d6 := row_at rX 6 _ HDC.out.2.2.2.2.2.2.1
      have d7 := row_at rX 7 _ HDC.out.2.2.2.2.2.2.2
      have HST := bgR_step HJ.out x
      rw [HI.out] at HST
      have HS2 : Hid (bgR (ds.take (j + 1)) x = bgS x (y, b) d) := HST
      clear bX HST
      by_cases h0 : d.c.kind = 0
      · have k0 : (d.c.kind == 0) = true := by simpa using h0
        have k3 : (d.c.kind == 3) = false := by rw [h0]; rfl
        have k4 : (d.c.kind == 4) = false := by rw [h0]; rfl
        by_cases h1 : d.r.err = 0
        · have k1 : (d.r.err == 0) = true := by simpa using h1
          by_cases h2 : d.r.txn = x
          · have k2 : (d.r.txn == x) = true := by simpa using h2
            by_cases h5 : x > 0
            · have HF2 : Hid (bgR (ds.take (j + 1)) x = (d.r.ts, true)) := by show _ = _; rw [HS2.out]; simp [bgS, h0, h1, h2, h5]
              clear h0 h1 h2
              go_wp2
              go_roundw
              case rel => exact ⟨j + 1, _, _, by first | rfl | simp, by omega, rb3, rfl, rfl, HF2⟩
              case measure => simp only [intOf]; omega
            · have HF2 : Hid (bgR (ds.take (j + 1)) x = (y, b)) := by show _ = _; rw [HS2.out]; simp [bgS, h0, h1, h2, h5]
              clear h0 h1 h2
              go_wp2
              go_roundw
              case rel => exact ⟨j + 1, _, _, by first | rfl | simp, by omega, rb3, rfl, rfl, HF2⟩
              case measure => simp only [intOf]; omega
          · have k2 : (d.r.txn == x) = false := by simpa using h2
            have HF2 : Hid (bgR (ds.take (j + 1)) x = (y, b)) := by show _ = _; rw [HS2.out]; simp [bgS, h0, h1, h2]
            clear h0 h1 h2
            go_wp2
            go_roundw
            case rel => exact ⟨j + 1, _, _, by first | rfl | simp, by omega, rb3, rfl, rfl, HF2⟩
            case measure => simp only [intOf]; omega
        · have k1 : (d.r.err == 0) = false := by simpa using h1
          have HF2 : Hid (bgR (ds.take (j + 1)) x = (y, b)) := by show _ = _; rw [HS2.out]; simp [bgS, h0, h1]
          clear h0 h1
          go_wp2
          go_roundw
          case rel => exact ⟨j + 1, _, _, by first | rfl | simp, by omega, rb3, rfl, rfl, HF2⟩
          case measure => simp only [intOf]; omega
      · have k0 : (d.c.kind == 0) = false := by simpa using h0
        by_cases h3 : d.c.kind = 3
        · have k3 : (d.c.kind == 3) = true := by simpa using h3
          by_cases q1 : d.c.txn = x
          · have m1 : (d.c.txn == x) = true := by simpa using q1
            by_cases q2 : d.r.err = 9
            · have m2 : (d.r.err != 9) = false := by simpa using q2
              have HF2 : Hid (bgR (ds.take (j + 1)) x = (y, b)) := by show _ = _; rw [HS2.out]; simp [bgS, h0, h3, q1, q2]
              clear h0 h3 q1 q2
              go_wp2
              go_roundw
              case rel => exact ⟨j + 1, _, _, by first | rfl | simp, by omega, rb3, rfl, rfl, HF2⟩
              case measure => simp only [intOf]; omega
            · have m2 : (d.r.err != 9) = true := by simpa using q2
              have HF2 : Hid (bgR (ds.take (j + 1)) x = (y, false)) := by show _ = _; rw [HS2.out]; simp [bgS, h0, h3, q1, q2]
              clear h0 h3 q1 q2
              go_wp2
              go_roundw
              case rel => exact ⟨j + 1, _, _, by first | rfl | simp, by omega, rb3, rfl, rfl, HF2⟩
              case measure => simp only [intOf]; omega
          · have m1 : (d.c.txn == x) = false := by simpa using q1
            have HF2 : Hid (bgR (ds.take (j + 1)) x = (y, b)) := by show _ = _; rw [HS2.out]; simp [bgS, h0, h3, q1]
            clear h0 h3 q1
            go_wp2
            go_roundw
            case rel => exact ⟨j + 1, _, _, by first | rfl | simp, by omega, rb3, rfl, rfl, HF2⟩
            case measure => simp only [intOf]; omega
        · have k3 : (d.c.kind == 3) = false := by simpa using h3
          by_cases h4 : d.c.kind = 4
          · have k4 : (d.c.kind == 4) = true := by simpa using h4
            by_cases q1 : d.c.txn = x
            · have m1 : (d.c.txn == x) = true := by simpa using q1
              by_cases q2 : d.r.err = 9
              · have m2 : (d.r.err != 9) = false := by simpa using q2
                have HF2 : Hid (bgR (ds.take (j + 1)) x = (y, b)) := by show _ = _; rw [HS2.out]; simp [bgS, h0, h3, h4, q1, q2]
                clear h0 h3 h4 q1 q2
                go_wp2
                go_roundw
                case rel => exact ⟨j + 1, _, _, by first | rfl | simp, by omega, rb3, rfl, rfl, HF2⟩
                case measure => simp only [intOf]; omega
              · have m2 : (d.r.err != 9) = true := by simpa using q2
                have HF2 : Hid (bgR (ds.take (j + 1)) x = (y, false)) := by show _ = _; rw [HS2.out]; simp [bgS, h0, h3, h4, q1, q2]
                clear h0 h3 h4 q1 q2
                go_wp2
                go_roundw
                case rel => exact ⟨j + 1, _, _, by first | rfl | simp, by omega, rb3, rfl, rfl, HF2⟩
                case measure => simp only [intOf]; omega
            · have m1 : (d.c.txn == x) = false := by simpa using q1
              have HF2 : Hid (bgR (ds.take (j + 1)) x = (y, b)) := by show _ = _; rw [HS2.out]; simp [bgS, h0, h3, h4, q1]
              clear h0 h3 h4 q1
              go_wp2
              go_roundw
              case rel => exact ⟨j + 1, _, _, by first | rfl | simp, by omega, rb3, rfl, rfl, HF2⟩
              case measure => simp only [intOf]; omega
          · have k4 : (d.c.kind == 4) = false := by simpa using h4
            have HF2 : Hid (bgR (ds.take (j + 1)) x = (y, b)) := by show _ = _; rw [HS2.out]; simp [bgS, h0, h3, h4]
            clear h0 h3 h4
            go_wp2
            go_roundw
            case rel => exact ⟨j + 1, _, _, by first | rfl | simp, by omega, rb3, rfl, rfl, HF2⟩
            case measure => simp only [intOf]; omega
    · have HF : Hid (bgR ds x = (y, b)) := by
        have := HI.out
        rw [List.take_of_length_le (by rw [HN.out]; omega)] at this
        exact this
      go_wp2
      rw [HPP.out]
      exact ⟨by rw [HF.out] <;> rfl, rb⟩
end Go.Proofs.Ytpncmbkklkfmnaa
