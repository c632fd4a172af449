/-
  Proved here: the document's Depends. Plain facts: a queue that loses its first and grows at its end; the document's way of coming from one to all that can be come to.
-/
import Derived.Test.YtdlllnkcjfpajaaJq18
import Derived.ArgAppend
import Derived.Deep.LoopGhost
namespace Go.Proofs.Ytdlllnkcjfpajaa
open Go.ChangeShapes Go.WideShapes Go.ChangeAt Go.RowKit
set_option linter.unusedVariables false
set_option linter.unusedSimpArgs false
set_option maxRecDepth 20000
theorem Sn.zero46 (w : World) : (zeroValue 46).run Try.prog w = .ok (.agg Sn.O.zero.arr) w := by kernel_rfl
theorem Sn.O.arr_one (o : Sn.O) : o.arr.all (·.oneCell') = true := by simp [Sn.O.arr, Value.oneCell']
theorem copied46 (w : World) (o : Sn.O) : Row ((w.alloc (.cells Sn.O.zero.arr 46)).setRow w.heap.size o.arr) w.heap.size o.arr 46 ∧ Below w.heap.size w ((w.alloc (.cells Sn.O.zero.arr 46)).setRow w.heap.size o.arr) := by
  have q1 : Row (w.alloc (.cells Sn.O.zero.arr 46)) w.heap.size Sn.O.zero.arr 46 := Row.new _ _ _
  have b1 : Below w.heap.size w (w.alloc (.cells Sn.O.zero.arr 46)) := (Below.refl _ _).alloc (Nat.le_refl _) _
  exact ⟨q1.set _, below_off b1 (Off.of_setRow (F := (· = w.heap.size)) _ _ _ rfl) (fun j e => by rw [e]; exact Nat.le_refl _)⟩
set_option maxHeartbeats 8000000 in
theorem depends_any {w : World} {v : Value} {ps : List Hm} (hh : Helds w v ps) (hn : ps.length ≤ 1000) (i j : Nat) (hi : i < ps.length) (hj : j < ps.length) :
    Calls Try.prog 27 #[v, .int .i64 (i : Int), .int .i64 (j : Int)] w fun e w' => Says w (DepR ps i j) e w' := by
  have hz46 := Sn.zero46
  have HYES : Hid (DepR ps i j → ∀ w', Below w.heap.size w w' → Says w (DepR ps i j) (.returned (.bool true)) w') := fun q w' hb => Says.yes q hb
  have HNOT : Hid (¬ DepR ps i j → ∀ w', Below w.heap.size w w' → Says w (DepR ps i j) (.returned (.bool false)) w') := fun q w' hb => Says.no q hb
  generalize Says w (DepR ps i j) = PP at HYES HNOT ⊢
  obtain ⟨oa, cap, rfl, hcs⟩ := hh.hold
  have HH : Hid (Helds w (.slice oa ps.length cap) ps) := hh
  obtain ⟨n, HN⟩ : ∃ n, Hid (ps.length = n) := ⟨_, rfl⟩
  rw [HN.out] at hn hcs hi hj HH ⊢
  obtain ⟨a, x, rfl, hx, hcx0⟩ := hcs i hi
  obtain ⟨a', y, ha', hy, hcy0⟩ := hcs j hj
  obtain rfl : a = a' := Option.some.inj ha'
  have hi0 : (0 : Int) ≤ (i : Int) := by omega
  have hin : (i : Int) < (n : Int) := by omega
  have hj0 : (0 : Int) ≤ (j : Int) := by omega
  have hjn : (j : Int) < (n : Int) := by omega
  obtain ⟨dx, HDX⟩ : ∃ dx, Hid (x.p.dn = dx) := ⟨_, rfl⟩
  obtain ⟨dy, HDY⟩ : ∃ dy, Hid (y.p.dn = dy) := ⟨_, rfl⟩
  obtain ⟨cx, HCX⟩ : ∃ cx, Hid (x.p.co = cx) := ⟨_, rfl⟩
  have hdx : w.cell? ⟨(a.add (i * 5)).block, (a.add (i * 5)).off + 2, none⟩ = some (.bool dx) := by rw [← HDX.out, ← addr_off _ 2 (by decide)]; exact hcx0 2 _ rfl
  have hdy : w.cell? ⟨(a.add (j * 5)).block, (a.add (j * 5)).off + 2, none⟩ = some (.bool dy) := by rw [← HDY.out, ← addr_off _ 2 (by decide)]; exact hcy0 2 _ rfl
  have HX : Hid (ps[i]? = some x) := hx
  have HY : Hid (ps[j]? = some y) := hy
  have HNO : Hid (DepR ps i j → i ≠ j ∧ dx = true ∧ dy = true ∧ ((∃ v ∈ y.p.rs, WroR x v.1 ∧ cx = v.2) ∨ ∃ p ∈ x.p.ws, FolR ps p cx j)) := fun ⟨q0, x', y', q1, q2, q3, q4, q5⟩ => by
    rw [HX.out] at q1; injection q1 with q1; subst q1
    rw [HY.out] at q2; injection q2 with q2; subst q2
    rw [HCX.out] at q5
    exact ⟨q0, by rw [← HDX.out]; exact q3, by rw [← HDY.out]; exact q4, q5⟩
  by_cases hij : i = j
  · have HNF := HNOT.out (fun q => (HNO.out q).1 hij) _ (Below.refl _ _)
    have hij' : (i : Int) = (j : Int) := by rw [hij]
    subst hij
    clear hcs hh hx hy ha' hcy0 hcx0 hdx hdy
    go_enter Try.func27, Try.ntmps27
    go_wp2
    exact HNF
  · have hij' : ¬ (i : Int) = (j : Int) := by omega
    cases dx with
    | false =>
      have HNF := HNOT.out (fun q => by have := (HNO.out q).2.1; cases this) _ (Below.refl _ _)
      clear hcs hh hx hy ha' hcy0 hcx0
      go_enter Try.func27, Try.ntmps27
      go_wp2
      exact HNF
    | true =>
      cases dy with
      | false =>
        have HNF := HNOT.out (fun q => by have := (HNO.out q).2.2.1; cases this) _ (Below.refl _ _)
        clear hcs hh hx hy ha' hcy0 hcx0
        go_enter Try.func27, Try.ntmps27
        go_wp2
        exact HNF
      | true =>
        have hmx := List.mem_of_getElem? hx
        have hmy := List.mem_of_getElem? hy
        obtain ⟨hwn, hpg⟩ := old_page (HH.out.each x hmx).ws
        obtain ⟨hrn, hsn⟩ := old_seen (HH.out.each y hmy).rs
        have h6w := (HH.out.fit x hmx).wl
        have h6r := (HH.out.fit y hmy).rl
        have HXE : Hid (Held1 w x) := HH.out.each x hmx
        have HWL : Hid (x.p.ws.length ≤ 1000) := h6w
        have HPG : Hid (∀ (k : Nat) z, x.p.ws[k]? = some z → ∃ b, x.w.a = some b ∧ w.cell? (b.add k) = some (.int .u16 z)) := hpg
        have HSN : Hid (∀ (k : Nat) v, y.p.rs[k]? = some v → ∃ b, y.r.a = some b ∧ ∀ q u, ([.int .u16 v.1, .int .u32 v.2] : List Value)[q]? = some u → w.cell? ((b.add (k * 2)).add q) = some u) := hsn
        have HCX0 : Hid (∀ q u, x.o.cells[q]? = some u → w.cell? ((a.add (i * 5)).add q) = some u) := hcx0
        obtain ⟨ra, HRA⟩ : ∃ ra, Hid (y.r.a = ra) := ⟨_, rfl⟩
        obtain ⟨rn, HRN⟩ : ∃ rn, Hid (y.r.n = rn) := ⟨_, rfl⟩
        obtain ⟨rc, HRC⟩ : ∃ rc, Hid (y.r.c = rc) := ⟨_, rfl⟩
        obtain ⟨wa, HWA⟩ : ∃ wa, Hid (x.w.a = wa) := ⟨_, rfl⟩
        obtain ⟨wn, HWN⟩ : ∃ wn, Hid (x.w.n = wn) := ⟨_, rfl⟩
        obtain ⟨wc, HWC⟩ : ∃ wc, Hid (x.w.c = wc) := ⟨_, rfl⟩
        have hy3 : w.cell? ⟨(a.add (j * 5)).block, (a.add (j * 5)).off + 3, none⟩ = some (.slice ra rn rc) := by rw [← HRA.out, ← HRN.out, ← HRC.out, ← addr_off _ 3 (by decide)]; exact hcy0 3 _ rfl
        have HX4 : Hid (w.cell? ⟨(a.add (i * 5)).block, (a.add (i * 5)).off + 4, none⟩ = some (.slice wa wn wc)) := by show _ = _; rw [← HWA.out, ← HWN.out, ← HWC.out, ← addr_off _ 4 (by decide)]; exact hcx0 4 _ rfl
        have HX1 : Hid (w.cell? ⟨(a.add (i * 5)).block, (a.add (i * 5)).off + 1, none⟩ = some (.int .u32 cx)) := by show _ = _; rw [← HCX.out, ← addr_off _ 1 (by decide)]; exact hcx0 1 _ rfl
        replace HRN : Hid (rn = y.p.rs.length) := by show _ = _; rw [← HRN.out]; exact hrn
        replace HWN : Hid (wn = x.p.ws.length) := by show _ = _; rw [← HWN.out]; exact hwn
        have hrn9 : rn ≤ 1000 := by rw [HRN.out]; exact h6r
        have hwn9 : wn ≤ 1000 := by rw [HWN.out]; exact h6w
        rw [HRA.out] at HSN
        rw [HWA.out] at HPG
        have L0 : ∀ v ∈ y.p.rs.take 0, ¬ (WroR x v.1 ∧ cx = v.2) := fun x hx => by simp at hx
        have b0 : Below w.heap.size w w := Below.refl _ _
        clear hcs hh hx hy ha' hcy0 hcx0 hmx hmy hwn hpg hrn hsn h6w h6r
        go_enter Try.func27, Try.ntmps27
        go_upto_region 4 with fail
        clear hy3 hdx hdy
        go_loopw [36] (fun q wr => ∃ k : Nat, q = .int .i64 (k : Int) ∧ k ≤ rn ∧ Below w.heap.size w wr ∧ (∀ v ∈ y.p.rs.take k, ¬ (WroR x v.1 ∧ cx = v.2))) (fun q _ => 1001 - (intOf q).toNat)
        case atStart => exact ⟨0, rfl, Nat.zero_le _, b0, L0⟩
        case round =>
          clear L0 b0
          rename World => wr
          obtain ⟨k, rfl, hk, hb, hL⟩ := hrel
          have HL : Hid (∀ v ∈ y.p.rs.take k, ¬ (WroR x v.1 ∧ cx = v.2)) := hL
          clear hL
          by_cases hkn : k < rn
          · have hkn' : (k : Int) < (rn : Int) := by omega
            have hk0 : (0 : Int) ≤ (k : Int) := by omega
            obtain ⟨⟨pg, ts⟩, hv⟩ : ∃ v, y.p.rs[k]? = some v := ⟨_, List.getElem?_eq_getElem (by rw [← HRN.out]; exact hkn)⟩
            obtain ⟨b, rfl, hcell⟩ := HSN.out k _ hv
            have hcw : ∀ q u, (Sn.O.cells ⟨pg, ts⟩)[q]? = some u → wr.cell? ((b.add (k * 2)).add q) = some u := fun q x hq => cell_keep (hcell q x hq) hb
            have HV : Hid (y.p.rs[k]? = some (pg, ts)) := hv
            clear hv hcell
            have tl : Hid (1 = 1) := rfl
            have q1 : Row (wr.alloc (.cells Sn.O.zero.arr 46)) wr.heap.size Sn.O.zero.arr 46 := Row.new _ _ _
            obtain ⟨k1, k2⟩ := copied46 wr (⟨pg, ts⟩ : Sn.O)
            have HB : Hid (Below w.heap.size w wr) := hb
            clear hb
            go_upto_region 6 with (first
              | (have hh := tl; clear hh tl; refine wpList_load_any rfl 46 (.tmp 38) rfl (b.add (k * 2)) rfl (Sn.O.cells ⟨pg, ts⟩) _ hcw Try.underlying46 rfl Sn.size46 ?_)
              | (refine store_cells rfl 46 (.tmp 8) (.tmp 39) rfl wr.heap.size (Sn.O.arr ⟨pg, ts⟩) rfl rfl 46 _ q1 2 Sn.size46 rfl rfl (Sn.O.arr_one _) ?_))
            clear q1 hcw
            generalize (wr.alloc (.cells Sn.O.zero.arr 46)).setRow wr.heap.size (Sn.O.arr ⟨pg, ts⟩) = w5 at k1 k2 ⊢
            have BW5 : Hid (Below w.heap.size w w5) := below_trans HB.out k2
            have rZ : Row w5 wr.heap.size #[.int .u16 pg, .int .u32 ts] 46 := k1
            have hcx : ∀ q u, x.o.cells[q]? = some u → w5.cell? ((a.add (i * 5)).add q) = some u := fun q u hq => cell_keep (HCX0.out q u hq) BW5.out
            have hc1 : w5.cell? ⟨(a.add (i * 5)).block, (a.add (i * 5)).off + 1, none⟩ = some (.int .u32 cx) := cell_keep HX1.out BW5.out
            have hwr := wrote_any (w := w5.drew) (h := x) (HXE.out.keep (below_trans BW5.out (Below.refl _ _).drew)) HWL.out pg
            clear k2 HB k1
            generalize wr.heap.size = Z at rZ ⊢
            refine wp_region_held_drew (S := fun w' => Row w' Z #[.int .u16 pg, .int .u32 ts] 46 ∧ (∀ q u, x.o.cells[q]? = some u → w'.cell? ((a.add (i * 5)).add q) = some u) ∧ w'.cell? ⟨(a.add (i * 5)).block, (a.add (i * 5)).off + 1, none⟩ = some (.int .u32 cx)) (by kernel_rfl) ⟨rZ, hcx, hc1⟩ fun hS => ?_
            refine tkH (i := 0) (v := .slice (some a) n cap) rfl (by kernel_rfl) (fun _ _ _ h => h) (Or.inl ⟨by rfl, fun w _ => by go_simp⟩) hS ?_
            try simp only [Act.put, nz0, nz1, nz2, nz3, nz4, nz5]
            refine tkH (i := 1) (v := .int .i64 (i : Int)) rfl (by kernel_rfl) (fun _ _ _ h => h) (Or.inl ⟨by rfl, fun w _ => by go_simp⟩) hS ?_
            try simp only [Act.put, nz0, nz1, nz2, nz3, nz4, nz5]
            refine tkH (i := 2) (v := .pointer (some (a.add (i * 5)))) rfl (by kernel_rfl) (fun _ _ _ h => h) (Or.inl ⟨by rfl, fun w _ => by go_simp⟩) hS ?_
            try simp only [Act.put, nz0, nz1, nz2, nz3, nz4, nz5]
            refine tkH (i := 3) (v := .agg x.o.cells.toArray) rfl (by kernel_rfl) (fun _ _ _ h => h) (yields_load_any (by rfl) 39 (.tmp 42) rfl (a.add (i * 5)) rfl x.o.cells _ (fun w h => h.2.1) Try.underlying39 rfl Pa.size39) hS ?_
            try simp only [Act.put, nz0, nz1, nz2, nz3, nz4, nz5]
            refine tkH (i := 4) (v := .pointer (some ⟨Z, 0, none⟩)) rfl (by kernel_rfl) (fun _ _ _ h => h) (Or.inl ⟨by rfl, fun w _ => by go_simp⟩) hS ?_
            try simp only [Act.put, nz0, nz1, nz2, nz3, nz4, nz5]
            refine tkH (i := 5) (v := .int .u16 pg) rfl (by kernel_rfl) (fun _ _ _ h => h) (Or.inl ⟨by rfl, fun w h => by have c := row_at h.1 0 _ rfl; go_simp⟩) hS ?_
            try simp only [Act.put, nz0, nz1, nz2, nz3, nz4, nz5]
            by_cases hW : WroR x pg
            · have hcw := Says.calls_yes hwr hW
              clear hwr
              by_cases c1 : cx = ts
              · have HYE : Hid (DepR ps i j) := ⟨hij, x, y, HX.out, HY.out, HDX.out, HDY.out, Or.inl ⟨(pg, ts), List.mem_of_getElem? HV.out, hW, by rw [HCX.out]; exact c1⟩⟩
                clear hW
                refine wpAnyH_ready (rs := [6]) (by kernel_rfl) (by simp) ?_
                refine AllReadyH.cons rfl (fun K hK => ?_) AllReadyH.nil
                go_simp
                go_at_call 29
                refine Calls.mono hcw ?_
                clear hcw
                rintro e wb ⟨he, hb2⟩
                obtain rfl := he
                have hb3 : Below w5.heap.size w5 wb := below_trans (Below.refl _ _).drew hb2
                have BW6 : Hid (Below w.heap.size w wb) := below_trans BW5.out hb3
                refine hK.out _ _ ⟨rZ.below hb3 rZ.lt, fun q u hq => cell_keep (hcx q u hq) hb3, cell_keep hc1 hb3⟩ fun hS => ?_
                try simp only [Act.put, nz0, nz1, nz2, nz3, nz4, nz5]
                clear rZ hcx hc1 hb2 hb3
                have hfin := HYES.out HYE.out _ BW6.out
                refine tkH (i := 7) (v := .bool true) rfl (by kernel_rfl) (fun _ _ _ h => h) (Or.inl ⟨by rfl, fun w _ => by go_simp⟩) hS ?_
                try simp only [Act.put, nz0, nz1, nz2, nz3, nz4, nz5]
                refine tkH (i := 8) (v := .slice (some a) n cap) rfl (by kernel_rfl) (fun _ _ _ h => h) (Or.inl ⟨by rfl, fun w _ => by go_simp⟩) hS ?_
                try simp only [Act.put, nz0, nz1, nz2, nz3, nz4, nz5]
                refine tkH (i := 9) (v := .int .i64 (i : Int)) rfl (by kernel_rfl) (fun _ _ _ h => h) (Or.inl ⟨by rfl, fun w _ => by go_simp⟩) hS ?_
                try simp only [Act.put, nz0, nz1, nz2, nz3, nz4, nz5]
                refine tkH (i := 10) (v := .pointer (some (a.add (i * 5)))) rfl (by kernel_rfl) (fun _ _ _ h => h) (Or.inl ⟨by rfl, fun w _ => by go_simp⟩) hS ?_
                try simp only [Act.put, nz0, nz1, nz2, nz3, nz4, nz5]
                refine tkH (i := 11) (v := .pointer (some ⟨(a.add (i * 5)).block, (a.add (i * 5)).off + 1, none⟩)) rfl (by kernel_rfl) (fun _ _ _ h => h) (Or.inl ⟨by rfl, fun w _ => by go_simp⟩) hS ?_
                try simp only [Act.put, nz0, nz1, nz2, nz3, nz4, nz5]
                refine tkH (i := 12) (v := .int .u32 cx) rfl (by kernel_rfl) (fun _ _ _ h => h) (Or.inl ⟨by rfl, fun w h => by have c := h.2.2; go_simp⟩) hS ?_
                try simp only [Act.put, nz0, nz1, nz2, nz3, nz4, nz5]
                refine tkH (i := 13) (v := .pointer (some ⟨Z, 1, none⟩)) rfl (by kernel_rfl) (fun _ _ _ h => h) (Or.inl ⟨by rfl, fun w _ => by go_simp⟩) hS ?_
                try simp only [Act.put, nz0, nz1, nz2, nz3, nz4, nz5]
                refine tkH (i := 14) (v := .int .u32 ts) rfl (by kernel_rfl) (fun _ _ _ h => h) (Or.inl ⟨by rfl, fun w h => by have c := row_at h.1 1 _ rfl; go_simp⟩) hS ?_
                try simp only [Act.put, nz0, nz1, nz2, nz3, nz4, nz5]
                refine tkH (i := 15) (v := .bool true) rfl (by kernel_rfl) (fun _ _ _ h => h) (Or.inl ⟨by rfl, fun w _ => by go_simp⟩) hS ?_
                try simp only [Act.put, nz0, nz1, nz2, nz3, nz4, nz5]
                refine tkH (i := 16) (v := .bool true) rfl (by kernel_rfl) (fun _ _ _ h => h) (Or.inl ⟨by rfl, fun w _ => by go_simp⟩) hS ?_
                try simp only [Act.put, nz0, nz1, nz2, nz3, nz4, nz5]
                refine wpAnyH_done (by kernel_rfl) ?_ _
                clear hS
                go_wp2
                exact hfin
              · have HL2 : Hid (∀ v ∈ y.p.rs.take (k + 1), ¬ (WroR x v.1 ∧ cx = v.2)) := take_all HV.out HL.out (fun q => c1 q.2)
                clear hW
                refine wpAnyH_ready (rs := [6]) (by kernel_rfl) (by simp) ?_
                refine AllReadyH.cons rfl (fun K hK => ?_) AllReadyH.nil
                go_simp
                go_at_call 29
                refine Calls.mono hcw ?_
                clear hcw
                rintro e wb ⟨he, hb2⟩
                obtain rfl := he
                have hb3 : Below w5.heap.size w5 wb := below_trans (Below.refl _ _).drew hb2
                have BW6 : Hid (Below w.heap.size w wb) := below_trans BW5.out hb3
                refine hK.out _ _ ⟨rZ.below hb3 rZ.lt, fun q u hq => cell_keep (hcx q u hq) hb3, cell_keep hc1 hb3⟩ fun hS => ?_
                try simp only [Act.put, nz0, nz1, nz2, nz3, nz4, nz5]
                clear rZ hcx hc1 hb2 hb3
                refine tkH (i := 7) (v := .bool true) rfl (by kernel_rfl) (fun _ _ _ h => h) (Or.inl ⟨by rfl, fun w _ => by go_simp⟩) hS ?_
                try simp only [Act.put, nz0, nz1, nz2, nz3, nz4, nz5]
                refine tkH (i := 8) (v := .slice (some a) n cap) rfl (by kernel_rfl) (fun _ _ _ h => h) (Or.inl ⟨by rfl, fun w _ => by go_simp⟩) hS ?_
                try simp only [Act.put, nz0, nz1, nz2, nz3, nz4, nz5]
                refine tkH (i := 9) (v := .int .i64 (i : Int)) rfl (by kernel_rfl) (fun _ _ _ h => h) (Or.inl ⟨by rfl, fun w _ => by go_simp⟩) hS ?_
                try simp only [Act.put, nz0, nz1, nz2, nz3, nz4, nz5]
                refine tkH (i := 10) (v := .pointer (some (a.add (i * 5)))) rfl (by kernel_rfl) (fun _ _ _ h => h) (Or.inl ⟨by rfl, fun w _ => by go_simp⟩) hS ?_
                try simp only [Act.put, nz0, nz1, nz2, nz3, nz4, nz5]
                refine tkH (i := 11) (v := .pointer (some ⟨(a.add (i * 5)).block, (a.add (i * 5)).off + 1, none⟩)) rfl (by kernel_rfl) (fun _ _ _ h => h) (Or.inl ⟨by rfl, fun w _ => by go_simp⟩) hS ?_
                try simp only [Act.put, nz0, nz1, nz2, nz3, nz4, nz5]
                refine tkH (i := 12) (v := .int .u32 cx) rfl (by kernel_rfl) (fun _ _ _ h => h) (Or.inl ⟨by rfl, fun w h => by have c := h.2.2; go_simp⟩) hS ?_
                try simp only [Act.put, nz0, nz1, nz2, nz3, nz4, nz5]
                refine tkH (i := 13) (v := .pointer (some ⟨Z, 1, none⟩)) rfl (by kernel_rfl) (fun _ _ _ h => h) (Or.inl ⟨by rfl, fun w _ => by go_simp⟩) hS ?_
                try simp only [Act.put, nz0, nz1, nz2, nz3, nz4, nz5]
                refine tkH (i := 14) (v := .int .u32 ts) rfl (by kernel_rfl) (fun _ _ _ h => h) (Or.inl ⟨by rfl, fun w h => by have c := row_at h.1 1 _ rfl; go_simp⟩) hS ?_
                try simp only [Act.put, nz0, nz1, nz2, nz3, nz4, nz5]
                refine tkH (i := 15) (v := .bool false) rfl (by kernel_rfl) (fun _ _ _ h => h) (Or.inl ⟨by rfl, fun w _ => by go_simp⟩) hS ?_
                try simp only [Act.put, nz0, nz1, nz2, nz3, nz4, nz5]
                refine tkH (i := 16) (v := .bool false) rfl (by kernel_rfl) (fun _ _ _ h => h) (Or.inl ⟨by rfl, fun w _ => by go_simp⟩) hS ?_
                try simp only [Act.put, nz0, nz1, nz2, nz3, nz4, nz5]
                refine wpAnyH_done (by kernel_rfl) ?_ _
                clear hS
                go_wp2
                go_roundw
                case rel => exact ⟨k + 1, by go_num, by omega, BW6.out, HL2.out⟩
                case measure => simp [intOf]; omega
            · have hcw := Says.calls_no hwr hW
              have HL2 : Hid (∀ v ∈ y.p.rs.take (k + 1), ¬ (WroR x v.1 ∧ cx = v.2)) := take_all HV.out HL.out (fun q => hW q.1)
              clear hwr hW
              refine wpAnyH_ready (rs := [6]) (by kernel_rfl) (by simp) ?_
              refine AllReadyH.cons rfl (fun K hK => ?_) AllReadyH.nil
              go_simp
              go_at_call 29
              refine Calls.mono hcw ?_
              clear hcw
              rintro e wb ⟨he, hb2⟩
              obtain rfl := he
              have hb3 : Below w5.heap.size w5 wb := below_trans (Below.refl _ _).drew hb2
              have BW6 : Hid (Below w.heap.size w wb) := below_trans BW5.out hb3
              refine hK.out _ _ ⟨rZ.below hb3 rZ.lt, fun q u hq => cell_keep (hcx q u hq) hb3, cell_keep hc1 hb3⟩ fun hS => ?_
              try simp only [Act.put, nz0, nz1, nz2, nz3, nz4, nz5]
              clear rZ hcx hc1 hb2 hb3
              refine tkH (i := 7) (v := .bool false) rfl (by kernel_rfl) (fun _ _ _ h => h) (Or.inl ⟨by rfl, fun w _ => by go_simp⟩) hS ?_
              try simp only [Act.put, nz0, nz1, nz2, nz3, nz4, nz5]
              refine tkH (i := 8) (v := undef) rfl (by kernel_rfl) (fun _ _ _ h => h) (Or.inr ⟨by rfl, rfl⟩) hS ?_
              try simp only [Act.put, nz0, nz1, nz2, nz3, nz4, nz5]
              refine tkH (i := 9) (v := undef) rfl (by kernel_rfl) (fun _ _ _ h => h) (Or.inr ⟨by rfl, rfl⟩) hS ?_
              try simp only [Act.put, nz0, nz1, nz2, nz3, nz4, nz5]
              refine tkH (i := 10) (v := undef) rfl (by kernel_rfl) (fun _ _ _ h => h) (Or.inr ⟨by rfl, rfl⟩) hS ?_
              try simp only [Act.put, nz0, nz1, nz2, nz3, nz4, nz5]
              refine tkH (i := 11) (v := undef) rfl (by kernel_rfl) (fun _ _ _ h => h) (Or.inr ⟨by rfl, rfl⟩) hS ?_
              try simp only [Act.put, nz0, nz1, nz2, nz3, nz4, nz5]
              refine tkH (i := 12) (v := undef) rfl (by kernel_rfl) (fun _ _ _ h => h) (Or.inr ⟨by rfl, rfl⟩) hS ?_
              try simp only [Act.put, nz0, nz1, nz2, nz3, nz4, nz5]
              refine tkH (i := 13) (v := undef) rfl (by kernel_rfl) (fun _ _ _ h => h) (Or.inr ⟨by rfl, rfl⟩) hS ?_
              try simp only [Act.put, nz0, nz1, nz2, nz3, nz4, nz5]
              refine tkH (i := 14) (v := undef) rfl (by kernel_rfl) (fun _ _ _ h => h) (Or.inr ⟨by rfl, rfl⟩) hS ?_
              try simp only [Act.put, nz0, nz1, nz2, nz3, nz4, nz5]
              refine tkH (i := 15) (v := undef) rfl (by kernel_rfl) (fun _ _ _ h => h) (Or.inr ⟨by rfl, rfl⟩) hS ?_
              try simp only [Act.put, nz0, nz1, nz2, nz3, nz4, nz5]
              refine tkH (i := 16) (v := .bool false) rfl (by kernel_rfl) (fun _ _ _ h => h) (Or.inl ⟨by rfl, fun w _ => by go_simp⟩) hS ?_
              try simp only [Act.put, nz0, nz1, nz2, nz3, nz4, nz5]
              refine wpAnyH_done (by kernel_rfl) ?_ _
              clear hS
              go_wp2
              go_roundw
              case rel => exact ⟨k + 1, by go_num, by omega, BW6.out, HL2.out⟩
              case measure => simp [intOf]; omega
          · have hkn' : ¬ (k : Int) < (rn : Int) := by omega
            have HL1 : Hid (¬ ∃ v ∈ y.p.rs, WroR x v.1 ∧ cx = v.2) := fun ⟨v, q1, q2⟩ => HL.out v (by rw [List.take_of_length_le (by rw [← HRN.out]; omega)]; exact q1) q2
            have hx4 := cell_keep HX4.out hb
            have L0 : ∀ p ∈ x.p.ws.take 0, ¬ FolR ps p cx j := fun x hx => by simp at hx
            go_upto_region 10 with fail
            clear hx4
            go_loopw [64] (fun q wz => ∃ m : Nat, q = .int .i64 (m : Int) ∧ m ≤ wn ∧ Below w.heap.size w wz ∧ (∀ p ∈ x.p.ws.take m, ¬ FolR ps p cx j)) (fun q _ => 1001 - (intOf q).toNat)
            case atStart => exact ⟨0, rfl, Nat.zero_le _, hb, L0⟩
            case round =>
              clear L0 hb
              rename World => wz
              obtain ⟨m, rfl, hm, hb, hL⟩ := hrel
              have HL : Hid (∀ p ∈ x.p.ws.take m, ¬ FolR ps p cx j) := hL
              clear hL
              by_cases hmn : m < wn
              · have hmn' : (m : Int) < (wn : Int) := by omega
                have hm0 : (0 : Int) ≤ (m : Int) := by omega
                obtain ⟨pg, hv⟩ : ∃ p, x.p.ws[m]? = some p := ⟨_, List.getElem?_eq_getElem (by rw [← HWN.out]; exact hmn)⟩
                obtain ⟨b, rfl, hcell⟩ := HPG.out m _ hv
                have hcell2 := cell_keep hcell hb
                have hc1 := cell_keep HX1.out hb
                have HV : Hid (x.p.ws[m]? = some pg) := hv
                have hfo := follows_any (HH.out.keep hb) (by rw [HN.out]; exact hn) pg cx j (by rw [HN.out]; exact hj)
                have HB : Hid (Below w.heap.size w wz) := hb
                clear hv hcell hb
                by_cases hF : FolR ps pg cx j
                · have hcw := Says.calls_yes hfo hF
                  have HYE : Hid (DepR ps i j) := ⟨hij, x, y, HX.out, HY.out, HDX.out, HDY.out, Or.inr ⟨pg, List.mem_of_getElem? HV.out, by rw [HCX.out]; exact hF⟩⟩
                  clear hfo hF
                  go_wp2_with (go_at_call 30; refine hcw.mono ?_; clear hcw; rintro e w6 ⟨he, hb6⟩; obtain rfl := he; have hfin := HYES.out HYE.out w6 (below_trans HB.out hb6); clear hb6)
                  exact hfin
                · have hcw := Says.calls_no hfo hF
                  have HL2 : Hid (∀ p ∈ x.p.ws.take (m + 1), ¬ FolR ps p cx j) := take_all HV.out HL.out hF
                  clear hfo hF
                  go_wp2_with (go_at_call 30; refine hcw.mono ?_; clear hcw; rintro e w6 ⟨he, hb6⟩; obtain rfl := he; have HB6 : Hid (Below w.heap.size w w6) := below_trans HB.out hb6; clear hb6)
                  go_roundw
                  case rel => exact ⟨m + 1, by go_num, by omega, HB6.out, HL2.out⟩
                  case measure => simp [intOf]; omega
              · have hmn' : ¬ (m : Int) < (wn : Int) := by omega
                have hfin := HNOT.out (fun q => by
                  rcases (HNO.out q).2.2.2 with q | ⟨p, q1, q2⟩
                  · exact HL1.out q
                  · exact HL.out p (by rw [List.take_of_length_le (by rw [← HWN.out]; omega)]; exact q1) q2) wz hb
                clear hb
                go_wp2
                exact hfin
end Go.Proofs.Ytdlllnkcjfpajaa
namespace Go.Proofs.Ytdlllnkcjfpajaa
open Go.ChangeShapes Go.WideShapes Go.ChangeAt Go.RowKit
open Relation
set_option linter.unusedVariables false
set_option linter.unusedSimpArgs false
set_option maxRecDepth 20000
def Que (w : World) (B : Nat) (v : Value) (W : List Int) : Prop :=
  ∃ (g off cap : Nat) (cur : Array Value), v = .slice (some ⟨g, off, none⟩) W.length cap ∧ B ≤ g ∧ Row w g cur 3 ∧ W.length ≤ cap ∧ off + cap ≤ cur.size ∧ ∀ (j : Nat) x, W[j]? = some x → cur[off + j]? = some (.int .i64 x)
theorem Que.one {w : World} {B g : Nat} {x : Int} (r : Row w g #[.int .i64 x] 3) (hB : B ≤ g) : Que w B (.slice (some ⟨g, 0, none⟩) 1 1) [x] :=
  ⟨g, 0, 1, _, rfl, hB, r, Nat.le_refl _, Nat.le_refl _, fun j y h => by
    match j with
    | 0 => simp at h; subst h; rfl
    | j + 1 => simp at h⟩
theorem Que.below {w w' : World} {B : Nat} {v : Value} {W : List Int} (h : Que w B v W) (hb : Below w.heap.size w w') : Que w' B v W := by
  obtain ⟨g, off, cap, cur, e, h1, h2, h3⟩ := h
  exact ⟨g, off, cap, cur, e, h1, h2.below hb h2.lt, h3⟩
theorem Que.off {F : Nat → Prop} {w w' : World} {B : Nat} {v : Value} {W : List Int} (h : Que w B v W) (ho : Off F w w') (hF : ∀ g cs, Row w g cs 3 → ¬ F g) : Que w' B v W := by
  obtain ⟨g, off, cap, cur, e, h1, h2, h3⟩ := h
  exact ⟨g, off, cap, cur, e, h1, h2.off ho (hF _ _ h2), h3⟩
theorem Que.tail {w : World} {B g off cap : Nat} {x : Int} {W : List Int} (h : Que w B (.slice (some ⟨g, off, none⟩) (W.length + 1) cap) (x :: W)) : Que w B (.slice (some ⟨g, off + 1, none⟩) W.length (cap - 1)) W := by
  obtain ⟨g', off', cap', cur, e, h1, h2, h3, h4, h5⟩ := h
  injection e with e1 e2 e3
  injection e1 with e1
  injection e1 with e4 e5
  subst e3 e4 e5
  have h3 : W.length + 1 ≤ cap := h3
  refine ⟨g, off + 1, cap - 1, cur, rfl, h1, h2, by omega, by omega, fun j y hy => ?_⟩
  have := h5 (j + 1) y (by simpa using hy)
  rwa [show off + 1 + j = off + (j + 1) by omega]
theorem Que.first {w : World} {B g off n cap : Nat} {x : Int} {W : List Int} (h : Que w B (.slice (some ⟨g, off, none⟩) n cap) (x :: W)) : w.cell? ⟨g, off, none⟩ = some (.int .i64 x) := by
  obtain ⟨g', off', cap', cur, e, h1, h2, h3, h4, h5⟩ := h
  injection e with e1 e2 e3
  injection e1 with e1
  injection e1 with e4 e5
  subst e4 e5
  have := h5 0 x rfl
  rw [cell_of_row _ _ _ _ _ _ h2]
  exact this
theorem setCells_row {w : World} {g : Nat} {cur : Array Value} {t : TypeId} (h : Row w g cur t) (j : Nat) (x : Value) : w.setCells g j [x] = w.setCell ⟨g, j, none⟩ x := by
  simp [World.setCells]
theorem Que.push {w : World} {B : Nat} {v : Value} {W : List Int} (h : Que w B v W) (ty : TypeId) (X : Nat) (x : Int) (hX : Row w X #[.int .i64 x] 3) (hB : B ≤ w.heap.size) (hn : W.length ≤ 1000) :
    ∃ v' w', (Builtin.append_ #[103, 103] ty #[v, .slice (some ⟨X, 0, none⟩) 1 1]).run Try.prog w = .ok v' w' ∧ Que w' B v' (W ++ [x]) ∧ ∃ F : Nat → Prop, Off F w w' ∧ ∀ k, F k → B ≤ k ∧ ∃ cs, Row w k cs 3 := by
  obtain ⟨g, off, cap, cur, rfl, h1, h2, h3, h4, h5⟩ := h
  obtain ⟨i, hi, hz, hs, hby⟩ := Ii.info_parts Ii.info3
  have hnews : ∀ j u, ([Value.int .i64 x] : List Value)[j]? = some u → w.cell? ((⟨X, 0, none⟩ : Addr).add j) = some u := fun j u hj => by
    rw [Addr.add_mid, Nat.zero_add, cell_of_row w X j _ _ _ hX, ← hj]; show #[Value.int .i64 x][j]? = _; rw [← List.getElem?_toArray]
  have h1c : ∀ u ∈ ([Value.int .i64 x] : List Value), u.oneCell' = true := fun u hu => by simp at hu; subst hu; rfl
  by_cases hr : W.length + 1 ≤ cap
  · have hrun := run_append_room_cells (P := Try.prog) w 103 ty 3 i Try.underlying103 hi g off W.length cap ⟨X, 0, none⟩ 1 1 [.int .i64 x] (by rw [hs]; rfl) hnews h1c hr (fun j hj => by
      rw [hs]
      simp at hj; subst hj
      rw [cell_of_row _ _ _ _ _ _ h2, Array.getElem?_eq_getElem (by omega)]; rfl) (fun j hj => row_frozen h2 _)
    rw [hs, Nat.mul_one] at hrun
    rw [setCells_row h2] at hrun
    refine ⟨_, _, hrun, ⟨g, off, cap, cur.setIfInBounds (off + W.length) (.int .i64 x), by simp, h1, row_set h2 _ _, by simp; omega, by simpa using h4, fun j y hy => ?_⟩, (· = g), Off.of_setCell _ _ _ rfl, fun k hk => ⟨by omega, cur, by rw [hk]; exact h2⟩⟩
    rcases get_app hy with ⟨hj, hy⟩ | ⟨hj, rfl⟩
    · rw [Array.getElem?_setIfInBounds_ne (by omega)]; exact h5 j y hy
    · subst hj
      rw [Array.getElem?_setIfInBounds_self_of_lt (by omega)]
  · obtain ⟨v', w', hrun, hown, hg⟩ := run_append_arg_grows (P := Try.prog) w 103 ty 3 i _ 1 8 Try.underlying103 hi hz hs hby rfl (by decide) ⟨g, off, none⟩ W.length cap (W.map (Value.int .i64)) (by simp) (fun j u hj => by
      rw [List.getElem?_map] at hj
      obtain ⟨y, hy, rfl⟩ := Option.map_eq_some_iff.1 hj
      rw [Addr.add_mid, cell_of_row _ _ _ _ _ _ h2]; exact h5 j y hy) ⟨X, 0, none⟩ 1 1 [.int .i64 x] rfl hnews (by omega) (by unfold maxLen; omega) (by omega)
    refine ⟨v', w', hrun, ?_, fun _ => False, Off.of_grown hg (fun k e => by cases e), fun k e => e.elim⟩
    obtain ⟨hl, h⟩ := hown
    rcases h with ⟨_, h0⟩ | ⟨g', cap', cur', e, hbg, hgg, hle, hmx, hsz, htk⟩
    · omega
    · refine ⟨g', 0, cap', cur', by rw [e]; simp, by omega, hgg, by simpa using hle, by rw [hsz]; omega, fun j y hy => ?_⟩
      have : (cur'.toList.take ((W.length + 1) * 1))[j]? = some (.int .i64 y) := by
        rw [htk, ← List.map_singleton, ← List.map_append, List.getElem?_map, hy]; rfl
      rw [List.getElem?_take] at this
      split at this
      · rw [Nat.zero_add, ← Array.getElem?_toList]; exact this
      · cases this
structure Bq (R : Nat → Nat → Prop) (n a : Nat) (bs : List Bool) (W : List Int) (c m : Nat) : Prop where
  len : bs.length = n
  sound : ∀ j : Nat, bs[j]? = some true → TransGen R a j
  todo : ∀ x ∈ W, ∃ k : Nat, x = (k : Int) ∧ k < n ∧ (k = a ∨ bs[k]? = some true)
  closed : ∀ k : Nat, k < n → (k = a ∨ bs[k]? = some true) → (k : Int) ∈ W ∨ ∀ y, y < n → (k = c → y < m) → R k y → bs[y]? = some true
def muB (bs : List Bool) (W : List Int) : Nat := 2 * bs.count false + W.length
theorem Bq.start (R : Nat → Nat → Prop) (n a : Nat) (ha : a < n) : Bq R n a (List.replicate n false) [(a : Int)] n n where
  len := List.length_replicate
  sound j h := by
    have := List.mem_of_getElem? h
    simp at this
  todo x h := by simp at h; exact ⟨a, h, ha, Or.inl rfl⟩
  closed k hk h := by
    rcases h with h | h
    · subst h; simp
    · have := List.mem_of_getElem? h
      simp at this
section
variable {R : Nat → Nat → Prop} {n a : Nat} {bs : List Bool} {W : List Int} {c m : Nat}
theorem Bq.pop {x : Int} (h : Bq R n a bs (x :: W) c n) : ∃ k : Nat, x = (k : Int) ∧ k < n ∧ (k = a ∨ bs[k]? = some true) ∧ Bq R n a bs W k 0 := by
  obtain ⟨k, hx, hk, hr⟩ := h.todo x (by simp)
  refine ⟨k, hx, hk, hr, h.len, h.sound, fun y hy => h.todo y (by simp [hy]), fun k' hk' q => ?_⟩
  by_cases e : k' = k
  · right
    intro y _ hy
    exact absurd (hy e) (by omega)
  · rcases h.closed k' hk' q with h1 | h1
    · rcases List.mem_cons.1 h1 with h1 | h1
      · omega
      · exact Or.inl h1
    · exact Or.inr fun y hy _ => h1 y hy (fun _ => hy)
theorem Bq.skip (h : Bq R n a bs W c m) (q : bs[m]? = some true ∨ ¬ R c m) : Bq R n a bs W c (m + 1) := by
  refine ⟨h.len, h.sound, h.todo, fun k hk r => ?_⟩
  rcases h.closed k hk r with h1 | h1
  · exact Or.inl h1
  · refine Or.inr fun y hy hc hR => ?_
    by_cases e : k = c
    · by_cases e2 : y = m
      · subst e2 e
        rcases q with q | q
        · exact q
        · exact absurd hR q
      · exact h1 y hy (fun _ => by have := hc e; omega) hR
    · exact h1 y hy (fun q => absurd q e) hR
theorem count_set : ∀ {bs : List Bool} {m : Nat}, bs[m]? = some false → (bs.set m true).count false + 1 = bs.count false
  | [], _, h => by simp at h
  | b :: r, 0, h => by simp at h; subst h; simp
  | b :: r, m + 1, h => by
    have := count_set (bs := r) (m := m) (by simpa using h)
    cases b <;> simp <;> omega
theorem Bq.push (h : Bq R n a bs W c m) (hm : m < n) (hc : c = a ∨ bs[c]? = some true) (hf : bs[m]? = some false) (hR : R c m) : Bq R n a (bs.set m true) (W ++ [(m : Int)]) c (m + 1) := by
  have hl : m < bs.length := by rw [h.len]; exact hm
  have keep : ∀ y, bs[y]? = some true → (bs.set m true)[y]? = some true := fun y hy => by
    by_cases e : y = m
    · rw [e, List.getElem?_set_self hl]
    · rw [List.getElem?_set_ne (fun q => e q.symm)]; exact hy
  have back : ∀ y, (bs.set m true)[y]? = some true → y = m ∨ bs[y]? = some true := fun y hy => by
    by_cases e : y = m
    · exact Or.inl e
    · rw [List.getElem?_set_ne (fun q => e q.symm)] at hy; exact Or.inr hy
  refine ⟨by rw [List.length_set]; exact h.len, fun j hj => ?_, fun x hx => ?_, fun k hk r => ?_⟩
  · rcases back j hj with e | hj
    · rw [e]
      rcases hc with e' | hc
      · rw [e'] at hR; exact .single hR
      · exact .tail (h.sound c hc) hR
    · exact h.sound j hj
  · rcases List.mem_append.1 hx with hx | hx
    · obtain ⟨k, e, hk, hr⟩ := h.todo x hx
      exact ⟨k, e, hk, hr.imp id (keep k)⟩
    · simp at hx
      exact ⟨m, hx, hm, Or.inr (by rw [List.getElem?_set_self hl])⟩
  · by_cases e : k = m
    · left; rw [e]; simp
    · have r' : k = a ∨ bs[k]? = some true := by
        rcases r with r | r
        · exact Or.inl r
        · rcases back k r with q | q
          · exact absurd q e
          · exact Or.inr q
      rcases h.closed k hk r' with h1 | h1
      · left; simp [h1]
      · refine Or.inr fun y hy hcc hRy => ?_
        by_cases e2 : y = m
        · rw [e2, List.getElem?_set_self hl]
        · exact keep y (h1 y hy (fun q => by have := hcc q; omega) hRy)
theorem Bq.mu_push (hf : bs[m]? = some false) : muB (bs.set m true) (W ++ [(m : Int)]) + 1 = muB bs W := by
  have := count_set hf
  unfold muB
  rw [List.length_append]
  simp
  omega
theorem Bq.done (h : Bq R n a bs [] c n) (ha : a < n) (hR : ∀ x y, R x y → x < n ∧ y < n) (j : Nat) (hj : j < n) : bs[j]? = some true ↔ TransGen R a j := by
  refine ⟨h.sound j, fun q => ?_⟩
  have key : ∀ k : Nat, k < n → (k = a ∨ bs[k]? = some true) → ∀ y, R k y → bs[y]? = some true := fun k hk r y hy => by
    rcases h.closed k hk r with h1 | h1
    · simp at h1
    · exact h1 y (hR _ _ hy).2 (fun _ => (hR _ _ hy).2) hy
  clear hj
  induction q with
  | single r => exact key a ha (Or.inl rfl) _ r
  | tail _ r ih => exact key _ (hR _ _ r).1 (Or.inr ih) _ r
end
def StR (ps : List Hm) (s : Bool) (a b : Nat) : Prop := DepR ps a b ∨ (s = true ∧ AheR ps a b)
theorem StR.lt {ps : List Hm} {s : Bool} {a b : Nat} (h : StR ps s a b) : a < ps.length ∧ b < ps.length := by
  rcases h with ⟨_, x, y, h1, h2, _⟩ | ⟨_, _, x, y, h1, h2, _⟩
  · exact ⟨(List.getElem?_eq_some_iff.1 h1).1, (List.getElem?_eq_some_iff.1 h2).1⟩
  · exact ⟨(List.getElem?_eq_some_iff.1 h1).1, (List.getElem?_eq_some_iff.1 h2).1⟩
end Go.Proofs.Ytdlllnkcjfpajaa
