/-
  Proved here: what a crash makes of the document's disk.
-/
import Derived.Test.YtkgmhliocfbdfaaRwr
namespace Go.Proofs.Ytkgmhliocfbdfaa
open Go.ChangeShapes Go.WideShapes Go.ChangeAt Go.RowKit
set_option linter.unusedVariables false
set_option linter.unusedSimpArgs false

theorem size69 : (Try.prog.info? 69).map (·.size) = some 66 := by kernel_rfl
theorem kept_le (ps : List (Int × Int × List Int)) (bl : List Bool) : ∀ k, (kept ps bl k).length ≤ k
  | 0 => Nat.le_refl _
  | k + 1 => by
    have := kept_le ps bl k
    unfold kept
    split
    · simp; omega
    · omega
theorem kept_more (ps : List (Int × Int × List Int)) (bl : List Bool) (k : Nat) (h : bl.length ≤ k) : ∀ j, kept ps bl (k + j) = kept ps bl k
  | 0 => rfl
  | j + 1 => by
    show kept ps bl (k + j + 1) = _
    have e : kept ps bl (k + j + 1) = if bl.getD (k + j) false = true then kept ps bl (k + j) ++ [ps.getD (k + j) (0, 0, [])] else kept ps bl (k + j) := rfl
    rw [e, if_neg (by simp [List.getD, List.getElem?_eq_none (by omega : bl.length ≤ k + j)]), kept_more ps bl k h j]
theorem cell_blk {w : World} {p : Addr} {u : Value} (h : w.cell? p = some u) : p.block < w.heap.size := by
  unfold World.cell? at h
  by_cases q : p.block < w.heap.size
  · exact q
  · rw [Array.getElem?_eq_none (by omega)] at h; cases h
def rcrash (R : RD) (bl : List Bool) : RD := ⟨R.n, R.sure ++ kept R.pend bl R.pend.length, [], [], 0, 0, false⟩
def RCrashed (w : World) (r : Nat) (R : RD) (vs vp vf : Value) (N : Nat) (bl : List Bool) (e : Ending) (w' : World) : Prop := e = .returned (.tuple #[]) ∧ RStep w r vs vp vf (rcrash R bl) N w'
set_option maxHeartbeats 2000000 in
set_option maxRecDepth 20000 in
theorem rcrash_any {w : World} {r : Nat} {R : RD} {vs vp vf : Value} {N : Nat} (h : RDAt w r R vs vp vf N) (kv : Value) (bl : List Bool) (hc : Cel w kv (bl.map .bool)) (hne : ∀ a n c, kv = .slice (some a) n c → bl ≠ [] → ¬ rfoot r vs vp vf a.block) (hN : N + N + 1 < 1000000000) :
    Calls Try.prog 17 #[.pointer (some ⟨r, 0, none⟩), kv] w fun e w' => RCrashed w r R vs vp vf N bl e w' := by
  obtain ⟨nb, Hnb⟩ : ∃ nb, Hid (bl.length = nb) := ⟨_, rfl⟩
  obtain ⟨oak, capk, hkv, HCK⟩ : ∃ oak capk, kv = .slice oak nb capk ∧ Hid (∀ wx, Off (rfoot r vs vp vf) w wx → ∀ j, j < nb → ∃ A : Addr, oak = some A ∧ wx.cell? (A.add j) = some (.bool (bl.getD j false))) := by
    rcases hc with ⟨e, e2⟩ | ⟨a, cap, e, hc⟩
    · have : bl = [] := by simpa using e2
      subst this
      rw [← Hnb.out]
      exact ⟨none, 0, e, fun wx _ j hj => by simp at hj⟩
    · refine ⟨some a, cap, by rw [e, List.length_map, Hnb.out], fun wx ho j hj => ⟨a, rfl, ?_⟩⟩
      have h1 := hc j (.bool (bl.getD j false)) (by rw [List.getElem?_map, List.getElem?_eq_getElem (by rw [Hnb.out]; exact hj)]; simp [List.getD, show j < bl.length by rw [Hnb.out]; exact hj])
      rw [← h1]
      have hb : (a.add j).block = a.block := by unfold Addr.add; split <;> rfl
      refine World.cell?_of_block (ho.block _ (cell_blk h1) ?_)
      rw [hb]; exact hne a _ _ e (fun q => by rw [← Hnb.out, q] at hj; simp at hj)
  subst hkv
  obtain ⟨oa1, cap1, e1⟩ := own_form h.pend
  obtain ⟨n1, Hn1⟩ : ∃ n, Hid (R.pend.length = n) := ⟨_, rfl⟩
  rw [Hn1.out] at e1
  subst e1
  have HBD : Hid (R.sure.length + R.pend.length ≤ N) := h.bound
  have HNN : Hid (N + N + 1 < 1000000000) := hN
  have hn1b : n1 < 1000000000 := by have := HBD.out; rw [Hn1.out] at this; omega
  clear hc hne hN
  go_enter Try.func17, Try.ntmps17
  go_wp2_with fail
  go_loopw [4] (fun c wr => ∃ (k : Nat) (v : Value), c = .int .i64 k ∧ k ≤ n1 ∧ RDAt wr r { R with sure := R.sure ++ kept R.pend bl k } v (.slice oa1 n1 cap1) vf (N + k) ∧ Off (rfoot r vs (.slice oa1 n1 cap1) vf) w wr ∧ Hid (∀ j, v.ownBlock = some j → vs.ownBlock = some j ∨ w.heap.size ≤ j)) (fun c _ => n1 - (intOf c).toNat)
  case atStart => exact ⟨0, vs, rfl, by omega, by show RDAt _ _ ⟨R.n, R.sure ++ [], _, _, _, _, _⟩ _ _ _ _; rw [List.append_nil]; exact h, Off.refl _ _, fun j q => Or.inl q⟩
  case round =>
    clear h
    obtain ⟨k, v, rfl, hk, D, ro, HFT⟩ := hrel
    have HNK : Hid (k ≤ R.pend.length) := by show _ ≤ _; rw [Hn1.out]; exact hk
    have cP : wr.cell? ⟨r, 2, none⟩ = some (.slice oa1 n1 cap1) := row_at D.row 2 _ rfl
    by_cases hkn : k < n1
    · have hkn' : (k : Int) < (n1 : Int) := by omega
      by_cases hkb : k < nb
      · have hkb' : (k : Int) < (nb : Int) := by omega
        obtain ⟨A, hoak, hcA⟩ := HCK.out wr ro k hkb
        subst hoak
        cases hbk : bl.getD k false with
        | false =>
          rw [hbk] at hcA
          have HKP : Hid (kept R.pend bl (k + 1) = kept R.pend bl k) := by
            show (if bl.getD k false = true then _ else _) = _
            rw [hbk]; rfl
          clear hbk
          go_wp2_with fail
          go_roundw
          case rel => exact ⟨k + 1, v, by go_num, by omega, by rw [HKP.out]; exact { D with bound := by have := D.bound; omega, big := by have := HNN.out; have := HBD.out; have := HNK.out; omega }, ro, HFT⟩
          case measure => simp [intOf]; omega
        | true =>
          rw [hbk] at hcA
          have hkl : k < R.pend.length := by rw [Hn1.out]; exact hkn
          have HKP : Hid (kept R.pend bl (k + 1) = kept R.pend bl k ++ [R.pend[k]'hkl]) := by
            show (if bl.getD k false = true then kept R.pend bl k ++ [R.pend.getD k (0, 0, [])] else _) = _
            rw [hbk, if_pos rfl]; simp [List.getD, hkl]
          obtain ⟨oaq, capq, hvq, hrgq⟩ := writes_at D.pend D.okp
          have hqok0 := D.okp _ (List.getElem_mem hkl)
          obtain ⟨gp, hgp, hrg⟩ := hrgq k hkl
          have eq1 : oa1 = oaq := by
            have := hvq
            simp only [Value.slice.injEq] at this
            exact this.1
          subst eq1
          subst hgp
          change wr.rangeAt gp (k * 66) (pcell R.pend[k]) at hrg
          generalize R.pend[k]'hkl = qq at HKP hqok0 hrg
          obtain ⟨qb, qs, qx⟩ := qq
          have hqok : okW (qb, qs, qx) := hqok0
          have hqx : qx.length = 64 := hqok.2.2.1
          have HKP2 : Hid (R.sure ++ kept R.pend bl (k + 1) = (R.sure ++ kept R.pend bl k) ++ [(qb, qs, qx)]) := by show _ = _; rw [HKP.out, List.append_assoc]
          have HKP : Hid ((⟨R.n, R.sure ++ kept R.pend bl (k + 1), R.pend, R.fails, R.fuse, R.ops, R.down⟩ : RD) = ⟨R.n, (R.sure ++ kept R.pend bl k) ++ [(qb, qs, qx)], R.pend, R.fails, R.fuse, R.ops, R.down⟩) := by show _ = _; rw [HKP2.out]
          have HNB : Hid (N + k + 1 < 1000000000) := by show _ < _; have := HNN.out; have := HBD.out; have := HNK.out; omega
          obtain ⟨oa0, cap0, e0⟩ := own_form D.sure
          obtain ⟨n0, Hn0⟩ : ∃ n, Hid ((R.sure ++ kept R.pend bl k).length = n) := ⟨_, rfl⟩
          have e0' : v = .slice oa0 n0 cap0 := by rw [← Hn0.out]; exact e0
          subst e0'
          clear hbk e0 hrgq hvq hqok0
          go_upto_region 4 with fail
          refine wp_region_last (S := fun w' => Row w' r (rdcells { R with sure := R.sure ++ kept R.pend bl k } (.slice oa0 n0 cap0) (.slice (some ⟨gp, 0, none⟩) n1 cap1) vf) 30 ∧ w'.rangeAt gp (k * 66) (pcell (qb, qs, qx))) 16 (by kernel_rfl) ⟨D.row, hrg⟩ fun hS => ?_
          refine wpAnyL_take (i := 0) (v := .pointer (some ⟨r, 0, none⟩)) rfl (by kernel_rfl) (by kernel_rfl) (by kernel_rfl) (by kernel_rfl) (fun _ _ _ h => h) (Or.inl ⟨by rfl, fun w _ => by rfl⟩) hS ?_
          try simp only [Act.put, List.getElem_toArray, List.getElem_cons_zero, List.getElem_cons_succ, List.setIfInBounds_toArray, List.set_cons_zero, List.set_cons_succ]
          refine wpAnyL_take (i := 1) (v := .pointer (some ⟨r, 0, none⟩)) rfl (by kernel_rfl) (by kernel_rfl) (by kernel_rfl) (by kernel_rfl) (fun _ _ _ h => h) (Or.inl ⟨by rfl, fun w _ => by rfl⟩) hS ?_
          try simp only [Act.put, List.getElem_toArray, List.getElem_cons_zero, List.getElem_cons_succ, List.setIfInBounds_toArray, List.set_cons_zero, List.set_cons_succ]
          refine wpAnyL_take (i := 2) (v := .pointer (some ⟨r, 0, none⟩)) rfl (by kernel_rfl) (by kernel_rfl) (by kernel_rfl) (by kernel_rfl) (fun _ _ _ h => h) (Or.inl ⟨by rfl, fun w _ => by go_simp⟩) hS ?_
          try simp only [Act.put, List.getElem_toArray, List.getElem_cons_zero, List.getElem_cons_succ, List.setIfInBounds_toArray, List.set_cons_zero, List.set_cons_succ]
          refine wpAnyL_take (i := 3) (v := .pointer (some ⟨r, 1, none⟩)) rfl (by kernel_rfl) (by kernel_rfl) (by kernel_rfl) (by kernel_rfl) (fun _ _ _ h => h) (Or.inl ⟨by rfl, fun w _ => by go_simp⟩) hS ?_
          try simp only [Act.put, List.getElem_toArray, List.getElem_cons_zero, List.getElem_cons_succ, List.setIfInBounds_toArray, List.set_cons_zero, List.set_cons_succ]
          refine wpAnyL_take (i := 4) (v := .slice oa0 n0 cap0) rfl (by kernel_rfl) (by kernel_rfl) (by kernel_rfl) (by kernel_rfl) (fun _ _ _ h => h) (Or.inl ⟨by rfl, fun w h => by have c := row_at h.1 1 _ rfl; simp only [rdcells, List.getElem_toArray, List.getElem_cons_zero, List.getElem_cons_succ] at c; go_simp⟩) hS ?_
          try simp only [Act.put, List.getElem_toArray, List.getElem_cons_zero, List.getElem_cons_succ, List.setIfInBounds_toArray, List.set_cons_zero, List.set_cons_succ]
          refine wpAnyL_take (i := 5) (v := .pointer (some ⟨r, 0, none⟩)) rfl (by kernel_rfl) (by kernel_rfl) (by kernel_rfl) (by kernel_rfl) (fun _ _ _ h => h) (Or.inl ⟨by rfl, fun w _ => by rfl⟩) hS ?_
          try simp only [Act.put, List.getElem_toArray, List.getElem_cons_zero, List.getElem_cons_succ, List.setIfInBounds_toArray, List.set_cons_zero, List.set_cons_succ]
          refine wpAnyL_take (i := 6) (v := .pointer (some ⟨r, 0, none⟩)) rfl (by kernel_rfl) (by kernel_rfl) (by kernel_rfl) (by kernel_rfl) (fun _ _ _ h => h) (Or.inl ⟨by rfl, fun w _ => by go_simp⟩) hS ?_
          try simp only [Act.put, List.getElem_toArray, List.getElem_cons_zero, List.getElem_cons_succ, List.setIfInBounds_toArray, List.set_cons_zero, List.set_cons_succ]
          refine wpAnyL_take (i := 7) (v := .pointer (some ⟨r, 2, none⟩)) rfl (by kernel_rfl) (by kernel_rfl) (by kernel_rfl) (by kernel_rfl) (fun _ _ _ h => h) (Or.inl ⟨by rfl, fun w _ => by go_simp⟩) hS ?_
          try simp only [Act.put, List.getElem_toArray, List.getElem_cons_zero, List.getElem_cons_succ, List.setIfInBounds_toArray, List.set_cons_zero, List.set_cons_succ]
          refine wpAnyL_take (i := 8) (v := .slice (some ⟨gp, 0, none⟩) n1 cap1) rfl (by kernel_rfl) (by kernel_rfl) (by kernel_rfl) (by kernel_rfl) (fun _ _ _ h => h) (Or.inl ⟨by rfl, fun w h => by have c := row_at h.1 2 _ rfl; simp only [rdcells, List.getElem_toArray, List.getElem_cons_zero, List.getElem_cons_succ] at c; go_simp⟩) hS ?_
          try simp only [Act.put, List.getElem_toArray, List.getElem_cons_zero, List.getElem_cons_succ, List.setIfInBounds_toArray, List.set_cons_zero, List.set_cons_succ]
          refine wpAnyL_take (i := 9) (v := .int .i64 (k : Nat)) rfl (by kernel_rfl) (by kernel_rfl) (by kernel_rfl) (by kernel_rfl) (fun _ _ _ h => h) (Or.inl ⟨by rfl, fun w _ => by rfl⟩) hS ?_
          try simp only [Act.put, List.getElem_toArray, List.getElem_cons_zero, List.getElem_cons_succ, List.setIfInBounds_toArray, List.set_cons_zero, List.set_cons_succ]
          refine wpAnyL_take (i := 10) (v := .pointer (some ⟨gp, k * 66, none⟩)) rfl (by kernel_rfl) (by kernel_rfl) (by kernel_rfl) (by kernel_rfl) (fun _ _ _ h => h) (Or.inl ⟨by rfl, fun w _ => by go_simp⟩) hS ?_
          try simp only [Act.put, List.getElem_toArray, List.getElem_cons_zero, List.getElem_cons_succ, List.setIfInBounds_toArray, List.set_cons_zero, List.set_cons_succ]
          refine wpAnyL_take (i := 11) (v := .agg (wcells qb qs qx)) rfl (by kernel_rfl) (by kernel_rfl) (by kernel_rfl) (by kernel_rfl) (fun _ _ _ h => h) (yieldsIf_load_mid (by rfl) 69 (.tmp 34) rfl gp (k * 66) rfl (pcell (qb, qs, qx)) _ (fun w h => h.2) Try.underlying69 rfl (by rw [size69]; simp [pcell, hqx])) hS ?_
          try simp only [Act.put, List.getElem_toArray, List.getElem_cons_zero, List.getElem_cons_succ, List.setIfInBounds_toArray, List.set_cons_zero, List.set_cons_succ]
          have b5x : Below wr.heap.size wr wr.drew := (Below.refl _ wr).drew
          have D5 := D.below b5x
          have hS5 := hS
          generalize wr.drew = w5 at hS hS5 D5 b5x ⊢
          refine wpAnyL_ready (rs := [12]) (by kernel_rfl) (by simp) ?_
          refine AllReadyL.cons rfl (fun K hK => step_of rfl (wp_slice_one69 (.tmp 35) rfl qb qs qx hqx rfl ?_)) AllReadyL.nil
          have rZ : Row (w5.alloc (.cells (wcells qb qs qx) 69)) w5.heap.size (wcells qb qs qx) 69 := Row.new _ _ _
          have bZ : Below w5.heap.size w5 (w5.alloc (.cells (wcells qb qs qx) 69)) := (Below.refl _ _).alloc (Nat.le_refl _) _
          have D6 := D5.below bZ
          have hS6 := (show Row (w5.alloc (.cells (wcells qb qs qx) 69)) r (rdcells { R with sure := R.sure ++ kept R.pend bl k } (.slice oa0 n0 cap0) (.slice (some ⟨gp, 0, none⟩) n1 cap1) vf) 30 ∧ (w5.alloc (.cells (wcells qb qs qx) 69)).rangeAt gp (k * 66) (pcell (qb, qs, qx)) from ⟨hS5.1.below bZ hS5.1.lt, fun j v hv => cell_keep (hS5.2 j v hv) bZ⟩)
          refine hK.out _ _ (fun _ => hS6) ?_
          try simp only [Act.put, List.getElem_toArray, List.getElem_cons_zero, List.getElem_cons_succ, List.setIfInBounds_toArray, List.set_cons_zero, List.set_cons_succ]
          obtain ⟨Zb, HZb⟩ : ∃ Zb, Hid (w5.heap.size = Zb) := ⟨_, rfl⟩
          rw [HZb.out] at rZ ⊢
          have hb6 := b5x.trans (bZ.mono b5x.size)
          generalize w5.alloc (.cells (wcells qb qs qx) 69) = w6 at rZ D6 hS6 hb6 ⊢
          have hbd6 : (R.sure ++ kept R.pend bl k).length ≤ 1000000000 := by have h1 : (R.sure ++ kept R.pend bl k).length + R.pend.length ≤ N + k := D6.bound; have := D6.big; omega
          have HAP : Hid (∀ ty, ∃ v' w', (Builtin.append_ #[27, 27] ty #[.slice oa0 n0 cap0, .slice (some ⟨Zb, 0, none⟩) 1 1]).run Try.prog w6 = .ok v' w' ∧ (w'.ownsRow 0 69 66 v' ((R.sure ++ kept R.pend bl k) ++ [(qb, qs, qx)]).length (pcells ((R.sure ++ kept R.pend bl k) ++ [(qb, qs, qx)])) ∧ w6.grownBy w' (.slice oa0 n0 cap0 : Value).ownBlock ∧ (v'.ownBlock = (.slice oa0 n0 cap0 : Value).ownBlock ∨ v'.ownBlock = some w6.heap.size))) := fun ty => by
            obtain ⟨i, hi, hz, hs, hby⟩ := info_parts info69
            obtain ⟨v', w', h1, h2, h3, _, h5⟩ := run_append_own_at (P := Try.prog) w6 0 27 ty 69 i _ 66 80 Try.underlying27 hi hz hs hby (wcells_size _ _ _ (zs_length 64)) (by decide) (.slice oa0 n0 cap0) (R.sure ++ kept R.pend bl k).length (pcells (R.sure ++ kept R.pend bl k)) D6.sure ⟨Zb, 0, none⟩ 1 1 (pcell (qb, qs, qx)) (by simp [pcell, hqx]) (fun j u hj => by rw [Addr.add_mid, Nat.zero_add]; exact row_at rZ j u (by simpa [wcells] using hj)) (pcell_one _) (by unfold maxLen; omega) (by omega) (Nat.zero_le _)
            exact ⟨v', w', h1, by rw [List.length_append, pcells_snoc]; exact h2, h3, h5⟩
          refine wpAnyL_ready (rs := [13]) (by kernel_rfl) (by simp) ?_
          refine AllReadyL.cons rfl (fun K hK => step_of rfl (wp_copy (.tmp 28) (.tmp 36) 27 rfl _ _ rfl rfl (fun ty => HAP.out ty) ?_)) AllReadyL.nil
          rintro v9 w9 ⟨own9, gr9, ob9⟩
          have og9 : Off (fun k => (.slice oa0 n0 cap0 : Value).ownBlock = some k) w6 w9 := Off.of_grown gr9 (fun k e => e)
          have hS9 := (show Row w9 r (rdcells { R with sure := R.sure ++ kept R.pend bl k } (.slice oa0 n0 cap0) (.slice (some ⟨gp, 0, none⟩) n1 cap1) vf) 30 ∧ w9.rangeAt gp (k * 66) (pcell (qb, qs, qx)) from ⟨hS6.1.off og9 D6.sr, fun j v hv => by have c := hS6.2 j v hv; rw [← c]; exact World.cell?_of_block (og9.block gp (cell_blk c) (fun e => D6.sp gp e rfl))⟩)
          obtain ⟨oa9, cap9, hv9⟩ := own_form own9
          obtain ⟨n9, Hn9⟩ : ∃ n, Hid (((R.sure ++ kept R.pend bl k) ++ [(qb, qs, qx)]).length = n) := ⟨_, rfl⟩
          rw [Hn9.out] at hv9
          subst hv9
          have hob : ∀ k, (Value.slice oa9 n9 cap9).ownBlock = some k → (.slice oa0 n0 cap0 : Value).ownBlock = some k ∨ w6.heap.size ≤ k := fun k e => by
            rcases ob9 with q | q
            · rw [q] at e; exact Or.inl e
            · rw [q] at e; cases e; exact Or.inr (Nat.le_refl _)
          have D9 := D6.pushS (qb, qs, qx) hqok own9 og9 hob (by have := HNB.out; omega)
          have s1 := row_at hS9.1 1 _ rfl
          have t1 := row_frozen hS9.1 1
          have o9 : Off (fun k => k = r ∨ (.slice oa0 n0 cap0 : Value).ownBlock = some k) wr (w9.setCell ⟨r, 1, none⟩ (.slice oa9 n9 cap9)) := ((Off.of_below (F := fun k => k = r ∨ (.slice oa0 n0 cap0 : Value).ownBlock = some k) hb6).trans og9 (fun _ q => Or.inl (Or.inr q))).trans (Off.of_setCell (F := (· = r)) _ _ _ rfl) (fun _ q => Or.inl (Or.inl q))
          have hob2 : ∀ k, (Value.slice oa9 n9 cap9).ownBlock = some k → (.slice oa0 n0 cap0 : Value).ownBlock = some k ∨ wr.heap.size ≤ k := fun k e => by
            rcases hob k e with q | q
            · exact Or.inl q
            · exact Or.inr (Nat.le_trans hb6.size q)
          have HD9 : Hid _ := D9
          clear HAP own9 D9 D6 hob ob9
          refine hK.out _ _ (fun _ => hS9) ?_
          try simp only [Act.put, List.getElem_toArray, List.getElem_cons_zero, List.getElem_cons_succ, List.setIfInBounds_toArray, List.set_cons_zero, List.set_cons_succ]
          refine wpAnyL_ready (rs := [14]) (by kernel_rfl) (by simp) ?_
          refine AllReadyL.cons rfl (fun K hK => ?_) AllReadyL.nil
          go_simp
          refine hK.out _ _ (fun _ => hS9) ?_
          try simp only [Act.put, List.getElem_toArray, List.getElem_cons_zero, List.getElem_cons_succ, List.setIfInBounds_toArray, List.set_cons_zero, List.set_cons_succ]
          have hS := hS9
          refine wpAnyL_take (i := 15) (v := .pointer (some ⟨r, 1, none⟩)) rfl (by kernel_rfl) (by kernel_rfl) (by kernel_rfl) (by kernel_rfl) (fun _ _ _ h => h) (Or.inl ⟨by rfl, fun w _ => by go_simp⟩) hS ?_
          try simp only [Act.put, List.getElem_toArray, List.getElem_cons_zero, List.getElem_cons_succ, List.setIfInBounds_toArray, List.set_cons_zero, List.set_cons_succ]
          refine wpAnyL_ready (rs := [16]) (by kernel_rfl) (by simp) ?_
          refine AllReadyL.cons rfl (fun K hK => ?_) AllReadyL.nil
          simp only [rdcells, List.getElem_toArray, List.getElem_cons_zero, List.getElem_cons_succ] at s1
          go_simp
          refine hK.out _ _ (fun q => absurd rfl q) ?_
          try simp only [Act.put, List.getElem_toArray, List.getElem_cons_zero, List.getElem_cons_succ, List.setIfInBounds_toArray, List.set_cons_zero, List.set_cons_succ]
          refine wpAnyL_done (by kernel_rfl) ?_ _
          go_wp2_with fail
          go_roundw
          case rel =>
            refine ⟨k + 1, .slice oa9 n9 cap9, by go_num, by omega, by rw [HKP.out]; exact HD9.out, ?_, ?_⟩
            · refine ro.trans o9 (fun j q => ?_)
              rcases q with q | q
              · exact Or.inl (Or.inl q)
              · rcases HFT.out j q with c | c
                · exact Or.inl (Or.inr (Or.inl c))
                · exact Or.inr c
            · intro j q
              rcases hob2 j q with c | c
              · exact HFT.out j c
              · exact Or.inr (Nat.le_trans ro.size c)
          case measure => simp [intOf]; omega
      · have hkb' : ¬ (k : Int) < (nb : Int) := by omega
        have HKN : Hid (kept R.pend bl k = kept R.pend bl R.pend.length) := by show _ = _; have e := kept_more R.pend bl k (by rw [Hnb.out]; omega) (R.pend.length - k); have h1 := HNK.out; rw [show k + (R.pend.length - k) = R.pend.length by omega] at e; exact e.symm
        have hkl := kept_le R.pend bl k
        have hbR := HBD.out
        have c2 := row_at D.row 2 _ rfl
        have f2 := row_frozen D.row 2
        have q2 := row_set D.row 2 (.slice none 0 0)
        have ofs : Off (· = r) wr (wr.setCell ⟨r, 2, none⟩ (.slice none 0 0)) := Off.of_setCell _ _ _ rfl
        have DA : RDAt (wr.setCell ⟨r, 2, none⟩ (.slice none 0 0)) r ⟨R.n, R.sure ++ kept R.pend bl k, [], R.fails, R.fuse, R.ops, R.down⟩ v (.slice none 0 0) vf N :=
          ⟨q2, own_off D.sure ofs (fun j e q => D.sr (q ▸ e)), World.ownsRow_nil _ _ _ _, own_off D.fails ofs (fun j e q => D.fr (q ▸ e)), (fun j e e2 => by cases e2), D.sf, (fun j e => by cases e), D.sr, (fun e => by cases e), D.fr, D.oks, (fun q hq => by cases hq), (by have h1 := HNK.out; simp; omega), (by have := HNN.out; omega), D.fbig, D.opsn, D.fusew⟩
        have hpl := rplan_any DA (.slice none 0 0) [] (Or.inl ⟨rfl, rfl⟩) (by simp) 0 (wf_of (by omega) (by omega))
        have OA := ro.trans ofs (fun j q => Or.inl (Or.inl q))
        clear q2
        simp only [rdcells, List.getElem_toArray, List.getElem_cons_zero, List.getElem_cons_succ] at c2
        go_wp2_with (first
          | (go_at_call 16; refine hpl.mono ?_; clear hpl; rintro e w7 ⟨he, vf7, D7, o7, n7⟩; obtain rfl := he
             have c7 : w7.cell? ⟨r, 6, none⟩ = some (.bool R.down) := row_at D7.row 6 _ rfl
             have f7 := row_frozen D7.row 6
             have q7 := row_set D7.row 6 (.bool false)))
        have o8 : Off (· = r) w7 (w7.setCell ⟨r, 6, none⟩ (.bool false)) := Off.of_setCell _ _ _ rfl
        have D8 : RDAt (w7.setCell ⟨r, 6, none⟩ (.bool false)) r (rcrash R bl) v (.slice none 0 0) vf7 N := by
          have := D7.upd (R' := ⟨R.n, R.sure ++ kept R.pend bl k, [], [], 0, 0, false⟩) o8 q7 rfl rfl rfl (by show (0 : Int) ≤ 0; omega) (wf_of (by show -9223372036854775808 ≤ (0 : Int); omega) (by show (0 : Int) ≤ _; omega))
          rw [HKN.out] at this; exact this
        have hfin : RStep w r vs (.slice oa1 n1 cap1) vf (rcrash R bl) N (w7.setCell ⟨r, 6, none⟩ (.bool false)) := ⟨v, .slice none 0 0, vf7, D8, (OA.trans o7 (fun j q => Or.inl (Or.inl q))).trans o8 (fun j q => Or.inl (Or.inl q)), fun j q => by
          rcases q with q | q | q | q
          · exact Or.inl (Or.inl q)
          · rcases HFT.out j q with c | c
            · exact Or.inl (Or.inr (Or.inl c))
            · exact Or.inr c
          · cases q
          · have := n7 j q
            have := OA.size
            exact Or.inr (by omega)⟩
        first
          | (go_end0; exact ⟨rfl, hfin⟩)
          | (refine bodyPost_ret (results_none rfl _ _ _) rfl ?_; exact ⟨rfl, hfin⟩)
    · have hkn' : ¬ (k : Int) < (n1 : Int) := by omega
      have HKN : Hid (kept R.pend bl k = kept R.pend bl R.pend.length) := by show _ = _; rw [Hn1.out, show k = n1 by omega]
      have hkl := kept_le R.pend bl k
      have hbR := HBD.out
      have c2 := row_at D.row 2 _ rfl
      have f2 := row_frozen D.row 2
      have q2 := row_set D.row 2 (.slice none 0 0)
      have ofs : Off (· = r) wr (wr.setCell ⟨r, 2, none⟩ (.slice none 0 0)) := Off.of_setCell _ _ _ rfl
      have DA : RDAt (wr.setCell ⟨r, 2, none⟩ (.slice none 0 0)) r ⟨R.n, R.sure ++ kept R.pend bl k, [], R.fails, R.fuse, R.ops, R.down⟩ v (.slice none 0 0) vf N :=
        ⟨q2, own_off D.sure ofs (fun j e q => D.sr (q ▸ e)), World.ownsRow_nil _ _ _ _, own_off D.fails ofs (fun j e q => D.fr (q ▸ e)), (fun j e e2 => by cases e2), D.sf, (fun j e => by cases e), D.sr, (fun e => by cases e), D.fr, D.oks, (fun q hq => by cases hq), (by have h1 := HNK.out; simp; omega), (by have := HNN.out; omega), D.fbig, D.opsn, D.fusew⟩
      have hpl := rplan_any DA (.slice none 0 0) [] (Or.inl ⟨rfl, rfl⟩) (by simp) 0 (wf_of (by omega) (by omega))
      have OA := ro.trans ofs (fun j q => Or.inl (Or.inl q))
      clear q2
      simp only [rdcells, List.getElem_toArray, List.getElem_cons_zero, List.getElem_cons_succ] at c2
      go_wp2_with (first
        | (go_at_call 16; refine hpl.mono ?_; clear hpl; rintro e w7 ⟨he, vf7, D7, o7, n7⟩; obtain rfl := he
           have c7 : w7.cell? ⟨r, 6, none⟩ = some (.bool R.down) := row_at D7.row 6 _ rfl
           have f7 := row_frozen D7.row 6
           have q7 := row_set D7.row 6 (.bool false)))
      have o8 : Off (· = r) w7 (w7.setCell ⟨r, 6, none⟩ (.bool false)) := Off.of_setCell _ _ _ rfl
      have D8 : RDAt (w7.setCell ⟨r, 6, none⟩ (.bool false)) r (rcrash R bl) v (.slice none 0 0) vf7 N := by
        have := D7.upd (R' := ⟨R.n, R.sure ++ kept R.pend bl k, [], [], 0, 0, false⟩) o8 q7 rfl rfl rfl (by show (0 : Int) ≤ 0; omega) (wf_of (by show -9223372036854775808 ≤ (0 : Int); omega) (by show (0 : Int) ≤ _; omega))
        rw [HKN.out] at this; exact this
      have hfin : RStep w r vs (.slice oa1 n1 cap1) vf (rcrash R bl) N (w7.setCell ⟨r, 6, none⟩ (.bool false)) := ⟨v, .slice none 0 0, vf7, D8, (OA.trans o7 (fun j q => Or.inl (Or.inl q))).trans o8 (fun j q => Or.inl (Or.inl q)), fun j q => by
        rcases q with q | q | q | q
        · exact Or.inl (Or.inl q)
        · rcases HFT.out j q with c | c
          · exact Or.inl (Or.inr (Or.inl c))
          · exact Or.inr c
        · cases q
        · have := n7 j q
          have := OA.size
          exact Or.inr (by omega)⟩
      first
        | (go_end0; exact ⟨rfl, hfin⟩)
        | (refine bodyPost_ret (results_none rfl _ _ _) rfl ?_; exact ⟨rfl, hfin⟩)
end Go.Proofs.Ytkgmhliocfbdfaa
