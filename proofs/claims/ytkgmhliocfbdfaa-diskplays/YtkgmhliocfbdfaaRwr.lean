/-
  Proved here: what writing makes of the document's disk.
-/
import Derived.Test.YtkgmhliocfbdfaaRpl
namespace Go.Proofs.Ytkgmhliocfbdfaa
open Go.ChangeShapes Go.WideShapes Go.ChangeAt Go.RowKit
set_option linter.unusedVariables false
set_option linter.unusedSimpArgs false

theorem bytes69 : ∃ i, Try.prog.info? 69 = some i ∧ i.zero = some (.agg (wcells 0 0 (zs 64))) ∧ i.size = 66 ∧ i.bytes = 80 := info_parts info69
theorem wp_slice_one69 {o : Oper} {a : Act} {w : World} {K : Act → World → Prop} {Q : Exit → Act → World → Prop} (x : Operand) (ho : o.op = .buildSlice 27 1 #[(0, x)]) (b s : Int) (xs : List Int) (hl : xs.length = 64) (hx : a.eval x = .agg (wcells b s xs))
    (h : K (a.put o.dst (.slice (some ⟨w.heap.size, 0, none⟩) 1 1)) (w.alloc (.cells (wcells b s xs) 69))) : Oper.wp Try.prog o a w K Q := by
  obtain ⟨i, hi, hz, hs, _⟩ := bytes69
  refine wp_buildSlice 27 69 1 _ ho (wcells b s xs) i _ Try.underlying27 hi hz (by rw [hs]; decide) (by rw [hs]; decide) ?_ h
  have e1 : (#[(0, x)].map fun (i, x) => (i, a.eval x)).toList = [(0, .agg (wcells b s xs))] := by simp [hx]
  rw [e1, fill_step _ _ 0 (.agg (wcells b s xs)) _ 0 66 (by simp [hs]) (wcells_size b s xs hl) (by simp [hs])]
  unfold Instr.fill
  congr 1
  show (⟨splice _ 0 (wcells b s xs).toList⟩ : Array Value) = wcells b s xs
  have hc : (wcells b s xs).toList.length = 66 := by simpa using wcells_size b s xs hl
  unfold splice
  rw [List.drop_of_length_le (by rw [hc]; simp [hs])]
  simp
theorem RDAt.pushS {w0 w9 : World} {r : Nat} {R : RD} {vs vp vf v9 : Value} {N : Nat} (h : RDAt w0 r R vs vp vf N) (q : Int × Int × List Int) (hq : okW q) (own9 : w9.ownsRow 0 69 66 v9 (R.sure ++ [q]).length (pcells (R.sure ++ [q]))) (og : Off (fun k => vs.ownBlock = some k) w0 w9) (ob : ∀ k, v9.ownBlock = some k → vs.ownBlock = some k ∨ w0.heap.size ≤ k) (hN : N + 1 < 1000000000) :
    RDAt (w9.setCell ⟨r, 1, none⟩ v9) r { R with sure := R.sure ++ [q] } v9 vp vf (N + 1) := by
  have hr9 := h.row.off og h.sr
  have q1 := row_set hr9 1 v9
  have ofs : Off (· = r) w9 (w9.setCell ⟨r, 1, none⟩ v9) := Off.of_setCell _ _ _ rfl
  have hne : ∀ k, v9.ownBlock = some k → k ≠ r ∧ vf.ownBlock ≠ some k ∧ vp.ownBlock ≠ some k ∧ True := fun k e => by
    rcases ob k e with e2 | e2
    · exact ⟨fun e3 => h.sr (e3 ▸ e2), h.sf k e2, fun e3 => h.sp k e2 e3, trivial⟩
    · exact ⟨fun e3 => by have := h.row.lt; omega, fun e3 => by have := (h.fails.lt _ e3).2; omega, fun e3 => by have := (h.pend.lt _ e3).2; omega, trivial⟩
  have hall : ∀ x ∈ R.sure ++ [q], okW x := fun x hx => by
    rcases List.mem_append.1 hx with c | c
    · exact h.oks x c
    · simp at c; rw [c]; exact hq
  have hb := h.bound
  exact ⟨q1, own_off own9 ofs (fun k e q => (hne k e).1 q), own_off (own_off h.pend og (fun k e e2 => h.sp k e2 e)) ofs (fun k e q => h.pr (q ▸ e)), own_off (own_off h.fails og (fun k e e2 => h.sf k e2 e)) ofs (fun k e q => h.fr (q ▸ e)), (fun k e e2 => (hne k e).2.2.1 e2), (fun k e e2 => (hne k e).2.1 e2), h.pf, (fun e => (hne r e).1 rfl), h.pr, h.fr, hall, h.okp, by simp; omega, hN, h.fbig, h.opsn, h.fusew⟩
theorem RDAt.pushP {w0 w9 : World} {r : Nat} {R : RD} {vs vp vf v9 : Value} {N : Nat} (h : RDAt w0 r R vs vp vf N) (q : Int × Int × List Int) (hq : okW q) (own9 : w9.ownsRow 0 69 66 v9 (R.pend ++ [q]).length (pcells (R.pend ++ [q]))) (og : Off (fun k => vp.ownBlock = some k) w0 w9) (ob : ∀ k, v9.ownBlock = some k → vp.ownBlock = some k ∨ w0.heap.size ≤ k) (hN : N + 1 < 1000000000) :
    RDAt (w9.setCell ⟨r, 2, none⟩ v9) r { R with pend := R.pend ++ [q] } vs v9 vf (N + 1) := by
  have hr9 := h.row.off og h.pr
  have q1 := row_set hr9 2 v9
  have ofs : Off (· = r) w9 (w9.setCell ⟨r, 2, none⟩ v9) := Off.of_setCell _ _ _ rfl
  have hne : ∀ k, v9.ownBlock = some k → k ≠ r ∧ vf.ownBlock ≠ some k ∧ vs.ownBlock ≠ some k ∧ True := fun k e => by
    rcases ob k e with e2 | e2
    · exact ⟨fun e3 => h.pr (e3 ▸ e2), h.pf k e2, fun e3 => h.sp k e3 e2, trivial⟩
    · exact ⟨fun e3 => by have := h.row.lt; omega, fun e3 => by have := (h.fails.lt _ e3).2; omega, fun e3 => by have := (h.sure.lt _ e3).2; omega, trivial⟩
  have hall : ∀ x ∈ R.pend ++ [q], okW x := fun x hx => by
    rcases List.mem_append.1 hx with c | c
    · exact h.okp x c
    · simp at c; rw [c]; exact hq
  have hb := h.bound
  exact ⟨q1, own_off (own_off h.sure og (fun k e e2 => h.sp k e e2)) ofs (fun k e q => h.sr (q ▸ e)), own_off own9 ofs (fun k e q => (hne k e).1 q), own_off (own_off h.fails og (fun k e e2 => h.pf k e2 e)) ofs (fun k e q => h.fr (q ▸ e)), (fun k e e2 => (hne k e2).2.2.1 e), h.sf, (fun k e e2 => (hne k e).2.1 e2), h.sr, (fun e => (hne r e).1 rfl), h.fr, h.oks, hall, by simp; omega, hN, h.fbig, h.opsn, h.fusew⟩
theorem built69 (b s : Int) (xs : List Int) (h : xs.length = 64) : Try.prog.built 69 [(0, .int .i64 b), (1, .int .i64 s), (2, .agg (bs xs))] = some (wcells b s xs) := by
  unfold Program.built
  have h69 := info69
  cases hq : Try.prog.info? 69 with
  | none => simp [hq] at h69
  | some it =>
    simp [hq] at h69
    rw [Try.underlying69]
    cases h3 : Try.prog.info? 3 with
    | none => have := info3; simp [h3] at this
    | some i3 =>
      cases h66 : Try.prog.info? 66 with
      | none => have := size66; simp [h66] at this
      | some i66 =>
        have e3 := info3; have e66 := size66
        simp [h3] at e3; simp [h66] at e66
        simp [h3, h66, h69.1, e3.2.1, e66]
        have hz : (wcells 0 0 (zs 64)).size = 66 := wcells_size _ _ _ (zs_length 64)
        have hz0 : (Value.agg (wcells 0 0 (zs 64))).cells = wcells 0 0 (zs 64) := rfl
        have y1 : (⟨splice (wcells 0 0 (zs 64)).toList 0 [Value.int .i64 b]⟩ : Array Value).size = 66 := by simp [splice, wcells, pcell, zs]
        have y2 : (⟨splice (splice (wcells 0 0 (zs 64)).toList 0 [Value.int .i64 b]) 1 [Value.int .i64 s]⟩ : Array Value).size = 66 := by simp [splice, wcells, pcell, zs]
        rw [hz0, fill_step _ _ 0 _ _ 0 1 rfl rfl (by omega), fill_step _ _ 1 _ _ 1 1 rfl rfl (by show 1 + 1 ≤ Array.size _; exact Nat.le_trans (by omega) (Nat.le_of_eq y1.symm)), fill_step _ _ 2 _ _ 2 64 rfl (by show (bs xs).size = 64; rw [bs_size, h]) (by show 2 + 64 ≤ Array.size _; exact Nat.le_of_eq y2.symm)]
        unfold Instr.fill
        congr 1
        show (⟨splice (splice (splice (wcells 0 0 (zs 64)).toList 0 [Value.int .i64 b]) 1 [Value.int .i64 s]) 2 (bs xs).toList⟩ : Array Value) = wcells b s xs
        unfold wcells pcell bs
        simp [splice, zs, h]
def RD.push (R : RD) (q : Int × Int × List Int) : RD := { R with pend := R.pend ++ [q] }
def RD.wrote (R : RD) (b : Int) (x : List Int) : Nat → RD
  | 0 => R
  | k + 1 => (R.wrote b x k).push (b, (k : Int), cut x k)
/-- What writing answers, and makes. -/
def rwrite (R : RD) (b : Int) (x : List Int) : Int × RD := if R.down then (4, R) else if b < 0 ∨ b ≥ R.n then (1, R) else if (rcount R).1 = 0 then (0, (rcount R).2.wrote b x 4) else rcount R
theorem cutB (x : List Int) (hb : Bytes x) (k : Nat) : Bytes (cut x k) := fun y hy => hb y (List.mem_of_mem_drop (List.mem_of_mem_take hy))
theorem below_set_row {w : World} {g r j : Nat} {cs : Array Value} {t : TypeId} {v : Value} (h : Row w g cs t) (hne : g ≠ r) : Row (w.setCell ⟨r, j, none⟩ v) g cs t := row_setCell_other h hne j v
set_option maxHeartbeats 2000000 in
set_option maxRecDepth 20000 in
theorem rwrite_any {w : World} {r : Nat} {R : RD} {vs vp vf : Value} {N : Nat} (h : RDAt w r R vs vp vf N) (ho : R.ops < 9223372036854775806) (b : Int) (X : List Int) (hX : X.length = 256) (xb : Bytes X) (hN : N + 5 < 1000000000) :
    Calls Try.prog 13 #[.pointer (some ⟨r, 0, none⟩), .int .i64 b, .agg (bs X)] w fun e w' => e = .returned (.int .i64 (rwrite R b X).1) ∧ RStep w r vs vp vf (rwrite R b X).2 (N + 4) w' := by
  obtain ⟨PP, HP⟩ : ∃ P : Ending → World → Prop, Hid (P = fun e w' => e = .returned (.int .i64 (rwrite R b X).1) ∧ RStep w r vs vp vf (rwrite R b X).2 (N + 4) w') := ⟨_, rfl⟩
  rw [show (fun e w' => e = .returned (.int .i64 (rwrite R b X).1) ∧ RStep w r vs vp vf (rwrite R b X).2 (N + 4) w') = PP from HP.out.symm]
  have HRT : Hid (∀ (E : Int) (R' : RD) (w' : World), rwrite R b X = (E, R') → RStep w r vs vp vf R' (N + 4) w' → PP (.returned (.int .i64 E)) w') := fun E R' w' q1 q2 => by
    rw [HP.out, q1]; exact ⟨rfl, q2⟩
  clear HP
  have a0 : Row (w.alloc (.cells (bs X) 34)) w.heap.size (bs X) 34 := Row.new _ _ _
  have ab : Below w.heap.size w (w.alloc (.cells (bs X) 34)) := (Below.refl _ _).alloc (Nat.le_refl _) _
  have h0 := h.below ab
  have c6 : (w.alloc (.cells (bs X) 34)).cell? ⟨r, 6, none⟩ = some (.bool R.down) := row_at h0.row 6 _ rfl
  have c0 : (w.alloc (.cells (bs X) 34)).cell? ⟨r, 0, none⟩ = some (.int .i64 R.n) := row_at h0.row 0 _ rfl
  have grow : ∀ {R' : RD} {w' : World} {a1 a2 a3 : Value}, RDAt w' r R' a1 a2 a3 N → RDAt w' r R' a1 a2 a3 (N + 4) := fun q => { q with bound := by have := q.bound; omega, big := by omega }
  have plain : ∀ {R' : RD} {w' : World}, RDAt w' r R' vs vp vf N → Off (· = r) w w' → RStep w r vs vp vf R' (N + 4) w' := fun q1 q2 => ⟨vs, vp, vf, grow q1, q2.mono (fun j q => Or.inl (Or.inl q)), fun j q => Or.inl q⟩
  have HFL : Hid (∀ j, rfoot r vs vp vf j → j < w.heap.size) := fun j hj => h.lt hj
  by_cases hd : R.down = true
  · rw [hd] at c6
    have HRR : Hid (PP (.returned (.int .i64 4)) (w.alloc (.cells (bs X) 34))) := HRT.out 4 R _ (by unfold rwrite; rw [if_pos hd]) (plain h0 (Off.of_below ab))
    clear hd
    go_enter Try.func13, Try.ntmps13
    go_wp2_with fail
    try go_ret
    exact HRR.out
  · have hd' : R.down = false := by simpa using hd
    rw [hd'] at c6
    by_cases hb : b < 0
    · have HRR : Hid (PP (.returned (.int .i64 1)) (w.alloc (.cells (bs X) 34))) := HRT.out 1 R _ (by unfold rwrite; rw [if_neg hd, if_pos (Or.inl hb)]) (plain h0 (Off.of_below ab))
      clear hd hd'
      go_enter Try.func13, Try.ntmps13
      go_wp2_with fail
      try go_ret
      exact HRR.out
    by_cases hbn : b ≥ R.n
    · have HRR : Hid (PP (.returned (.int .i64 1)) (w.alloc (.cells (bs X) 34))) := HRT.out 1 R _ (by unfold rwrite; rw [if_neg hd, if_pos (Or.inr hbn)]) (plain h0 (Off.of_below ab))
      clear hd hd'
      go_enter Try.func13, Try.ntmps13
      go_wp2_with fail
      try go_ret
      exact HRR.out
    · have hr : rwrite R b X = if (rcount R).1 = 0 then (0, (rcount R).2.wrote b X 4) else rcount R := by unfold rwrite; rw [if_neg hd, if_neg (by omega)]
      have hop := rop_any h0 ho
      generalize rcount R = rc at hop hr
      obtain ⟨E, R1⟩ := rc
      simp only at hop hr
      clear hd hd'
      by_cases hE : E = 0
      · rw [if_pos hE] at hr
        subst hE
        have HRR : Hid _ := hr
        clear hr
        go_enter Try.func13, Try.ntmps13
        go_wp2_with (first
          | (go_at_call 32; refine hop.mono ?_; clear hop; rintro e w2 ⟨he, D2, o2⟩; obtain rfl := he))
        have r2 := a0.off o2 (by have := HFL.out r (Or.inl rfl); omega)
        have O2 : Off (rfoot r vs vp vf) w w2 := ((Off.of_below (F := (· = r)) ab).trans o2 (fun _ q => Or.inl q)).mono (fun j q => Or.inl (Or.inl q))
        have HBr : Hid (w.heap.size ≠ r) := by have := HFL.out r (Or.inl rfl); show _ ≠ _; omega
        have HBn : Hid (¬ rfoot r vs vp vf w.heap.size) := fun q => by have := HFL.out _ q; omega
        clear c0 c6 plain
        go_loopw [8] (fun c wr => ∃ (k : Nat) (v : Value), c = .int .i64 k ∧ k ≤ 4 ∧ RDAt wr r (R1.wrote b X k) vs v vf (N + k) ∧ Row wr w.heap.size (bs X) 34 ∧ Off (rfoot r vs vp vf) w wr ∧ Hid (∀ j, v.ownBlock = some j → vp.ownBlock = some j ∨ w.heap.size + 1 ≤ j)) (fun c _ => 4 - (intOf c).toNat)
        case atStart => exact ⟨0, vp, rfl, by omega, D2, r2, O2, fun j q => Or.inl q⟩
        case round =>
          clear r2 O2 D2 o2 a0 ab h0 h
          obtain ⟨k, v, rfl, hk, D, rX, ro, HFT⟩ := hrel
          by_cases hk4 : k < 4
          · have hk4' : (k : Int) < 4 := by omega
            obtain ⟨oa1, cap1, e1⟩ := own_form D.pend
            obtain ⟨n1, Hn1⟩ : ∃ n, Hid ((R1.wrote b X k).pend.length = n) := ⟨_, rfl⟩
            rw [Hn1.out] at e1
            subst e1
            have HNB : Hid (N + k + 1 < 1000000000) := by show _ < _; omega
            obtain ⟨qb, qs, qx, hqb, hqs, hqx'⟩ : ∃ qb qs qx, qb = b ∧ qs = (k : Int) ∧ qx = cut X k := ⟨_, _, _, rfl, rfl, rfl⟩
            have hqx : qx.length = 64 := by rw [hqx']; exact cut_length X k hX hk4
            have hqok : okW (qb, qs, qx) := ⟨by show 0 ≤ qs; omega, by show qs < 4; omega, hqx, by rw [hqx']; exact cutB X xb k⟩
            have HCT : Hid (∀ wx, Calls Try.prog 33 #[.agg (bs X), .int .i64 (k : Nat)] wx fun e w' => e = .returned (.agg (bs qx)) ∧ Below wx.heap.size wx w') := fun wx => by rw [hqx']; exact rcut_in X hX k hk4 wx
            have HWR : Hid (R1.wrote b X (k + 1) = { R1.wrote b X k with pend := (R1.wrote b X k).pend ++ [(qb, qs, qx)] }) := by show _ = _; rw [hqb, hqs, hqx']; rfl
            have HB : Hid _ := built69 qb qs qx hqx
            have hqb2 : Hid (qb = b) := hqb
            have hqs2 : Hid (qs = (k : Int)) := hqs
            clear hqx' hqb hqs
            go_upto_region 11 with fail
            refine wp_region_last (S := fun w' => Row w' r (rdcells (R1.wrote b X k) vs (.slice oa1 n1 cap1) vf) 30 ∧ Row w' w.heap.size (bs X) 34) 15 (by kernel_rfl) ⟨D.row, rX⟩ fun hS => ?_
            refine wpAnyL_take (i := 0) (v := .pointer (some ⟨r, 0, none⟩)) rfl (by kernel_rfl) (by kernel_rfl) (by kernel_rfl) (by kernel_rfl) (fun _ _ _ h => h) (Or.inl ⟨by rfl, fun w _ => by rfl⟩) hS ?_
            try simp only [Act.put, List.getElem_toArray, List.getElem_cons_zero, List.getElem_cons_succ, List.setIfInBounds_toArray, List.set_cons_zero, List.set_cons_succ]
            refine wpAnyL_take (i := 1) (v := .pointer (some ⟨r, 0, none⟩)) rfl (by kernel_rfl) (by kernel_rfl) (by kernel_rfl) (by kernel_rfl) (fun _ _ _ h => h) (Or.inl ⟨by rfl, fun w _ => by rfl⟩) hS ?_
            try simp only [Act.put, List.getElem_toArray, List.getElem_cons_zero, List.getElem_cons_succ, List.setIfInBounds_toArray, List.set_cons_zero, List.set_cons_succ]
            refine wpAnyL_take (i := 2) (v := .pointer (some ⟨r, 0, none⟩)) rfl (by kernel_rfl) (by kernel_rfl) (by kernel_rfl) (by kernel_rfl) (fun _ _ _ h => h) (Or.inl ⟨by rfl, fun w _ => by go_simp⟩) hS ?_
            try simp only [Act.put, List.getElem_toArray, List.getElem_cons_zero, List.getElem_cons_succ, List.setIfInBounds_toArray, List.set_cons_zero, List.set_cons_succ]
            refine wpAnyL_take (i := 3) (v := .pointer (some ⟨r, 2, none⟩)) rfl (by kernel_rfl) (by kernel_rfl) (by kernel_rfl) (by kernel_rfl) (fun _ _ _ h => h) (Or.inl ⟨by rfl, fun w _ => by go_simp⟩) hS ?_
            try simp only [Act.put, List.getElem_toArray, List.getElem_cons_zero, List.getElem_cons_succ, List.setIfInBounds_toArray, List.set_cons_zero, List.set_cons_succ]
            refine wpAnyL_take (i := 4) (v := .slice oa1 n1 cap1) rfl (by kernel_rfl) (by kernel_rfl) (by kernel_rfl) (by kernel_rfl) (fun _ _ _ h => h) (Or.inl ⟨by rfl, fun w h => by have c := row_at h.1 2 _ rfl; simp only [rdcells, List.getElem_toArray, List.getElem_cons_zero, List.getElem_cons_succ] at c; go_simp⟩) hS ?_
            try simp only [Act.put, List.getElem_toArray, List.getElem_cons_zero, List.getElem_cons_succ, List.setIfInBounds_toArray, List.set_cons_zero, List.set_cons_succ]
            refine wpAnyL_take (i := 5) (v := .int .i64 b) rfl (by kernel_rfl) (by kernel_rfl) (by kernel_rfl) (by kernel_rfl) (fun _ _ _ h => h) (Or.inl ⟨by rfl, fun w _ => by rfl⟩) hS ?_
            try simp only [Act.put, List.getElem_toArray, List.getElem_cons_zero, List.getElem_cons_succ, List.setIfInBounds_toArray, List.set_cons_zero, List.set_cons_succ]
            refine wpAnyL_take (i := 6) (v := .int .i64 (k : Nat)) rfl (by kernel_rfl) (by kernel_rfl) (by kernel_rfl) (by kernel_rfl) (fun _ _ _ h => h) (Or.inl ⟨by rfl, fun w _ => by rfl⟩) hS ?_
            try simp only [Act.put, List.getElem_toArray, List.getElem_cons_zero, List.getElem_cons_succ, List.setIfInBounds_toArray, List.set_cons_zero, List.set_cons_succ]
            refine wpAnyL_take (i := 7) (v := .agg (bs X)) rfl (by kernel_rfl) (by kernel_rfl) (by kernel_rfl) (by kernel_rfl) (fun _ _ _ h => h) (yields_row (by rfl) 34 (.tmp 5) rfl w.heap.size rfl 34 (bs X) (fun w h => h.2) 256 5 Try.underlying34 size34 (by rw [bs_size, hX])) hS ?_
            try simp only [Act.put, List.getElem_toArray, List.getElem_cons_zero, List.getElem_cons_succ, List.setIfInBounds_toArray, List.set_cons_zero, List.set_cons_succ]
            refine wpAnyL_take (i := 8) (v := .int .i64 (k : Nat)) rfl (by kernel_rfl) (by kernel_rfl) (by kernel_rfl) (by kernel_rfl) (fun _ _ _ h => h) (Or.inl ⟨by rfl, fun w _ => by rfl⟩) hS ?_
            try simp only [Act.put, List.getElem_toArray, List.getElem_cons_zero, List.getElem_cons_succ, List.setIfInBounds_toArray, List.set_cons_zero, List.set_cons_succ]
            refine wpAnyL_ready (rs := [9]) (by kernel_rfl) (by simp) ?_
            refine AllReadyL.cons rfl (fun K hK => ?_) AllReadyL.nil
            go_simp
            go_at_call 33
            refine (HCT.out _).mono ?_
            rintro e w5 ⟨he, b5⟩
            obtain rfl := he
            have b5x : Below wr.heap.size wr w5 := (Below.refl _ wr).drew.trans b5
            have D5 := D.below b5x
            have hS5 : Row w5 r (rdcells (R1.wrote b X k) vs (.slice oa1 n1 cap1) vf) 30 ∧ Row w5 w.heap.size (bs X) 34 := ⟨hS.1.below b5 hS.1.lt, hS.2.below b5 hS.2.lt⟩
            refine hK.out _ _ (fun _ => hS5) ?_
            try simp only [Act.put, List.getElem_toArray, List.getElem_cons_zero, List.getElem_cons_succ, List.setIfInBounds_toArray, List.set_cons_zero, List.set_cons_succ]
            have hS := hS5
            refine wpAnyL_take (i := 10) (v := .agg (wcells qb qs qx)) rfl (by kernel_rfl) (by kernel_rfl) (by kernel_rfl) (by kernel_rfl) (fun _ _ _ h => h) (by have q := HB.out; rw [hqb2.out, hqs2.out] at q ⊢; exact yields_build (by rfl) 69 #[(0, .tmp 37), (1, .tmp 38), (2, .tmp 41)] rfl [(0, .int .i64 b), (1, .int .i64 (k : Nat)), (2, .agg (bs qx))] (by rfl) _ q) hS ?_
            try simp only [Act.put, List.getElem_toArray, List.getElem_cons_zero, List.getElem_cons_succ, List.setIfInBounds_toArray, List.set_cons_zero, List.set_cons_succ]
            refine wpAnyL_ready (rs := [11]) (by kernel_rfl) (by simp) ?_
            refine AllReadyL.cons rfl (fun K hK => step_of rfl (wp_slice_one69 (.tmp 42) rfl qb qs qx hqx rfl ?_)) AllReadyL.nil
            have rZ : Row (w5.alloc (.cells (wcells qb qs qx) 69)) w5.heap.size (wcells qb qs qx) 69 := Row.new _ _ _
            have bZ : Below w5.heap.size w5 (w5.alloc (.cells (wcells qb qs qx) 69)) := (Below.refl _ _).alloc (Nat.le_refl _) _
            have D6 := D5.below bZ
            have hS6 := (show Row (w5.alloc (.cells (wcells qb qs qx) 69)) r (rdcells (R1.wrote b X k) vs (.slice oa1 n1 cap1) vf) 30 ∧ Row (w5.alloc (.cells (wcells qb qs qx) 69)) w.heap.size (bs X) 34 from ⟨hS5.1.below bZ hS5.1.lt, hS5.2.below bZ hS5.2.lt⟩)
            refine hK.out _ _ (fun _ => hS6) ?_
            try simp only [Act.put, List.getElem_toArray, List.getElem_cons_zero, List.getElem_cons_succ, List.setIfInBounds_toArray, List.set_cons_zero, List.set_cons_succ]
            obtain ⟨Zb, HZb⟩ : ∃ Zb, Hid (w5.heap.size = Zb) := ⟨_, rfl⟩
            rw [HZb.out] at rZ ⊢
            have hb6 := b5x.trans (bZ.mono b5x.size)
            generalize w5.alloc (.cells (wcells qb qs qx) 69) = w6 at rZ D6 hS6 hb6 ⊢
            have hbd6 : (R1.wrote b X k).pend.length ≤ 1000000000 := by have := D6.bound; have := D6.big; omega
            have HAP : Hid (∀ ty, ∃ v' w', (Builtin.append_ #[27, 27] ty #[.slice oa1 n1 cap1, .slice (some ⟨Zb, 0, none⟩) 1 1]).run Try.prog w6 = .ok v' w' ∧ (w'.ownsRow 0 69 66 v' ((R1.wrote b X k).pend ++ [(qb, qs, qx)]).length (pcells ((R1.wrote b X k).pend ++ [(qb, qs, qx)])) ∧ w6.grownBy w' (.slice oa1 n1 cap1 : Value).ownBlock ∧ (v'.ownBlock = (.slice oa1 n1 cap1 : Value).ownBlock ∨ v'.ownBlock = some w6.heap.size))) := fun ty => by
              obtain ⟨i, hi, hz, hs, hby⟩ := info_parts info69
              obtain ⟨v', w', h1, h2, h3, _, h5⟩ := run_append_own_at (P := Try.prog) w6 0 27 ty 69 i _ 66 80 Try.underlying27 hi hz hs hby (wcells_size _ _ _ (zs_length 64)) (by decide) (.slice oa1 n1 cap1) (R1.wrote b X k).pend.length (pcells (R1.wrote b X k).pend) D6.pend ⟨Zb, 0, none⟩ 1 1 (pcell (qb, qs, qx)) (by simp [pcell, hqx]) (fun j u hj => by rw [Addr.add_mid, Nat.zero_add]; exact row_at rZ j u (by simpa [wcells] using hj)) (pcell_one _) (by unfold maxLen; omega) (by omega) (Nat.zero_le _)
              exact ⟨v', w', h1, by rw [List.length_append, pcells_snoc]; exact h2, h3, h5⟩
            refine wpAnyL_ready (rs := [12]) (by kernel_rfl) (by simp) ?_
            refine AllReadyL.cons rfl (fun K hK => step_of rfl (wp_copy (.tmp 36) (.tmp 43) 27 rfl _ _ rfl rfl (fun ty => HAP.out ty) ?_)) AllReadyL.nil
            rintro v9 w9 ⟨own9, gr9, ob9⟩
            have og9 : Off (fun k => (.slice oa1 n1 cap1 : Value).ownBlock = some k) w6 w9 := Off.of_grown gr9 (fun k e => e)
            have hS9 := (show Row w9 r (rdcells (R1.wrote b X k) vs (.slice oa1 n1 cap1) vf) 30 ∧ Row w9 w.heap.size (bs X) 34 from ⟨hS6.1.off og9 D6.pr, hS6.2.off og9 (fun e => (HFT.out _ e).elim (fun c => HBn.out (Or.inr (Or.inr (Or.inl c)))) (fun c => by omega))⟩)
            obtain ⟨oa9, cap9, hv9⟩ := own_form own9
            obtain ⟨n9, Hn9⟩ : ∃ n, Hid (((R1.wrote b X k).pend ++ [(qb, qs, qx)]).length = n) := ⟨_, rfl⟩
            rw [Hn9.out] at hv9
            subst hv9
            have hob : ∀ k, (Value.slice oa9 n9 cap9).ownBlock = some k → (.slice oa1 n1 cap1 : Value).ownBlock = some k ∨ w6.heap.size ≤ k := fun k e => by
              rcases ob9 with q | q
              · rw [q] at e; exact Or.inl e
              · rw [q] at e; cases e; exact Or.inr (Nat.le_refl _)
            have D9 := D6.pushP (qb, qs, qx) hqok own9 og9 hob (by have := HNB.out; omega)
            have s1 := row_at hS9.1 2 _ rfl
            have t1 := row_frozen hS9.1 2
            have o9 : Off (fun k => k = r ∨ (.slice oa1 n1 cap1 : Value).ownBlock = some k) wr (w9.setCell ⟨r, 2, none⟩ (.slice oa9 n9 cap9)) := ((Off.of_below (F := fun k => k = r ∨ (.slice oa1 n1 cap1 : Value).ownBlock = some k) hb6).trans og9 (fun _ q => Or.inl (Or.inr q))).trans (Off.of_setCell (F := (· = r)) _ _ _ rfl) (fun _ q => Or.inl (Or.inl q))
            have hob2 : ∀ k, (Value.slice oa9 n9 cap9).ownBlock = some k → (.slice oa1 n1 cap1 : Value).ownBlock = some k ∨ wr.heap.size ≤ k := fun k e => by
              rcases hob k e with q | q
              · exact Or.inl q
              · exact Or.inr (Nat.le_trans hb6.size q)
            have HD9 : Hid _ := D9
            clear HAP own9 D9 D6 hob ob9
            refine hK.out _ _ (fun _ => hS9) ?_
            try simp only [Act.put, List.getElem_toArray, List.getElem_cons_zero, List.getElem_cons_succ, List.setIfInBounds_toArray, List.set_cons_zero, List.set_cons_succ]
            refine wpAnyL_ready (rs := [13]) (by kernel_rfl) (by simp) ?_
            refine AllReadyL.cons rfl (fun K hK => ?_) AllReadyL.nil
            go_simp
            refine hK.out _ _ (fun _ => hS9) ?_
            try simp only [Act.put, List.getElem_toArray, List.getElem_cons_zero, List.getElem_cons_succ, List.setIfInBounds_toArray, List.set_cons_zero, List.set_cons_succ]
            have hS := hS9
            refine wpAnyL_take (i := 14) (v := .pointer (some ⟨r, 2, none⟩)) rfl (by kernel_rfl) (by kernel_rfl) (by kernel_rfl) (by kernel_rfl) (fun _ _ _ h => h) (Or.inl ⟨by rfl, fun w _ => by go_simp⟩) hS ?_
            try simp only [Act.put, List.getElem_toArray, List.getElem_cons_zero, List.getElem_cons_succ, List.setIfInBounds_toArray, List.set_cons_zero, List.set_cons_succ]
            refine wpAnyL_ready (rs := [15]) (by kernel_rfl) (by simp) ?_
            refine AllReadyL.cons rfl (fun K hK => ?_) AllReadyL.nil
            simp only [rdcells, List.getElem_toArray, List.getElem_cons_zero, List.getElem_cons_succ] at s1
            go_simp
            refine hK.out _ _ (fun q => absurd rfl q) ?_
            try simp only [Act.put, List.getElem_toArray, List.getElem_cons_zero, List.getElem_cons_succ, List.setIfInBounds_toArray, List.set_cons_zero, List.set_cons_succ]
            refine wpAnyL_done (by kernel_rfl) ?_ _
            go_wp2_with fail
            go_roundw
            case rel =>
              refine ⟨k + 1, .slice oa9 n9 cap9, by go_num, by omega, by rw [HWR.out]; exact HD9.out, ?_, ?_, ?_⟩
              · exact below_set_row hS9.2 HBr.out
              · refine ro.trans o9 (fun j q => ?_)
                rcases q with q | q
                · exact Or.inl (Or.inl q)
                · rcases HFT.out j q with c | c
                  · exact Or.inl (Or.inr (Or.inr (Or.inl c)))
                  · exact Or.inr (by omega)
              · intro j q
                rcases hob2 j q with c | c
                · exact HFT.out j c
                · exact Or.inr (Nat.le_trans rX.lt c)
            case measure => simp [intOf]; omega
          · have hk4' : ¬ (k : Int) < 4 := by omega
            have e4 : k = 4 := by omega
            subst e4
            have HFIN : Hid _ := HRT.out _ _ _ HRR.out ⟨vs, v, vf, D, ro, fun j q => by
              rcases q with q | q | q | q
              · exact Or.inl (Or.inl q)
              · exact Or.inl (Or.inr (Or.inl q))
              · rcases HFT.out j q with c | c
                · exact Or.inl (Or.inr (Or.inr (Or.inl c)))
                · exact Or.inr (by omega)
              · exact Or.inl (Or.inr (Or.inr (Or.inr q)))⟩
            go_wp2_with fail
            try go_ret
            exact HFIN.out
      · rw [if_neg hE] at hr
        have hEq : (E == 0) = false := by simpa using hE
        have HRR : Hid _ := hr
        clear hr
        go_enter Try.func13, Try.ntmps13
        go_wp2_with (first
          | (go_at_call 32; refine hop.mono ?_; clear hop; rintro e w2 ⟨he, D2, o2⟩; obtain rfl := he))
        try go_ret
        exact HRT.out _ _ _ HRR.out (plain D2 ((Off.of_below (F := (· = r)) ab).trans o2 (fun _ q => Or.inl q)))
end Go.Proofs.Ytkgmhliocfbdfaa
