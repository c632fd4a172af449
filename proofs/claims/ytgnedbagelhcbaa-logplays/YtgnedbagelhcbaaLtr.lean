/-
  Proved here: log.Trim.
-/
import Derived.Test.YtgnedbagelhcbaaLdl
namespace Go.Proofs.Ytgnedbagelhcbaa
open Go.ChangeShapes Go.WideShapes Go.ChangeAt Go.RowKit
set_option linter.unusedVariables false
set_option linter.unusedSimpArgs false
set_option maxRecDepth 20000
def Lg.trim (l : Lg) (lsn : Int) : Lg := { l with last := l.last.drop (spentL l.dur lsn l.last) }
theorem LD.trimmed {w wr w15 : World} {gl gd : Nat} {F : Nat → Prop} {a z ep nx fi du lsn : Int} {la : List Int} {sl : List Ck.O} {op : ByteArray} {fr : Bool} {d : Dsk} {N : Nat} {vl v15 vs : Value} {L : Loc}
    (hD : LD wr gl gd vl vs L ⟨a, z, ep, la, sl, op, nx, fr, fi, du⟩ d N) (hO : Off F w wr) (hF : ∀ j, lfoot gl gd vl vs L j → F j ∨ w.heap.size ≤ j) (o : Off (fun j => vl.ownBlock = some j) wr w15) (hn : v15.ownBlock = vl.ownBlock)
    (own : OwnU w15 (gl + 1) v15 (la.drop (spentL du lsn la))) (r : Row w15 gl #[.pointer (some ⟨gd, 0, none⟩), .int .i64 a, .int .i64 z, .int .u32 ep, vl, vs, .string op, .int .u32 nx, .bool fr, .int .u64 fi, .int .u64 du] 102) :
    LStep w gl gd F (Lg.trim ⟨a, z, ep, la, sl, op, nx, fr, fi, du⟩ lsn) d N (w15.setCell ⟨gl, 4, none⟩ v15) := by
  have O1 : Off (· = gl) w15 (w15.setCell ⟨gl, 4, none⟩ v15) := Off.of_setCell w15 ⟨gl, 4, none⟩ v15 rfl
  have O2 : Off (fun j => j = gl ∨ vl.ownBlock = some j) wr (w15.setCell ⟨gl, 4, none⟩ v15) := (o.mono (fun j q => Or.inl (Or.inr q))).trans O1 (fun j q => Or.inl (Or.inl q))
  have hvl : ∀ j, vs.ownBlock = some j → ¬ (j = gl ∨ vl.ownBlock = some j) := fun j q q2 => by
    rcases q2 with q2 | q2
    · have := (World.ownsRow.lt hD.sld j q).1; omega
    · exact own_apartU hD.last hD.sld q2 q
  have hft : ∀ j, foot gd L j → ¬ (j = gl ∨ vl.ownBlock = some j) := fun j q q2 => by
    rcases q2 with q2 | q2
    · subst q2; exact hD.ng q
    · exact hD.nl j q2 q
  have own2 : OwnU (w15.setCell ⟨gl, 4, none⟩ v15) (gl + 1) v15 (la.drop (spentL du lsn la)) := own.off O1 (fun j q q2 => by have := (World.ownsRow.lt own j q).1; omega)
  refine ⟨v15, vs, L, ⟨row_set r 4 v15, own2, hD.sld.off O2 hvl, hD.dsk.off O2 hft, hD.ng, fun j q q2 => ?_, hD.ns⟩, hO.trans O2 (fun j q => ?_), fun j q => ?_⟩
  · rw [hn] at q; exact hD.nl j q q2
  · rcases q with q | q
    · exact hF j (Or.inl q)
    · exact hF j (Or.inr (Or.inl q))
  · rcases q with q | q | q | q
    · exact hF j (Or.inl q)
    · rw [hn] at q; exact hF j (Or.inr (Or.inl q))
    · exact hF j (Or.inr (Or.inr (Or.inl q)))
    · exact hF j (Or.inr (Or.inr (Or.inr q)))
set_option maxHeartbeats 4000000 in
theorem LStep.trim {w wr : World} {gl gd : Nat} {F : Nat → Prop} {l : Lg} {d : Dsk} {M : Nat} (h : LStep w gl gd F l d M wr) (lsn : Int) (hn : l.last.length ≤ 1000000) :
    Calls Try.prog 19 #[.pointer (some ⟨gl, 0, none⟩), .int .u64 lsn] wr fun e w' => e = .returned (.tuple #[]) ∧ LStep w gl gd F (l.trim lsn) d M w' := by
  obtain ⟨PP, HPP⟩ : ∃ PP : World → Prop, Hid (PP = fun w' => LStep w gl gd F (l.trim lsn) d M w') := ⟨_, rfl⟩
  have e0 : (fun e w' => e = Ending.returned (.tuple #[]) ∧ LStep w gl gd F (l.trim lsn) d M w') = (fun e w' => e = Ending.returned (.tuple #[]) ∧ PP w') := by rw [HPP.out]
  rw [e0]
  clear e0
  obtain ⟨vl, vs, L, hD, hO, hF⟩ := h
  obtain ⟨a, z, ep, la, sl, op, nx, fr, fi, du⟩ := l
  have hle := spentL_le du lsn la
  have HSP : Hid (∀ wx, Row wx gl #[.pointer (some ⟨gd, 0, none⟩), .int .i64 a, .int .i64 z, .int .u32 ep, vl, vs, .string op, .int .u32 nx, .bool fr, .int .u64 fi, .int .u64 du] 102 → OwnU wx (gl + 1) vl la → Calls Try.prog 51 #[.pointer (some ⟨gl, 0, none⟩), .int .u64 lsn] wx fun e w' => e = .returned (.int .i64 (spentL du lsn la : Nat)) ∧ w' = wx) := fun wx r u => spent_any gl (.pointer (some ⟨gd, 0, none⟩)) vl vs ⟨a, z, ep, la, sl, op, nx, fr, fi, du⟩ lsn wx r u hn
  have HDL : Hid (∀ wx, OwnU wx (gl + 1) vl la → Calls Try.prog 52 #[vl, .int .i64 0, .int .i64 (spentL du lsn la : Nat)] wx fun e w' => Deled wx (gl + 1) vl la (spentL du lsn la) e w') := fun wx u => delete_any wx (gl + 1) vl la _ u hle hn
  have HFI : Hid (∀ v15 w15, Off (fun j => vl.ownBlock = some j) wr w15 → v15.ownBlock = vl.ownBlock → OwnU w15 (gl + 1) v15 (la.drop (spentL du lsn la)) → Row w15 gl #[.pointer (some ⟨gd, 0, none⟩), .int .i64 a, .int .i64 z, .int .u32 ep, vl, vs, .string op, .int .u32 nx, .bool fr, .int .u64 fi, .int .u64 du] 102 → PP (w15.setCell ⟨gl, 4, none⟩ v15)) := fun v15 w15 o hb own r => by
    rw [HPP.out]; exact hD.trimmed hO hF o hb own r
  have R1 : Row wr gl #[.pointer (some ⟨gd, 0, none⟩), .int .i64 a, .int .i64 z, .int .u32 ep, vl, vs, .string op, .int .u32 nx, .bool fr, .int .u64 fi, .int .u64 du] 102 := hD.row
  have own0 : OwnU wr (gl + 1) vl la := hD.last
  have HNG : Hid (∀ j, vl.ownBlock = some j → j ≠ gl) := fun j q => by have := (World.ownsRow.lt own0 j q).1; omega
  clear hD hO hF HPP
  generalize spentL du lsn la = kk at *
  go_enter Try.func19, Try.ntmps19
  go_upto_region 1 with fail
  refine wp_region_last (S := fun w' => Row w' gl #[.pointer (some ⟨gd, 0, none⟩), .int .i64 a, .int .i64 z, .int .u32 ep, vl, vs, .string op, .int .u32 nx, .bool fr, .int .u64 fi, .int .u64 du] 102 ∧ Off (fun j => vl.ownBlock = some j) wr w') 11 (by kernel_rfl) ⟨R1, (Off.refl _ _).drew⟩ fun hS => ?_
  refine wpAnyL_take (i := 0) (v := .pointer (some ⟨gl, 0, none⟩)) rfl (by kernel_rfl) (by kernel_rfl) (by kernel_rfl) (by kernel_rfl) (fun _ _ _ h => h) (Or.inl ⟨by rfl, fun w _ => by rfl⟩) hS ?_
  try simp only [Act.put, nz0, nz1, nz2, nz3, nz4, nz5]
  refine wpAnyL_take (i := 1) (v := .pointer (some ⟨gl, 0, none⟩)) rfl (by kernel_rfl) (by kernel_rfl) (by kernel_rfl) (by kernel_rfl) (fun _ _ _ h => h) (Or.inl ⟨by rfl, fun w _ => by rfl⟩) hS ?_
  try simp only [Act.put, nz0, nz1, nz2, nz3, nz4, nz5]
  refine wpAnyL_take (i := 2) (v := .pointer (some ⟨gl, 0, none⟩)) rfl (by kernel_rfl) (by kernel_rfl) (by kernel_rfl) (by kernel_rfl) (fun _ _ _ h => h) (Or.inl ⟨by rfl, fun w _ => by go_simp⟩) hS ?_
  try simp only [Act.put, nz0, nz1, nz2, nz3, nz4, nz5]
  refine wpAnyL_take (i := 3) (v := .pointer (some ⟨gl, 4, none⟩)) rfl (by kernel_rfl) (by kernel_rfl) (by kernel_rfl) (by kernel_rfl) (fun _ _ _ h => h) (Or.inl ⟨by rfl, fun w _ => by go_simp⟩) hS ?_
  try simp only [Act.put, nz0, nz1, nz2, nz3, nz4, nz5]
  refine wpAnyL_take (i := 4) (v := vl) rfl (by kernel_rfl) (by kernel_rfl) (by kernel_rfl) (by kernel_rfl) (fun _ _ _ h => h) (Or.inl ⟨by rfl, fun w h => by have c := row_at h.1 4 _ rfl; go_simp⟩) hS ?_
  try simp only [Act.put, nz0, nz1, nz2, nz3, nz4, nz5]
  refine wpAnyL_take (i := 5) (v := .pointer (some ⟨gl, 0, none⟩)) rfl (by kernel_rfl) (by kernel_rfl) (by kernel_rfl) (by kernel_rfl) (fun _ _ _ h => h) (Or.inl ⟨by rfl, fun w _ => by rfl⟩) hS ?_
  try simp only [Act.put, nz0, nz1, nz2, nz3, nz4, nz5]
  refine wpAnyL_take (i := 6) (v := .int .u64 lsn) rfl (by kernel_rfl) (by kernel_rfl) (by kernel_rfl) (by kernel_rfl) (fun _ _ _ h => h) (Or.inl ⟨by rfl, fun w _ => by rfl⟩) hS ?_
  try simp only [Act.put, nz0, nz1, nz2, nz3, nz4, nz5]
  have own1 : OwnU wr.drew (gl + 1) vl la := own0
  clear own0 R1
  generalize wr.drew = W0 at hS own1 ⊢
  refine wpAnyL_ready (rs := [7]) (by kernel_rfl) (by simp) ?_
  refine AllReadyL.cons rfl (fun K hK => ?_) AllReadyL.nil
  go_simp
  go_at_call 51
  refine Calls.mono (HSP.out _ hS.1 own1) ?_
  rintro e wc ⟨he, hww⟩
  rw [hww]
  clear hww wc HSP
  obtain rfl := he
  refine hK.out _ _ (fun _ => hS) ?_
  try simp only [Act.put, nz0, nz1, nz2, nz3, nz4, nz5]
  refine wpAnyL_ready (rs := [8]) (by kernel_rfl) (by simp) ?_
  refine AllReadyL.cons rfl (fun K hK => ?_) AllReadyL.nil
  go_simp
  go_at_call 52
  refine Calls.mono (HDL.out _ own1) ?_
  rintro e w15 ⟨v15, he, own15, hb15, o15⟩
  clear HDL own1
  obtain rfl := he
  have hS15 : Row w15 gl #[.pointer (some ⟨gd, 0, none⟩), .int .i64 a, .int .i64 z, .int .u32 ep, vl, vs, .string op, .int .u32 nx, .bool fr, .int .u64 fi, .int .u64 du] 102 ∧ Off (fun j => vl.ownBlock = some j) wr w15 := ⟨hS.1.off o15 (fun q => HNG.out gl q rfl), hS.2.trans o15 (fun j q => Or.inl q)⟩
  refine hK.out _ _ (fun _ => hS15) ?_
  try simp only [Act.put, nz0, nz1, nz2, nz3, nz4, nz5]
  clear hS o15
  have hS := hS15
  clear hS15
  refine wpAnyL_ready (rs := [9]) (by kernel_rfl) (by simp) ?_
  refine AllReadyL.cons rfl (fun K hK => ?_) AllReadyL.nil
  go_simp
  refine hK.out _ _ (fun _ => hS) ?_
  try simp only [Act.put, nz0, nz1, nz2, nz3, nz4, nz5]
  refine wpAnyL_ready (rs := [10]) (by kernel_rfl) (by simp) ?_
  refine AllReadyL.cons rfl (fun K hK => ?_) AllReadyL.nil
  go_simp
  refine hK.out _ _ (fun _ => hS) ?_
  try simp only [Act.put, nz0, nz1, nz2, nz3, nz4, nz5]
  refine wpAnyL_ready (rs := [11]) (by kernel_rfl) (by simp) ?_
  refine AllReadyL.cons rfl (fun K hK => ?_) AllReadyL.nil
  have c9 := row_at hS.1 4 _ rfl
  have f9 := row_frozen hS.1 4
  have HK : Hid (PP (w15.setCell ⟨gl, 4, none⟩ v15)) := HFI.out v15 w15 hS.2 hb15 own15 hS.1
  obtain ⟨oc, cc, hf15⟩ := own15.form
  clear own15 hb15
  generalize (la.drop kk).length = nn at hf15
  subst hf15
  go_simp
  refine hK.out _ _ (fun q => absurd rfl q) ?_
  try simp only [Act.put, nz0, nz1, nz2, nz3, nz4, nz5]
  refine wpAnyL_done (by kernel_rfl) ?_ _
  clear hS c9 f9
  go_wp2
  exact bodyPost_end (results_none rfl _ _ _) rfl ⟨rfl, HK.out⟩
end Go.Proofs.Ytgnedbagelhcbaa
