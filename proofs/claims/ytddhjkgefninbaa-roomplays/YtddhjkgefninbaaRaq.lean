/-
  Proved here: how the document's room lies in memory, what its Note does, and which page its Find finds.
-/
import Derived.Test.YtddhjkgefninbaaRaf
namespace Go.Proofs.Ytddhjkgefninbaa
open Go.ChangeShapes Go.WideShapes Go.ChangeAt Go.RowKit
set_option linter.unusedVariables false
set_option linter.unusedSimpArgs false
set_option maxRecDepth 20000

/-- A room in memory. -/
structure QAt (w : World) (g a : Nat) (ps : List Pge) (l : Nat) : Prop where
  room : Row w g #[.slice (some ⟨a, 0, none⟩) ps.length ps.length, .int .i64 l] 29
  arr : Row w a (pcells ps).toArray 33
  olds : ∀ p ∈ ps, Own w 0 p.v p.os
  len : ∀ p ∈ ps, p.os.length ≤ 1000
  lt : l < ps.length
  small : ps.length ≤ 32
theorem QAt.ne {w : World} {g a : Nat} {ps : List Pge} {l : Nat} (c : QAt w g a ps l) : g ≠ a := c.room.ne c.arr (by decide)
theorem QAt.apart {w : World} {g a : Nat} {ps : List Pge} {l : Nat} (c : QAt w g a ps l) (k : Nat) (cs : Array Value) (h : Row w k cs 50) : ¬ two g a k := by
  rintro (rfl | rfl)
  · exact h.ne c.room (by decide) rfl
  · exact h.ne c.arr (by decide) rfl
theorem QAt.off {F : Nat → Prop} {w w' : World} {g a : Nat} {ps : List Pge} {l : Nat} (c : QAt w g a ps l) (ho : Off F w w') (hF : ∀ k, two g a k → ¬ F k) (hF2 : ∀ k cs, Row w k cs 50 → ¬ F k) : QAt w' g a ps l :=
  { c with room := c.room.off ho (hF _ (Or.inl rfl)), arr := c.arr.off ho (hF _ (Or.inr rfl)), olds := fun p hp => (c.olds p hp).off ho hF2 }
theorem QAt.below {w w' : World} {g a : Nat} {ps : List Pge} {l : Nat} (c : QAt w g a ps l) (hb : Below w.heap.size w w') : QAt w' g a ps l :=
  c.off (F := fun _ => False) (Off.of_below hb) (fun _ _ q => q) (fun _ _ _ q => q)
theorem QAt.at {w : World} {g a : Nat} {ps : List Pge} {l : Nat} (c : QAt w g a ps l) {i : Nat} {p : Pge} (hp : ps[i]? = some p) : ∀ j u, [Value.int .u64 p.lsn, p.v][j]? = some u → w.cell? ((⟨a, i * 2, none⟩ : Addr).add j) = some u := by
  intro j u hj
  have hj2 : j < 2 := by have := (List.getElem?_eq_some_iff.1 hj).1; simpa using this
  have h1 := pcells_at hp j hj2
  have e : (⟨a, i * 2, none⟩ : Addr).add j = ⟨a, i * 2 + j, none⟩ := by
    unfold Addr.add
    split
    · rename_i q; subst q; rfl
    · rfl
  rw [e]
  refine row_at c.arr _ _ ?_
  rw [List.getElem?_toArray, h1]; exact hj
theorem QAt.setLast {w : World} {g a : Nat} {ps : List Pge} {l : Nat} (c : QAt w g a ps l) (k : Nat) (hk : k < ps.length) : QAt (w.setCell ⟨g, 1, none⟩ (.int .i64 k)) g a ps k :=
  { c with
    room := row_set c.room 1 _
    arr := row_setCell_other c.arr (fun e => c.ne e.symm) _ _
    olds := fun p hp => (c.olds p hp).off (Off.of_setCell (F := two g a) w ⟨g, 1, none⟩ (.int .i64 k) (Or.inl rfl)) c.apart
    lt := hk }
theorem QAt.put {w : World} {g a : Nat} {ps : List Pge} {l : Nat} (c : QAt w g a ps l) {i : Nat} {p : Pge} (hp : ps[i]? = some p) (q : Pge) (hq : Own w 0 q.v q.os) (hl : q.os.length ≤ 1000) : QAt (w.setCells a (i * 2) [.int .u64 q.lsn, q.v]) g a (ps.set i q) l ∧ Off (two g a) w (w.setCells a (i * 2) [.int .u64 q.lsn, q.v]) := by
  have e : w.setCells a (i * 2) [.int .u64 q.lsn, q.v] = (w.setCell ⟨a, i * 2, none⟩ (.int .u64 q.lsn)).setCell ⟨a, i * 2 + 1, none⟩ q.v := rfl
  have o1 : Off (two g a) w (w.setCell ⟨a, i * 2, none⟩ (.int .u64 q.lsn)) := Off.of_setCell w _ _ (Or.inr rfl)
  have o2 : Off (two g a) (w.setCell ⟨a, i * 2, none⟩ (.int .u64 q.lsn)) ((w.setCell ⟨a, i * 2, none⟩ (.int .u64 q.lsn)).setCell ⟨a, i * 2 + 1, none⟩ q.v) := Off.of_setCell _ _ _ (Or.inr rfl)
  have o3 := o1.trans o2 (fun j hj => Or.inl hj)
  rw [e]
  refine ⟨?_, o3⟩
  have r1 := row_set (row_set c.arr (i * 2) (.int .u64 q.lsn)) (i * 2 + 1) q.v
  rw [List.setIfInBounds_toArray, List.setIfInBounds_toArray, pcells_set hp] at r1
  exact { room := by rw [List.length_set]; exact row_setCell_other (row_setCell_other c.room c.ne _ _) c.ne _ _
          arr := r1
          olds := fun z hz => by
            rcases List.mem_or_eq_of_mem_set hz with y | y
            · exact (c.olds z y).off o3 c.apart
            · rw [y]; exact hq.off o3 c.apart
          len := fun z hz => by
            rcases List.mem_or_eq_of_mem_set hz with y | y
            · exact c.len z y
            · rw [y]; exact hl
          lt := by rw [List.length_set]; exact c.lt
          small := by rw [List.length_set]; exact c.small }
theorem QAt.there {w : World} {g a : Nat} {ps : List Pge} {l : Nat} (c : QAt w g a ps l) {i : Nat} (hi : i < ps.length) : w.there a (i * 2) 2 := fun j hj => by
  refine ⟨?_, row_frozen c.arr _⟩
  rw [cell_of_row w a _ _ _ _ c.arr, Array.getElem?_eq_getElem (by rw [List.size_toArray, pcells_length]; omega)]; rfl

def QNoted (w : World) (g a : Nat) (ps : List Pge) (l : Nat) (i : Nat) (lsn : Int) (os : List O) (e : Ending) (w' : World) : Prop := ∃ v', e = .returned (.tuple #[]) ∧ QAt w' g a (ps.set i ⟨lsn, v', os⟩) l ∧ Off (two g a) w w'
set_option maxHeartbeats 1000000 in
theorem qnote_in {w : World} {g a : Nat} {ps : List Pge} {l : Nat} (c : QAt w g a ps l) (i : Nat) (hi : i < ps.length) (lsn : Int) (v : Value) (os : List O) (ho : Olds w v os) (hl : os.length ≤ 1000) :
    Calls Try.prog 8 #[.pointer (some ⟨g, 0, none⟩), .int .i64 i, .agg #[.int .u64 lsn, v]] w fun e w' => QNoted w g a ps l i lsn os e w' := by
  obtain ⟨p, hp⟩ : ∃ p, ps[i]? = some p := ⟨ps[i], List.getElem?_eq_getElem hi⟩
  obtain ⟨oa, cap, rfl, _⟩ := ho.open
  obtain ⟨m, HM⟩ : ∃ m, Hid (os.length = m) := ⟨_, rfl⟩
  obtain ⟨n, HN⟩ : ∃ n, Hid (ps.length = n) := ⟨_, rfl⟩
  rw [HM.out] at ho ⊢
  have ab : Below w.heap.size w (w.alloc (.cells #[.int .u64 lsn, .slice oa m cap] 33)) := (Below.refl _ _).alloc (Nat.le_refl _) _
  have r0 : Row (w.alloc (.cells #[.int .u64 lsn, .slice oa m cap] 33)) w.heap.size #[.int .u64 lsn, .slice oa m cap] 33 := Row.new _ _ _
  have c1 := c.below ab
  have ho1 := ho.keep ab
  have g0 : (i : Int) ≥ 0 := by omega
  have g1 : (i : Int) < (ps.length : Int) := by omega
  have cz := row_at c1.room 0 _ rfl
  have hga : Hid (g < w.heap.size ∧ a < w.heap.size) := ⟨c.room.lt, c.arr.lt⟩
  go_enter Try.func8, Try.ntmps8
  go_upto_region 2 with fail
  clear g0 g1 cz
  generalize w.alloc (.cells #[.int .u64 lsn, .slice oa m cap] 33) = w1 at r0 ab c1 ho1 ⊢
  refine wp_region_held_drew (S := fun w' => Row w' w.heap.size #[.int .u64 lsn, .slice oa m cap] 33 ∧ Row w' g #[.slice (some ⟨a, 0, none⟩) ps.length ps.length, .int .i64 l] 29) (by kernel_rfl) ⟨r0, c1.room⟩ fun hS => ?_
  refine wpAnyH_take (i := 0) (v := .pointer (some ⟨g, 0, none⟩)) rfl (by kernel_rfl) (by kernel_rfl) (by kernel_rfl) (fun _ _ _ h => h) (Or.inl ⟨by rfl, fun w _ => by go_simp⟩) hS ?_
  try simp only [Act.put, List.getElem_toArray, List.getElem_cons_zero, List.getElem_cons_succ, List.setIfInBounds_toArray, List.set_cons_zero, List.set_cons_succ]
  refine wpAnyH_take (i := 1) (v := .pointer (some ⟨g, 0, none⟩)) rfl (by kernel_rfl) (by kernel_rfl) (by kernel_rfl) (fun _ _ _ h => h) (Or.inl ⟨by rfl, fun w _ => by go_simp⟩) hS ?_
  try simp only [Act.put, List.getElem_toArray, List.getElem_cons_zero, List.getElem_cons_succ, List.setIfInBounds_toArray, List.set_cons_zero, List.set_cons_succ]
  refine wpAnyH_take (i := 2) (v := .pointer (some ⟨g, 0, none⟩)) rfl (by kernel_rfl) (by kernel_rfl) (by kernel_rfl) (fun _ _ _ h => h) (Or.inl ⟨by rfl, fun w _ => by go_simp⟩) hS ?_
  try simp only [Act.put, List.getElem_toArray, List.getElem_cons_zero, List.getElem_cons_succ, List.setIfInBounds_toArray, List.set_cons_zero, List.set_cons_succ]
  refine wpAnyH_take (i := 3) (v := .slice (some ⟨a, 0, none⟩) ps.length ps.length) rfl (by kernel_rfl) (by kernel_rfl) (by kernel_rfl) (fun _ _ _ h => h) (Or.inl ⟨by rfl, fun w h => by have c := row_at h.2 0 _ rfl; go_simp⟩) hS ?_
  try simp only [Act.put, List.getElem_toArray, List.getElem_cons_zero, List.getElem_cons_succ, List.setIfInBounds_toArray, List.set_cons_zero, List.set_cons_succ]
  refine wpAnyH_take (i := 4) (v := .int .i64 i) rfl (by kernel_rfl) (by kernel_rfl) (by kernel_rfl) (fun _ _ _ h => h) (Or.inl ⟨by rfl, fun w _ => by go_simp⟩) hS ?_
  try simp only [Act.put, List.getElem_toArray, List.getElem_cons_zero, List.getElem_cons_succ, List.setIfInBounds_toArray, List.set_cons_zero, List.set_cons_succ]
  refine wpAnyH_take (i := 5) (v := .agg #[.int .u64 lsn, .slice oa m cap]) rfl (by kernel_rfl) (by kernel_rfl) (by kernel_rfl) (fun _ _ _ h => h) (yields_st (by rfl) 33 (.tmp 5) rfl (w.heap.size) rfl 33 #[.int .u64 lsn, .slice oa m cap] (fun w h => h.1) Try.underlying33 rfl size33) hS ?_
  try simp only [Act.put, List.getElem_toArray, List.getElem_cons_zero, List.getElem_cons_succ, List.setIfInBounds_toArray, List.set_cons_zero, List.set_cons_succ]
  refine wpAnyH_ready (rs := [6]) (by kernel_rfl) (by simp) ?_
  refine AllReadyH.cons rfl (fun K hK => ?_) AllReadyH.nil
  go_simp
  go_at_call 7
  refine (kept_any lsn _ os _ (ho1.keep (Below.refl _ _).drew) (by omega)).mono ?_
  rintro e wc ⟨v', rfl, hO, hcb⟩
  refine hK.out _ _ ⟨hS.1.below hcb hS.1.lt, hS.2.below hcb hS.2.lt⟩ fun hS => ?_
  try simp only [Act.put, List.getElem_toArray, List.getElem_cons_zero, List.getElem_cons_succ, List.setIfInBounds_toArray, List.set_cons_zero, List.set_cons_succ]
  have cw : QAt wc g a ps l := (c1.below (Below.refl _ _).drew).below hcb
  have bw : Below w.heap.size w wc := ab.drew.trans (hcb.mono ab.drew.size)
  obtain ⟨c2, o2⟩ := cw.put hp ⟨lsn, v', os⟩ (hO.base (Nat.zero_le _)) hl
  have o3 : Off (two g a) w (wc.setCells a (i * 2) [.int .u64 lsn, v']) := (Off.of_below (F := two g a) bw).trans o2 (fun _ h => Or.inl h)
  have th := cw.there hi
  obtain ⟨oa', cap', rfl⟩ := hO.form
  have hrm := c2.room
  rw [List.length_set] at hrm
  refine wpAnyH_take (i := 7) (v := .pointer (some ⟨a, i * 2, none⟩)) rfl (by kernel_rfl) (by kernel_rfl) (by kernel_rfl) (fun _ _ _ h => h) (Or.inl ⟨by rfl, fun w _ => by go_simp⟩) hS ?_
  try simp only [Act.put, List.getElem_toArray, List.getElem_cons_zero, List.getElem_cons_succ, List.setIfInBounds_toArray, List.set_cons_zero, List.set_cons_succ]
  refine wpAnyH_ready (rs := [8]) (by kernel_rfl) (by simp) ?_
  refine AllReadyH.cons rfl (fun K hK => step_of rfl (wp_store_mid 33 (.tmp 24) (.tmp 23) rfl a (i * 2) #[.int .u64 lsn, .slice oa' os.length cap'] rfl rfl th size33 (by simp [Value.oneCell']) (hK.out _ _ ⟨hS.1.off o2 (by rintro (q | q) <;> have := hga.out <;> omega), hrm⟩ fun hS => ?_))) AllReadyH.nil
  try simp only [Act.put, List.getElem_toArray, List.getElem_cons_zero, List.getElem_cons_succ, List.setIfInBounds_toArray, List.set_cons_zero, List.set_cons_succ]
  refine wpAnyH_done (by kernel_rfl) ?_ _
  go_wp2
  first
    | (go_end0; exact ⟨_, rfl, c2, o3⟩)
    | (refine bodyPost_ret (results_none rfl _ _ _) rfl ?_; exact ⟨_, rfl, c2, o3⟩)
theorem qnote_out {w : World} {g a : Nat} {ps : List Pge} {l : Nat} (c : QAt w g a ps l) (i : Int) (hi : ¬ (0 ≤ i ∧ i < ps.length)) (lsn : Int) (v : Value) :
    Calls Try.prog 8 #[.pointer (some ⟨g, 0, none⟩), .int .i64 i, .agg #[.int .u64 lsn, v]] w fun e w' => e = .returned (.tuple #[]) ∧ Below w.heap.size w w' := by
  have ab : Below w.heap.size w (w.alloc (.cells #[.int .u64 lsn, v] 33)) := (Below.refl _ _).alloc (Nat.le_refl _) _
  have c0 := row_at (c.below ab).room 0 _ rfl
  by_cases h0 : i ≥ 0
  · have h1 : ¬ i < (ps.length : Int) := fun q => hi ⟨h0, q⟩
    clear hi
    go_enter Try.func8, Try.ntmps8
    go_wp2
    first
      | (go_end0; exact ⟨rfl, ab⟩)
      | (refine bodyPost_ret (results_none rfl _ _ _) rfl ?_; exact ⟨rfl, ab⟩)
  · clear hi
    go_enter Try.func8, Try.ntmps8
    go_wp2
    first
      | (go_end0; exact ⟨rfl, ab⟩)
      | (refine bodyPost_ret (results_none rfl _ _ _) rfl ?_; exact ⟨rfl, ab⟩)
end Go.Proofs.Ytddhjkgefninbaa
