/-
  Plain facts: a disk and the document's disk that tell the same go on telling the same, whatever is asked.
-/
import Derived.Test.YtkgmhliocfbdfaaRcr
namespace Go.Proofs.Ytkgmhliocfbdfaa
open Go.ChangeShapes Go.WideShapes Go.ChangeAt Go.RowKit
set_option linter.unusedVariables false
set_option linter.unusedSimpArgs false

/-- They tell the same. -/
structure Rel (d : Dsk) (R : RD) : Prop where
  n : R.n = d.n
  sure : over noneS R.sure = d.sure
  pend : R.pend = d.pend
  fails : ∀ i, d.fails i = decide (i ∈ R.fails)
  fuse : R.fuse = d.fuse
  ops : R.ops = d.ops
  down : R.down = d.down
theorem Rel.seen {d : Dsk} {R : RD} (h : Rel d R) (b : Int) : R.seen b = d.seen b := by unfold RD.seen Dsk.seen; rw [h.sure, h.pend]
theorem Rel.kept {d : Dsk} {R : RD} (h : Rel d R) (b : Int) : R.kept b = d.sure.block b := by unfold RD.kept; rw [h.sure]
theorem rel_count {d : Dsk} {R : RD} (h : Rel d R) : (rcount R).1 = (count d).1 ∧ Rel (count d).2 (rcount R).2 := by
  have hf := h.fails (d.ops + 1)
  unfold rcount count
  rw [h.ops, h.fuse]
  by_cases e : d.ops + 1 = d.fuse
  · rw [if_pos e, if_pos e]
    exact ⟨rfl, ⟨h.n, h.sure, h.pend, h.fails, rfl, rfl, rfl⟩⟩
  · rw [if_neg e, if_neg e]
    by_cases e2 : d.ops + 1 ∈ R.fails
    · rw [if_pos e2, hf, decide_eq_true e2, if_pos rfl]
      exact ⟨rfl, ⟨h.n, h.sure, h.pend, h.fails, rfl, rfl, h.down⟩⟩
    · rw [if_neg e2, hf, decide_eq_false e2, if_neg (by simp)]
      exact ⟨rfl, ⟨h.n, h.sure, h.pend, h.fails, rfl, rfl, h.down⟩⟩
theorem rel_read {d : Dsk} {R : RD} (h : Rel d R) (b : Int) : (rread R b).1 = (read d b).1 ∧ (rread R b).2.1 = (read d b).2.1 ∧ Rel (read d b).2.2 (rread R b).2.2 := by
  obtain ⟨c1, c2⟩ := rel_count h
  unfold rread read ask
  rw [h.down, h.n]
  by_cases hd : d.down = true
  · simp only [hd, if_true]; exact ⟨rfl, rfl, h⟩
  · have hd' : d.down = false := by simpa using hd
    simp only [hd', Bool.false_eq_true, if_false]
    by_cases hb : b < 0 ∨ b ≥ d.n
    · rw [if_pos hb, if_neg (by omega : ¬ (0 ≤ b ∧ b < (d.n : Int)))]
      exact ⟨rfl, rfl, h⟩
    · rw [if_neg hb, if_pos (by omega : 0 ≤ b ∧ b < (d.n : Int)), c1]
      by_cases e : (count d).1 = 0
      · rw [if_pos e, if_pos e]; exact ⟨c2.seen b, rfl, c2⟩
      · rw [if_neg e, if_neg e]; exact ⟨rfl, rfl, c2⟩
theorem rel_wrote {d : Dsk} {R : RD} (h : Rel d R) (b : Int) (x : List Int) : ∀ k, Rel (d.wrote b x k) (R.wrote b x k)
  | 0 => h
  | k + 1 => by
    have ih := rel_wrote h b x k
    exact ⟨ih.n, ih.sure, by show (R.wrote b x k).pend ++ _ = (d.wrote b x k).pend ++ _; rw [ih.pend], ih.fails, ih.fuse, ih.ops, ih.down⟩
theorem rel_write {d : Dsk} {R : RD} (h : Rel d R) (b : Int) (x : List Int) : (rwrite R b x).1 = (writ d b x).1 ∧ Rel (writ d b x).2 (rwrite R b x).2 := by
  obtain ⟨c1, c2⟩ := rel_count h
  unfold rwrite writ ask
  rw [h.down, h.n]
  by_cases hd : d.down = true
  · simp only [hd, if_true]; exact ⟨by trivial, h⟩
  · have hd' : d.down = false := by simpa using hd
    simp only [hd', Bool.false_eq_true, if_false]
    by_cases hb : b < 0 ∨ b ≥ d.n
    · rw [if_pos hb, if_neg (by omega : ¬ (0 ≤ b ∧ b < (d.n : Int)))]
      exact ⟨rfl, h⟩
    · rw [if_neg hb, if_pos (by omega : 0 ≤ b ∧ b < (d.n : Int)), c1]
      by_cases e : (count d).1 = 0
      · rw [if_pos e, if_pos e]; exact ⟨rfl, rel_wrote c2 b x 4⟩
      · rw [if_neg e, if_neg e]; exact ⟨c1, c2⟩
theorem rel_sync {d : Dsk} {R : RD} (h : Rel d R) : (rsync R).1 = (sync d).1 ∧ Rel (sync d).2 (rsync R).2 := by
  obtain ⟨c1, c2⟩ := rel_count h
  unfold rsync sync
  rw [h.down]
  by_cases hd : d.down = true
  · simp only [hd, if_true]; exact ⟨by trivial, h⟩
  · have hd' : d.down = false := by simpa using hd
    simp only [hd', Bool.false_eq_true, if_false]
    rw [c1]
    by_cases e : (count d).1 = 0
    · rw [if_pos e, if_pos e]
      exact ⟨rfl, ⟨c2.n, by show over noneS (_ ++ _) = over _ _; rw [over_append, c2.sure, c2.pend], rfl, c2.fails, c2.fuse, c2.ops, c2.down⟩⟩
    · rw [if_neg e, if_neg e]; exact ⟨c1, c2⟩
/-- What a call answers and leaves, by the document. -/
def ract (R : RD) (c : Call) : List Int × Int × RD :=
  if c.kd = 0 then rread R c.b
  else if c.kd = 1 then (zs 256, rwrite R c.b (filled c.y))
  else if c.kd = 2 then (zs 256, rsync R)
  else if c.kd = 3 then (zs 256, 0, rplan R c.zl c.b)
  else if c.kd = 4 then (zs 256, 0, rcrash R c.bl)
  else (zs 256, 0, R)
theorem rel_act {d : Dsk} {R : RD} (h : Rel d R) (c : Call) : (ract R c).1 = (act d c).1 ∧ (ract R c).2.1 = (act d c).2.1 ∧ Rel (act d c).2.2 (ract R c).2.2 := by
  unfold ract act
  by_cases k0 : c.kd = 0
  · rw [if_pos k0, if_pos k0]; exact rel_read h c.b
  rw [if_neg k0, if_neg k0]
  by_cases k1 : c.kd = 1
  · rw [if_pos k1, if_pos k1]; exact ⟨rfl, rel_write h c.b (filled c.y)⟩
  rw [if_neg k1, if_neg k1]
  by_cases k2 : c.kd = 2
  · rw [if_pos k2, if_pos k2]; exact ⟨rfl, rel_sync h⟩
  rw [if_neg k2, if_neg k2]
  by_cases k3 : c.kd = 3
  · rw [if_pos k3, if_pos k3]; exact ⟨rfl, rfl, ⟨h.n, h.sure, h.pend, fun _ => rfl, rfl, rfl, h.down⟩⟩
  rw [if_neg k3, if_neg k3]
  by_cases k4 : c.kd = 4
  · rw [if_pos k4, if_pos k4]
    exact ⟨rfl, rfl, ⟨h.n, by show over noneS (_ ++ _) = over _ _; rw [over_append, h.sure, h.pend], rfl, fun _ => rfl, rfl, rfl, rfl⟩⟩
  · rw [if_neg k4, if_neg k4]; exact ⟨rfl, rfl, h⟩
theorem count_ops (d : Dsk) : (count d).2.ops = d.ops + 1 ∧ (count d).2.n = d.n := by
  unfold count
  split
  · exact ⟨rfl, rfl⟩
  · split <;> exact ⟨rfl, rfl⟩
theorem act_ops (d : Dsk) (h0 : 0 ≤ d.ops) (c : Call) : (act d c).2.2.ops ≤ d.ops + 1 ∧ (act d c).2.2.n = d.n := by
  obtain ⟨c1, c2⟩ := count_ops d
  have hask : (ask d c.b).2.ops ≤ d.ops + 1 ∧ (ask d c.b).2.n = d.n := by
    unfold ask
    split
    · exact ⟨by show d.ops ≤ _; omega, rfl⟩
    · split
      · exact ⟨by omega, c2⟩
      · exact ⟨by show d.ops ≤ _; omega, rfl⟩
  unfold act
  split
  · unfold read; split <;> exact hask
  · split
    · unfold writ
      split
      · exact ⟨by show ((ask d c.b).2.wrote _ _ 4).ops ≤ _; rw [(wrote_ops _ _ _).1]; exact hask.1, by show ((ask d c.b).2.wrote _ _ 4).n = _; rw [wrote_n]; exact hask.2⟩
      · exact hask
    · split
      · unfold sync
        split
        · exact ⟨by show d.ops ≤ _; omega, rfl⟩
        · split
          · exact ⟨by show (count d).2.ops ≤ _; omega, c2⟩
          · exact ⟨by show (count d).2.ops ≤ _; omega, c2⟩
      · split
        · exact ⟨by show (0 : Int) ≤ _; omega, rfl⟩
        · split
          · exact ⟨by show (0 : Int) ≤ _; omega, rfl⟩
          · exact ⟨by show d.ops ≤ _; omega, rfl⟩
end Go.Proofs.Ytkgmhliocfbdfaa
