/-
  Proved here: apply.about and apply.due: whether a record is about a page, and whether a page needs an entry. Entries as values: their 239 cells.
-/
import Derived.Test.YtihjapfgllokgabQMh
import Derived.Test.YtihjapfgllokgabRcd
import Derived.BigQuiet
namespace Go.Proofs.Ytihjapfgllokgab
open Go.ChangeShapes Go.WideShapes Go.ChangeAt Go.RowKit
set_option linter.unusedVariables false
set_option linter.unusedSimpArgs false
set_option maxRecDepth 20000

/-- An entry of a log. -/
structure En where
  lsn : Int
  r : R
deriving DecidableEq
def En.cells (e : En) : List Value := .int .u64 e.lsn :: e.r.cells
def En.arr (e : En) : Array Value := e.cells.toArray
structure En.Fits (e : En) : Prop where
  lsn : 0 ≤ e.lsn ∧ e.lsn ≤ 18446744073709551615
  r : e.r.Fits
def En.zero : En := ⟨0, R.zero⟩
theorem En.cells_length (e : En) (h : e.r.img.length = 224) : e.cells.length = 239 := by simp [En.cells, R.cells_length e.r h]
theorem En.arr_size (e : En) (h : e.r.img.length = 224) : e.arr.size = 239 := by simp [En.arr, En.cells_length e h]
theorem En.arr_one (e : En) : e.arr.all (·.oneCell') = true := by simp [En.arr, En.cells, R.cells, R.tail, Value.oneCell']
theorem En.at0 (e : En) : e.arr[0]? = some (.int .u64 e.lsn) := by simp [En.arr, En.cells]
theorem En.atR (e : En) (i : Nat) : e.arr[1 + i]? = e.r.arr[i]? := by
  unfold En.arr En.cells R.arr
  rw [List.getElem?_toArray, List.getElem?_toArray, Nat.add_comm 1 i, List.getElem?_cons_succ]
theorem size39 : (Try.prog.info? 39).map (·.size) = some 239 := by kernel_rfl
theorem zero39 (w : World) : (zeroValue 39).run Try.prog w = .ok (.agg En.zero.arr) w := (zero_of_info (P := Try.prog) (t := 39) (v := .agg En.zero.arr) (n := 239) (by kernel_rfl)).1 w
theorem mid_row {w : World} {g : Nat} {cs : Array Value} {t : TypeId} (h : Row w g cs t) (o : Nat) (l : List Value) (hl : ∀ j v, l[j]? = some v → cs[o + j]? = some v) :
    ∀ j v, l[j]? = some v → w.cell? ((⟨g, o, none⟩ : Addr).add j) = some v := fun j v hj => by
  rw [Addr.add_mid]; exact row_at h (o + j) v (hl j v hj)

/-- Whether a record is about a page. -/
def aboutR (u : Bool) (no : Int) (r : R) : Bool := decide (r.kind ≠ 6) && (decide (r.undo = u) && decide (r.no = no))
set_option maxHeartbeats 1000000 in
theorem about_any (u : Bool) (no : Int) (r : R) (w : World) (hl : r.img.length = 224) :
    Calls Try.prog 16 #[.agg #[.bool u, .int .u16 no], .agg r.arr] w fun e w' => e = .returned (.bool (aboutR u no r)) ∧ Below w.heap.size w w' := by
  have r0 : Row ((w.alloc (.cells #[.bool u, .int .u16 no] 24)).alloc (.cells r.arr 37)) w.heap.size #[.bool u, .int .u16 no] 24 := (Row.new _ _ _).alloc _
  have r1 : Row ((w.alloc (.cells #[.bool u, .int .u16 no] 24)).alloc (.cells r.arr 37)) (w.heap.size + 1) r.arr 37 := by have := Row.new (w.alloc (.cells #[.bool u, .int .u16 no] 24)) r.arr 37; simpa using this
  have ab : Below w.heap.size w ((w.alloc (.cells #[.bool u, .int .u16 no] 24)).alloc (.cells r.arr 37)) := ((Below.refl _ _).alloc (Nat.le_refl _) _).alloc (by simp) _
  have heq := equal24 r.undo u r.no no
  go_enter Try.func16, Try.ntmps16
  go_upto_region 1 with fail
  generalize (w.alloc (.cells #[.bool u, .int .u16 no] 24)).alloc (.cells r.arr 37) = w1 at r0 r1 ab ⊢
  have c0 := row_at r1 0 _ r.at0
  have hm := mid_row r1 1 [.bool r.undo, .int .u16 r.no] (fun j v h => by
    match j, h with
    | 0, h => rw [← h]; exact r.at1
    | 1, h => rw [← h]; exact r.at2)
  have HA : Hid (aboutR u no r = (decide (r.kind ≠ 6) && (decide (r.undo = u) && decide (r.no = no)))) := rfl
  by_cases hk : r.kind = 6
  · have hk' : (r.kind != 6) = false := by simp [hk]
    have HK := show Hid _ from hk
    clear hk
    go_wp2_with (first
      | (refine load_any_g rfl 24 (.tmp 9) rfl ⟨w.heap.size + 1, 1, none⟩ rfl [.bool r.undo, .int .u16 r.no] _ hm Try.underlying24 rfl size24 ?_)
      | (refine load_cells_g rfl 24 (.tmp 2) rfl w.heap.size rfl 24 #[.bool u, .int .u16 no] r0 2 Try.underlying24 rfl size24 rfl ?_))
    go_ret
    exact ⟨by rw [HA.out, HK.out]; rfl, ab⟩
  · have hk' : (r.kind != 6) = true := by simp [hk]
    have HK := show Hid _ from hk
    clear hk
    go_wp2_with (first
      | (refine load_any_g rfl 24 (.tmp 9) rfl ⟨w.heap.size + 1, 1, none⟩ rfl [.bool r.undo, .int .u16 r.no] _ hm Try.underlying24 rfl size24 ?_)
      | (refine load_cells_g rfl 24 (.tmp 2) rfl w.heap.size rfl 24 #[.bool u, .int .u16 no] r0 2 Try.underlying24 rfl size24 rfl ?_))
    go_ret
    exact ⟨by rw [HA.out, show decide (r.kind ≠ 6) = true from decide_eq_true HK.out]; rfl, ab⟩

/-- Whether a payload, right or not, needs an entry. -/
def dueR (p : List Int) (ri : Bool) (e : En) : Bool := if ri then decide (lsnOf p < e.lsn) else decide (e.r.kind = 1)
set_option maxHeartbeats 1000000 in
theorem due_any (p : List Int) (ri : Bool) (e : En) (w : World) (hp : p.length = 224) (hl : e.r.img.length = 224) :
    Calls Try.prog 17 #[.agg (bs p), .bool ri, .agg e.arr] w fun en w' => en = .returned (.bool (dueR p ri e)) ∧ Below w.heap.size w w' := by
  have r0 : Row ((w.alloc (.cells (bs p) 26)).alloc (.cells e.arr 39)) w.heap.size (bs p) 26 := (Row.new _ _ _).alloc _
  have r1 : Row ((w.alloc (.cells (bs p) 26)).alloc (.cells e.arr 39)) (w.heap.size + 1) e.arr 39 := by have := Row.new (w.alloc (.cells (bs p) 26)) e.arr 39; simpa using this
  have ab : Below w.heap.size w ((w.alloc (.cells (bs p) 26)).alloc (.cells e.arr 39)) := ((Below.refl _ _).alloc (Nat.le_refl _) _).alloc (by simp) _
  have HL : Hid _ := fun w => lsn_any p w hp
  have hpb : (bs p).size = 224 := by rw [bs_size, hp]
  go_enter Try.func17, Try.ntmps17
  go_upto_region 1 with fail
  generalize (w.alloc (.cells (bs p) 26)).alloc (.cells e.arr 39) = w1 at r0 r1 ab ⊢
  have c0 := row_at r1 0 _ e.at0
  have c1 := row_at r1 1 _ ((e.atR 0).trans e.r.at0)
  cases ri with
  | false =>
    have HD : Hid (dueR p false e = decide (e.r.kind = 1)) := rfl
    by_cases hk : e.r.kind = 1
    · have hk' : (e.r.kind == 1) = true := by simp [hk]
      have HK := show Hid _ from hk
      clear hk
      go_wp2
      go_ret
      exact ⟨by rw [HD.out, decide_eq_true HK.out]; rfl, ab⟩
    · have hk' : (e.r.kind == 1) = false := by simp [hk]
      have HK := show Hid _ from hk
      clear hk
      go_wp2
      go_ret
      exact ⟨by rw [HD.out, decide_eq_false HK.out]; rfl, ab⟩
  | true =>
    have HD : Hid (dueR p true e = decide (lsnOf p < e.lsn)) := rfl
    have HG : Hid (getN (strOfNums p) 7 8 = lsnOf p) := rfl
    rw [HG.out] at HL
    clear HG
    generalize lsnOf p = L at HL HD
    --REG
    have hes : e.arr.size = 239 := e.arr_size hl
    by_cases hk : L < e.lsn
    · have HK := show Hid _ from decide_eq_true hk
      go_upto_region 2 with fail
      refine wp_region_held_drew (S := fun w' => Row w' w.heap.size (bs p) 26 ∧ Row w' (w.heap.size + 1) e.arr 39 ∧ Below w.heap.size w w') (by kernel_rfl) ⟨r0, r1, ab.drew⟩ fun hS => ?_
      clear r0 r1 ab
      refine wpAnyH_take (i := 0) (v := .pointer (some ⟨(w.heap.size + 1), 0, none⟩)) rfl (by kernel_rfl) (by kernel_rfl) (by kernel_rfl) (fun _ _ _ h => h) (Or.inl ⟨by rfl, fun w _ => by go_simp⟩) hS ?_
      try simp only [Act.put, List.getElem_toArray, List.getElem_cons_zero, List.getElem_cons_succ, List.setIfInBounds_toArray, List.set_cons_zero, List.set_cons_succ]
      refine wpAnyH_take (i := 1) (v := .int .u64 e.lsn) rfl (by kernel_rfl) (by kernel_rfl) (by kernel_rfl) (fun _ _ _ h => h) (Or.inl ⟨by rfl, fun w h => by have c := row_at h.2.1 0 _ e.at0; go_simp⟩) hS ?_
      try simp only [Act.put, List.getElem_toArray, List.getElem_cons_zero, List.getElem_cons_succ, List.setIfInBounds_toArray, List.set_cons_zero, List.set_cons_succ]
      refine wpAnyH_take (i := 2) (v := .agg (bs p)) rfl (by kernel_rfl) (by kernel_rfl) (by kernel_rfl) (fun _ _ _ h => h) (yields_row (by rfl) 26 (.tmp 3) rfl w.heap.size rfl 26 (bs p) (fun w h => h.1) 224 5 Try.underlying26 size26 hpb) hS ?_
      try simp only [Act.put, List.getElem_toArray, List.getElem_cons_zero, List.getElem_cons_succ, List.setIfInBounds_toArray, List.set_cons_zero, List.set_cons_succ]
      refine wpAnyH_ready (rs := [3]) (by kernel_rfl) (by simp) ?_
      refine AllReadyH.cons rfl (fun K hK => ?_) AllReadyH.nil
      go_simp
      go_at_call 12
      refine Calls.mono (HL.out _) ?_
      rintro e wc ⟨rfl, hcb⟩
      refine hK.out _ _ (⟨hS.1.below hcb hS.1.lt, hS.2.1.below hcb hS.2.1.lt, hS.2.2.trans (hcb.mono hS.2.2.size)⟩) fun hS => ?_
      try simp only [Act.put, List.getElem_toArray, List.getElem_cons_zero, List.getElem_cons_succ, List.setIfInBounds_toArray, List.set_cons_zero, List.set_cons_succ]
      clear hcb
      refine wpAnyH_take (i := 4) (v := .bool true) rfl (by kernel_rfl) (by kernel_rfl) (by kernel_rfl) (fun _ _ _ h => h) (Or.inl ⟨by rfl, fun w _ => by go_simp⟩) hS ?_
      try simp only [Act.put, List.getElem_toArray, List.getElem_cons_zero, List.getElem_cons_succ, List.setIfInBounds_toArray, List.set_cons_zero, List.set_cons_succ]
      refine wpAnyH_take (i := 5) (v := .bool true) rfl (by kernel_rfl) (by kernel_rfl) (by kernel_rfl) (fun _ _ _ h => h) (Or.inl ⟨by rfl, fun w _ => by go_simp⟩) hS ?_
      try simp only [Act.put, List.getElem_toArray, List.getElem_cons_zero, List.getElem_cons_succ, List.setIfInBounds_toArray, List.set_cons_zero, List.set_cons_succ]
      refine wpAnyH_done (by kernel_rfl) ?_ _
      go_wp2
      go_ret
      exact ⟨by rw [HD.out, HK.out]; rfl, hS.2.2⟩
    · have HK := show Hid _ from decide_eq_false hk
      go_upto_region 2 with fail
      refine wp_region_held_drew (S := fun w' => Row w' w.heap.size (bs p) 26 ∧ Row w' (w.heap.size + 1) e.arr 39 ∧ Below w.heap.size w w') (by kernel_rfl) ⟨r0, r1, ab.drew⟩ fun hS => ?_
      clear r0 r1 ab
      refine wpAnyH_take (i := 0) (v := .pointer (some ⟨(w.heap.size + 1), 0, none⟩)) rfl (by kernel_rfl) (by kernel_rfl) (by kernel_rfl) (fun _ _ _ h => h) (Or.inl ⟨by rfl, fun w _ => by go_simp⟩) hS ?_
      try simp only [Act.put, List.getElem_toArray, List.getElem_cons_zero, List.getElem_cons_succ, List.setIfInBounds_toArray, List.set_cons_zero, List.set_cons_succ]
      refine wpAnyH_take (i := 1) (v := .int .u64 e.lsn) rfl (by kernel_rfl) (by kernel_rfl) (by kernel_rfl) (fun _ _ _ h => h) (Or.inl ⟨by rfl, fun w h => by have c := row_at h.2.1 0 _ e.at0; go_simp⟩) hS ?_
      try simp only [Act.put, List.getElem_toArray, List.getElem_cons_zero, List.getElem_cons_succ, List.setIfInBounds_toArray, List.set_cons_zero, List.set_cons_succ]
      refine wpAnyH_take (i := 2) (v := .agg (bs p)) rfl (by kernel_rfl) (by kernel_rfl) (by kernel_rfl) (fun _ _ _ h => h) (yields_row (by rfl) 26 (.tmp 3) rfl w.heap.size rfl 26 (bs p) (fun w h => h.1) 224 5 Try.underlying26 size26 hpb) hS ?_
      try simp only [Act.put, List.getElem_toArray, List.getElem_cons_zero, List.getElem_cons_succ, List.setIfInBounds_toArray, List.set_cons_zero, List.set_cons_succ]
      refine wpAnyH_ready (rs := [3]) (by kernel_rfl) (by simp) ?_
      refine AllReadyH.cons rfl (fun K hK => ?_) AllReadyH.nil
      go_simp
      go_at_call 12
      refine Calls.mono (HL.out _) ?_
      rintro e wc ⟨rfl, hcb⟩
      refine hK.out _ _ (⟨hS.1.below hcb hS.1.lt, hS.2.1.below hcb hS.2.1.lt, hS.2.2.trans (hcb.mono hS.2.2.size)⟩) fun hS => ?_
      try simp only [Act.put, List.getElem_toArray, List.getElem_cons_zero, List.getElem_cons_succ, List.setIfInBounds_toArray, List.set_cons_zero, List.set_cons_succ]
      clear hcb
      refine wpAnyH_take (i := 4) (v := .bool false) rfl (by kernel_rfl) (by kernel_rfl) (by kernel_rfl) (fun _ _ _ h => h) (Or.inl ⟨by rfl, fun w _ => by go_simp⟩) hS ?_
      try simp only [Act.put, List.getElem_toArray, List.getElem_cons_zero, List.getElem_cons_succ, List.setIfInBounds_toArray, List.set_cons_zero, List.set_cons_succ]
      refine wpAnyH_take (i := 5) (v := .bool false) rfl (by kernel_rfl) (by kernel_rfl) (by kernel_rfl) (fun _ _ _ h => h) (Or.inl ⟨by rfl, fun w _ => by go_simp⟩) hS ?_
      try simp only [Act.put, List.getElem_toArray, List.getElem_cons_zero, List.getElem_cons_succ, List.setIfInBounds_toArray, List.set_cons_zero, List.set_cons_succ]
      refine wpAnyH_done (by kernel_rfl) ?_ _
      go_wp2
      go_ret
      exact ⟨by rw [HD.out, HK.out]; rfl, hS.2.2⟩
end Go.Proofs.Ytihjapfgllokgab
