/-
  Proved here: the statements' few: a rising log out of any.
-/
import Derived.Test.YtihjapfgllokgabEow
namespace Go.Proofs.Ytihjapfgllokgab
open Go.ChangeShapes Go.WideShapes Go.ChangeAt Go.RowKit
set_option linter.unusedVariables false
set_option linter.unusedSimpArgs false
set_option maxRecDepth 20000

theorem En.set0 (e : En) (l : Int) : e.arr.setIfInBounds 0 (.int .u64 l) = En.arr ⟨l, e.r⟩ := by simp [En.arr, En.cells]
def Few (w : World) (es : List En) (e : Ending) (w' : World) : Prop := ∃ v', e = .returned v' ∧ OwnE w' w.heap.size v' (fewN es (min 40 es.length)) ∧ Below w.heap.size w w'
set_option maxHeartbeats 4000000 in
theorem few_any (v : Value) (es : List En) (w : World) (hl : Log w v es) (hf : ∀ e ∈ es, e.Fits) (hn : es.length ≤ 1000000000000) :
    Calls Try.prog 10 #[v] w fun e w' => Few w es e w' := by
  have hze := zero39
  obtain ⟨oa, cap, rfl, hcs⟩ := hl.hold
  have HCS : Hid _ := hcs
  clear hcs hl
  have HFW : Hid (∀ e w', Few w es e w' ↔ ∃ v', e = .returned v' ∧ OwnE w' w.heap.size v' (fewN es (min 40 es.length)) ∧ Below w.heap.size w w') := fun _ _ => Iff.rfl
  generalize Few w es = PP at HFW ⊢
  obtain ⟨n, HN⟩ : ∃ n, Hid (es.length = n) := ⟨_, rfl⟩
  rw [HN.out] at HCS hn HFW ⊢
  have HFN : Hid _ := fun k => fewN_length es k
  rw [HN.out] at HFN
  go_enter Try.func10, Try.ntmps10
  go_upto_region 3 with fail
  go_loopw [3, 4] (fun out i wr => ∃ k : Nat, k ≤ n ∧ k ≤ 40 ∧ i = .int .i64 k ∧ OwnE wr w.heap.size out (fewN es k) ∧ Below w.heap.size w wr) (fun _ i _ => 40 - (intOf i).toNat)
  case atStart => exact ⟨0, by omega, by omega, rfl, OwnE.nil _ _, Below.refl _ _⟩
  case round =>
    obtain ⟨k, hk, hk4, rfl, hO, bb⟩ := hrel
    obtain ⟨oaO, capO, rfl⟩ := hO.form
    rw [HFN.out k hk] at hO ⊢
    by_cases hkn : k < n
    · have hkn' : (k : Int) < (n : Int) := by omega
      by_cases hk40 : k < 40
      · have hk40' : (k : Int) < 40 := by omega
        obtain ⟨a, e, rfl, he, hcell⟩ := HCS.out k hkn
        have hcw : ∀ j x, e.cells[j]? = some x → wr.cell? ((a.add (k * 239)).add j) = some x := fun j x hj => cell_keep (hcell j x hj) bb
        have hfe := hf e (List.mem_of_getElem? he)
        have HNX : Hid (fewN es (k + 1) = fewN es k ++ [⟨k + 1, e.r⟩]) := by show _ = _; rw [fewN, he]
        clear he hcell
        have e1 : IntKind.u64.wrap ((k : Int) + 1) = k + 1 := by rw [IntKind.wrap_u64]; omega
        have tl : Hid (1 = 1) := rfl
        have q1 : Row (wr.alloc (.cells En.zero.arr 39)) wr.heap.size En.zero.arr 39 := Row.new _ _ _
        go_upto_region 6 with (first
          | (have hh := tl; clear hh tl; refine wpList_load_any rfl 39 (.tmp 18) rfl (a.add (k * 239)) rfl e.cells _ hcw Try.underlying39 rfl (by rw [size39, En.cells_length _ hfe.r.len]) ?_)
          | (refine store_cells rfl 39 (.tmp 5) (.tmp 19) rfl wr.heap.size e.arr rfl rfl 39 _ q1 239 size39 (En.arr_size _ (zs_length _)) (e.arr_size hfe.r.len) e.arr_one ?_))
        have de := q1.set e.arr
        have db := below_setRow (bb.alloc bb.size (.cells En.zero.arr 39)) bb.size e.arr
        have hbW : Below wr.heap.size wr ((wr.alloc (.cells En.zero.arr 39)).setRow wr.heap.size e.arr) := below_setRow ((Below.refl _ _).alloc (Nat.le_refl _) _) (Nat.le_refl _) _
        have hwr := bb.size
        clear q1 hcw bb
        generalize (wr.alloc (.cells En.zero.arr 39)).setRow wr.heap.size e.arr = w5 at de db hbW ⊢
        have k0 := row_at de 0 _ e.at0
        have fz := row_frozen de 0
        go_upto_region 7 with fail
        have ze : Row (w5.setCell ⟨wr.heap.size, 0, none⟩ (.int .u64 (k + 1))) wr.heap.size _ 39 := row_set de 0 (.int .u64 (k + 1))
        rw [En.set0] at ze
        have zb := db.setCell (p := ⟨wr.heap.size, 0, none⟩) (by show w.heap.size ≤ wr.heap.size; omega) (.int .u64 (k + 1))
        have zO := hO.keep (hbW.setCell (p := ⟨wr.heap.size, 0, none⟩) (by show wr.heap.size ≤ wr.heap.size; omega) (.int .u64 (k + 1)))
        clear de db hbW hO k0 fz
        generalize w5.setCell ⟨wr.heap.size, 0, none⟩ (.int .u64 (k + 1)) = w6 at ze zb zO ⊢
        obtain ⟨E, HE⟩ : ∃ E : En, Hid ((⟨k + 1, e.r⟩ : En) = E) := ⟨_, rfl⟩
        rw [HE.out] at ze HNX
        have hEl : E.r.img.length = 224 := by rw [← HE.out]; exact hfe.r.len
        have hb6 : w.heap.size ≤ (w6.alloc (.cells E.arr 39)).heap.size := by have := zb.size; simp; omega
        have zO2 := zO.keep ((Below.refl w6.heap.size w6).alloc (Nat.le_refl _) (.cells E.arr 39))
        have zb2 : Below w.heap.size w (w6.alloc (.cells E.arr 39)) := zb.alloc zb.size _
        have HBK : Hid _ := fun q hq => (World.ownsRow.lt zO2 q hq).1
        have HR : Hid _ := fun ty => zO2.snoc ty w6.heap.size E hEl (Row.new _ _ _) hb6 (by rw [HFN.out k hk]; omega)
        clear zO zO2
        go_wp2_with (first
          | (refine load_cells rfl 39 (.tmp 5) rfl wr.heap.size rfl 39 _ ze 239 Try.underlying39 rfl size39 (E.arr_size hEl) ?_)
          | (refine wpList_slice_one rfl (.tmp 25) rfl E hEl rfl ?_)
          | (at_builtin; refine wpList_copy rfl (.tmp 24) (.tmp 26) 27 rfl _ _ rfl rfl (T := fun v' w' => OwnE w' w.heap.size v' (fewN es k ++ [E]) ∧ (w6.alloc (.cells E.arr 39)).grownBy w' (Value.slice oaO k capO).ownBlock) (fun ty => HR.out ty) ?_
             intro v2 w7 hT
             obtain ⟨hO7, gr⟩ := hT
             have tB : Below w.heap.size w w7 := zb2.grown gr hb6 (fun q hq => HBK.out q hq)))
        go_roundw
        case rel => exact ⟨k + 1, by omega, by omega, by go_num, by rw [HNX.out]; exact hO7, tB⟩
        case measure => simp [intOf]; omega
      · obtain rfl : k = 40 := by omega
        have hk40' : ¬ ((40 : Nat) : Int) < 40 := by omega
        have hmn : min 40 n = 40 := by omega
        rw [hmn] at HFW
        go_wp2
        exact (HFW.out _ _).2 ⟨_, rfl, hO, bb⟩
    · have hkn' : ¬ (k : Int) < (n : Int) := by omega
      have hmn : min 40 n = k := by omega
      rw [hmn] at HFW
      go_wp2
      exact (HFW.out _ _).2 ⟨_, rfl, hO, bb⟩
end Go.Proofs.Ytihjapfgllokgab
