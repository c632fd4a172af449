/-
  The trial of a full list of slots, walked: the loop, the calls in every order, both ends.
-/
import Derived.Test.YtomlbkdagaldoabFull
import Derived.Test.YtomlbkdagaldoabMark
import Derived.Laws.IdiomStrings
import Derived.Deep.OwnRows
namespace Go.Proofs.Ytomlbkdagaldoab
open Go.ChangeShapes Go.WideShapes Go.ChangeAt Go.RowKit
set_option linter.unusedVariables false
set_option linter.unusedSimpArgs false

theorem own_cell {w : World} {base g n cap : Nat} {os : List O} (h : Own w base (.slice (some ⟨g, 0, none⟩) n cap) os) (r j : Nat) {p : O} (hp : os[r]? = some p) (u : Value) (hu : p.cells[j]? = some u) (hj : j < 6) : w.cell? ⟨g, r * 6 + j, none⟩ = some u := by
  have := World.ownsRow.cells h (g := g) rfl (r * 6 + j) u (by rw [flat_at os r j p hp hj]; exact hu)
  rwa [Addr.add_mid, Nat.zero_add] at this
structure Fu (w wr : World) (vu : Value) (os : List O) : Prop where
  row : Row wr w.heap.size #[.int .u64 0, vu] 25
  own : Own wr (w.heap.size + 1) vu os
  b : Below w.heap.size w wr
theorem Fu.down {w wr wr' : World} {vu : Value} {os : List O} (h : Fu w wr vu os) (hb : Below wr.heap.size wr wr') : Fu w wr' vu os := ⟨h.row.below hb h.row.lt, h.own.keep hb, h.b.trans (hb.mono h.b.size)⟩
theorem Fu.set {w wr : World} {vu : Value} {os : List O} (h : Fu w wr vu os) (P : Nat) (hP : w.heap.size + 1 ≤ P) (cs' : Array Value) {cs : Array Value} (hr : Row wr P cs 25) : Fu w (wr.setRow P cs') vu os := ⟨h.row.other (by omega) _, h.own.rowOther hr _, below_setRow h.b (by omega) _⟩
def zs8 (m : Nat) : ByteArray := ⟨(List.replicate m (0 : UInt8)).toArray⟩
theorem zs8_size (m : Nat) : (zs8 m).size = m := by show (List.replicate m (0 : UInt8)).toArray.size = m; simp
theorem wp_conv {o : Oper} {a : Act} {w : World} {K : Act → World → Prop} {Q : Exit → Act → World → Prop} (x : Operand) (ho : o.op = .convert 50 9 x) (M m : Nat) (hx : a.eval x = .slice (some ⟨M, 0, none⟩) m m) (hr : Row w M (madeCells #[.int .u8 0] m) 5)
    (h : K (a.put o.dst (.string (zs8 m))) w) : Oper.wp Try.prog o a w K Q := by
  have hc := run_convert_bytes_back (P := Try.prog) w 50 9 5 ⟨M, 0, none⟩ m (List.replicate m (0 : UInt8)) Try.underlying50 Try.underlying5 Try.underlying9 (fun j hj => by
    have hj' : j < m := by simpa using hj
    rw [Addr.add_mid, Nat.zero_add, cell_of_row w M j _ _ _ hr]
    simp [madeCells, hj', Nat.mod_one])
  rw [List.length_replicate] at hc
  unfold Oper.wp execOp
  simp only [ho, hx, Sem.run_bind, hc, Result.andThen_ok, Sem.run_pure]
  exact h
theorem info5 : (Try.prog.info? 5).map (fun i => (i.zero, i.size, i.bytes)) = some (some (.int .u8 0), 1, 1) := by kernel_rfl

set_option maxHeartbeats 8000000 in
set_option maxRecDepth 20000 in
theorem fullWalk (w : World) (oa : Option Addr) (n cap : Nat) (out : Nat) (hout : out < 256) (hlen : n ≤ 140737488355328) (hcs : ∀ i, i < n → ∃ (a : Addr) (y : Nat), oa = some a ∧ y < 256 ∧ w.cell? (a.add i) = some (.int .u8 (y : Int))) :
    Calls Try.prog 6 #[.slice oa n cap, .int .u8 out] w fun e w' => e = .returned (.bool true) ∧ Below w.heap.size w w' := by
  have HCS : Hid _ := hcs
  clear hcs
  have hz := zero25
  have f0 : Fu w (w.alloc (.cells #[.int .u64 0, .slice none 0 0] 25)) (.slice none 0 0) [] := ⟨Row.new _ _ _, ⟨rfl, Or.inl ⟨rfl, rfl⟩⟩, (Below.refl _ _).alloc (Nat.le_refl _) _⟩
  go_enter Try.func6, Try.ntmps6
  go_upto_block 0 with (refine build_none rfl 25 rfl _ built25 ?_)
  generalize w.alloc (.cells #[.int .u64 0, .slice none 0 0] 25) = w1 at f0 ⊢
  try simp only [Act.put]
  go_wp2_with fail
  go_loopw [6] (fun c wr => ∃ (k : Nat) (os : List O) (vu : Value), c = .int .i64 k ∧ k ≤ 40 ∧ k ≤ n ∧ Hid (AL os ∧ may os = true ∧ os.length = k) ∧ Fu w wr vu os) (fun c _ => 40 - (intOf c).toNat)
  case atStart => exact ⟨0, [], _, rfl, by omega, by omega, ⟨fun o ho => (by cases ho), by decide, rfl⟩, f0⟩
  case round =>
    clear f0
    obtain ⟨k, os, vu, rfl, hk, hkn, HA, F⟩ := hrel
    by_cases hkl : k < n
    · have hkl' : (k : Int) < (n : Int) := by omega
      by_cases hk40 : k < 40
      · have hk40' : (k : Int) < 40 := by omega
        obtain ⟨a, y, rfl, hy, hcell⟩ := HCS.out k hkl
        have hcw := cell_keep hcell F.b
        obtain ⟨m, HM⟩ : ∃ m : Nat, Hid (y % 67 = m) := ⟨_, rfl⟩
        have hm66 : m ≤ 66 := by rw [← HM.out]; omega
        have e1 : (y : Int).tmod 67 = m := by rw [Int.tmod_eq_emod_of_nonneg (by omega), ← HM.out]; omega
        have e2 : (y : Int) % 67 = m := by rw [← HM.out]; omega
        have v1 : IntKind.u8.wrap (m : Int) = m := by rw [IntKind.wrap_u8]; omega
        have v2 : IntKind.i64.wrap (m : Int) = m := by rw [IntKind.wrap_i64]; omega
        have v3 : IntKind.u32.wrap (k : Int) = k := by rw [IntKind.wrap_u32]; omega
        have hn1 : os.length ≤ 1000000000 := by have := HA.out.2.2; omega
        have hmk := run_make_row' (P := Try.prog) 50 5 (.int .u8 0) 1 Try.underlying50 info5 rfl .i64 .i64 m (by omega) (by omega)
        have hWwr : Hid (w.heap.size + 1 ≤ wr.heap.size) := F.row.lt
        go_upto_region 6 with fail
        clear e1 e2 v1 v2 hcw
        go_cut [8, 10] from 31 to 43 (fun p c wx => ∃ (P : Nat) (v2 : Value), p = .pointer (some ⟨P, 0, none⟩) ∧ c = .int .i64 (addE os ⟨true, 0, k, 0, 0, zs8 m⟩) ∧ Fu w wx vu os ∧ Row wx P #[.int .u64 (addL 0 os ⟨true, 0, k, 0, 0, zs8 m⟩), v2] 25 ∧ Own wx (w.heap.size + 1) v2 (addR os ⟨true, 0, k, 0, 0, zs8 m⟩))
        case first =>
            refine wp_region_held_drew (S := fun w' => Fu w w' vu os) (by kernel_rfl) (F.down (Below.refl _ _).drew) fun hS => ?_
            refine wpAnyH_take (i := 0) (v := .agg #[.int .u64 0, vu]) rfl (by kernel_rfl) (by kernel_rfl) (by kernel_rfl) (fun _ _ _ h => h) (yields_st (by rfl) 25 (.tmp 5) rfl (w.heap.size) rfl 25 #[.int .u64 0, vu] (fun w h => h.row) Try.underlying25 rfl size25) hS ?_
            try simp only [Act.put, List.getElem_toArray, List.getElem_cons_zero, List.getElem_cons_succ, List.setIfInBounds_toArray, List.set_cons_zero, List.set_cons_succ]
            refine wpAnyH_take (i := 2) (v := .int .i64 k) rfl (by kernel_rfl) (by kernel_rfl) (by kernel_rfl) (fun _ _ _ h => h) (Or.inl ⟨by rfl, fun w _ => by rfl⟩) hS ?_
            try simp only [Act.put, List.getElem_toArray, List.getElem_cons_zero, List.getElem_cons_succ, List.setIfInBounds_toArray, List.set_cons_zero, List.set_cons_succ]
            refine wpAnyH_take (i := 3) (v := .int .u32 k) rfl (by kernel_rfl) (by kernel_rfl) (by kernel_rfl) (fun _ _ _ h => h) (Or.inl ⟨by rfl, fun w _ => by go_simp⟩) hS ?_
            try simp only [Act.put, List.getElem_toArray, List.getElem_cons_zero, List.getElem_cons_succ, List.setIfInBounds_toArray, List.set_cons_zero, List.set_cons_succ]
            refine wpAnyH_take (i := 4) (v := .int .i64 m) rfl (by kernel_rfl) (by kernel_rfl) (by kernel_rfl) (fun _ _ _ h => h) (Or.inl ⟨by rfl, fun w _ => by rfl⟩) hS ?_
            try simp only [Act.put, List.getElem_toArray, List.getElem_cons_zero, List.getElem_cons_succ, List.setIfInBounds_toArray, List.set_cons_zero, List.set_cons_succ]
            refine wpAnyH_ready (rs := [1, 5, 13]) (by kernel_rfl) (by simp) ?_
            refine AllReadyH.cons rfl (fun K hK => ?_) (AllReadyH.cons rfl (fun K hK => ?_) (AllReadyH.cons rfl (fun K hK => ?_) AllReadyH.nil))
            · go_simp
              go_at_call 9
              refine (kept_any 0 _ os _ hS.own.olds hn1).mono ?_
              rintro e wk ⟨v1, rfl, hO1, b1⟩
              refine hK.out _ _ (hS.down b1) fun hS => ?_
              try simp only [Act.put, List.getElem_toArray, List.getElem_cons_zero, List.getElem_cons_succ, List.setIfInBounds_toArray, List.set_cons_zero, List.set_cons_succ]
              have hWwk : Hid (w.heap.size + 1 ≤ wk.heap.size) := hS.row.lt
              refine wpAnyH_ready (rs := [5, 13]) (by kernel_rfl) (by simp) ?_
              refine AllReadyH.cons rfl (fun K hK => ?_) (AllReadyH.cons rfl (fun K hK => ?_) AllReadyH.nil)
              · go_simp
                refine hK.out _ _ (hS.down ((Below.refl _ _).alloc (Nat.le_refl _) _)) fun hS => ?_
                try simp only [Act.put, List.getElem_toArray, List.getElem_cons_zero, List.getElem_cons_succ, List.setIfInBounds_toArray, List.set_cons_zero, List.set_cons_succ]
                have rM : Row ((wk).alloc (.cells (madeCells #[.int .u8 0] m) 5)) (wk.heap.size) (madeCells #[.int .u8 0] m) 5 := (show Row ((wk).alloc (.cells (madeCells #[.int .u8 0] m) 5)) (wk.heap.size) (madeCells #[.int .u8 0] m) 5 from by have := Row.new (wk) (madeCells #[.int .u8 0] m) 5; simpa using this)
                have hO1 := hO1.alloc (.cells (madeCells #[.int .u8 0] m) 5)
                refine wpAnyH_ready (rs := [6, 13]) (by kernel_rfl) (by simp) ?_
                refine AllReadyH.cons rfl (fun K hK => ?_) (AllReadyH.cons rfl (fun K hK => ?_) AllReadyH.nil)
                · refine step_of rfl (wp_conv (.tmp 37) rfl (wk.heap.size) m rfl rM (hK.out _ _ hS fun hS => ?_))
                  try simp only [Act.put, List.getElem_toArray, List.getElem_cons_zero, List.getElem_cons_succ, List.setIfInBounds_toArray, List.set_cons_zero, List.set_cons_succ]
                  refine wpAnyH_take (i := 7) (v := .agg #[.bool true, .int .u16 0, .int .u32 k, .int .u16 0, .int .u8 0, .string (zs8 m)]) rfl (by kernel_rfl) (by kernel_rfl) (by kernel_rfl) (fun _ _ _ h => h) (Or.inl ⟨by rfl, fun w _ => by go_simp⟩) hS ?_
                  try simp only [Act.put, List.getElem_toArray, List.getElem_cons_zero, List.getElem_cons_succ, List.setIfInBounds_toArray, List.set_cons_zero, List.set_cons_succ]
                  refine wpAnyH_ready (rs := [8, 13]) (by kernel_rfl) (by simp) ?_
                  refine AllReadyH.cons rfl (fun K hK => ?_) (AllReadyH.cons rfl (fun K hK => ?_) AllReadyH.nil)
                  · have hB8 := hS.row.lt
                    go_simp
                    go_at_call 8
                    refine (add_any 0 _ os ⟨true, 0, k, 0, 0, zs8 m⟩ _ hO1.olds).mono ?_
                    rintro e wd ⟨v2, rfl, hO2, b2⟩
                    refine hK.out _ _ (hS.down b2) fun hS => ?_
                    try simp only [Act.put, List.getElem_toArray, List.getElem_cons_zero, List.getElem_cons_succ, List.setIfInBounds_toArray, List.set_cons_zero, List.set_cons_succ]
                    have hWwd : Hid (w.heap.size + 1 ≤ wd.heap.size) := hS.row.lt
                    have hO2 := hO2.base hB8
                    refine wpAnyH_take (i := 9) (v := .tuple #[.agg #[.int .u64 (addL 0 os ⟨true, 0, k, 0, 0, zs8 m⟩), v2], .int .u8 (addS os ⟨true, 0, k, 0, 0, zs8 m⟩), .int .i64 (addE os ⟨true, 0, k, 0, 0, zs8 m⟩)]) rfl (by kernel_rfl) (by kernel_rfl) (by kernel_rfl) (fun _ _ _ h => h) (Or.inl ⟨by rfl, fun w _ => by go_simp⟩) hS ?_
                    try simp only [Act.put, List.getElem_toArray, List.getElem_cons_zero, List.getElem_cons_succ, List.setIfInBounds_toArray, List.set_cons_zero, List.set_cons_succ]
                    refine wpAnyH_take (i := 10) (v := .agg #[.int .u64 (addL 0 os ⟨true, 0, k, 0, 0, zs8 m⟩), v2]) rfl (by kernel_rfl) (by kernel_rfl) (by kernel_rfl) (fun _ _ _ h => h) (Or.inl ⟨by rfl, fun w _ => by go_simp⟩) hS ?_
                    try simp only [Act.put, List.getElem_toArray, List.getElem_cons_zero, List.getElem_cons_succ, List.setIfInBounds_toArray, List.set_cons_zero, List.set_cons_succ]
                    refine wpAnyH_take (i := 11) (v := .int .u8 (addS os ⟨true, 0, k, 0, 0, zs8 m⟩)) rfl (by kernel_rfl) (by kernel_rfl) (by kernel_rfl) (fun _ _ _ h => h) (Or.inl ⟨by rfl, fun w _ => by go_simp⟩) hS ?_
                    try simp only [Act.put, List.getElem_toArray, List.getElem_cons_zero, List.getElem_cons_succ, List.setIfInBounds_toArray, List.set_cons_zero, List.set_cons_succ]
                    refine wpAnyH_take (i := 12) (v := .int .i64 (addE os ⟨true, 0, k, 0, 0, zs8 m⟩)) rfl (by kernel_rfl) (by kernel_rfl) (by kernel_rfl) (fun _ _ _ h => h) (Or.inl ⟨by rfl, fun w _ => by go_simp⟩) hS ?_
                    try simp only [Act.put, List.getElem_toArray, List.getElem_cons_zero, List.getElem_cons_succ, List.setIfInBounds_toArray, List.set_cons_zero, List.set_cons_succ]
                    refine wpAnyH_ready (rs := [13]) (by kernel_rfl) (by simp) ?_
                    refine AllReadyH.cons rfl (fun K hK => ?_) AllReadyH.nil
                    · go_simp
                      refine hK.out _ _ (hS.down ((Below.refl _ _).alloc (Nat.le_refl _) _)) fun hS => ?_
                      try simp only [Act.put, List.getElem_toArray, List.getElem_cons_zero, List.getElem_cons_succ, List.setIfInBounds_toArray, List.set_cons_zero, List.set_cons_succ]
                      have rP : Row ((wd).alloc (.cells #[.int .u64 0, .slice none 0 0] 25)) (wd.heap.size) #[.int .u64 0, .slice none 0 0] 25 := (show Row ((wd).alloc (.cells #[.int .u64 0, .slice none 0 0] 25)) (wd.heap.size) #[.int .u64 0, .slice none 0 0] 25 from by have := Row.new (wd) #[.int .u64 0, .slice none 0 0] 25; simpa using this)
                      have hP : Hid (w.heap.size + 1 ≤ wd.heap.size) := (by have := hWwd.out; show _ ≤ _; omega)
                      have hO2 := hO2.alloc (.cells #[.int .u64 0, .slice none 0 0] 25)
                      obtain ⟨oa2, cap2, rfl⟩ := hO2.form
                      refine wpAnyH_ready (rs := [14]) (by kernel_rfl) (by simp) ?_
                      refine AllReadyH.cons rfl (fun K hK => ?_) AllReadyH.nil
                      refine step_cells rfl 25 (.tmp 8) (.tmp 41) rfl (wd.heap.size) #[.int .u64 (addL 0 os ⟨true, 0, k, 0, 0, zs8 m⟩), .slice oa2 (addR os ⟨true, 0, k, 0, 0, zs8 m⟩).length cap2] rfl rfl 25 _ rP 2 size25 rfl rfl (by simp [Value.oneCell']) (hK.out _ _ (hS.set _ hP.out _ rP) fun hS => ?_)
                      try simp only [Act.put, List.getElem_toArray, List.getElem_cons_zero, List.getElem_cons_succ, List.setIfInBounds_toArray, List.set_cons_zero, List.set_cons_succ]
                      refine wpAnyH_take (i := 15) (v := .int .u8 (addS os ⟨true, 0, k, 0, 0, zs8 m⟩)) rfl (by kernel_rfl) (by kernel_rfl) (by kernel_rfl) (fun _ _ _ h => h) (Or.inl ⟨by rfl, fun w _ => by go_simp⟩) hS ?_
                      try simp only [Act.put, List.getElem_toArray, List.getElem_cons_zero, List.getElem_cons_succ, List.setIfInBounds_toArray, List.set_cons_zero, List.set_cons_succ]
                      refine wpAnyH_take (i := 16) (v := .int .i64 (addE os ⟨true, 0, k, 0, 0, zs8 m⟩)) rfl (by kernel_rfl) (by kernel_rfl) (by kernel_rfl) (fun _ _ _ h => h) (Or.inl ⟨by rfl, fun w _ => by go_simp⟩) hS ?_
                      try simp only [Act.put, List.getElem_toArray, List.getElem_cons_zero, List.getElem_cons_succ, List.setIfInBounds_toArray, List.set_cons_zero, List.set_cons_succ]
                      refine wpAnyH_done (by kernel_rfl) ?_ _
                      go_wp2
                      go_meet
                      exact ⟨_, _, rfl, rfl, hS, rP.set _, hO2.rowOther rP _⟩
                  · go_simp
                    refine hK.out _ _ (hS.down ((Below.refl _ _).alloc (Nat.le_refl _) _)) fun hS => ?_
                    try simp only [Act.put, List.getElem_toArray, List.getElem_cons_zero, List.getElem_cons_succ, List.setIfInBounds_toArray, List.set_cons_zero, List.set_cons_succ]
                    have rP : Row (((wk).alloc (.cells (madeCells #[.int .u8 0] m) 5)).alloc (.cells #[.int .u64 0, .slice none 0 0] 25)) (wk.heap.size + 1) #[.int .u64 0, .slice none 0 0] 25 := (show Row (((wk).alloc (.cells (madeCells #[.int .u8 0] m) 5)).alloc (.cells #[.int .u64 0, .slice none 0 0] 25)) (wk.heap.size + 1) #[.int .u64 0, .slice none 0 0] 25 from by have := Row.new ((wk).alloc (.cells (madeCells #[.int .u8 0] m) 5)) #[.int .u64 0, .slice none 0 0] 25; simpa using this)
                    have hP : Hid (w.heap.size + 1 ≤ wk.heap.size + 1) := (by have := hWwk.out; show _ ≤ _; omega)
                    have hO1 := hO1.alloc (.cells #[.int .u64 0, .slice none 0 0] 25)
                    have rM := rM.alloc (.cells #[.int .u64 0, .slice none 0 0] 25)
                    refine wpAnyH_ready (rs := [8]) (by kernel_rfl) (by simp) ?_
                    refine AllReadyH.cons rfl (fun K hK => ?_) AllReadyH.nil
                    · have hB8 := hS.row.lt
                      go_simp
                      go_at_call 8
                      refine (add_any 0 _ os ⟨true, 0, k, 0, 0, zs8 m⟩ _ hO1.olds).mono ?_
                      rintro e wd ⟨v2, rfl, hO2, b2⟩
                      refine hK.out _ _ (hS.down b2) fun hS => ?_
                      try simp only [Act.put, List.getElem_toArray, List.getElem_cons_zero, List.getElem_cons_succ, List.setIfInBounds_toArray, List.set_cons_zero, List.set_cons_succ]
                      have hWwd : Hid (w.heap.size + 1 ≤ wd.heap.size) := hS.row.lt
                      have hO2 := hO2.base hB8
                      have rP := rP.below b2 rP.lt
                      refine wpAnyH_take (i := 9) (v := .tuple #[.agg #[.int .u64 (addL 0 os ⟨true, 0, k, 0, 0, zs8 m⟩), v2], .int .u8 (addS os ⟨true, 0, k, 0, 0, zs8 m⟩), .int .i64 (addE os ⟨true, 0, k, 0, 0, zs8 m⟩)]) rfl (by kernel_rfl) (by kernel_rfl) (by kernel_rfl) (fun _ _ _ h => h) (Or.inl ⟨by rfl, fun w _ => by go_simp⟩) hS ?_
                      try simp only [Act.put, List.getElem_toArray, List.getElem_cons_zero, List.getElem_cons_succ, List.setIfInBounds_toArray, List.set_cons_zero, List.set_cons_succ]
                      refine wpAnyH_take (i := 10) (v := .agg #[.int .u64 (addL 0 os ⟨true, 0, k, 0, 0, zs8 m⟩), v2]) rfl (by kernel_rfl) (by kernel_rfl) (by kernel_rfl) (fun _ _ _ h => h) (Or.inl ⟨by rfl, fun w _ => by go_simp⟩) hS ?_
                      try simp only [Act.put, List.getElem_toArray, List.getElem_cons_zero, List.getElem_cons_succ, List.setIfInBounds_toArray, List.set_cons_zero, List.set_cons_succ]
                      refine wpAnyH_take (i := 11) (v := .int .u8 (addS os ⟨true, 0, k, 0, 0, zs8 m⟩)) rfl (by kernel_rfl) (by kernel_rfl) (by kernel_rfl) (fun _ _ _ h => h) (Or.inl ⟨by rfl, fun w _ => by go_simp⟩) hS ?_
                      try simp only [Act.put, List.getElem_toArray, List.getElem_cons_zero, List.getElem_cons_succ, List.setIfInBounds_toArray, List.set_cons_zero, List.set_cons_succ]
                      refine wpAnyH_take (i := 12) (v := .int .i64 (addE os ⟨true, 0, k, 0, 0, zs8 m⟩)) rfl (by kernel_rfl) (by kernel_rfl) (by kernel_rfl) (fun _ _ _ h => h) (Or.inl ⟨by rfl, fun w _ => by go_simp⟩) hS ?_
                      try simp only [Act.put, List.getElem_toArray, List.getElem_cons_zero, List.getElem_cons_succ, List.setIfInBounds_toArray, List.set_cons_zero, List.set_cons_succ]
                      obtain ⟨oa2, cap2, rfl⟩ := hO2.form
                      refine wpAnyH_ready (rs := [14]) (by kernel_rfl) (by simp) ?_
                      refine AllReadyH.cons rfl (fun K hK => ?_) AllReadyH.nil
                      refine step_cells rfl 25 (.tmp 8) (.tmp 41) rfl (wk.heap.size + 1) #[.int .u64 (addL 0 os ⟨true, 0, k, 0, 0, zs8 m⟩), .slice oa2 (addR os ⟨true, 0, k, 0, 0, zs8 m⟩).length cap2] rfl rfl 25 _ rP 2 size25 rfl rfl (by simp [Value.oneCell']) (hK.out _ _ (hS.set _ hP.out _ rP) fun hS => ?_)
                      try simp only [Act.put, List.getElem_toArray, List.getElem_cons_zero, List.getElem_cons_succ, List.setIfInBounds_toArray, List.set_cons_zero, List.set_cons_succ]
                      refine wpAnyH_take (i := 15) (v := .int .u8 (addS os ⟨true, 0, k, 0, 0, zs8 m⟩)) rfl (by kernel_rfl) (by kernel_rfl) (by kernel_rfl) (fun _ _ _ h => h) (Or.inl ⟨by rfl, fun w _ => by go_simp⟩) hS ?_
                      try simp only [Act.put, List.getElem_toArray, List.getElem_cons_zero, List.getElem_cons_succ, List.setIfInBounds_toArray, List.set_cons_zero, List.set_cons_succ]
                      refine wpAnyH_take (i := 16) (v := .int .i64 (addE os ⟨true, 0, k, 0, 0, zs8 m⟩)) rfl (by kernel_rfl) (by kernel_rfl) (by kernel_rfl) (fun _ _ _ h => h) (Or.inl ⟨by rfl, fun w _ => by go_simp⟩) hS ?_
                      try simp only [Act.put, List.getElem_toArray, List.getElem_cons_zero, List.getElem_cons_succ, List.setIfInBounds_toArray, List.set_cons_zero, List.set_cons_succ]
                      refine wpAnyH_done (by kernel_rfl) ?_ _
                      go_wp2
                      go_meet
                      exact ⟨_, _, rfl, rfl, hS, rP.set _, hO2.rowOther rP _⟩
                · go_simp
                  refine hK.out _ _ (hS.down ((Below.refl _ _).alloc (Nat.le_refl _) _)) fun hS => ?_
                  try simp only [Act.put, List.getElem_toArray, List.getElem_cons_zero, List.getElem_cons_succ, List.setIfInBounds_toArray, List.set_cons_zero, List.set_cons_succ]
                  have rP : Row (((wk).alloc (.cells (madeCells #[.int .u8 0] m) 5)).alloc (.cells #[.int .u64 0, .slice none 0 0] 25)) (wk.heap.size + 1) #[.int .u64 0, .slice none 0 0] 25 := (show Row (((wk).alloc (.cells (madeCells #[.int .u8 0] m) 5)).alloc (.cells #[.int .u64 0, .slice none 0 0] 25)) (wk.heap.size + 1) #[.int .u64 0, .slice none 0 0] 25 from by have := Row.new ((wk).alloc (.cells (madeCells #[.int .u8 0] m) 5)) #[.int .u64 0, .slice none 0 0] 25; simpa using this)
                  have hP : Hid (w.heap.size + 1 ≤ wk.heap.size + 1) := (by have := hWwk.out; show _ ≤ _; omega)
                  have hO1 := hO1.alloc (.cells #[.int .u64 0, .slice none 0 0] 25)
                  have rM := rM.alloc (.cells #[.int .u64 0, .slice none 0 0] 25)
                  refine wpAnyH_ready (rs := [6]) (by kernel_rfl) (by simp) ?_
                  refine AllReadyH.cons rfl (fun K hK => ?_) AllReadyH.nil
                  · refine step_of rfl (wp_conv (.tmp 37) rfl (wk.heap.size) m rfl rM (hK.out _ _ hS fun hS => ?_))
                    try simp only [Act.put, List.getElem_toArray, List.getElem_cons_zero, List.getElem_cons_succ, List.setIfInBounds_toArray, List.set_cons_zero, List.set_cons_succ]
                    refine wpAnyH_take (i := 7) (v := .agg #[.bool true, .int .u16 0, .int .u32 k, .int .u16 0, .int .u8 0, .string (zs8 m)]) rfl (by kernel_rfl) (by kernel_rfl) (by kernel_rfl) (fun _ _ _ h => h) (Or.inl ⟨by rfl, fun w _ => by go_simp⟩) hS ?_
                    try simp only [Act.put, List.getElem_toArray, List.getElem_cons_zero, List.getElem_cons_succ, List.setIfInBounds_toArray, List.set_cons_zero, List.set_cons_succ]
                    refine wpAnyH_ready (rs := [8]) (by kernel_rfl) (by simp) ?_
                    refine AllReadyH.cons rfl (fun K hK => ?_) AllReadyH.nil
                    · have hB8 := hS.row.lt
                      go_simp
                      go_at_call 8
                      refine (add_any 0 _ os ⟨true, 0, k, 0, 0, zs8 m⟩ _ hO1.olds).mono ?_
                      rintro e wd ⟨v2, rfl, hO2, b2⟩
                      refine hK.out _ _ (hS.down b2) fun hS => ?_
                      try simp only [Act.put, List.getElem_toArray, List.getElem_cons_zero, List.getElem_cons_succ, List.setIfInBounds_toArray, List.set_cons_zero, List.set_cons_succ]
                      have hWwd : Hid (w.heap.size + 1 ≤ wd.heap.size) := hS.row.lt
                      have hO2 := hO2.base hB8
                      have rP := rP.below b2 rP.lt
                      refine wpAnyH_take (i := 9) (v := .tuple #[.agg #[.int .u64 (addL 0 os ⟨true, 0, k, 0, 0, zs8 m⟩), v2], .int .u8 (addS os ⟨true, 0, k, 0, 0, zs8 m⟩), .int .i64 (addE os ⟨true, 0, k, 0, 0, zs8 m⟩)]) rfl (by kernel_rfl) (by kernel_rfl) (by kernel_rfl) (fun _ _ _ h => h) (Or.inl ⟨by rfl, fun w _ => by go_simp⟩) hS ?_
                      try simp only [Act.put, List.getElem_toArray, List.getElem_cons_zero, List.getElem_cons_succ, List.setIfInBounds_toArray, List.set_cons_zero, List.set_cons_succ]
                      refine wpAnyH_take (i := 10) (v := .agg #[.int .u64 (addL 0 os ⟨true, 0, k, 0, 0, zs8 m⟩), v2]) rfl (by kernel_rfl) (by kernel_rfl) (by kernel_rfl) (fun _ _ _ h => h) (Or.inl ⟨by rfl, fun w _ => by go_simp⟩) hS ?_
                      try simp only [Act.put, List.getElem_toArray, List.getElem_cons_zero, List.getElem_cons_succ, List.setIfInBounds_toArray, List.set_cons_zero, List.set_cons_succ]
                      refine wpAnyH_take (i := 11) (v := .int .u8 (addS os ⟨true, 0, k, 0, 0, zs8 m⟩)) rfl (by kernel_rfl) (by kernel_rfl) (by kernel_rfl) (fun _ _ _ h => h) (Or.inl ⟨by rfl, fun w _ => by go_simp⟩) hS ?_
                      try simp only [Act.put, List.getElem_toArray, List.getElem_cons_zero, List.getElem_cons_succ, List.setIfInBounds_toArray, List.set_cons_zero, List.set_cons_succ]
                      refine wpAnyH_take (i := 12) (v := .int .i64 (addE os ⟨true, 0, k, 0, 0, zs8 m⟩)) rfl (by kernel_rfl) (by kernel_rfl) (by kernel_rfl) (fun _ _ _ h => h) (Or.inl ⟨by rfl, fun w _ => by go_simp⟩) hS ?_
                      try simp only [Act.put, List.getElem_toArray, List.getElem_cons_zero, List.getElem_cons_succ, List.setIfInBounds_toArray, List.set_cons_zero, List.set_cons_succ]
                      obtain ⟨oa2, cap2, rfl⟩ := hO2.form
                      refine wpAnyH_ready (rs := [14]) (by kernel_rfl) (by simp) ?_
                      refine AllReadyH.cons rfl (fun K hK => ?_) AllReadyH.nil
                      refine step_cells rfl 25 (.tmp 8) (.tmp 41) rfl (wk.heap.size + 1) #[.int .u64 (addL 0 os ⟨true, 0, k, 0, 0, zs8 m⟩), .slice oa2 (addR os ⟨true, 0, k, 0, 0, zs8 m⟩).length cap2] rfl rfl 25 _ rP 2 size25 rfl rfl (by simp [Value.oneCell']) (hK.out _ _ (hS.set _ hP.out _ rP) fun hS => ?_)
                      try simp only [Act.put, List.getElem_toArray, List.getElem_cons_zero, List.getElem_cons_succ, List.setIfInBounds_toArray, List.set_cons_zero, List.set_cons_succ]
                      refine wpAnyH_take (i := 15) (v := .int .u8 (addS os ⟨true, 0, k, 0, 0, zs8 m⟩)) rfl (by kernel_rfl) (by kernel_rfl) (by kernel_rfl) (fun _ _ _ h => h) (Or.inl ⟨by rfl, fun w _ => by go_simp⟩) hS ?_
                      try simp only [Act.put, List.getElem_toArray, List.getElem_cons_zero, List.getElem_cons_succ, List.setIfInBounds_toArray, List.set_cons_zero, List.set_cons_succ]
                      refine wpAnyH_take (i := 16) (v := .int .i64 (addE os ⟨true, 0, k, 0, 0, zs8 m⟩)) rfl (by kernel_rfl) (by kernel_rfl) (by kernel_rfl) (fun _ _ _ h => h) (Or.inl ⟨by rfl, fun w _ => by go_simp⟩) hS ?_
                      try simp only [Act.put, List.getElem_toArray, List.getElem_cons_zero, List.getElem_cons_succ, List.setIfInBounds_toArray, List.set_cons_zero, List.set_cons_succ]
                      refine wpAnyH_done (by kernel_rfl) ?_ _
                      go_wp2
                      go_meet
                      exact ⟨_, _, rfl, rfl, hS, rP.set _, hO2.rowOther rP _⟩
              · go_simp
                refine hK.out _ _ (hS.down ((Below.refl _ _).alloc (Nat.le_refl _) _)) fun hS => ?_
                try simp only [Act.put, List.getElem_toArray, List.getElem_cons_zero, List.getElem_cons_succ, List.setIfInBounds_toArray, List.set_cons_zero, List.set_cons_succ]
                have rP : Row ((wk).alloc (.cells #[.int .u64 0, .slice none 0 0] 25)) (wk.heap.size) #[.int .u64 0, .slice none 0 0] 25 := (show Row ((wk).alloc (.cells #[.int .u64 0, .slice none 0 0] 25)) (wk.heap.size) #[.int .u64 0, .slice none 0 0] 25 from by have := Row.new (wk) #[.int .u64 0, .slice none 0 0] 25; simpa using this)
                have hP : Hid (w.heap.size + 1 ≤ wk.heap.size) := (by have := hWwk.out; show _ ≤ _; omega)
                have hO1 := hO1.alloc (.cells #[.int .u64 0, .slice none 0 0] 25)
                refine wpAnyH_ready (rs := [5]) (by kernel_rfl) (by simp) ?_
                refine AllReadyH.cons rfl (fun K hK => ?_) AllReadyH.nil
                · go_simp
                  refine hK.out _ _ (hS.down ((Below.refl _ _).alloc (Nat.le_refl _) _)) fun hS => ?_
                  try simp only [Act.put, List.getElem_toArray, List.getElem_cons_zero, List.getElem_cons_succ, List.setIfInBounds_toArray, List.set_cons_zero, List.set_cons_succ]
                  have rM : Row (((wk).alloc (.cells #[.int .u64 0, .slice none 0 0] 25)).alloc (.cells (madeCells #[.int .u8 0] m) 5)) (wk.heap.size + 1) (madeCells #[.int .u8 0] m) 5 := (show Row (((wk).alloc (.cells #[.int .u64 0, .slice none 0 0] 25)).alloc (.cells (madeCells #[.int .u8 0] m) 5)) (wk.heap.size + 1) (madeCells #[.int .u8 0] m) 5 from by have := Row.new ((wk).alloc (.cells #[.int .u64 0, .slice none 0 0] 25)) (madeCells #[.int .u8 0] m) 5; simpa using this)
                  have hO1 := hO1.alloc (.cells (madeCells #[.int .u8 0] m) 5)
                  have rP := rP.alloc (.cells (madeCells #[.int .u8 0] m) 5)
                  refine wpAnyH_ready (rs := [6]) (by kernel_rfl) (by simp) ?_
                  refine AllReadyH.cons rfl (fun K hK => ?_) AllReadyH.nil
                  · refine step_of rfl (wp_conv (.tmp 37) rfl (wk.heap.size + 1) m rfl rM (hK.out _ _ hS fun hS => ?_))
                    try simp only [Act.put, List.getElem_toArray, List.getElem_cons_zero, List.getElem_cons_succ, List.setIfInBounds_toArray, List.set_cons_zero, List.set_cons_succ]
                    refine wpAnyH_take (i := 7) (v := .agg #[.bool true, .int .u16 0, .int .u32 k, .int .u16 0, .int .u8 0, .string (zs8 m)]) rfl (by kernel_rfl) (by kernel_rfl) (by kernel_rfl) (fun _ _ _ h => h) (Or.inl ⟨by rfl, fun w _ => by go_simp⟩) hS ?_
                    try simp only [Act.put, List.getElem_toArray, List.getElem_cons_zero, List.getElem_cons_succ, List.setIfInBounds_toArray, List.set_cons_zero, List.set_cons_succ]
                    refine wpAnyH_ready (rs := [8]) (by kernel_rfl) (by simp) ?_
                    refine AllReadyH.cons rfl (fun K hK => ?_) AllReadyH.nil
                    · have hB8 := hS.row.lt
                      go_simp
                      go_at_call 8
                      refine (add_any 0 _ os ⟨true, 0, k, 0, 0, zs8 m⟩ _ hO1.olds).mono ?_
                      rintro e wd ⟨v2, rfl, hO2, b2⟩
                      refine hK.out _ _ (hS.down b2) fun hS => ?_
                      try simp only [Act.put, List.getElem_toArray, List.getElem_cons_zero, List.getElem_cons_succ, List.setIfInBounds_toArray, List.set_cons_zero, List.set_cons_succ]
                      have hWwd : Hid (w.heap.size + 1 ≤ wd.heap.size) := hS.row.lt
                      have hO2 := hO2.base hB8
                      have rP := rP.below b2 rP.lt
                      refine wpAnyH_take (i := 9) (v := .tuple #[.agg #[.int .u64 (addL 0 os ⟨true, 0, k, 0, 0, zs8 m⟩), v2], .int .u8 (addS os ⟨true, 0, k, 0, 0, zs8 m⟩), .int .i64 (addE os ⟨true, 0, k, 0, 0, zs8 m⟩)]) rfl (by kernel_rfl) (by kernel_rfl) (by kernel_rfl) (fun _ _ _ h => h) (Or.inl ⟨by rfl, fun w _ => by go_simp⟩) hS ?_
                      try simp only [Act.put, List.getElem_toArray, List.getElem_cons_zero, List.getElem_cons_succ, List.setIfInBounds_toArray, List.set_cons_zero, List.set_cons_succ]
                      refine wpAnyH_take (i := 10) (v := .agg #[.int .u64 (addL 0 os ⟨true, 0, k, 0, 0, zs8 m⟩), v2]) rfl (by kernel_rfl) (by kernel_rfl) (by kernel_rfl) (fun _ _ _ h => h) (Or.inl ⟨by rfl, fun w _ => by go_simp⟩) hS ?_
                      try simp only [Act.put, List.getElem_toArray, List.getElem_cons_zero, List.getElem_cons_succ, List.setIfInBounds_toArray, List.set_cons_zero, List.set_cons_succ]
                      refine wpAnyH_take (i := 11) (v := .int .u8 (addS os ⟨true, 0, k, 0, 0, zs8 m⟩)) rfl (by kernel_rfl) (by kernel_rfl) (by kernel_rfl) (fun _ _ _ h => h) (Or.inl ⟨by rfl, fun w _ => by go_simp⟩) hS ?_
                      try simp only [Act.put, List.getElem_toArray, List.getElem_cons_zero, List.getElem_cons_succ, List.setIfInBounds_toArray, List.set_cons_zero, List.set_cons_succ]
                      refine wpAnyH_take (i := 12) (v := .int .i64 (addE os ⟨true, 0, k, 0, 0, zs8 m⟩)) rfl (by kernel_rfl) (by kernel_rfl) (by kernel_rfl) (fun _ _ _ h => h) (Or.inl ⟨by rfl, fun w _ => by go_simp⟩) hS ?_
                      try simp only [Act.put, List.getElem_toArray, List.getElem_cons_zero, List.getElem_cons_succ, List.setIfInBounds_toArray, List.set_cons_zero, List.set_cons_succ]
                      obtain ⟨oa2, cap2, rfl⟩ := hO2.form
                      refine wpAnyH_ready (rs := [14]) (by kernel_rfl) (by simp) ?_
                      refine AllReadyH.cons rfl (fun K hK => ?_) AllReadyH.nil
                      refine step_cells rfl 25 (.tmp 8) (.tmp 41) rfl (wk.heap.size) #[.int .u64 (addL 0 os ⟨true, 0, k, 0, 0, zs8 m⟩), .slice oa2 (addR os ⟨true, 0, k, 0, 0, zs8 m⟩).length cap2] rfl rfl 25 _ rP 2 size25 rfl rfl (by simp [Value.oneCell']) (hK.out _ _ (hS.set _ hP.out _ rP) fun hS => ?_)
                      try simp only [Act.put, List.getElem_toArray, List.getElem_cons_zero, List.getElem_cons_succ, List.setIfInBounds_toArray, List.set_cons_zero, List.set_cons_succ]
                      refine wpAnyH_take (i := 15) (v := .int .u8 (addS os ⟨true, 0, k, 0, 0, zs8 m⟩)) rfl (by kernel_rfl) (by kernel_rfl) (by kernel_rfl) (fun _ _ _ h => h) (Or.inl ⟨by rfl, fun w _ => by go_simp⟩) hS ?_
                      try simp only [Act.put, List.getElem_toArray, List.getElem_cons_zero, List.getElem_cons_succ, List.setIfInBounds_toArray, List.set_cons_zero, List.set_cons_succ]
                      refine wpAnyH_take (i := 16) (v := .int .i64 (addE os ⟨true, 0, k, 0, 0, zs8 m⟩)) rfl (by kernel_rfl) (by kernel_rfl) (by kernel_rfl) (fun _ _ _ h => h) (Or.inl ⟨by rfl, fun w _ => by go_simp⟩) hS ?_
                      try simp only [Act.put, List.getElem_toArray, List.getElem_cons_zero, List.getElem_cons_succ, List.setIfInBounds_toArray, List.set_cons_zero, List.set_cons_succ]
                      refine wpAnyH_done (by kernel_rfl) ?_ _
                      go_wp2
                      go_meet
                      exact ⟨_, _, rfl, rfl, hS, rP.set _, hO2.rowOther rP _⟩
            · go_simp
              refine hK.out _ _ (hS.down ((Below.refl _ _).alloc (Nat.le_refl _) _)) fun hS => ?_
              try simp only [Act.put, List.getElem_toArray, List.getElem_cons_zero, List.getElem_cons_succ, List.setIfInBounds_toArray, List.set_cons_zero, List.set_cons_succ]
              have rM : Row (((wr).alloc (.cells (madeCells #[.int .u8 0] m) 5)).drew) (wr.heap.size) (madeCells #[.int .u8 0] m) 5 := (show Row ((wr).alloc (.cells (madeCells #[.int .u8 0] m) 5)) (wr.heap.size) (madeCells #[.int .u8 0] m) 5 from by have := Row.new (wr) (madeCells #[.int .u8 0] m) 5; simpa using this)
              refine wpAnyH_ready (rs := [1, 6, 13]) (by kernel_rfl) (by simp) ?_
              refine AllReadyH.cons rfl (fun K hK => ?_) (AllReadyH.cons rfl (fun K hK => ?_) (AllReadyH.cons rfl (fun K hK => ?_) AllReadyH.nil))
              · go_simp
                go_at_call 9
                refine (kept_any 0 _ os _ hS.own.olds hn1).mono ?_
                rintro e wk ⟨v1, rfl, hO1, b1⟩
                refine hK.out _ _ (hS.down b1) fun hS => ?_
                try simp only [Act.put, List.getElem_toArray, List.getElem_cons_zero, List.getElem_cons_succ, List.setIfInBounds_toArray, List.set_cons_zero, List.set_cons_succ]
                have hWwk : Hid (w.heap.size + 1 ≤ wk.heap.size) := hS.row.lt
                have rM := rM.below b1 rM.lt
                refine wpAnyH_ready (rs := [6, 13]) (by kernel_rfl) (by simp) ?_
                refine AllReadyH.cons rfl (fun K hK => ?_) (AllReadyH.cons rfl (fun K hK => ?_) AllReadyH.nil)
                · refine step_of rfl (wp_conv (.tmp 37) rfl (wr.heap.size) m rfl rM (hK.out _ _ hS fun hS => ?_))
                  try simp only [Act.put, List.getElem_toArray, List.getElem_cons_zero, List.getElem_cons_succ, List.setIfInBounds_toArray, List.set_cons_zero, List.set_cons_succ]
                  refine wpAnyH_take (i := 7) (v := .agg #[.bool true, .int .u16 0, .int .u32 k, .int .u16 0, .int .u8 0, .string (zs8 m)]) rfl (by kernel_rfl) (by kernel_rfl) (by kernel_rfl) (fun _ _ _ h => h) (Or.inl ⟨by rfl, fun w _ => by go_simp⟩) hS ?_
                  try simp only [Act.put, List.getElem_toArray, List.getElem_cons_zero, List.getElem_cons_succ, List.setIfInBounds_toArray, List.set_cons_zero, List.set_cons_succ]
                  refine wpAnyH_ready (rs := [8, 13]) (by kernel_rfl) (by simp) ?_
                  refine AllReadyH.cons rfl (fun K hK => ?_) (AllReadyH.cons rfl (fun K hK => ?_) AllReadyH.nil)
                  · have hB8 := hS.row.lt
                    go_simp
                    go_at_call 8
                    refine (add_any 0 _ os ⟨true, 0, k, 0, 0, zs8 m⟩ _ hO1.olds).mono ?_
                    rintro e wd ⟨v2, rfl, hO2, b2⟩
                    refine hK.out _ _ (hS.down b2) fun hS => ?_
                    try simp only [Act.put, List.getElem_toArray, List.getElem_cons_zero, List.getElem_cons_succ, List.setIfInBounds_toArray, List.set_cons_zero, List.set_cons_succ]
                    have hWwd : Hid (w.heap.size + 1 ≤ wd.heap.size) := hS.row.lt
                    have hO2 := hO2.base hB8
                    refine wpAnyH_take (i := 9) (v := .tuple #[.agg #[.int .u64 (addL 0 os ⟨true, 0, k, 0, 0, zs8 m⟩), v2], .int .u8 (addS os ⟨true, 0, k, 0, 0, zs8 m⟩), .int .i64 (addE os ⟨true, 0, k, 0, 0, zs8 m⟩)]) rfl (by kernel_rfl) (by kernel_rfl) (by kernel_rfl) (fun _ _ _ h => h) (Or.inl ⟨by rfl, fun w _ => by go_simp⟩) hS ?_
                    try simp only [Act.put, List.getElem_toArray, List.getElem_cons_zero, List.getElem_cons_succ, List.setIfInBounds_toArray, List.set_cons_zero, List.set_cons_succ]
                    refine wpAnyH_take (i := 10) (v := .agg #[.int .u64 (addL 0 os ⟨true, 0, k, 0, 0, zs8 m⟩), v2]) rfl (by kernel_rfl) (by kernel_rfl) (by kernel_rfl) (fun _ _ _ h => h) (Or.inl ⟨by rfl, fun w _ => by go_simp⟩) hS ?_
                    try simp only [Act.put, List.getElem_toArray, List.getElem_cons_zero, List.getElem_cons_succ, List.setIfInBounds_toArray, List.set_cons_zero, List.set_cons_succ]
                    refine wpAnyH_take (i := 11) (v := .int .u8 (addS os ⟨true, 0, k, 0, 0, zs8 m⟩)) rfl (by kernel_rfl) (by kernel_rfl) (by kernel_rfl) (fun _ _ _ h => h) (Or.inl ⟨by rfl, fun w _ => by go_simp⟩) hS ?_
                    try simp only [Act.put, List.getElem_toArray, List.getElem_cons_zero, List.getElem_cons_succ, List.setIfInBounds_toArray, List.set_cons_zero, List.set_cons_succ]
                    refine wpAnyH_take (i := 12) (v := .int .i64 (addE os ⟨true, 0, k, 0, 0, zs8 m⟩)) rfl (by kernel_rfl) (by kernel_rfl) (by kernel_rfl) (fun _ _ _ h => h) (Or.inl ⟨by rfl, fun w _ => by go_simp⟩) hS ?_
                    try simp only [Act.put, List.getElem_toArray, List.getElem_cons_zero, List.getElem_cons_succ, List.setIfInBounds_toArray, List.set_cons_zero, List.set_cons_succ]
                    refine wpAnyH_ready (rs := [13]) (by kernel_rfl) (by simp) ?_
                    refine AllReadyH.cons rfl (fun K hK => ?_) AllReadyH.nil
                    · go_simp
                      refine hK.out _ _ (hS.down ((Below.refl _ _).alloc (Nat.le_refl _) _)) fun hS => ?_
                      try simp only [Act.put, List.getElem_toArray, List.getElem_cons_zero, List.getElem_cons_succ, List.setIfInBounds_toArray, List.set_cons_zero, List.set_cons_succ]
                      have rP : Row ((wd).alloc (.cells #[.int .u64 0, .slice none 0 0] 25)) (wd.heap.size) #[.int .u64 0, .slice none 0 0] 25 := (show Row ((wd).alloc (.cells #[.int .u64 0, .slice none 0 0] 25)) (wd.heap.size) #[.int .u64 0, .slice none 0 0] 25 from by have := Row.new (wd) #[.int .u64 0, .slice none 0 0] 25; simpa using this)
                      have hP : Hid (w.heap.size + 1 ≤ wd.heap.size) := (by have := hWwd.out; show _ ≤ _; omega)
                      have hO2 := hO2.alloc (.cells #[.int .u64 0, .slice none 0 0] 25)
                      obtain ⟨oa2, cap2, rfl⟩ := hO2.form
                      refine wpAnyH_ready (rs := [14]) (by kernel_rfl) (by simp) ?_
                      refine AllReadyH.cons rfl (fun K hK => ?_) AllReadyH.nil
                      refine step_cells rfl 25 (.tmp 8) (.tmp 41) rfl (wd.heap.size) #[.int .u64 (addL 0 os ⟨true, 0, k, 0, 0, zs8 m⟩), .slice oa2 (addR os ⟨true, 0, k, 0, 0, zs8 m⟩).length cap2] rfl rfl 25 _ rP 2 size25 rfl rfl (by simp [Value.oneCell']) (hK.out _ _ (hS.set _ hP.out _ rP) fun hS => ?_)
                      try simp only [Act.put, List.getElem_toArray, List.getElem_cons_zero, List.getElem_cons_succ, List.setIfInBounds_toArray, List.set_cons_zero, List.set_cons_succ]
                      refine wpAnyH_take (i := 15) (v := .int .u8 (addS os ⟨true, 0, k, 0, 0, zs8 m⟩)) rfl (by kernel_rfl) (by kernel_rfl) (by kernel_rfl) (fun _ _ _ h => h) (Or.inl ⟨by rfl, fun w _ => by go_simp⟩) hS ?_
                      try simp only [Act.put, List.getElem_toArray, List.getElem_cons_zero, List.getElem_cons_succ, List.setIfInBounds_toArray, List.set_cons_zero, List.set_cons_succ]
                      refine wpAnyH_take (i := 16) (v := .int .i64 (addE os ⟨true, 0, k, 0, 0, zs8 m⟩)) rfl (by kernel_rfl) (by kernel_rfl) (by kernel_rfl) (fun _ _ _ h => h) (Or.inl ⟨by rfl, fun w _ => by go_simp⟩) hS ?_
                      try simp only [Act.put, List.getElem_toArray, List.getElem_cons_zero, List.getElem_cons_succ, List.setIfInBounds_toArray, List.set_cons_zero, List.set_cons_succ]
                      refine wpAnyH_done (by kernel_rfl) ?_ _
                      go_wp2
                      go_meet
                      exact ⟨_, _, rfl, rfl, hS, rP.set _, hO2.rowOther rP _⟩
                  · go_simp
                    refine hK.out _ _ (hS.down ((Below.refl _ _).alloc (Nat.le_refl _) _)) fun hS => ?_
                    try simp only [Act.put, List.getElem_toArray, List.getElem_cons_zero, List.getElem_cons_succ, List.setIfInBounds_toArray, List.set_cons_zero, List.set_cons_succ]
                    have rP : Row ((wk).alloc (.cells #[.int .u64 0, .slice none 0 0] 25)) (wk.heap.size) #[.int .u64 0, .slice none 0 0] 25 := (show Row ((wk).alloc (.cells #[.int .u64 0, .slice none 0 0] 25)) (wk.heap.size) #[.int .u64 0, .slice none 0 0] 25 from by have := Row.new (wk) #[.int .u64 0, .slice none 0 0] 25; simpa using this)
                    have hP : Hid (w.heap.size + 1 ≤ wk.heap.size) := (by have := hWwk.out; show _ ≤ _; omega)
                    have hO1 := hO1.alloc (.cells #[.int .u64 0, .slice none 0 0] 25)
                    have rM := rM.alloc (.cells #[.int .u64 0, .slice none 0 0] 25)
                    refine wpAnyH_ready (rs := [8]) (by kernel_rfl) (by simp) ?_
                    refine AllReadyH.cons rfl (fun K hK => ?_) AllReadyH.nil
                    · have hB8 := hS.row.lt
                      go_simp
                      go_at_call 8
                      refine (add_any 0 _ os ⟨true, 0, k, 0, 0, zs8 m⟩ _ hO1.olds).mono ?_
                      rintro e wd ⟨v2, rfl, hO2, b2⟩
                      refine hK.out _ _ (hS.down b2) fun hS => ?_
                      try simp only [Act.put, List.getElem_toArray, List.getElem_cons_zero, List.getElem_cons_succ, List.setIfInBounds_toArray, List.set_cons_zero, List.set_cons_succ]
                      have hWwd : Hid (w.heap.size + 1 ≤ wd.heap.size) := hS.row.lt
                      have hO2 := hO2.base hB8
                      have rP := rP.below b2 rP.lt
                      refine wpAnyH_take (i := 9) (v := .tuple #[.agg #[.int .u64 (addL 0 os ⟨true, 0, k, 0, 0, zs8 m⟩), v2], .int .u8 (addS os ⟨true, 0, k, 0, 0, zs8 m⟩), .int .i64 (addE os ⟨true, 0, k, 0, 0, zs8 m⟩)]) rfl (by kernel_rfl) (by kernel_rfl) (by kernel_rfl) (fun _ _ _ h => h) (Or.inl ⟨by rfl, fun w _ => by go_simp⟩) hS ?_
                      try simp only [Act.put, List.getElem_toArray, List.getElem_cons_zero, List.getElem_cons_succ, List.setIfInBounds_toArray, List.set_cons_zero, List.set_cons_succ]
                      refine wpAnyH_take (i := 10) (v := .agg #[.int .u64 (addL 0 os ⟨true, 0, k, 0, 0, zs8 m⟩), v2]) rfl (by kernel_rfl) (by kernel_rfl) (by kernel_rfl) (fun _ _ _ h => h) (Or.inl ⟨by rfl, fun w _ => by go_simp⟩) hS ?_
                      try simp only [Act.put, List.getElem_toArray, List.getElem_cons_zero, List.getElem_cons_succ, List.setIfInBounds_toArray, List.set_cons_zero, List.set_cons_succ]
                      refine wpAnyH_take (i := 11) (v := .int .u8 (addS os ⟨true, 0, k, 0, 0, zs8 m⟩)) rfl (by kernel_rfl) (by kernel_rfl) (by kernel_rfl) (fun _ _ _ h => h) (Or.inl ⟨by rfl, fun w _ => by go_simp⟩) hS ?_
                      try simp only [Act.put, List.getElem_toArray, List.getElem_cons_zero, List.getElem_cons_succ, List.setIfInBounds_toArray, List.set_cons_zero, List.set_cons_succ]
                      refine wpAnyH_take (i := 12) (v := .int .i64 (addE os ⟨true, 0, k, 0, 0, zs8 m⟩)) rfl (by kernel_rfl) (by kernel_rfl) (by kernel_rfl) (fun _ _ _ h => h) (Or.inl ⟨by rfl, fun w _ => by go_simp⟩) hS ?_
                      try simp only [Act.put, List.getElem_toArray, List.getElem_cons_zero, List.getElem_cons_succ, List.setIfInBounds_toArray, List.set_cons_zero, List.set_cons_succ]
                      obtain ⟨oa2, cap2, rfl⟩ := hO2.form
                      refine wpAnyH_ready (rs := [14]) (by kernel_rfl) (by simp) ?_
                      refine AllReadyH.cons rfl (fun K hK => ?_) AllReadyH.nil
                      refine step_cells rfl 25 (.tmp 8) (.tmp 41) rfl (wk.heap.size) #[.int .u64 (addL 0 os ⟨true, 0, k, 0, 0, zs8 m⟩), .slice oa2 (addR os ⟨true, 0, k, 0, 0, zs8 m⟩).length cap2] rfl rfl 25 _ rP 2 size25 rfl rfl (by simp [Value.oneCell']) (hK.out _ _ (hS.set _ hP.out _ rP) fun hS => ?_)
                      try simp only [Act.put, List.getElem_toArray, List.getElem_cons_zero, List.getElem_cons_succ, List.setIfInBounds_toArray, List.set_cons_zero, List.set_cons_succ]
                      refine wpAnyH_take (i := 15) (v := .int .u8 (addS os ⟨true, 0, k, 0, 0, zs8 m⟩)) rfl (by kernel_rfl) (by kernel_rfl) (by kernel_rfl) (fun _ _ _ h => h) (Or.inl ⟨by rfl, fun w _ => by go_simp⟩) hS ?_
                      try simp only [Act.put, List.getElem_toArray, List.getElem_cons_zero, List.getElem_cons_succ, List.setIfInBounds_toArray, List.set_cons_zero, List.set_cons_succ]
                      refine wpAnyH_take (i := 16) (v := .int .i64 (addE os ⟨true, 0, k, 0, 0, zs8 m⟩)) rfl (by kernel_rfl) (by kernel_rfl) (by kernel_rfl) (fun _ _ _ h => h) (Or.inl ⟨by rfl, fun w _ => by go_simp⟩) hS ?_
                      try simp only [Act.put, List.getElem_toArray, List.getElem_cons_zero, List.getElem_cons_succ, List.setIfInBounds_toArray, List.set_cons_zero, List.set_cons_succ]
                      refine wpAnyH_done (by kernel_rfl) ?_ _
                      go_wp2
                      go_meet
                      exact ⟨_, _, rfl, rfl, hS, rP.set _, hO2.rowOther rP _⟩
                · go_simp
                  refine hK.out _ _ (hS.down ((Below.refl _ _).alloc (Nat.le_refl _) _)) fun hS => ?_
                  try simp only [Act.put, List.getElem_toArray, List.getElem_cons_zero, List.getElem_cons_succ, List.setIfInBounds_toArray, List.set_cons_zero, List.set_cons_succ]
                  have rP : Row ((wk).alloc (.cells #[.int .u64 0, .slice none 0 0] 25)) (wk.heap.size) #[.int .u64 0, .slice none 0 0] 25 := (show Row ((wk).alloc (.cells #[.int .u64 0, .slice none 0 0] 25)) (wk.heap.size) #[.int .u64 0, .slice none 0 0] 25 from by have := Row.new (wk) #[.int .u64 0, .slice none 0 0] 25; simpa using this)
                  have hP : Hid (w.heap.size + 1 ≤ wk.heap.size) := (by have := hWwk.out; show _ ≤ _; omega)
                  have hO1 := hO1.alloc (.cells #[.int .u64 0, .slice none 0 0] 25)
                  have rM := rM.alloc (.cells #[.int .u64 0, .slice none 0 0] 25)
                  refine wpAnyH_ready (rs := [6]) (by kernel_rfl) (by simp) ?_
                  refine AllReadyH.cons rfl (fun K hK => ?_) AllReadyH.nil
                  · refine step_of rfl (wp_conv (.tmp 37) rfl (wr.heap.size) m rfl rM (hK.out _ _ hS fun hS => ?_))
                    try simp only [Act.put, List.getElem_toArray, List.getElem_cons_zero, List.getElem_cons_succ, List.setIfInBounds_toArray, List.set_cons_zero, List.set_cons_succ]
                    refine wpAnyH_take (i := 7) (v := .agg #[.bool true, .int .u16 0, .int .u32 k, .int .u16 0, .int .u8 0, .string (zs8 m)]) rfl (by kernel_rfl) (by kernel_rfl) (by kernel_rfl) (fun _ _ _ h => h) (Or.inl ⟨by rfl, fun w _ => by go_simp⟩) hS ?_
                    try simp only [Act.put, List.getElem_toArray, List.getElem_cons_zero, List.getElem_cons_succ, List.setIfInBounds_toArray, List.set_cons_zero, List.set_cons_succ]
                    refine wpAnyH_ready (rs := [8]) (by kernel_rfl) (by simp) ?_
                    refine AllReadyH.cons rfl (fun K hK => ?_) AllReadyH.nil
                    · have hB8 := hS.row.lt
                      go_simp
                      go_at_call 8
                      refine (add_any 0 _ os ⟨true, 0, k, 0, 0, zs8 m⟩ _ hO1.olds).mono ?_
                      rintro e wd ⟨v2, rfl, hO2, b2⟩
                      refine hK.out _ _ (hS.down b2) fun hS => ?_
                      try simp only [Act.put, List.getElem_toArray, List.getElem_cons_zero, List.getElem_cons_succ, List.setIfInBounds_toArray, List.set_cons_zero, List.set_cons_succ]
                      have hWwd : Hid (w.heap.size + 1 ≤ wd.heap.size) := hS.row.lt
                      have hO2 := hO2.base hB8
                      have rP := rP.below b2 rP.lt
                      refine wpAnyH_take (i := 9) (v := .tuple #[.agg #[.int .u64 (addL 0 os ⟨true, 0, k, 0, 0, zs8 m⟩), v2], .int .u8 (addS os ⟨true, 0, k, 0, 0, zs8 m⟩), .int .i64 (addE os ⟨true, 0, k, 0, 0, zs8 m⟩)]) rfl (by kernel_rfl) (by kernel_rfl) (by kernel_rfl) (fun _ _ _ h => h) (Or.inl ⟨by rfl, fun w _ => by go_simp⟩) hS ?_
                      try simp only [Act.put, List.getElem_toArray, List.getElem_cons_zero, List.getElem_cons_succ, List.setIfInBounds_toArray, List.set_cons_zero, List.set_cons_succ]
                      refine wpAnyH_take (i := 10) (v := .agg #[.int .u64 (addL 0 os ⟨true, 0, k, 0, 0, zs8 m⟩), v2]) rfl (by kernel_rfl) (by kernel_rfl) (by kernel_rfl) (fun _ _ _ h => h) (Or.inl ⟨by rfl, fun w _ => by go_simp⟩) hS ?_
                      try simp only [Act.put, List.getElem_toArray, List.getElem_cons_zero, List.getElem_cons_succ, List.setIfInBounds_toArray, List.set_cons_zero, List.set_cons_succ]
                      refine wpAnyH_take (i := 11) (v := .int .u8 (addS os ⟨true, 0, k, 0, 0, zs8 m⟩)) rfl (by kernel_rfl) (by kernel_rfl) (by kernel_rfl) (fun _ _ _ h => h) (Or.inl ⟨by rfl, fun w _ => by go_simp⟩) hS ?_
                      try simp only [Act.put, List.getElem_toArray, List.getElem_cons_zero, List.getElem_cons_succ, List.setIfInBounds_toArray, List.set_cons_zero, List.set_cons_succ]
                      refine wpAnyH_take (i := 12) (v := .int .i64 (addE os ⟨true, 0, k, 0, 0, zs8 m⟩)) rfl (by kernel_rfl) (by kernel_rfl) (by kernel_rfl) (fun _ _ _ h => h) (Or.inl ⟨by rfl, fun w _ => by go_simp⟩) hS ?_
                      try simp only [Act.put, List.getElem_toArray, List.getElem_cons_zero, List.getElem_cons_succ, List.setIfInBounds_toArray, List.set_cons_zero, List.set_cons_succ]
                      obtain ⟨oa2, cap2, rfl⟩ := hO2.form
                      refine wpAnyH_ready (rs := [14]) (by kernel_rfl) (by simp) ?_
                      refine AllReadyH.cons rfl (fun K hK => ?_) AllReadyH.nil
                      refine step_cells rfl 25 (.tmp 8) (.tmp 41) rfl (wk.heap.size) #[.int .u64 (addL 0 os ⟨true, 0, k, 0, 0, zs8 m⟩), .slice oa2 (addR os ⟨true, 0, k, 0, 0, zs8 m⟩).length cap2] rfl rfl 25 _ rP 2 size25 rfl rfl (by simp [Value.oneCell']) (hK.out _ _ (hS.set _ hP.out _ rP) fun hS => ?_)
                      try simp only [Act.put, List.getElem_toArray, List.getElem_cons_zero, List.getElem_cons_succ, List.setIfInBounds_toArray, List.set_cons_zero, List.set_cons_succ]
                      refine wpAnyH_take (i := 15) (v := .int .u8 (addS os ⟨true, 0, k, 0, 0, zs8 m⟩)) rfl (by kernel_rfl) (by kernel_rfl) (by kernel_rfl) (fun _ _ _ h => h) (Or.inl ⟨by rfl, fun w _ => by go_simp⟩) hS ?_
                      try simp only [Act.put, List.getElem_toArray, List.getElem_cons_zero, List.getElem_cons_succ, List.setIfInBounds_toArray, List.set_cons_zero, List.set_cons_succ]
                      refine wpAnyH_take (i := 16) (v := .int .i64 (addE os ⟨true, 0, k, 0, 0, zs8 m⟩)) rfl (by kernel_rfl) (by kernel_rfl) (by kernel_rfl) (fun _ _ _ h => h) (Or.inl ⟨by rfl, fun w _ => by go_simp⟩) hS ?_
                      try simp only [Act.put, List.getElem_toArray, List.getElem_cons_zero, List.getElem_cons_succ, List.setIfInBounds_toArray, List.set_cons_zero, List.set_cons_succ]
                      refine wpAnyH_done (by kernel_rfl) ?_ _
                      go_wp2
                      go_meet
                      exact ⟨_, _, rfl, rfl, hS, rP.set _, hO2.rowOther rP _⟩
              · refine step_of rfl (wp_conv (.tmp 37) rfl (wr.heap.size) m rfl rM (hK.out _ _ hS fun hS => ?_))
                try simp only [Act.put, List.getElem_toArray, List.getElem_cons_zero, List.getElem_cons_succ, List.setIfInBounds_toArray, List.set_cons_zero, List.set_cons_succ]
                refine wpAnyH_take (i := 7) (v := .agg #[.bool true, .int .u16 0, .int .u32 k, .int .u16 0, .int .u8 0, .string (zs8 m)]) rfl (by kernel_rfl) (by kernel_rfl) (by kernel_rfl) (fun _ _ _ h => h) (Or.inl ⟨by rfl, fun w _ => by go_simp⟩) hS ?_
                try simp only [Act.put, List.getElem_toArray, List.getElem_cons_zero, List.getElem_cons_succ, List.setIfInBounds_toArray, List.set_cons_zero, List.set_cons_succ]
                refine wpAnyH_ready (rs := [1, 13]) (by kernel_rfl) (by simp) ?_
                refine AllReadyH.cons rfl (fun K hK => ?_) (AllReadyH.cons rfl (fun K hK => ?_) AllReadyH.nil)
                · go_simp
                  go_at_call 9
                  refine (kept_any 0 _ os _ hS.own.olds hn1).mono ?_
                  rintro e wk ⟨v1, rfl, hO1, b1⟩
                  refine hK.out _ _ (hS.down b1) fun hS => ?_
                  try simp only [Act.put, List.getElem_toArray, List.getElem_cons_zero, List.getElem_cons_succ, List.setIfInBounds_toArray, List.set_cons_zero, List.set_cons_succ]
                  have hWwk : Hid (w.heap.size + 1 ≤ wk.heap.size) := hS.row.lt
                  have rM := rM.below b1 rM.lt
                  refine wpAnyH_ready (rs := [8, 13]) (by kernel_rfl) (by simp) ?_
                  refine AllReadyH.cons rfl (fun K hK => ?_) (AllReadyH.cons rfl (fun K hK => ?_) AllReadyH.nil)
                  · have hB8 := hS.row.lt
                    go_simp
                    go_at_call 8
                    refine (add_any 0 _ os ⟨true, 0, k, 0, 0, zs8 m⟩ _ hO1.olds).mono ?_
                    rintro e wd ⟨v2, rfl, hO2, b2⟩
                    refine hK.out _ _ (hS.down b2) fun hS => ?_
                    try simp only [Act.put, List.getElem_toArray, List.getElem_cons_zero, List.getElem_cons_succ, List.setIfInBounds_toArray, List.set_cons_zero, List.set_cons_succ]
                    have hWwd : Hid (w.heap.size + 1 ≤ wd.heap.size) := hS.row.lt
                    have hO2 := hO2.base hB8
                    refine wpAnyH_take (i := 9) (v := .tuple #[.agg #[.int .u64 (addL 0 os ⟨true, 0, k, 0, 0, zs8 m⟩), v2], .int .u8 (addS os ⟨true, 0, k, 0, 0, zs8 m⟩), .int .i64 (addE os ⟨true, 0, k, 0, 0, zs8 m⟩)]) rfl (by kernel_rfl) (by kernel_rfl) (by kernel_rfl) (fun _ _ _ h => h) (Or.inl ⟨by rfl, fun w _ => by go_simp⟩) hS ?_
                    try simp only [Act.put, List.getElem_toArray, List.getElem_cons_zero, List.getElem_cons_succ, List.setIfInBounds_toArray, List.set_cons_zero, List.set_cons_succ]
                    refine wpAnyH_take (i := 10) (v := .agg #[.int .u64 (addL 0 os ⟨true, 0, k, 0, 0, zs8 m⟩), v2]) rfl (by kernel_rfl) (by kernel_rfl) (by kernel_rfl) (fun _ _ _ h => h) (Or.inl ⟨by rfl, fun w _ => by go_simp⟩) hS ?_
                    try simp only [Act.put, List.getElem_toArray, List.getElem_cons_zero, List.getElem_cons_succ, List.setIfInBounds_toArray, List.set_cons_zero, List.set_cons_succ]
                    refine wpAnyH_take (i := 11) (v := .int .u8 (addS os ⟨true, 0, k, 0, 0, zs8 m⟩)) rfl (by kernel_rfl) (by kernel_rfl) (by kernel_rfl) (fun _ _ _ h => h) (Or.inl ⟨by rfl, fun w _ => by go_simp⟩) hS ?_
                    try simp only [Act.put, List.getElem_toArray, List.getElem_cons_zero, List.getElem_cons_succ, List.setIfInBounds_toArray, List.set_cons_zero, List.set_cons_succ]
                    refine wpAnyH_take (i := 12) (v := .int .i64 (addE os ⟨true, 0, k, 0, 0, zs8 m⟩)) rfl (by kernel_rfl) (by kernel_rfl) (by kernel_rfl) (fun _ _ _ h => h) (Or.inl ⟨by rfl, fun w _ => by go_simp⟩) hS ?_
                    try simp only [Act.put, List.getElem_toArray, List.getElem_cons_zero, List.getElem_cons_succ, List.setIfInBounds_toArray, List.set_cons_zero, List.set_cons_succ]
                    refine wpAnyH_ready (rs := [13]) (by kernel_rfl) (by simp) ?_
                    refine AllReadyH.cons rfl (fun K hK => ?_) AllReadyH.nil
                    · go_simp
                      refine hK.out _ _ (hS.down ((Below.refl _ _).alloc (Nat.le_refl _) _)) fun hS => ?_
                      try simp only [Act.put, List.getElem_toArray, List.getElem_cons_zero, List.getElem_cons_succ, List.setIfInBounds_toArray, List.set_cons_zero, List.set_cons_succ]
                      have rP : Row ((wd).alloc (.cells #[.int .u64 0, .slice none 0 0] 25)) (wd.heap.size) #[.int .u64 0, .slice none 0 0] 25 := (show Row ((wd).alloc (.cells #[.int .u64 0, .slice none 0 0] 25)) (wd.heap.size) #[.int .u64 0, .slice none 0 0] 25 from by have := Row.new (wd) #[.int .u64 0, .slice none 0 0] 25; simpa using this)
                      have hP : Hid (w.heap.size + 1 ≤ wd.heap.size) := (by have := hWwd.out; show _ ≤ _; omega)
                      have hO2 := hO2.alloc (.cells #[.int .u64 0, .slice none 0 0] 25)
                      obtain ⟨oa2, cap2, rfl⟩ := hO2.form
                      refine wpAnyH_ready (rs := [14]) (by kernel_rfl) (by simp) ?_
                      refine AllReadyH.cons rfl (fun K hK => ?_) AllReadyH.nil
                      refine step_cells rfl 25 (.tmp 8) (.tmp 41) rfl (wd.heap.size) #[.int .u64 (addL 0 os ⟨true, 0, k, 0, 0, zs8 m⟩), .slice oa2 (addR os ⟨true, 0, k, 0, 0, zs8 m⟩).length cap2] rfl rfl 25 _ rP 2 size25 rfl rfl (by simp [Value.oneCell']) (hK.out _ _ (hS.set _ hP.out _ rP) fun hS => ?_)
                      try simp only [Act.put, List.getElem_toArray, List.getElem_cons_zero, List.getElem_cons_succ, List.setIfInBounds_toArray, List.set_cons_zero, List.set_cons_succ]
                      refine wpAnyH_take (i := 15) (v := .int .u8 (addS os ⟨true, 0, k, 0, 0, zs8 m⟩)) rfl (by kernel_rfl) (by kernel_rfl) (by kernel_rfl) (fun _ _ _ h => h) (Or.inl ⟨by rfl, fun w _ => by go_simp⟩) hS ?_
                      try simp only [Act.put, List.getElem_toArray, List.getElem_cons_zero, List.getElem_cons_succ, List.setIfInBounds_toArray, List.set_cons_zero, List.set_cons_succ]
                      refine wpAnyH_take (i := 16) (v := .int .i64 (addE os ⟨true, 0, k, 0, 0, zs8 m⟩)) rfl (by kernel_rfl) (by kernel_rfl) (by kernel_rfl) (fun _ _ _ h => h) (Or.inl ⟨by rfl, fun w _ => by go_simp⟩) hS ?_
                      try simp only [Act.put, List.getElem_toArray, List.getElem_cons_zero, List.getElem_cons_succ, List.setIfInBounds_toArray, List.set_cons_zero, List.set_cons_succ]
                      refine wpAnyH_done (by kernel_rfl) ?_ _
                      go_wp2
                      go_meet
                      exact ⟨_, _, rfl, rfl, hS, rP.set _, hO2.rowOther rP _⟩
                  · go_simp
                    refine hK.out _ _ (hS.down ((Below.refl _ _).alloc (Nat.le_refl _) _)) fun hS => ?_
                    try simp only [Act.put, List.getElem_toArray, List.getElem_cons_zero, List.getElem_cons_succ, List.setIfInBounds_toArray, List.set_cons_zero, List.set_cons_succ]
                    have rP : Row ((wk).alloc (.cells #[.int .u64 0, .slice none 0 0] 25)) (wk.heap.size) #[.int .u64 0, .slice none 0 0] 25 := (show Row ((wk).alloc (.cells #[.int .u64 0, .slice none 0 0] 25)) (wk.heap.size) #[.int .u64 0, .slice none 0 0] 25 from by have := Row.new (wk) #[.int .u64 0, .slice none 0 0] 25; simpa using this)
                    have hP : Hid (w.heap.size + 1 ≤ wk.heap.size) := (by have := hWwk.out; show _ ≤ _; omega)
                    have hO1 := hO1.alloc (.cells #[.int .u64 0, .slice none 0 0] 25)
                    have rM := rM.alloc (.cells #[.int .u64 0, .slice none 0 0] 25)
                    refine wpAnyH_ready (rs := [8]) (by kernel_rfl) (by simp) ?_
                    refine AllReadyH.cons rfl (fun K hK => ?_) AllReadyH.nil
                    · have hB8 := hS.row.lt
                      go_simp
                      go_at_call 8
                      refine (add_any 0 _ os ⟨true, 0, k, 0, 0, zs8 m⟩ _ hO1.olds).mono ?_
                      rintro e wd ⟨v2, rfl, hO2, b2⟩
                      refine hK.out _ _ (hS.down b2) fun hS => ?_
                      try simp only [Act.put, List.getElem_toArray, List.getElem_cons_zero, List.getElem_cons_succ, List.setIfInBounds_toArray, List.set_cons_zero, List.set_cons_succ]
                      have hWwd : Hid (w.heap.size + 1 ≤ wd.heap.size) := hS.row.lt
                      have hO2 := hO2.base hB8
                      have rP := rP.below b2 rP.lt
                      refine wpAnyH_take (i := 9) (v := .tuple #[.agg #[.int .u64 (addL 0 os ⟨true, 0, k, 0, 0, zs8 m⟩), v2], .int .u8 (addS os ⟨true, 0, k, 0, 0, zs8 m⟩), .int .i64 (addE os ⟨true, 0, k, 0, 0, zs8 m⟩)]) rfl (by kernel_rfl) (by kernel_rfl) (by kernel_rfl) (fun _ _ _ h => h) (Or.inl ⟨by rfl, fun w _ => by go_simp⟩) hS ?_
                      try simp only [Act.put, List.getElem_toArray, List.getElem_cons_zero, List.getElem_cons_succ, List.setIfInBounds_toArray, List.set_cons_zero, List.set_cons_succ]
                      refine wpAnyH_take (i := 10) (v := .agg #[.int .u64 (addL 0 os ⟨true, 0, k, 0, 0, zs8 m⟩), v2]) rfl (by kernel_rfl) (by kernel_rfl) (by kernel_rfl) (fun _ _ _ h => h) (Or.inl ⟨by rfl, fun w _ => by go_simp⟩) hS ?_
                      try simp only [Act.put, List.getElem_toArray, List.getElem_cons_zero, List.getElem_cons_succ, List.setIfInBounds_toArray, List.set_cons_zero, List.set_cons_succ]
                      refine wpAnyH_take (i := 11) (v := .int .u8 (addS os ⟨true, 0, k, 0, 0, zs8 m⟩)) rfl (by kernel_rfl) (by kernel_rfl) (by kernel_rfl) (fun _ _ _ h => h) (Or.inl ⟨by rfl, fun w _ => by go_simp⟩) hS ?_
                      try simp only [Act.put, List.getElem_toArray, List.getElem_cons_zero, List.getElem_cons_succ, List.setIfInBounds_toArray, List.set_cons_zero, List.set_cons_succ]
                      refine wpAnyH_take (i := 12) (v := .int .i64 (addE os ⟨true, 0, k, 0, 0, zs8 m⟩)) rfl (by kernel_rfl) (by kernel_rfl) (by kernel_rfl) (fun _ _ _ h => h) (Or.inl ⟨by rfl, fun w _ => by go_simp⟩) hS ?_
                      try simp only [Act.put, List.getElem_toArray, List.getElem_cons_zero, List.getElem_cons_succ, List.setIfInBounds_toArray, List.set_cons_zero, List.set_cons_succ]
                      obtain ⟨oa2, cap2, rfl⟩ := hO2.form
                      refine wpAnyH_ready (rs := [14]) (by kernel_rfl) (by simp) ?_
                      refine AllReadyH.cons rfl (fun K hK => ?_) AllReadyH.nil
                      refine step_cells rfl 25 (.tmp 8) (.tmp 41) rfl (wk.heap.size) #[.int .u64 (addL 0 os ⟨true, 0, k, 0, 0, zs8 m⟩), .slice oa2 (addR os ⟨true, 0, k, 0, 0, zs8 m⟩).length cap2] rfl rfl 25 _ rP 2 size25 rfl rfl (by simp [Value.oneCell']) (hK.out _ _ (hS.set _ hP.out _ rP) fun hS => ?_)
                      try simp only [Act.put, List.getElem_toArray, List.getElem_cons_zero, List.getElem_cons_succ, List.setIfInBounds_toArray, List.set_cons_zero, List.set_cons_succ]
                      refine wpAnyH_take (i := 15) (v := .int .u8 (addS os ⟨true, 0, k, 0, 0, zs8 m⟩)) rfl (by kernel_rfl) (by kernel_rfl) (by kernel_rfl) (fun _ _ _ h => h) (Or.inl ⟨by rfl, fun w _ => by go_simp⟩) hS ?_
                      try simp only [Act.put, List.getElem_toArray, List.getElem_cons_zero, List.getElem_cons_succ, List.setIfInBounds_toArray, List.set_cons_zero, List.set_cons_succ]
                      refine wpAnyH_take (i := 16) (v := .int .i64 (addE os ⟨true, 0, k, 0, 0, zs8 m⟩)) rfl (by kernel_rfl) (by kernel_rfl) (by kernel_rfl) (fun _ _ _ h => h) (Or.inl ⟨by rfl, fun w _ => by go_simp⟩) hS ?_
                      try simp only [Act.put, List.getElem_toArray, List.getElem_cons_zero, List.getElem_cons_succ, List.setIfInBounds_toArray, List.set_cons_zero, List.set_cons_succ]
                      refine wpAnyH_done (by kernel_rfl) ?_ _
                      go_wp2
                      go_meet
                      exact ⟨_, _, rfl, rfl, hS, rP.set _, hO2.rowOther rP _⟩
                · go_simp
                  refine hK.out _ _ (hS.down ((Below.refl _ _).alloc (Nat.le_refl _) _)) fun hS => ?_
                  try simp only [Act.put, List.getElem_toArray, List.getElem_cons_zero, List.getElem_cons_succ, List.setIfInBounds_toArray, List.set_cons_zero, List.set_cons_succ]
                  have rP : Row ((((wr).alloc (.cells (madeCells #[.int .u8 0] m) 5)).alloc (.cells #[.int .u64 0, .slice none 0 0] 25)).drew) (wr.heap.size + 1) #[.int .u64 0, .slice none 0 0] 25 := (show Row (((wr).alloc (.cells (madeCells #[.int .u8 0] m) 5)).alloc (.cells #[.int .u64 0, .slice none 0 0] 25)) (wr.heap.size + 1) #[.int .u64 0, .slice none 0 0] 25 from by have := Row.new ((wr).alloc (.cells (madeCells #[.int .u8 0] m) 5)) #[.int .u64 0, .slice none 0 0] 25; simpa using this)
                  have hP : Hid (w.heap.size + 1 ≤ wr.heap.size + 1) := (by have := hWwr.out; show _ ≤ _; omega)
                  have rM := rM.alloc (.cells #[.int .u64 0, .slice none 0 0] 25)
                  refine wpAnyH_ready (rs := [1]) (by kernel_rfl) (by simp) ?_
                  refine AllReadyH.cons rfl (fun K hK => ?_) AllReadyH.nil
                  · go_simp
                    go_at_call 9
                    refine (kept_any 0 _ os _ hS.own.olds hn1).mono ?_
                    rintro e wk ⟨v1, rfl, hO1, b1⟩
                    refine hK.out _ _ (hS.down b1) fun hS => ?_
                    try simp only [Act.put, List.getElem_toArray, List.getElem_cons_zero, List.getElem_cons_succ, List.setIfInBounds_toArray, List.set_cons_zero, List.set_cons_succ]
                    have hWwk : Hid (w.heap.size + 1 ≤ wk.heap.size) := hS.row.lt
                    have rM := rM.below b1 rM.lt
                    have rP := rP.below b1 rP.lt
                    refine wpAnyH_ready (rs := [8]) (by kernel_rfl) (by simp) ?_
                    refine AllReadyH.cons rfl (fun K hK => ?_) AllReadyH.nil
                    · have hB8 := hS.row.lt
                      go_simp
                      go_at_call 8
                      refine (add_any 0 _ os ⟨true, 0, k, 0, 0, zs8 m⟩ _ hO1.olds).mono ?_
                      rintro e wd ⟨v2, rfl, hO2, b2⟩
                      refine hK.out _ _ (hS.down b2) fun hS => ?_
                      try simp only [Act.put, List.getElem_toArray, List.getElem_cons_zero, List.getElem_cons_succ, List.setIfInBounds_toArray, List.set_cons_zero, List.set_cons_succ]
                      have hWwd : Hid (w.heap.size + 1 ≤ wd.heap.size) := hS.row.lt
                      have hO2 := hO2.base hB8
                      have rP := rP.below b2 rP.lt
                      refine wpAnyH_take (i := 9) (v := .tuple #[.agg #[.int .u64 (addL 0 os ⟨true, 0, k, 0, 0, zs8 m⟩), v2], .int .u8 (addS os ⟨true, 0, k, 0, 0, zs8 m⟩), .int .i64 (addE os ⟨true, 0, k, 0, 0, zs8 m⟩)]) rfl (by kernel_rfl) (by kernel_rfl) (by kernel_rfl) (fun _ _ _ h => h) (Or.inl ⟨by rfl, fun w _ => by go_simp⟩) hS ?_
                      try simp only [Act.put, List.getElem_toArray, List.getElem_cons_zero, List.getElem_cons_succ, List.setIfInBounds_toArray, List.set_cons_zero, List.set_cons_succ]
                      refine wpAnyH_take (i := 10) (v := .agg #[.int .u64 (addL 0 os ⟨true, 0, k, 0, 0, zs8 m⟩), v2]) rfl (by kernel_rfl) (by kernel_rfl) (by kernel_rfl) (fun _ _ _ h => h) (Or.inl ⟨by rfl, fun w _ => by go_simp⟩) hS ?_
                      try simp only [Act.put, List.getElem_toArray, List.getElem_cons_zero, List.getElem_cons_succ, List.setIfInBounds_toArray, List.set_cons_zero, List.set_cons_succ]
                      refine wpAnyH_take (i := 11) (v := .int .u8 (addS os ⟨true, 0, k, 0, 0, zs8 m⟩)) rfl (by kernel_rfl) (by kernel_rfl) (by kernel_rfl) (fun _ _ _ h => h) (Or.inl ⟨by rfl, fun w _ => by go_simp⟩) hS ?_
                      try simp only [Act.put, List.getElem_toArray, List.getElem_cons_zero, List.getElem_cons_succ, List.setIfInBounds_toArray, List.set_cons_zero, List.set_cons_succ]
                      refine wpAnyH_take (i := 12) (v := .int .i64 (addE os ⟨true, 0, k, 0, 0, zs8 m⟩)) rfl (by kernel_rfl) (by kernel_rfl) (by kernel_rfl) (fun _ _ _ h => h) (Or.inl ⟨by rfl, fun w _ => by go_simp⟩) hS ?_
                      try simp only [Act.put, List.getElem_toArray, List.getElem_cons_zero, List.getElem_cons_succ, List.setIfInBounds_toArray, List.set_cons_zero, List.set_cons_succ]
                      obtain ⟨oa2, cap2, rfl⟩ := hO2.form
                      refine wpAnyH_ready (rs := [14]) (by kernel_rfl) (by simp) ?_
                      refine AllReadyH.cons rfl (fun K hK => ?_) AllReadyH.nil
                      refine step_cells rfl 25 (.tmp 8) (.tmp 41) rfl (wr.heap.size + 1) #[.int .u64 (addL 0 os ⟨true, 0, k, 0, 0, zs8 m⟩), .slice oa2 (addR os ⟨true, 0, k, 0, 0, zs8 m⟩).length cap2] rfl rfl 25 _ rP 2 size25 rfl rfl (by simp [Value.oneCell']) (hK.out _ _ (hS.set _ hP.out _ rP) fun hS => ?_)
                      try simp only [Act.put, List.getElem_toArray, List.getElem_cons_zero, List.getElem_cons_succ, List.setIfInBounds_toArray, List.set_cons_zero, List.set_cons_succ]
                      refine wpAnyH_take (i := 15) (v := .int .u8 (addS os ⟨true, 0, k, 0, 0, zs8 m⟩)) rfl (by kernel_rfl) (by kernel_rfl) (by kernel_rfl) (fun _ _ _ h => h) (Or.inl ⟨by rfl, fun w _ => by go_simp⟩) hS ?_
                      try simp only [Act.put, List.getElem_toArray, List.getElem_cons_zero, List.getElem_cons_succ, List.setIfInBounds_toArray, List.set_cons_zero, List.set_cons_succ]
                      refine wpAnyH_take (i := 16) (v := .int .i64 (addE os ⟨true, 0, k, 0, 0, zs8 m⟩)) rfl (by kernel_rfl) (by kernel_rfl) (by kernel_rfl) (fun _ _ _ h => h) (Or.inl ⟨by rfl, fun w _ => by go_simp⟩) hS ?_
                      try simp only [Act.put, List.getElem_toArray, List.getElem_cons_zero, List.getElem_cons_succ, List.setIfInBounds_toArray, List.set_cons_zero, List.set_cons_succ]
                      refine wpAnyH_done (by kernel_rfl) ?_ _
                      go_wp2
                      go_meet
                      exact ⟨_, _, rfl, rfl, hS, rP.set _, hO2.rowOther rP _⟩
              · go_simp
                refine hK.out _ _ (hS.down ((Below.refl _ _).alloc (Nat.le_refl _) _)) fun hS => ?_
                try simp only [Act.put, List.getElem_toArray, List.getElem_cons_zero, List.getElem_cons_succ, List.setIfInBounds_toArray, List.set_cons_zero, List.set_cons_succ]
                have rP : Row ((((wr).alloc (.cells (madeCells #[.int .u8 0] m) 5)).alloc (.cells #[.int .u64 0, .slice none 0 0] 25)).drew) (wr.heap.size + 1) #[.int .u64 0, .slice none 0 0] 25 := (show Row (((wr).alloc (.cells (madeCells #[.int .u8 0] m) 5)).alloc (.cells #[.int .u64 0, .slice none 0 0] 25)) (wr.heap.size + 1) #[.int .u64 0, .slice none 0 0] 25 from by have := Row.new ((wr).alloc (.cells (madeCells #[.int .u8 0] m) 5)) #[.int .u64 0, .slice none 0 0] 25; simpa using this)
                have hP : Hid (w.heap.size + 1 ≤ wr.heap.size + 1) := (by have := hWwr.out; show _ ≤ _; omega)
                have rM := rM.alloc (.cells #[.int .u64 0, .slice none 0 0] 25)
                refine wpAnyH_ready (rs := [1, 6]) (by kernel_rfl) (by simp) ?_
                refine AllReadyH.cons rfl (fun K hK => ?_) (AllReadyH.cons rfl (fun K hK => ?_) AllReadyH.nil)
                · go_simp
                  go_at_call 9
                  refine (kept_any 0 _ os _ hS.own.olds hn1).mono ?_
                  rintro e wk ⟨v1, rfl, hO1, b1⟩
                  refine hK.out _ _ (hS.down b1) fun hS => ?_
                  try simp only [Act.put, List.getElem_toArray, List.getElem_cons_zero, List.getElem_cons_succ, List.setIfInBounds_toArray, List.set_cons_zero, List.set_cons_succ]
                  have hWwk : Hid (w.heap.size + 1 ≤ wk.heap.size) := hS.row.lt
                  have rM := rM.below b1 rM.lt
                  have rP := rP.below b1 rP.lt
                  refine wpAnyH_ready (rs := [6]) (by kernel_rfl) (by simp) ?_
                  refine AllReadyH.cons rfl (fun K hK => ?_) AllReadyH.nil
                  · refine step_of rfl (wp_conv (.tmp 37) rfl (wr.heap.size) m rfl rM (hK.out _ _ hS fun hS => ?_))
                    try simp only [Act.put, List.getElem_toArray, List.getElem_cons_zero, List.getElem_cons_succ, List.setIfInBounds_toArray, List.set_cons_zero, List.set_cons_succ]
                    refine wpAnyH_take (i := 7) (v := .agg #[.bool true, .int .u16 0, .int .u32 k, .int .u16 0, .int .u8 0, .string (zs8 m)]) rfl (by kernel_rfl) (by kernel_rfl) (by kernel_rfl) (fun _ _ _ h => h) (Or.inl ⟨by rfl, fun w _ => by go_simp⟩) hS ?_
                    try simp only [Act.put, List.getElem_toArray, List.getElem_cons_zero, List.getElem_cons_succ, List.setIfInBounds_toArray, List.set_cons_zero, List.set_cons_succ]
                    refine wpAnyH_ready (rs := [8]) (by kernel_rfl) (by simp) ?_
                    refine AllReadyH.cons rfl (fun K hK => ?_) AllReadyH.nil
                    · have hB8 := hS.row.lt
                      go_simp
                      go_at_call 8
                      refine (add_any 0 _ os ⟨true, 0, k, 0, 0, zs8 m⟩ _ hO1.olds).mono ?_
                      rintro e wd ⟨v2, rfl, hO2, b2⟩
                      refine hK.out _ _ (hS.down b2) fun hS => ?_
                      try simp only [Act.put, List.getElem_toArray, List.getElem_cons_zero, List.getElem_cons_succ, List.setIfInBounds_toArray, List.set_cons_zero, List.set_cons_succ]
                      have hWwd : Hid (w.heap.size + 1 ≤ wd.heap.size) := hS.row.lt
                      have hO2 := hO2.base hB8
                      have rP := rP.below b2 rP.lt
                      refine wpAnyH_take (i := 9) (v := .tuple #[.agg #[.int .u64 (addL 0 os ⟨true, 0, k, 0, 0, zs8 m⟩), v2], .int .u8 (addS os ⟨true, 0, k, 0, 0, zs8 m⟩), .int .i64 (addE os ⟨true, 0, k, 0, 0, zs8 m⟩)]) rfl (by kernel_rfl) (by kernel_rfl) (by kernel_rfl) (fun _ _ _ h => h) (Or.inl ⟨by rfl, fun w _ => by go_simp⟩) hS ?_
                      try simp only [Act.put, List.getElem_toArray, List.getElem_cons_zero, List.getElem_cons_succ, List.setIfInBounds_toArray, List.set_cons_zero, List.set_cons_succ]
                      refine wpAnyH_take (i := 10) (v := .agg #[.int .u64 (addL 0 os ⟨true, 0, k, 0, 0, zs8 m⟩), v2]) rfl (by kernel_rfl) (by kernel_rfl) (by kernel_rfl) (fun _ _ _ h => h) (Or.inl ⟨by rfl, fun w _ => by go_simp⟩) hS ?_
                      try simp only [Act.put, List.getElem_toArray, List.getElem_cons_zero, List.getElem_cons_succ, List.setIfInBounds_toArray, List.set_cons_zero, List.set_cons_succ]
                      refine wpAnyH_take (i := 11) (v := .int .u8 (addS os ⟨true, 0, k, 0, 0, zs8 m⟩)) rfl (by kernel_rfl) (by kernel_rfl) (by kernel_rfl) (fun _ _ _ h => h) (Or.inl ⟨by rfl, fun w _ => by go_simp⟩) hS ?_
                      try simp only [Act.put, List.getElem_toArray, List.getElem_cons_zero, List.getElem_cons_succ, List.setIfInBounds_toArray, List.set_cons_zero, List.set_cons_succ]
                      refine wpAnyH_take (i := 12) (v := .int .i64 (addE os ⟨true, 0, k, 0, 0, zs8 m⟩)) rfl (by kernel_rfl) (by kernel_rfl) (by kernel_rfl) (fun _ _ _ h => h) (Or.inl ⟨by rfl, fun w _ => by go_simp⟩) hS ?_
                      try simp only [Act.put, List.getElem_toArray, List.getElem_cons_zero, List.getElem_cons_succ, List.setIfInBounds_toArray, List.set_cons_zero, List.set_cons_succ]
                      obtain ⟨oa2, cap2, rfl⟩ := hO2.form
                      refine wpAnyH_ready (rs := [14]) (by kernel_rfl) (by simp) ?_
                      refine AllReadyH.cons rfl (fun K hK => ?_) AllReadyH.nil
                      refine step_cells rfl 25 (.tmp 8) (.tmp 41) rfl (wr.heap.size + 1) #[.int .u64 (addL 0 os ⟨true, 0, k, 0, 0, zs8 m⟩), .slice oa2 (addR os ⟨true, 0, k, 0, 0, zs8 m⟩).length cap2] rfl rfl 25 _ rP 2 size25 rfl rfl (by simp [Value.oneCell']) (hK.out _ _ (hS.set _ hP.out _ rP) fun hS => ?_)
                      try simp only [Act.put, List.getElem_toArray, List.getElem_cons_zero, List.getElem_cons_succ, List.setIfInBounds_toArray, List.set_cons_zero, List.set_cons_succ]
                      refine wpAnyH_take (i := 15) (v := .int .u8 (addS os ⟨true, 0, k, 0, 0, zs8 m⟩)) rfl (by kernel_rfl) (by kernel_rfl) (by kernel_rfl) (fun _ _ _ h => h) (Or.inl ⟨by rfl, fun w _ => by go_simp⟩) hS ?_
                      try simp only [Act.put, List.getElem_toArray, List.getElem_cons_zero, List.getElem_cons_succ, List.setIfInBounds_toArray, List.set_cons_zero, List.set_cons_succ]
                      refine wpAnyH_take (i := 16) (v := .int .i64 (addE os ⟨true, 0, k, 0, 0, zs8 m⟩)) rfl (by kernel_rfl) (by kernel_rfl) (by kernel_rfl) (fun _ _ _ h => h) (Or.inl ⟨by rfl, fun w _ => by go_simp⟩) hS ?_
                      try simp only [Act.put, List.getElem_toArray, List.getElem_cons_zero, List.getElem_cons_succ, List.setIfInBounds_toArray, List.set_cons_zero, List.set_cons_succ]
                      refine wpAnyH_done (by kernel_rfl) ?_ _
                      go_wp2
                      go_meet
                      exact ⟨_, _, rfl, rfl, hS, rP.set _, hO2.rowOther rP _⟩
                · refine step_of rfl (wp_conv (.tmp 37) rfl (wr.heap.size) m rfl rM (hK.out _ _ hS fun hS => ?_))
                  try simp only [Act.put, List.getElem_toArray, List.getElem_cons_zero, List.getElem_cons_succ, List.setIfInBounds_toArray, List.set_cons_zero, List.set_cons_succ]
                  refine wpAnyH_take (i := 7) (v := .agg #[.bool true, .int .u16 0, .int .u32 k, .int .u16 0, .int .u8 0, .string (zs8 m)]) rfl (by kernel_rfl) (by kernel_rfl) (by kernel_rfl) (fun _ _ _ h => h) (Or.inl ⟨by rfl, fun w _ => by go_simp⟩) hS ?_
                  try simp only [Act.put, List.getElem_toArray, List.getElem_cons_zero, List.getElem_cons_succ, List.setIfInBounds_toArray, List.set_cons_zero, List.set_cons_succ]
                  refine wpAnyH_ready (rs := [1]) (by kernel_rfl) (by simp) ?_
                  refine AllReadyH.cons rfl (fun K hK => ?_) AllReadyH.nil
                  · go_simp
                    go_at_call 9
                    refine (kept_any 0 _ os _ hS.own.olds hn1).mono ?_
                    rintro e wk ⟨v1, rfl, hO1, b1⟩
                    refine hK.out _ _ (hS.down b1) fun hS => ?_
                    try simp only [Act.put, List.getElem_toArray, List.getElem_cons_zero, List.getElem_cons_succ, List.setIfInBounds_toArray, List.set_cons_zero, List.set_cons_succ]
                    have hWwk : Hid (w.heap.size + 1 ≤ wk.heap.size) := hS.row.lt
                    have rM := rM.below b1 rM.lt
                    have rP := rP.below b1 rP.lt
                    refine wpAnyH_ready (rs := [8]) (by kernel_rfl) (by simp) ?_
                    refine AllReadyH.cons rfl (fun K hK => ?_) AllReadyH.nil
                    · have hB8 := hS.row.lt
                      go_simp
                      go_at_call 8
                      refine (add_any 0 _ os ⟨true, 0, k, 0, 0, zs8 m⟩ _ hO1.olds).mono ?_
                      rintro e wd ⟨v2, rfl, hO2, b2⟩
                      refine hK.out _ _ (hS.down b2) fun hS => ?_
                      try simp only [Act.put, List.getElem_toArray, List.getElem_cons_zero, List.getElem_cons_succ, List.setIfInBounds_toArray, List.set_cons_zero, List.set_cons_succ]
                      have hWwd : Hid (w.heap.size + 1 ≤ wd.heap.size) := hS.row.lt
                      have hO2 := hO2.base hB8
                      have rP := rP.below b2 rP.lt
                      refine wpAnyH_take (i := 9) (v := .tuple #[.agg #[.int .u64 (addL 0 os ⟨true, 0, k, 0, 0, zs8 m⟩), v2], .int .u8 (addS os ⟨true, 0, k, 0, 0, zs8 m⟩), .int .i64 (addE os ⟨true, 0, k, 0, 0, zs8 m⟩)]) rfl (by kernel_rfl) (by kernel_rfl) (by kernel_rfl) (fun _ _ _ h => h) (Or.inl ⟨by rfl, fun w _ => by go_simp⟩) hS ?_
                      try simp only [Act.put, List.getElem_toArray, List.getElem_cons_zero, List.getElem_cons_succ, List.setIfInBounds_toArray, List.set_cons_zero, List.set_cons_succ]
                      refine wpAnyH_take (i := 10) (v := .agg #[.int .u64 (addL 0 os ⟨true, 0, k, 0, 0, zs8 m⟩), v2]) rfl (by kernel_rfl) (by kernel_rfl) (by kernel_rfl) (fun _ _ _ h => h) (Or.inl ⟨by rfl, fun w _ => by go_simp⟩) hS ?_
                      try simp only [Act.put, List.getElem_toArray, List.getElem_cons_zero, List.getElem_cons_succ, List.setIfInBounds_toArray, List.set_cons_zero, List.set_cons_succ]
                      refine wpAnyH_take (i := 11) (v := .int .u8 (addS os ⟨true, 0, k, 0, 0, zs8 m⟩)) rfl (by kernel_rfl) (by kernel_rfl) (by kernel_rfl) (fun _ _ _ h => h) (Or.inl ⟨by rfl, fun w _ => by go_simp⟩) hS ?_
                      try simp only [Act.put, List.getElem_toArray, List.getElem_cons_zero, List.getElem_cons_succ, List.setIfInBounds_toArray, List.set_cons_zero, List.set_cons_succ]
                      refine wpAnyH_take (i := 12) (v := .int .i64 (addE os ⟨true, 0, k, 0, 0, zs8 m⟩)) rfl (by kernel_rfl) (by kernel_rfl) (by kernel_rfl) (fun _ _ _ h => h) (Or.inl ⟨by rfl, fun w _ => by go_simp⟩) hS ?_
                      try simp only [Act.put, List.getElem_toArray, List.getElem_cons_zero, List.getElem_cons_succ, List.setIfInBounds_toArray, List.set_cons_zero, List.set_cons_succ]
                      obtain ⟨oa2, cap2, rfl⟩ := hO2.form
                      refine wpAnyH_ready (rs := [14]) (by kernel_rfl) (by simp) ?_
                      refine AllReadyH.cons rfl (fun K hK => ?_) AllReadyH.nil
                      refine step_cells rfl 25 (.tmp 8) (.tmp 41) rfl (wr.heap.size + 1) #[.int .u64 (addL 0 os ⟨true, 0, k, 0, 0, zs8 m⟩), .slice oa2 (addR os ⟨true, 0, k, 0, 0, zs8 m⟩).length cap2] rfl rfl 25 _ rP 2 size25 rfl rfl (by simp [Value.oneCell']) (hK.out _ _ (hS.set _ hP.out _ rP) fun hS => ?_)
                      try simp only [Act.put, List.getElem_toArray, List.getElem_cons_zero, List.getElem_cons_succ, List.setIfInBounds_toArray, List.set_cons_zero, List.set_cons_succ]
                      refine wpAnyH_take (i := 15) (v := .int .u8 (addS os ⟨true, 0, k, 0, 0, zs8 m⟩)) rfl (by kernel_rfl) (by kernel_rfl) (by kernel_rfl) (fun _ _ _ h => h) (Or.inl ⟨by rfl, fun w _ => by go_simp⟩) hS ?_
                      try simp only [Act.put, List.getElem_toArray, List.getElem_cons_zero, List.getElem_cons_succ, List.setIfInBounds_toArray, List.set_cons_zero, List.set_cons_succ]
                      refine wpAnyH_take (i := 16) (v := .int .i64 (addE os ⟨true, 0, k, 0, 0, zs8 m⟩)) rfl (by kernel_rfl) (by kernel_rfl) (by kernel_rfl) (fun _ _ _ h => h) (Or.inl ⟨by rfl, fun w _ => by go_simp⟩) hS ?_
                      try simp only [Act.put, List.getElem_toArray, List.getElem_cons_zero, List.getElem_cons_succ, List.setIfInBounds_toArray, List.set_cons_zero, List.set_cons_succ]
                      refine wpAnyH_done (by kernel_rfl) ?_ _
                      go_wp2
                      go_meet
                      exact ⟨_, _, rfl, rfl, hS, rP.set _, hO2.rowOther rP _⟩
            · go_simp
              refine hK.out _ _ (hS.down ((Below.refl _ _).alloc (Nat.le_refl _) _)) fun hS => ?_
              try simp only [Act.put, List.getElem_toArray, List.getElem_cons_zero, List.getElem_cons_succ, List.setIfInBounds_toArray, List.set_cons_zero, List.set_cons_succ]
              have rP : Row (((wr).alloc (.cells #[.int .u64 0, .slice none 0 0] 25)).drew) (wr.heap.size) #[.int .u64 0, .slice none 0 0] 25 := (show Row ((wr).alloc (.cells #[.int .u64 0, .slice none 0 0] 25)) (wr.heap.size) #[.int .u64 0, .slice none 0 0] 25 from by have := Row.new (wr) #[.int .u64 0, .slice none 0 0] 25; simpa using this)
              have hP : Hid (w.heap.size + 1 ≤ wr.heap.size) := (by have := hWwr.out; show _ ≤ _; omega)
              refine wpAnyH_ready (rs := [1, 5]) (by kernel_rfl) (by simp) ?_
              refine AllReadyH.cons rfl (fun K hK => ?_) (AllReadyH.cons rfl (fun K hK => ?_) AllReadyH.nil)
              · go_simp
                go_at_call 9
                refine (kept_any 0 _ os _ hS.own.olds hn1).mono ?_
                rintro e wk ⟨v1, rfl, hO1, b1⟩
                refine hK.out _ _ (hS.down b1) fun hS => ?_
                try simp only [Act.put, List.getElem_toArray, List.getElem_cons_zero, List.getElem_cons_succ, List.setIfInBounds_toArray, List.set_cons_zero, List.set_cons_succ]
                have hWwk : Hid (w.heap.size + 1 ≤ wk.heap.size) := hS.row.lt
                have rP := rP.below b1 rP.lt
                refine wpAnyH_ready (rs := [5]) (by kernel_rfl) (by simp) ?_
                refine AllReadyH.cons rfl (fun K hK => ?_) AllReadyH.nil
                · go_simp
                  refine hK.out _ _ (hS.down ((Below.refl _ _).alloc (Nat.le_refl _) _)) fun hS => ?_
                  try simp only [Act.put, List.getElem_toArray, List.getElem_cons_zero, List.getElem_cons_succ, List.setIfInBounds_toArray, List.set_cons_zero, List.set_cons_succ]
                  have rM : Row ((wk).alloc (.cells (madeCells #[.int .u8 0] m) 5)) (wk.heap.size) (madeCells #[.int .u8 0] m) 5 := (show Row ((wk).alloc (.cells (madeCells #[.int .u8 0] m) 5)) (wk.heap.size) (madeCells #[.int .u8 0] m) 5 from by have := Row.new (wk) (madeCells #[.int .u8 0] m) 5; simpa using this)
                  have hO1 := hO1.alloc (.cells (madeCells #[.int .u8 0] m) 5)
                  have rP := rP.alloc (.cells (madeCells #[.int .u8 0] m) 5)
                  refine wpAnyH_ready (rs := [6]) (by kernel_rfl) (by simp) ?_
                  refine AllReadyH.cons rfl (fun K hK => ?_) AllReadyH.nil
                  · refine step_of rfl (wp_conv (.tmp 37) rfl (wk.heap.size) m rfl rM (hK.out _ _ hS fun hS => ?_))
                    try simp only [Act.put, List.getElem_toArray, List.getElem_cons_zero, List.getElem_cons_succ, List.setIfInBounds_toArray, List.set_cons_zero, List.set_cons_succ]
                    refine wpAnyH_take (i := 7) (v := .agg #[.bool true, .int .u16 0, .int .u32 k, .int .u16 0, .int .u8 0, .string (zs8 m)]) rfl (by kernel_rfl) (by kernel_rfl) (by kernel_rfl) (fun _ _ _ h => h) (Or.inl ⟨by rfl, fun w _ => by go_simp⟩) hS ?_
                    try simp only [Act.put, List.getElem_toArray, List.getElem_cons_zero, List.getElem_cons_succ, List.setIfInBounds_toArray, List.set_cons_zero, List.set_cons_succ]
                    refine wpAnyH_ready (rs := [8]) (by kernel_rfl) (by simp) ?_
                    refine AllReadyH.cons rfl (fun K hK => ?_) AllReadyH.nil
                    · have hB8 := hS.row.lt
                      go_simp
                      go_at_call 8
                      refine (add_any 0 _ os ⟨true, 0, k, 0, 0, zs8 m⟩ _ hO1.olds).mono ?_
                      rintro e wd ⟨v2, rfl, hO2, b2⟩
                      refine hK.out _ _ (hS.down b2) fun hS => ?_
                      try simp only [Act.put, List.getElem_toArray, List.getElem_cons_zero, List.getElem_cons_succ, List.setIfInBounds_toArray, List.set_cons_zero, List.set_cons_succ]
                      have hWwd : Hid (w.heap.size + 1 ≤ wd.heap.size) := hS.row.lt
                      have hO2 := hO2.base hB8
                      have rP := rP.below b2 rP.lt
                      refine wpAnyH_take (i := 9) (v := .tuple #[.agg #[.int .u64 (addL 0 os ⟨true, 0, k, 0, 0, zs8 m⟩), v2], .int .u8 (addS os ⟨true, 0, k, 0, 0, zs8 m⟩), .int .i64 (addE os ⟨true, 0, k, 0, 0, zs8 m⟩)]) rfl (by kernel_rfl) (by kernel_rfl) (by kernel_rfl) (fun _ _ _ h => h) (Or.inl ⟨by rfl, fun w _ => by go_simp⟩) hS ?_
                      try simp only [Act.put, List.getElem_toArray, List.getElem_cons_zero, List.getElem_cons_succ, List.setIfInBounds_toArray, List.set_cons_zero, List.set_cons_succ]
                      refine wpAnyH_take (i := 10) (v := .agg #[.int .u64 (addL 0 os ⟨true, 0, k, 0, 0, zs8 m⟩), v2]) rfl (by kernel_rfl) (by kernel_rfl) (by kernel_rfl) (fun _ _ _ h => h) (Or.inl ⟨by rfl, fun w _ => by go_simp⟩) hS ?_
                      try simp only [Act.put, List.getElem_toArray, List.getElem_cons_zero, List.getElem_cons_succ, List.setIfInBounds_toArray, List.set_cons_zero, List.set_cons_succ]
                      refine wpAnyH_take (i := 11) (v := .int .u8 (addS os ⟨true, 0, k, 0, 0, zs8 m⟩)) rfl (by kernel_rfl) (by kernel_rfl) (by kernel_rfl) (fun _ _ _ h => h) (Or.inl ⟨by rfl, fun w _ => by go_simp⟩) hS ?_
                      try simp only [Act.put, List.getElem_toArray, List.getElem_cons_zero, List.getElem_cons_succ, List.setIfInBounds_toArray, List.set_cons_zero, List.set_cons_succ]
                      refine wpAnyH_take (i := 12) (v := .int .i64 (addE os ⟨true, 0, k, 0, 0, zs8 m⟩)) rfl (by kernel_rfl) (by kernel_rfl) (by kernel_rfl) (fun _ _ _ h => h) (Or.inl ⟨by rfl, fun w _ => by go_simp⟩) hS ?_
                      try simp only [Act.put, List.getElem_toArray, List.getElem_cons_zero, List.getElem_cons_succ, List.setIfInBounds_toArray, List.set_cons_zero, List.set_cons_succ]
                      obtain ⟨oa2, cap2, rfl⟩ := hO2.form
                      refine wpAnyH_ready (rs := [14]) (by kernel_rfl) (by simp) ?_
                      refine AllReadyH.cons rfl (fun K hK => ?_) AllReadyH.nil
                      refine step_cells rfl 25 (.tmp 8) (.tmp 41) rfl (wr.heap.size) #[.int .u64 (addL 0 os ⟨true, 0, k, 0, 0, zs8 m⟩), .slice oa2 (addR os ⟨true, 0, k, 0, 0, zs8 m⟩).length cap2] rfl rfl 25 _ rP 2 size25 rfl rfl (by simp [Value.oneCell']) (hK.out _ _ (hS.set _ hP.out _ rP) fun hS => ?_)
                      try simp only [Act.put, List.getElem_toArray, List.getElem_cons_zero, List.getElem_cons_succ, List.setIfInBounds_toArray, List.set_cons_zero, List.set_cons_succ]
                      refine wpAnyH_take (i := 15) (v := .int .u8 (addS os ⟨true, 0, k, 0, 0, zs8 m⟩)) rfl (by kernel_rfl) (by kernel_rfl) (by kernel_rfl) (fun _ _ _ h => h) (Or.inl ⟨by rfl, fun w _ => by go_simp⟩) hS ?_
                      try simp only [Act.put, List.getElem_toArray, List.getElem_cons_zero, List.getElem_cons_succ, List.setIfInBounds_toArray, List.set_cons_zero, List.set_cons_succ]
                      refine wpAnyH_take (i := 16) (v := .int .i64 (addE os ⟨true, 0, k, 0, 0, zs8 m⟩)) rfl (by kernel_rfl) (by kernel_rfl) (by kernel_rfl) (fun _ _ _ h => h) (Or.inl ⟨by rfl, fun w _ => by go_simp⟩) hS ?_
                      try simp only [Act.put, List.getElem_toArray, List.getElem_cons_zero, List.getElem_cons_succ, List.setIfInBounds_toArray, List.set_cons_zero, List.set_cons_succ]
                      refine wpAnyH_done (by kernel_rfl) ?_ _
                      go_wp2
                      go_meet
                      exact ⟨_, _, rfl, rfl, hS, rP.set _, hO2.rowOther rP _⟩
              · go_simp
                refine hK.out _ _ (hS.down ((Below.refl _ _).alloc (Nat.le_refl _) _)) fun hS => ?_
                try simp only [Act.put, List.getElem_toArray, List.getElem_cons_zero, List.getElem_cons_succ, List.setIfInBounds_toArray, List.set_cons_zero, List.set_cons_succ]
                have rM : Row ((((wr).alloc (.cells #[.int .u64 0, .slice none 0 0] 25)).alloc (.cells (madeCells #[.int .u8 0] m) 5)).drew) (wr.heap.size + 1) (madeCells #[.int .u8 0] m) 5 := (show Row (((wr).alloc (.cells #[.int .u64 0, .slice none 0 0] 25)).alloc (.cells (madeCells #[.int .u8 0] m) 5)) (wr.heap.size + 1) (madeCells #[.int .u8 0] m) 5 from by have := Row.new ((wr).alloc (.cells #[.int .u64 0, .slice none 0 0] 25)) (madeCells #[.int .u8 0] m) 5; simpa using this)
                have rP := rP.alloc (.cells (madeCells #[.int .u8 0] m) 5)
                refine wpAnyH_ready (rs := [1, 6]) (by kernel_rfl) (by simp) ?_
                refine AllReadyH.cons rfl (fun K hK => ?_) (AllReadyH.cons rfl (fun K hK => ?_) AllReadyH.nil)
                · go_simp
                  go_at_call 9
                  refine (kept_any 0 _ os _ hS.own.olds hn1).mono ?_
                  rintro e wk ⟨v1, rfl, hO1, b1⟩
                  refine hK.out _ _ (hS.down b1) fun hS => ?_
                  try simp only [Act.put, List.getElem_toArray, List.getElem_cons_zero, List.getElem_cons_succ, List.setIfInBounds_toArray, List.set_cons_zero, List.set_cons_succ]
                  have hWwk : Hid (w.heap.size + 1 ≤ wk.heap.size) := hS.row.lt
                  have rM := rM.below b1 rM.lt
                  have rP := rP.below b1 rP.lt
                  refine wpAnyH_ready (rs := [6]) (by kernel_rfl) (by simp) ?_
                  refine AllReadyH.cons rfl (fun K hK => ?_) AllReadyH.nil
                  · refine step_of rfl (wp_conv (.tmp 37) rfl (wr.heap.size + 1) m rfl rM (hK.out _ _ hS fun hS => ?_))
                    try simp only [Act.put, List.getElem_toArray, List.getElem_cons_zero, List.getElem_cons_succ, List.setIfInBounds_toArray, List.set_cons_zero, List.set_cons_succ]
                    refine wpAnyH_take (i := 7) (v := .agg #[.bool true, .int .u16 0, .int .u32 k, .int .u16 0, .int .u8 0, .string (zs8 m)]) rfl (by kernel_rfl) (by kernel_rfl) (by kernel_rfl) (fun _ _ _ h => h) (Or.inl ⟨by rfl, fun w _ => by go_simp⟩) hS ?_
                    try simp only [Act.put, List.getElem_toArray, List.getElem_cons_zero, List.getElem_cons_succ, List.setIfInBounds_toArray, List.set_cons_zero, List.set_cons_succ]
                    refine wpAnyH_ready (rs := [8]) (by kernel_rfl) (by simp) ?_
                    refine AllReadyH.cons rfl (fun K hK => ?_) AllReadyH.nil
                    · have hB8 := hS.row.lt
                      go_simp
                      go_at_call 8
                      refine (add_any 0 _ os ⟨true, 0, k, 0, 0, zs8 m⟩ _ hO1.olds).mono ?_
                      rintro e wd ⟨v2, rfl, hO2, b2⟩
                      refine hK.out _ _ (hS.down b2) fun hS => ?_
                      try simp only [Act.put, List.getElem_toArray, List.getElem_cons_zero, List.getElem_cons_succ, List.setIfInBounds_toArray, List.set_cons_zero, List.set_cons_succ]
                      have hWwd : Hid (w.heap.size + 1 ≤ wd.heap.size) := hS.row.lt
                      have hO2 := hO2.base hB8
                      have rP := rP.below b2 rP.lt
                      refine wpAnyH_take (i := 9) (v := .tuple #[.agg #[.int .u64 (addL 0 os ⟨true, 0, k, 0, 0, zs8 m⟩), v2], .int .u8 (addS os ⟨true, 0, k, 0, 0, zs8 m⟩), .int .i64 (addE os ⟨true, 0, k, 0, 0, zs8 m⟩)]) rfl (by kernel_rfl) (by kernel_rfl) (by kernel_rfl) (fun _ _ _ h => h) (Or.inl ⟨by rfl, fun w _ => by go_simp⟩) hS ?_
                      try simp only [Act.put, List.getElem_toArray, List.getElem_cons_zero, List.getElem_cons_succ, List.setIfInBounds_toArray, List.set_cons_zero, List.set_cons_succ]
                      refine wpAnyH_take (i := 10) (v := .agg #[.int .u64 (addL 0 os ⟨true, 0, k, 0, 0, zs8 m⟩), v2]) rfl (by kernel_rfl) (by kernel_rfl) (by kernel_rfl) (fun _ _ _ h => h) (Or.inl ⟨by rfl, fun w _ => by go_simp⟩) hS ?_
                      try simp only [Act.put, List.getElem_toArray, List.getElem_cons_zero, List.getElem_cons_succ, List.setIfInBounds_toArray, List.set_cons_zero, List.set_cons_succ]
                      refine wpAnyH_take (i := 11) (v := .int .u8 (addS os ⟨true, 0, k, 0, 0, zs8 m⟩)) rfl (by kernel_rfl) (by kernel_rfl) (by kernel_rfl) (fun _ _ _ h => h) (Or.inl ⟨by rfl, fun w _ => by go_simp⟩) hS ?_
                      try simp only [Act.put, List.getElem_toArray, List.getElem_cons_zero, List.getElem_cons_succ, List.setIfInBounds_toArray, List.set_cons_zero, List.set_cons_succ]
                      refine wpAnyH_take (i := 12) (v := .int .i64 (addE os ⟨true, 0, k, 0, 0, zs8 m⟩)) rfl (by kernel_rfl) (by kernel_rfl) (by kernel_rfl) (fun _ _ _ h => h) (Or.inl ⟨by rfl, fun w _ => by go_simp⟩) hS ?_
                      try simp only [Act.put, List.getElem_toArray, List.getElem_cons_zero, List.getElem_cons_succ, List.setIfInBounds_toArray, List.set_cons_zero, List.set_cons_succ]
                      obtain ⟨oa2, cap2, rfl⟩ := hO2.form
                      refine wpAnyH_ready (rs := [14]) (by kernel_rfl) (by simp) ?_
                      refine AllReadyH.cons rfl (fun K hK => ?_) AllReadyH.nil
                      refine step_cells rfl 25 (.tmp 8) (.tmp 41) rfl (wr.heap.size) #[.int .u64 (addL 0 os ⟨true, 0, k, 0, 0, zs8 m⟩), .slice oa2 (addR os ⟨true, 0, k, 0, 0, zs8 m⟩).length cap2] rfl rfl 25 _ rP 2 size25 rfl rfl (by simp [Value.oneCell']) (hK.out _ _ (hS.set _ hP.out _ rP) fun hS => ?_)
                      try simp only [Act.put, List.getElem_toArray, List.getElem_cons_zero, List.getElem_cons_succ, List.setIfInBounds_toArray, List.set_cons_zero, List.set_cons_succ]
                      refine wpAnyH_take (i := 15) (v := .int .u8 (addS os ⟨true, 0, k, 0, 0, zs8 m⟩)) rfl (by kernel_rfl) (by kernel_rfl) (by kernel_rfl) (fun _ _ _ h => h) (Or.inl ⟨by rfl, fun w _ => by go_simp⟩) hS ?_
                      try simp only [Act.put, List.getElem_toArray, List.getElem_cons_zero, List.getElem_cons_succ, List.setIfInBounds_toArray, List.set_cons_zero, List.set_cons_succ]
                      refine wpAnyH_take (i := 16) (v := .int .i64 (addE os ⟨true, 0, k, 0, 0, zs8 m⟩)) rfl (by kernel_rfl) (by kernel_rfl) (by kernel_rfl) (fun _ _ _ h => h) (Or.inl ⟨by rfl, fun w _ => by go_simp⟩) hS ?_
                      try simp only [Act.put, List.getElem_toArray, List.getElem_cons_zero, List.getElem_cons_succ, List.setIfInBounds_toArray, List.set_cons_zero, List.set_cons_succ]
                      refine wpAnyH_done (by kernel_rfl) ?_ _
                      go_wp2
                      go_meet
                      exact ⟨_, _, rfl, rfl, hS, rP.set _, hO2.rowOther rP _⟩
                · refine step_of rfl (wp_conv (.tmp 37) rfl (wr.heap.size + 1) m rfl rM (hK.out _ _ hS fun hS => ?_))
                  try simp only [Act.put, List.getElem_toArray, List.getElem_cons_zero, List.getElem_cons_succ, List.setIfInBounds_toArray, List.set_cons_zero, List.set_cons_succ]
                  refine wpAnyH_take (i := 7) (v := .agg #[.bool true, .int .u16 0, .int .u32 k, .int .u16 0, .int .u8 0, .string (zs8 m)]) rfl (by kernel_rfl) (by kernel_rfl) (by kernel_rfl) (fun _ _ _ h => h) (Or.inl ⟨by rfl, fun w _ => by go_simp⟩) hS ?_
                  try simp only [Act.put, List.getElem_toArray, List.getElem_cons_zero, List.getElem_cons_succ, List.setIfInBounds_toArray, List.set_cons_zero, List.set_cons_succ]
                  refine wpAnyH_ready (rs := [1]) (by kernel_rfl) (by simp) ?_
                  refine AllReadyH.cons rfl (fun K hK => ?_) AllReadyH.nil
                  · go_simp
                    go_at_call 9
                    refine (kept_any 0 _ os _ hS.own.olds hn1).mono ?_
                    rintro e wk ⟨v1, rfl, hO1, b1⟩
                    refine hK.out _ _ (hS.down b1) fun hS => ?_
                    try simp only [Act.put, List.getElem_toArray, List.getElem_cons_zero, List.getElem_cons_succ, List.setIfInBounds_toArray, List.set_cons_zero, List.set_cons_succ]
                    have hWwk : Hid (w.heap.size + 1 ≤ wk.heap.size) := hS.row.lt
                    have rM := rM.below b1 rM.lt
                    have rP := rP.below b1 rP.lt
                    refine wpAnyH_ready (rs := [8]) (by kernel_rfl) (by simp) ?_
                    refine AllReadyH.cons rfl (fun K hK => ?_) AllReadyH.nil
                    · have hB8 := hS.row.lt
                      go_simp
                      go_at_call 8
                      refine (add_any 0 _ os ⟨true, 0, k, 0, 0, zs8 m⟩ _ hO1.olds).mono ?_
                      rintro e wd ⟨v2, rfl, hO2, b2⟩
                      refine hK.out _ _ (hS.down b2) fun hS => ?_
                      try simp only [Act.put, List.getElem_toArray, List.getElem_cons_zero, List.getElem_cons_succ, List.setIfInBounds_toArray, List.set_cons_zero, List.set_cons_succ]
                      have hWwd : Hid (w.heap.size + 1 ≤ wd.heap.size) := hS.row.lt
                      have hO2 := hO2.base hB8
                      have rP := rP.below b2 rP.lt
                      refine wpAnyH_take (i := 9) (v := .tuple #[.agg #[.int .u64 (addL 0 os ⟨true, 0, k, 0, 0, zs8 m⟩), v2], .int .u8 (addS os ⟨true, 0, k, 0, 0, zs8 m⟩), .int .i64 (addE os ⟨true, 0, k, 0, 0, zs8 m⟩)]) rfl (by kernel_rfl) (by kernel_rfl) (by kernel_rfl) (fun _ _ _ h => h) (Or.inl ⟨by rfl, fun w _ => by go_simp⟩) hS ?_
                      try simp only [Act.put, List.getElem_toArray, List.getElem_cons_zero, List.getElem_cons_succ, List.setIfInBounds_toArray, List.set_cons_zero, List.set_cons_succ]
                      refine wpAnyH_take (i := 10) (v := .agg #[.int .u64 (addL 0 os ⟨true, 0, k, 0, 0, zs8 m⟩), v2]) rfl (by kernel_rfl) (by kernel_rfl) (by kernel_rfl) (fun _ _ _ h => h) (Or.inl ⟨by rfl, fun w _ => by go_simp⟩) hS ?_
                      try simp only [Act.put, List.getElem_toArray, List.getElem_cons_zero, List.getElem_cons_succ, List.setIfInBounds_toArray, List.set_cons_zero, List.set_cons_succ]
                      refine wpAnyH_take (i := 11) (v := .int .u8 (addS os ⟨true, 0, k, 0, 0, zs8 m⟩)) rfl (by kernel_rfl) (by kernel_rfl) (by kernel_rfl) (fun _ _ _ h => h) (Or.inl ⟨by rfl, fun w _ => by go_simp⟩) hS ?_
                      try simp only [Act.put, List.getElem_toArray, List.getElem_cons_zero, List.getElem_cons_succ, List.setIfInBounds_toArray, List.set_cons_zero, List.set_cons_succ]
                      refine wpAnyH_take (i := 12) (v := .int .i64 (addE os ⟨true, 0, k, 0, 0, zs8 m⟩)) rfl (by kernel_rfl) (by kernel_rfl) (by kernel_rfl) (fun _ _ _ h => h) (Or.inl ⟨by rfl, fun w _ => by go_simp⟩) hS ?_
                      try simp only [Act.put, List.getElem_toArray, List.getElem_cons_zero, List.getElem_cons_succ, List.setIfInBounds_toArray, List.set_cons_zero, List.set_cons_succ]
                      obtain ⟨oa2, cap2, rfl⟩ := hO2.form
                      refine wpAnyH_ready (rs := [14]) (by kernel_rfl) (by simp) ?_
                      refine AllReadyH.cons rfl (fun K hK => ?_) AllReadyH.nil
                      refine step_cells rfl 25 (.tmp 8) (.tmp 41) rfl (wr.heap.size) #[.int .u64 (addL 0 os ⟨true, 0, k, 0, 0, zs8 m⟩), .slice oa2 (addR os ⟨true, 0, k, 0, 0, zs8 m⟩).length cap2] rfl rfl 25 _ rP 2 size25 rfl rfl (by simp [Value.oneCell']) (hK.out _ _ (hS.set _ hP.out _ rP) fun hS => ?_)
                      try simp only [Act.put, List.getElem_toArray, List.getElem_cons_zero, List.getElem_cons_succ, List.setIfInBounds_toArray, List.set_cons_zero, List.set_cons_succ]
                      refine wpAnyH_take (i := 15) (v := .int .u8 (addS os ⟨true, 0, k, 0, 0, zs8 m⟩)) rfl (by kernel_rfl) (by kernel_rfl) (by kernel_rfl) (fun _ _ _ h => h) (Or.inl ⟨by rfl, fun w _ => by go_simp⟩) hS ?_
                      try simp only [Act.put, List.getElem_toArray, List.getElem_cons_zero, List.getElem_cons_succ, List.setIfInBounds_toArray, List.set_cons_zero, List.set_cons_succ]
                      refine wpAnyH_take (i := 16) (v := .int .i64 (addE os ⟨true, 0, k, 0, 0, zs8 m⟩)) rfl (by kernel_rfl) (by kernel_rfl) (by kernel_rfl) (fun _ _ _ h => h) (Or.inl ⟨by rfl, fun w _ => by go_simp⟩) hS ?_
                      try simp only [Act.put, List.getElem_toArray, List.getElem_cons_zero, List.getElem_cons_succ, List.setIfInBounds_toArray, List.set_cons_zero, List.set_cons_succ]
                      refine wpAnyH_done (by kernel_rfl) ?_ _
                      go_wp2
                      go_meet
                      exact ⟨_, _, rfl, rfl, hS, rP.set _, hO2.rowOther rP _⟩
        case rest =>
          obtain ⟨P, v2, rfl, rfl, F2, rP, oP⟩ := hcut
          have hsz : (zs8 m).size ≤ 66 := by rw [zs8_size]; exact hm66
          have hae := HA.out.1.addE HA.out.2.1 (o := ⟨true, 0, k, 0, 0, zs8 m⟩) rfl hsz
          have el : addL 0 os ⟨true, 0, k, 0, 0, zs8 m⟩ = 0 := by unfold addL; split <;> rfl
          rw [el] at rP
          clear hmk hcell
          by_cases hE : addE os ⟨true, 0, k, 0, 0, zs8 m⟩ = 0
          · have er : addR os ⟨true, 0, k, 0, 0, zs8 m⟩ = os ++ [⟨true, 0, k, 0, 0, zs8 m⟩] := by unfold addR; rw [if_pos hE, HA.out.1.added]
            have hmm := (addE_ok hE).2
            rw [HA.out.1.added] at hmm
            rw [er] at oP
            rw [hE]
            have HAA : Hid (AL (os ++ [⟨true, 0, k, 0, 0, zs8 m⟩]) ∧ may (os ++ [⟨true, 0, k, 0, 0, zs8 m⟩]) = true ∧ (os ++ [(⟨true, 0, k, 0, 0, zs8 m⟩ : O)]).length = k + 1) := ⟨HA.out.1.snoc rfl hsz, hmm, by simp [HA.out.2.2]⟩
            clear hmm er el hae hE hsz
            generalize os ++ [(⟨true, 0, k, 0, 0, zs8 m⟩ : O)] = os2 at oP HAA
            obtain ⟨oa2, cap2, rfl⟩ := oP.form
            have rg := range_two rP
            have fr := F2.row
            have t1 : Hid (1 = 1) := rfl
            have t2 : Hid (1 = 1) := rfl
            go_wp2_with (first
              | (have hh := t1; clear hh t1; refine wpList_load_mid rfl 25 (.tmp 8) rfl P 0 rfl [.int .u64 0, .slice oa2 os2.length cap2] _ rg Try.underlying25 rfl size25 ?_)
              | (have hh := t2; clear hh t2; refine store_cells rfl 25 (.tmp 5) (.tmp 46) rfl w.heap.size #[.int .u64 0, .slice oa2 os2.length cap2] rfl rfl 25 _ fr 2 size25 rfl rfl (by simp [Value.oneCell']) ?_))
            go_roundw
            case rel => exact ⟨k + 1, _, _, by go_num, by omega, by omega, HAA.out, ⟨fr.set _, oP.rowOther fr _, below_setRow F2.b (Nat.le_refl _) _⟩⟩
            case measure => simp [intOf]; omega
          · have hE5 : addE os ⟨true, 0, k, 0, 0, zs8 m⟩ = 5 := by
              rw [hae] at hE ⊢
              split at hE
              · exact absurd rfl hE
              · rename_i z; rw [if_neg z]
            have hfl := HA.out.1.longer HA.out.2.1 (o := ⟨true, 0, k, 0, 0, zs8 m⟩) rfl hsz hE
            have hne := HA.out.1.some HA.out.2.1 (o := ⟨true, 0, k, 0, 0, zs8 m⟩) rfl hsz hE
            have hfm : fits os ((m : Int) + 1) = false := by
              have e : ((⟨true, 0, k, 0, 0, zs8 m⟩ : O).delta.size : Int) = m := by show ((zs8 m).size : Int) = m; rw [zs8_size]
              rw [e] at hfl; exact hfl
            have hL := HA.out.2.2
            have hk15 := (may_small HA.out.2.1).1
            have hk0 : 0 < os.length := List.length_pos_iff.2 hne
            rw [hL] at hk15 hk0
            rw [hE5]
            obtain ⟨gu, capu, hv, _⟩ := F2.own.blk (by rw [hL]; exact hk0)
            rw [hL] at hv
            subst hv
            have HFM := show Hid _ from hfm
            have HLL := show Hid _ from hL
            clear hfm hfl hne hE5 hE hae hsz el rP oP hL F
            go_upto_region 9 with fail
            go_cut [65] from 47 to 65 (fun c wx => c = .bool false ∧ Fu w wx (.slice (some ⟨gu, 0, none⟩) k capu) os)
            case first =>
              have rg := range_two F2.row
              have hk0' : ¬ (k : Int) = 0 := by omega
              have hk0b : ((k : Int) == 0) = false := by simp; omega
              by_cases hm6 : m < 66
              · have hm6' : (m : Int) < 66 := by omega
                have hwm : IntKind.i64.wrap ((m : Int) + 1) = m + 1 := by rw [IntKind.wrap_i64]; omega
                have hkp := kept_any 0 _ os wc F2.own.olds hn1
                have hft := fun (v : Value) (w' : World) (h : Olds w' v os) => fits_any 0 v os ((m : Int) + 1) w' h
                rw [HFM.out] at hft
                have HFT := show Hid _ from hft
                clear hft
                have t1 : Hid (1 = 1) := rfl
                go_wp2_with (first
                  | (have hh := t1; clear hh t1; refine load_mid_g rfl 25 (.tmp 5) rfl w.heap.size 0 rfl [.int .u64 0, .slice (some ⟨gu, 0, none⟩) k capu] _ rg Try.underlying25 rfl size25 ?_)
                  | (go_at_call 9; refine hkp.mono ?_; rintro e w2 ⟨v3, rfl, hO3, b3⟩)
                  | (go_at_call 10; refine (HFT.out _ _ hO3.olds).mono ?_; rintro e w3 ⟨rfl, b4⟩
                     have F3 := (F2.down b3).down b4
                     have c3 := row_at F3.row 1 _ rfl))
                go_meet
                exact ⟨rfl, F3⟩
              · have hm6' : ¬ (m : Int) < 66 := by omega
                have c3 := row_at F2.row 1 _ rfl
                go_wp2
                go_meet
                exact ⟨rfl, F2⟩
            case rest =>
            obtain ⟨rfl, F4⟩ := hcut
            clear F2
            obtain ⟨r, HR⟩ : ∃ r : Nat, Hid (out % k = r) := ⟨_, rfl⟩
            have hrk : r < k := by rw [← HR.out]; exact Nat.mod_lt _ hk0
            have hrk' : (r : Int) < (k : Int) := by omega
            have x1 : (out : Int).tmod (k : Int) = r := by rw [Int.tmod_eq_emod_of_nonneg (by omega), ← HR.out]; exact (Int.natCast_emod out k).symm
            have x2 : (out : Int) % (k : Int) = r := by rw [← HR.out]; exact (Int.natCast_emod out k).symm
            have x3 : IntKind.u8.wrap (k : Int) = k := by rw [IntKind.wrap_u8]; omega
            have x4 : IntKind.u8.wrap (r : Int) = r := by rw [IntKind.wrap_u8]; omega
            have x5 : ¬ (k : Int) = 0 := by omega
            have c4 := row_at F4.row 1 _ rfl
            obtain ⟨⟨pl, pp, pt, pn, ps, dl⟩, hpr⟩ : ∃ p, os[r]? = some p := ⟨_, List.getElem?_eq_getElem (by rw [HLL.out]; exact hrk)⟩
            have HP := show Hid _ from hpr
            have hgot := HA.out.1.got HA.out.2.1 hpr
            obtain ⟨q, HQ⟩ : ∃ q : Nat, Hid (min m dl.size = q) := ⟨_, rfl⟩
            have hroom := HA.out.1.room HA.out.2.1 hpr q (by rw [← HQ.out]; exact Nat.min_le_right _ _)
            have hfr := fun (v : Value) (w' : World) (h : Olds w' v os) => free_any 0 v os r (by omega) w' h
            have g2 : (got os r).2 = true := by rw [hgot]
            have ge : freeE os r = 0 := by unfold freeE; rw [g2]; rfl
            simp only [g2, if_true, ge] at hfr
            have HFR := show Hid _ from hfr
            have hkp := kept_any 0 _ os wc F4.own.olds hn1
            have rg := range_two F4.row
            clear hfr g2 ge hgot hpr
            have t1 : Hid (1 = 1) := rfl
            have t2 : Hid (1 = 1) := rfl
            go_upto_region 13 with (first
              | (have hh := t1; clear hh t1; refine wpList_load_mid rfl 25 (.tmp 5) rfl w.heap.size 0 rfl [.int .u64 0, .slice (some ⟨gu, 0, none⟩) k capu] _ rg Try.underlying25 rfl size25 ?_)
              | (go_at_call 9; refine hkp.mono ?_; rintro e w5 ⟨v4, rfl, hO4, b5⟩)
              | (go_at_call 13; refine (HFR.out v4 w5 hO4.olds).mono ?_; rintro e w6 ⟨v5, rfl, hO5, b6⟩
                 obtain ⟨oa5, cap5, rfl⟩ := hO5.form
                 have y0 : Row (w6.alloc (.cells #[.int .u64 0, .slice none 0 0] 25)) w6.heap.size #[.int .u64 0, .slice none 0 0] 25 := Row.new _ _ _)
              | (have hh := t2; clear hh t2; refine store_cells rfl 25 (.tmp 12) (.tmp 77) rfl w6.heap.size #[.int .u64 0, .slice oa5 (freed os r).length cap5] rfl rfl 25 _ y0 2 size25 rfl rfl (by simp [Value.oneCell']) ?_))
            have b7 : Below w6.heap.size w6 ((w6.alloc (.cells #[.int .u64 0, .slice none 0 0] 25)).setRow w6.heap.size #[.int .u64 0, .slice oa5 (freed os r).length cap5]) := below_setRow ((Below.refl _ _).alloc (Nat.le_refl _) _) (Nat.le_refl _) _
            have F5 := ((F4.down b5).down b6).down b7
            have y1 := y0.set #[.int .u64 0, .slice oa5 (freed os r).length cap5]
            have o7 := hO5.keep b7
            clear b5 b6 b7 y0 hO4 hO5 rg hkp F4 c4 x1 x2 x3 x4 x5
            generalize (w6.alloc (.cells #[.int .u64 0, .slice none 0 0] 25)).setRow w6.heap.size #[.int .u64 0, .slice oa5 (freed os r).length cap5] = w7 at F5 y1 o7 ⊢
            generalize w6.heap.size = Q at y1 ⊢
            generalize Value.slice oa5 (freed os r).length cap5 = v5 at y1 o7 ⊢
            have hq1 : min (m : Int) (dl.size : Int) = q := by rw [← HQ.out]; omega
            obtain ⟨BB, HBB⟩ : ∃ B, Hid (w5.heap.size = B) := ⟨_, rfl⟩
            rw [HBB.out] at o7
            refine wp_region_held_drew (S := fun w' => Fu w w' (.slice (some ⟨gu, 0, none⟩) k capu) os ∧ Row w' Q #[.int .u64 0, v5] 25 ∧ Own w' BB v5 (freed os r)) (by kernel_rfl) ⟨F5.down (Below.refl _ _).drew, y1, o7.keep (Below.refl _ _).drew⟩ fun hS => ?_
            clear F5 y1 o7
            refine wpAnyH_take (i := 0) (v := .int .i64 0) rfl (by kernel_rfl) (by kernel_rfl) (by kernel_rfl) (fun _ _ _ h => h) (Or.inl ⟨by rfl, fun w _ => by rfl⟩) hS ?_
            try simp only [Act.put, List.getElem_toArray, List.getElem_cons_zero, List.getElem_cons_succ, List.setIfInBounds_toArray, List.set_cons_zero, List.set_cons_succ]
            refine wpAnyH_take (i := 1) (v := .bool true) rfl (by kernel_rfl) (by kernel_rfl) (by kernel_rfl) (fun _ _ _ h => h) (Or.inl ⟨by rfl, fun w _ => by go_simp⟩) hS ?_
            try simp only [Act.put, List.getElem_toArray, List.getElem_cons_zero, List.getElem_cons_succ, List.setIfInBounds_toArray, List.set_cons_zero, List.set_cons_succ]
            refine wpAnyH_take (i := 2) (v := .bool true) rfl (by kernel_rfl) (by kernel_rfl) (by kernel_rfl) (fun _ _ _ h => h) (Or.inl ⟨by rfl, fun w _ => by rfl⟩) hS ?_
            try simp only [Act.put, List.getElem_toArray, List.getElem_cons_zero, List.getElem_cons_succ, List.setIfInBounds_toArray, List.set_cons_zero, List.set_cons_succ]
            refine wpAnyH_take (i := 3) (v := .agg #[.int .u64 0, v5]) rfl (by kernel_rfl) (by kernel_rfl) (by kernel_rfl) (fun _ _ _ h => h) (yields_st (by rfl) 25 (.tmp 12) rfl (Q) rfl 25 #[.int .u64 0, v5] (fun w h => h.2.1) Try.underlying25 rfl size25) hS ?_
            try simp only [Act.put, List.getElem_toArray, List.getElem_cons_zero, List.getElem_cons_succ, List.setIfInBounds_toArray, List.set_cons_zero, List.set_cons_succ]
            refine wpAnyH_take (i := 4) (v := .int .i64 m) rfl (by kernel_rfl) (by kernel_rfl) (by kernel_rfl) (fun _ _ _ h => h) (Or.inl ⟨by rfl, fun w _ => by rfl⟩) hS ?_
            try simp only [Act.put, List.getElem_toArray, List.getElem_cons_zero, List.getElem_cons_succ, List.setIfInBounds_toArray, List.set_cons_zero, List.set_cons_succ]
            refine wpAnyH_take (i := 5) (v := .pointer (some ⟨w.heap.size, 1, none⟩)) rfl (by kernel_rfl) (by kernel_rfl) (by kernel_rfl) (fun _ _ _ h => h) (Or.inl ⟨by rfl, fun w _ => by go_simp⟩) hS ?_
            try simp only [Act.put, List.getElem_toArray, List.getElem_cons_zero, List.getElem_cons_succ, List.setIfInBounds_toArray, List.set_cons_zero, List.set_cons_succ]
            refine wpAnyH_take (i := 6) (v := .slice (some ⟨gu, 0, none⟩) k capu) rfl (by kernel_rfl) (by kernel_rfl) (by kernel_rfl) (fun _ _ _ h => h) (Or.inl ⟨by rfl, fun w h => by have c := row_at h.1.row 1 _ rfl; go_simp⟩) hS ?_
            try simp only [Act.put, List.getElem_toArray, List.getElem_cons_zero, List.getElem_cons_succ, List.setIfInBounds_toArray, List.set_cons_zero, List.set_cons_succ]
            refine wpAnyH_take (i := 7) (v := .int .u8 r) rfl (by kernel_rfl) (by kernel_rfl) (by kernel_rfl) (fun _ _ _ h => h) (Or.inl ⟨by rfl, fun w _ => by rfl⟩) hS ?_
            try simp only [Act.put, List.getElem_toArray, List.getElem_cons_zero, List.getElem_cons_succ, List.setIfInBounds_toArray, List.set_cons_zero, List.set_cons_succ]
            refine wpAnyH_take (i := 8) (v := .pointer (some ⟨gu, r * 6, none⟩)) rfl (by kernel_rfl) (by kernel_rfl) (by kernel_rfl) (fun _ _ _ h => h) (Or.inl ⟨by rfl, fun w _ => by go_simp⟩) hS ?_
            try simp only [Act.put, List.getElem_toArray, List.getElem_cons_zero, List.getElem_cons_succ, List.setIfInBounds_toArray, List.set_cons_zero, List.set_cons_succ]
            refine wpAnyH_take (i := 9) (v := .pointer (some ⟨gu, r * 6 + 5, none⟩)) rfl (by kernel_rfl) (by kernel_rfl) (by kernel_rfl) (fun _ _ _ h => h) (Or.inl ⟨by rfl, fun w _ => by go_simp⟩) hS ?_
            try simp only [Act.put, List.getElem_toArray, List.getElem_cons_zero, List.getElem_cons_succ, List.setIfInBounds_toArray, List.set_cons_zero, List.set_cons_succ]
            refine wpAnyH_take (i := 10) (v := .string dl) rfl (by kernel_rfl) (by kernel_rfl) (by kernel_rfl) (fun _ _ _ h => h) (Or.inl ⟨by rfl, fun w h => by have c := own_cell h.1.own r 5 HP.out (.string dl) rfl (by omega); go_simp⟩) hS ?_
            try simp only [Act.put, List.getElem_toArray, List.getElem_cons_zero, List.getElem_cons_succ, List.setIfInBounds_toArray, List.set_cons_zero, List.set_cons_succ]
            refine wpAnyH_take (i := 11) (v := .int .i64 dl.size) rfl (by kernel_rfl) (by kernel_rfl) (by kernel_rfl) (fun _ _ _ h => h) (Or.inl ⟨by rfl, fun w _ => by go_simp⟩) hS ?_
            try simp only [Act.put, List.getElem_toArray, List.getElem_cons_zero, List.getElem_cons_succ, List.setIfInBounds_toArray, List.set_cons_zero, List.set_cons_succ]
            refine wpAnyH_take (i := 12) (v := .int .i64 q) rfl (by kernel_rfl) (by kernel_rfl) (by kernel_rfl) (fun _ _ _ h => h) (Or.inl ⟨by rfl, fun w _ => by go_simp⟩) hS ?_
            try simp only [Act.put, List.getElem_toArray, List.getElem_cons_zero, List.getElem_cons_succ, List.setIfInBounds_toArray, List.set_cons_zero, List.set_cons_succ]
            refine wpAnyH_ready (rs := [13]) (by kernel_rfl) (by simp) ?_
            refine AllReadyH.cons rfl (fun K hK => ?_) AllReadyH.nil
            go_simp
            go_at_call 10
            refine (fits_any 0 _ (freed os r) q _ hS.2.2.olds).mono ?_
            rw [hroom]; rintro e wz ⟨rfl, hcb⟩
            refine hK.out _ _ ⟨hS.1.down hcb, hS.2.1.below hcb hS.2.1.lt, hS.2.2.keep hcb⟩ fun hS => ?_
            try simp only [Act.put, List.getElem_toArray, List.getElem_cons_zero, List.getElem_cons_succ, List.setIfInBounds_toArray, List.set_cons_zero, List.set_cons_succ]
            refine wpAnyH_take (i := 14) (v := .bool true) rfl (by kernel_rfl) (by kernel_rfl) (by kernel_rfl) (fun _ _ _ h => h) (Or.inl ⟨by rfl, fun w _ => by go_simp⟩) hS ?_
            try simp only [Act.put, List.getElem_toArray, List.getElem_cons_zero, List.getElem_cons_succ, List.setIfInBounds_toArray, List.set_cons_zero, List.set_cons_succ]
            refine wpAnyH_take (i := 15) (v := .bool true) rfl (by kernel_rfl) (by kernel_rfl) (by kernel_rfl) (fun _ _ _ h => h) (Or.inl ⟨by rfl, fun w _ => by rfl⟩) hS ?_
            try simp only [Act.put, List.getElem_toArray, List.getElem_cons_zero, List.getElem_cons_succ, List.setIfInBounds_toArray, List.set_cons_zero, List.set_cons_succ]
            refine wpAnyH_ready (rs := [16]) (by kernel_rfl) (by simp) ?_
            refine AllReadyH.cons rfl (fun K hK => ?_) AllReadyH.nil
            go_simp
            go_at_call 7
            refine (awake_any _).mono ?_
            rintro e wy ⟨rfl, hcb⟩
            refine hK.out _ _ ⟨hS.1.down hcb, hS.2.1.below hcb hS.2.1.lt, hS.2.2.keep hcb⟩ fun hS => ?_
            try simp only [Act.put, List.getElem_toArray, List.getElem_cons_zero, List.getElem_cons_succ, List.setIfInBounds_toArray, List.set_cons_zero, List.set_cons_succ]
            refine wpAnyH_take (i := 17) (v := .bool true) rfl (by kernel_rfl) (by kernel_rfl) (by kernel_rfl) (fun _ _ _ h => h) (Or.inl ⟨by rfl, fun w _ => by go_simp⟩) hS ?_
            try simp only [Act.put, List.getElem_toArray, List.getElem_cons_zero, List.getElem_cons_succ, List.setIfInBounds_toArray, List.set_cons_zero, List.set_cons_succ]
            refine wpAnyH_take (i := 18) (v := .bool true) rfl (by kernel_rfl) (by kernel_rfl) (by kernel_rfl) (fun _ _ _ h => h) (Or.inl ⟨by rfl, fun w _ => by rfl⟩) hS ?_
            try simp only [Act.put, List.getElem_toArray, List.getElem_cons_zero, List.getElem_cons_succ, List.setIfInBounds_toArray, List.set_cons_zero, List.set_cons_succ]
            refine wpAnyH_done (by kernel_rfl) ?_ _
            go_wp2
            go_ret
            exact ⟨rfl, hS.1.b⟩
      · have hk40' : ¬ (k : Int) < 40 := by omega
        have hmin : min (n : Int) 40 = 40 := by omega
        have hmn40 : ¬ (n : Int) < 40 := by omega
        have hm40 : (40 : Int) ≤ (n : Int) := by omega
        obtain rfl : k = 40 := by omega
        have hlv := live_any 0 _ os wr F.own.olds (by have := HA.out.2.2; have := (may_small HA.out.2.1).1; omega)
        rw [HA.out.1.live, HA.out.2.2] at hlv
        obtain ⟨ou, capu, rfl⟩ := F.own.form
        have rg := range_two F.row
        have t1 : Hid (1 = 1) := rfl
        go_wp2_with (first
          | (have hh := t1; clear hh t1; refine wpList_load_mid rfl 25 (.tmp 5) rfl w.heap.size 0 rfl [.int .u64 0, .slice ou os.length capu] _ rg Try.underlying25 rfl size25 ?_)
          | (go_at_call 15; refine hlv.mono ?_; rintro e w2 ⟨rfl, b2⟩)
          | (go_at_call 7; refine (awake_any _).mono ?_; rintro e w3 ⟨rfl, b3⟩))
        go_ret
        exact ⟨rfl, ((F.down b2).down b3).b⟩
    · have hkl' : ¬ (k : Int) < (n : Int) := by omega
      obtain rfl : k = n := by omega
      have hmin : min (k : Int) 40 = k := by omega
      have hlv := live_any 0 _ os wr F.own.olds (by have := HA.out.2.2; have := (may_small HA.out.2.1).1; omega)
      rw [HA.out.1.live, HA.out.2.2] at hlv
      obtain ⟨ou, capu, rfl⟩ := F.own.form
      have rg := range_two F.row
      have t1 : Hid (1 = 1) := rfl
      go_wp2_with (first
        | (have hh := t1; clear hh t1; refine wpList_load_mid rfl 25 (.tmp 5) rfl w.heap.size 0 rfl [.int .u64 0, .slice ou os.length capu] _ rg Try.underlying25 rfl size25 ?_)
        | (go_at_call 15; refine hlv.mono ?_; rintro e w2 ⟨rfl, b2⟩)
        | (go_at_call 7; refine (awake_any _).mono ?_; rintro e w3 ⟨rfl, b3⟩))
      go_ret
      exact ⟨rfl, ((F.down b2).down b3).b⟩
end Go.Proofs.Ytomlbkdagaldoab
