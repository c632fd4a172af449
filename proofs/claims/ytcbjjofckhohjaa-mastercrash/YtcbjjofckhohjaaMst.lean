/-
  Proved here: master.Store: a master is written into a disk's block, and the disk synced.
-/
import Derived.Test.YtcbjjofckhohjaaMup
import Derived.Test.YtcbjjofckhohjaaSync
namespace Go.Proofs.Ytcbjjofckhohjaa
open Go.ChangeShapes Go.WideShapes Go.ChangeAt Go.RowKit
set_option linter.unusedVariables false
set_option linter.unusedSimpArgs false
set_option maxRecDepth 20000

/-- Whether it can be stored. -/
def okS (m : M) (sl : Int) : Bool := mayM m && decide (0 ≤ sl ∧ sl ≤ 1)
/-- How Store ends. -/
def Stored (m : M) (sl E E2 : Int) (Q1 Q2 : World → Prop) (w : World) (e : Ending) (w' : World) : Prop :=
  (okS m sl = false → e = .returned (.int .i64 1) ∧ Below w.heap.size w w') ∧ (okS m sl = true → E ≠ 0 → e = .returned (.int .i64 E) ∧ Q1 w') ∧ (okS m sl = true → E = 0 → e = .returned (.int .i64 E2) ∧ Q2 w')

set_option maxHeartbeats 4000000 in
theorem store_walk (p : Value) (sl : Int) (m : M) (hf : m.Fit) (w : World) (E E2 : Int) (Q1 Q2 : World → Prop)
    (hW : okS m sl = true → ∀ wa, Below w.heap.size w wa → Calls Try.prog 17 #[p, .int .i64 sl, .agg (bs (packB m))] wa fun e w' => e = .returned (.int .i64 E) ∧ Q1 w')
    (hS : E = 0 → ∀ wa, Q1 wa → Calls Try.prog 36 #[p] wa fun e w' => e = .returned (.int .i64 E2) ∧ Q2 w') :
    Calls Try.prog 21 #[p, .int .i64 sl, .agg (mcells m)] w (Stored m sl E E2 Q1 Q2 w) := by
  obtain ⟨R, HR⟩ : ∃ R, Hid (Stored m sl E E2 Q1 Q2 w = R) := ⟨_, rfl⟩
  rw [HR.out]
  have HPK : Hid _ := fun w => mpack_any m hf w
  have hz := zero29
  have r0 : Row (w.alloc (.cells #[.int .u64 m.seq, .int .u32 m.ep, .int .u32 m.tail, .int .u64 m.lsn, .int .u32 m.last, .int .i64 m.pg, .int .i64 m.un, .int .i64 m.lg, .int .u32 m.mx] 27)) w.heap.size #[.int .u64 m.seq, .int .u32 m.ep, .int .u32 m.tail, .int .u64 m.lsn, .int .u32 m.last, .int .i64 m.pg, .int .i64 m.un, .int .i64 m.lg, .int .u32 m.mx] 27 := Row.new _ _ _
  have ab : Below w.heap.size w (w.alloc (.cells #[.int .u64 m.seq, .int .u32 m.ep, .int .u32 m.tail, .int .u64 m.lsn, .int .u32 m.last, .int .i64 m.pg, .int .i64 m.un, .int .i64 m.lg, .int .u32 m.mx] 27)) := (Below.refl _ _).alloc (Nat.le_refl _) _
  obtain ⟨V, HV⟩ : ∃ x, Hid (packV m = x) := ⟨_, rfl⟩
  obtain ⟨PE, HPE⟩ : ∃ x, Hid (packE m = x) := ⟨_, rfl⟩
  rw [HV.out, HPE.out] at HPK
  have hVl : V.length = 256 := by rw [← HV.out]; exact packV_length m
  have HVL : Hid (V.length = 256) := hVl
  have hVb : (bs V).size = 256 := by rw [bs_size, hVl]
  clear hVl
  go_enter Try.func21, Try.ntmps21
  go_upto_region 1 with fail
  generalize w.alloc (.cells #[.int .u64 m.seq, .int .u32 m.ep, .int .u32 m.tail, .int .u64 m.lsn, .int .u32 m.last, .int .i64 m.pg, .int .i64 m.un, .int .i64 m.lg, .int .u32 m.mx] 27) = w1 at r0 ab ⊢
  cases hk : mayM m
  · obtain rfl : PE = 1 := by rw [← HPE.out]; unfold packE; rw [hk]; rfl
    have HK : Hid (∀ w', Below w.heap.size w w' → R (.returned (.int .i64 1)) w') := fun w' h => by
      rw [← HR.out]
      have e : okS m sl = false := by unfold okS; rw [hk]; rfl
      exact ⟨fun _ => ⟨rfl, h⟩, fun h' => by rw [e] at h'; simp at h', fun h' => by rw [e] at h'; simp at h'⟩
    clear hk HPE hW hS
    go_upto_region 2 with (first
      | (refine load_cells rfl 27 (.tmp 5) rfl w.heap.size rfl 27 #[.int .u64 m.seq, .int .u32 m.ep, .int .u32 m.tail, .int .u64 m.lsn, .int .u32 m.last, .int .i64 m.pg, .int .i64 m.un, .int .i64 m.lg, .int .u32 m.mx] r0 9 Try.underlying27 rfl size27 rfl ?_)
      | (go_at_call 8; refine (HPK.out _).mono ?_; clear HPK; rintro ex w2 ⟨rfl, h2⟩
         have q2 : Row (w2.alloc (.cells (bs (zs 256)) 29)) w2.heap.size (bs (zs 256)) 29 := Row.new _ _ _)
      | (refine store_row rfl 29 (.tmp 7) (.tmp 13) rfl w2.heap.size V rfl rfl 29 _ q2 256 size29 (by rw [bs_size, zs_length]) HVL.out ?_))
    have ab := ab.trans (h2.mono ab.size)
    have q2 := q2.set (bs V)
    have ab := below_setRow (ab.alloc ab.size (.cells (bs (zs 256)) 29)) ab.size (bs V)
    clear h2 r0
    generalize (w2.alloc (.cells (bs (zs 256)) 29)).setRow w2.heap.size (bs V) = w3 at q2 ab ⊢
    generalize w2.heap.size = g2 at q2 ⊢
    go_wp2
    exact HK.out _ ab
  · obtain rfl : PE = 0 := by rw [← HPE.out]; unfold packE; rw [hk]; rfl
    obtain ⟨c, hc⟩ : ∃ c, decide (0 ≤ sl ∧ sl ≤ 1) = c := ⟨_, rfl⟩
    have HIN : Hid _ := fun w => inn_at sl 0 1 c hc w
    have e0 : okS m sl = c := by unfold okS; rw [hk, hc]; rfl
    cases c
    · have HK : Hid (∀ w', Below w.heap.size w w' → R (.returned (.int .i64 1)) w') := fun w' h => by
        rw [← HR.out]
        exact ⟨fun _ => ⟨rfl, h⟩, fun h' => by rw [e0] at h'; simp at h', fun h' => by rw [e0] at h'; simp at h'⟩
      clear hk HPE hW hS hc e0
      go_upto_region 2 with (first
      | (refine load_cells rfl 27 (.tmp 5) rfl w.heap.size rfl 27 #[.int .u64 m.seq, .int .u32 m.ep, .int .u32 m.tail, .int .u64 m.lsn, .int .u32 m.last, .int .i64 m.pg, .int .i64 m.un, .int .i64 m.lg, .int .u32 m.mx] r0 9 Try.underlying27 rfl size27 rfl ?_)
      | (go_at_call 8; refine (HPK.out _).mono ?_; clear HPK; rintro ex w2 ⟨rfl, h2⟩
         have q2 : Row (w2.alloc (.cells (bs (zs 256)) 29)) w2.heap.size (bs (zs 256)) 29 := Row.new _ _ _)
      | (refine store_row rfl 29 (.tmp 7) (.tmp 13) rfl w2.heap.size V rfl rfl 29 _ q2 256 size29 (by rw [bs_size, zs_length]) HVL.out ?_))
      have ab := ab.trans (h2.mono ab.size)
      have q2 := q2.set (bs V)
      have ab := below_setRow (ab.alloc ab.size (.cells (bs (zs 256)) 29)) ab.size (bs V)
      clear h2 r0
      generalize (w2.alloc (.cells (bs (zs 256)) 29)).setRow w2.heap.size (bs V) = w3 at q2 ab ⊢
      generalize w2.heap.size = g2 at q2 ⊢
      go_wp2_with (go_at_call 32; refine (HIN.out _).mono ?_; clear HIN; rintro ex w4 ⟨rfl, rfl⟩)
      exact HK.out _ ab
    · have HB : packB m = V := by rw [← HV.out]; unfold packV; rw [hk]; rfl
      have HW : Hid _ := hW e0
      rw [HB] at HW
      by_cases hE : E = 0
      · subst hE
        have HS : Hid _ := hS rfl
        have HK : Hid (∀ w', Q2 w' → R (.returned (.int .i64 E2)) w') := fun w' h => by
          rw [← HR.out]
          exact ⟨fun h' => by rw [e0] at h'; simp at h', fun _ h' => absurd rfl h', fun _ _ => ⟨rfl, h⟩⟩
        clear hk HPE hW hS hc e0 HB HV
        go_upto_region 2 with (first
      | (refine load_cells rfl 27 (.tmp 5) rfl w.heap.size rfl 27 #[.int .u64 m.seq, .int .u32 m.ep, .int .u32 m.tail, .int .u64 m.lsn, .int .u32 m.last, .int .i64 m.pg, .int .i64 m.un, .int .i64 m.lg, .int .u32 m.mx] r0 9 Try.underlying27 rfl size27 rfl ?_)
      | (go_at_call 8; refine (HPK.out _).mono ?_; clear HPK; rintro ex w2 ⟨rfl, h2⟩
         have q2 : Row (w2.alloc (.cells (bs (zs 256)) 29)) w2.heap.size (bs (zs 256)) 29 := Row.new _ _ _)
      | (refine store_row rfl 29 (.tmp 7) (.tmp 13) rfl w2.heap.size V rfl rfl 29 _ q2 256 size29 (by rw [bs_size, zs_length]) HVL.out ?_))
        have ab := ab.trans (h2.mono ab.size)
        have q2 := q2.set (bs V)
        have ab := below_setRow (ab.alloc ab.size (.cells (bs (zs 256)) 29)) ab.size (bs V)
        clear h2 r0
        generalize (w2.alloc (.cells (bs (zs 256)) 29)).setRow w2.heap.size (bs V) = w3 at q2 ab ⊢
        generalize w2.heap.size = g2 at q2 ⊢
        go_wp2_with (first
          | (go_at_call 32; refine (HIN.out _).mono ?_; clear HIN; rintro ex w4 ⟨rfl, rfl⟩)
          | (refine load_row rfl 29 (.tmp 7) rfl g2 rfl 29 (bs V) q2 256 5 Try.underlying29 size29 hVb ?_)
          | (go_at_call 17; refine (HW.out _ ab).mono ?_; clear HW; rintro ex w5 ⟨rfl, h5⟩)
          | (go_at_call 36; refine (HS.out _ h5).mono ?_; clear HS; rintro ex w6 ⟨rfl, h6⟩))
        exact HK.out _ h6
      · have HK : Hid (∀ w', Q1 w' → R (.returned (.int .i64 E)) w') := fun w' h => by
          rw [← HR.out]
          exact ⟨fun h' => by rw [e0] at h'; simp at h', fun _ _ => ⟨rfl, h⟩, fun _ h' => absurd h' hE⟩
        clear hk HPE hW hS hc e0 HB HV
        go_upto_region 2 with (first
      | (refine load_cells rfl 27 (.tmp 5) rfl w.heap.size rfl 27 #[.int .u64 m.seq, .int .u32 m.ep, .int .u32 m.tail, .int .u64 m.lsn, .int .u32 m.last, .int .i64 m.pg, .int .i64 m.un, .int .i64 m.lg, .int .u32 m.mx] r0 9 Try.underlying27 rfl size27 rfl ?_)
      | (go_at_call 8; refine (HPK.out _).mono ?_; clear HPK; rintro ex w2 ⟨rfl, h2⟩
         have q2 : Row (w2.alloc (.cells (bs (zs 256)) 29)) w2.heap.size (bs (zs 256)) 29 := Row.new _ _ _)
      | (refine store_row rfl 29 (.tmp 7) (.tmp 13) rfl w2.heap.size V rfl rfl 29 _ q2 256 size29 (by rw [bs_size, zs_length]) HVL.out ?_))
        have ab := ab.trans (h2.mono ab.size)
        have q2 := q2.set (bs V)
        have ab := below_setRow (ab.alloc ab.size (.cells (bs (zs 256)) 29)) ab.size (bs V)
        clear h2 r0
        generalize (w2.alloc (.cells (bs (zs 256)) 29)).setRow w2.heap.size (bs V) = w3 at q2 ab ⊢
        generalize w2.heap.size = g2 at q2 ⊢
        go_wp2_with (first
          | (go_at_call 32; refine (HIN.out _).mono ?_; clear HIN; rintro ex w4 ⟨rfl, rfl⟩)
          | (refine load_row rfl 29 (.tmp 7) rfl g2 rfl 29 (bs V) q2 256 5 Try.underlying29 size29 hVb ?_)
          | (go_at_call 17; refine (HW.out _ ab).mono ?_; clear HW; rintro ex w5 ⟨rfl, h5⟩))
        exact HK.out _ h5

/-- What Store answers, and what the disk then is. -/
def storD (d : Dsk) (sl : Int) (m : M) : Int × Dsk :=
  if okS m sl then (if (writ d sl (packB m)).1 = 0 then sync (writ d sl (packB m)).2 else writ d sl (packB m)) else (1, d)
theorem ask_ops (d : Dsk) (b : Int) : (ask d b).2.ops ≤ d.ops + 1 := by
  unfold ask
  split
  · simp; omega
  · split
    · unfold count; split
      · simp
      · split <;> simp
    · simp; omega
theorem writ_ops (d : Dsk) (b : Int) (x : List Int) : (writ d b x).2.ops ≤ d.ops + 1 := by
  unfold writ
  split
  · show ((ask d b).2.wrote b x 4).ops ≤ _
    rw [(wrote_ops _ _ _).1]; exact ask_ops d b
  · exact ask_ops d b
theorem mstore_any {w : World} {g : Nat} {d : Dsk} {L : Loc} {N : Nat} (h : DAt w g d L N) (ho : d.ops < 9223372036854775805) (hN : N + 4 < 1000000000000) (sl : Int) (m : M) (hf : m.Fit) :
    Calls Try.prog 21 #[.pointer (some ⟨g, 0, none⟩), .int .i64 sl, .agg (mcells m)] w fun e w' => e = .returned (.int .i64 (storD d sl m).1) ∧ Crashed w g (storD d sl m).2 L (N + 4) w' := by
  refine (store_walk (.pointer (some ⟨g, 0, none⟩)) sl m hf w (writ d sl (packB m)).1 (sync (writ d sl (packB m)).2).1 (Crashed w g (writ d sl (packB m)).2 L (N + 4)) (Crashed w g (sync (writ d sl (packB m)).2).2 L (N + 4)) ?_ ?_).mono ?_
  · intro _ wa hb
    refine (write_any (h.below hb) (by omega) sl (packB m) (packB_length m) (packB_bytes m) hN).mono ?_
    rintro e w' ⟨rfl, L', h1, h2, h3⟩
    exact ⟨rfl, L', h1, (Off.of_below (F := foot g L) hb).trans h2 (fun j hj => Or.inl hj), fun j hj => (h3 j hj).imp id (fun q => Nat.le_trans hb.size q)⟩
  · intro _ wa ⟨L', h1, h2, h3⟩
    have := writ_ops d sl (packB m)
    refine (sync_any h1 (by omega)).mono ?_
    rintro e w' ⟨rfl, L2, k1, k2, k3⟩
    refine ⟨rfl, L2, k1, h2.trans k2 h3, fun j hj => ?_⟩
    rcases k3 j hj with q | q
    · exact h3 j q
    · exact Or.inr (Nat.le_trans h2.size q)
  · rintro e w' ⟨a, b, c⟩
    unfold storD
    cases hk : okS m sl
    · obtain ⟨rfl, hb⟩ := a hk
      exact ⟨rfl, L, (h.below hb).grow (by omega) hN, Off.of_below hb, fun j hj => Or.inl hj⟩
    · simp only [if_true]
      by_cases hE : (writ d sl (packB m)).1 = 0
      · rw [if_pos hE]; exact c hk hE
      · rw [if_neg hE]; exact b hk hE
theorem mstore_nil (sl : Int) (m : M) (hf : m.Fit) (w : World) :
    Calls Try.prog 21 #[.pointer none, .int .i64 sl, .agg (mcells m)] w fun e w' => e = .returned (.int .i64 (if okS m sl then 4 else 1)) ∧ Below w.heap.size w w' := by
  refine (store_walk (.pointer none) sl m hf w 4 0 (Below w.heap.size w) (fun _ => True) ?_ (fun h => absurd h (by decide))).mono ?_
  · intro _ wa hb
    refine (write_nil sl (packB m) wa).mono ?_
    rintro e w' ⟨rfl, h1⟩
    exact ⟨rfl, hb.trans (h1.mono hb.size)⟩
  · rintro e w' ⟨a, b, c⟩
    cases hk : okS m sl
    · exact a hk
    · exact b hk (by decide)
end Go.Proofs.Ytcbjjofckhohjaa
