/-
  The document's turn as it lies in memory: who asked, and when; what its calls answer, and make of it.
-/
import Derived.Test.YtmnbfcmamhinbaaOne
import Derived.BigQuiet
import Derived.WalkSmall
namespace Go.Proofs.Ytmnbfcmamhinbaa.Tu
open Go.ChangeShapes Go.WideShapes Go.ChangeAt Go.RowKit
open Go.Deep
set_option linter.unusedVariables false
set_option linter.unusedSimpArgs false

theorem TAt.offs {F : Nat → Prop} {w w' : World} {t : Nat} {v : Value} {xs : List Int} (c : TAt w t v xs) (ho : Off F w w') (hF : ∀ k, foot t v k → ¬ F k) : TAt w' t v xs := by
  refine { c with row := c.row.off ho (hF _ (Or.inl rfl)), own := ?_ }
  have hl := World.ownsRow.lt c.own
  obtain ⟨h1, h2⟩ := c.own
  refine ⟨h1, ?_⟩
  rcases h2 with h2 | ⟨g, cap, cur, rfl, hb', hc, rest⟩
  · exact Or.inl h2
  · have := hl g (by simp [Value.ownBlock])
    exact Or.inr ⟨g, cap, cur, rfl, hb', (ho.block g this.2 (hF g (Or.inr rfl))).trans hc, rest⟩
/-- The document's turn in memory. -/
structure RtAt (w : World) (r : Nat) (v : Value) (N : Int) (L : List On.O) : Prop where
  row : Row w r #[v, .int .i64 N] 69
  own : On.Own w (r + 1) v L
  small : L.length ≤ 100
theorem OnOwn_off {F : Nat → Prop} {w w' : World} {base : Nat} {v : Value} {os : List On.O} (h : On.Own w base v os) (ho : Off F w w') (hF : ∀ k, v.ownBlock = some k → ¬ F k) : On.Own w' base v os := by
  have hl := World.ownsRow.lt h
  obtain ⟨h1, h2⟩ := h
  refine ⟨h1, ?_⟩
  rcases h2 with h2 | ⟨g, cap, cur, rfl, hb', hc, rest⟩
  · exact Or.inl h2
  · have := hl g (by simp [Value.ownBlock])
    exact Or.inr ⟨g, cap, cur, rfl, hb', (ho.block g this.2 (hF g rfl)).trans hc, rest⟩
theorem RtAt.offs {F : Nat → Prop} {w w' : World} {r : Nat} {v : Value} {N : Int} {L : List On.O} (c : RtAt w r v N L) (ho : Off F w w') (hF : ∀ k, foot r v k → ¬ F k) : RtAt w' r v N L :=
  { c with row := c.row.off ho (hF _ (Or.inl rfl)), own := OnOwn_off c.own ho (fun k hk => hF k (Or.inr hk)) }
theorem RtAt.below {w w' : World} {r : Nat} {v : Value} {N : Int} {L : List On.O} (c : RtAt w r v N L) (hb : Below w.heap.size w w') : RtAt w' r v N L :=
  c.offs (F := fun _ => False) (Off.of_below hb) fun _ _ q => q
theorem RtAt.foot_type {w : World} {r : Nat} {v : Value} {N : Int} {L : List On.O} (c : RtAt w r v N L) {k : Nat} (h : foot r v k) : (∃ cs, Row w k cs 69) ∨ ∃ cs, Row w k cs 81 := by
  rcases h with rfl | h
  · exact Or.inl ⟨_, c.row⟩
  · rcases c.own.2 with ⟨rfl, _⟩ | ⟨g, cap, cur, rfl, hb, hc, _⟩
    · simp [Value.ownBlock] at h
    · simp [Value.ownBlock] at h
      subst h
      exact Or.inr ⟨_, hc⟩
theorem RtAt.foot_le {w : World} {r : Nat} {v : Value} {N : Int} {L : List On.O} (c : RtAt w r v N L) {k : Nat} (h : foot r v k) : r ≤ k := by
  rcases h with rfl | h
  · exact Nat.le_refl _
  · have := (World.ownsRow.lt c.own k h).1; omega
theorem RtAt.foot_not {w : World} {r : Nat} {v : Value} {N : Int} {L : List On.O} (c : RtAt w r v N L) {X T : Nat} {cs : Array Value} (q : Row w X cs T) (h1 : ¬ T = 69) (h2 : ¬ T = 81) : ¬ foot r v X := fun h => by
  rcases c.foot_type h with ⟨cs', q'⟩ | ⟨cs', q'⟩
  · unfold Row at q q'
    rw [q] at q'
    injection q' with q'
    injection q' with _ q'
    exact h1 q'
  · unfold Row at q q'
    rw [q] at q'
    injection q' with q'
    injection q' with _ q'
    exact h2 q'
/-- The blocks of a turn and of the document's are apart. -/
theorem feet {w : World} {t r : Nat} {v u : Value} {xs : List Int} {N : Int} {L : List On.O} (c : TAt w t v xs) (d : RtAt w r u N L) : ∀ k, foot t v k → ¬ foot r u k := fun k h q => by
  rcases d.foot_type q with ⟨cs, e⟩ | ⟨cs, e⟩
  · exact c.foot_not e (by omega) (by omega) h
  · exact c.foot_not e (by omega) (by omega) h
theorem size81 : (Try.prog.info? 81).map (·.size) = some 2 := by kernel_rfl
theorem zero81 (w : World) : (zeroValue 81).run Try.prog w = .ok (.agg #[.int .i64 0, .int .i64 0]) w := (zero_of_info (P := Try.prog) (t := 81) (v := .agg #[.int .i64 0, .int .i64 0]) (n := 2) (by kernel_rfl)).1 w
theorem rnew_any (w : World) : Calls Try.prog 25 #[] w fun e w' => ∃ r, e = .returned (.pointer (some ⟨r, 0, none⟩)) ∧ w.heap.size ≤ r ∧ RtAt w' r (.slice none 0 0) 0 [] ∧ Below w.heap.size w w' := by
  have r1 : Row (w.alloc (.cells #[.slice none 0 0, .int .i64 0] 69)) w.heap.size #[.slice none 0 0, .int .i64 0] 69 := Row.new _ _ _
  have b1 : Below w.heap.size w (w.alloc (.cells #[.slice none 0 0, .int .i64 0] 69)) := (Below.refl _ _).alloc (Nat.le_refl _) _
  have HC : Hid (RtAt (w.alloc (.cells #[.slice none 0 0, .int .i64 0] 69)) w.heap.size (.slice none 0 0) 0 []) := { row := r1, own := ⟨rfl, Or.inl ⟨rfl, rfl⟩⟩, small := by simp }
  have HB : Hid _ := b1
  clear r1 b1
  go_enter Try.func25, Try.ntmps25
  go_wp2
  go_ret
  exact ⟨w.heap.size, rfl, Nat.le_refl _, HC.out, HB.out⟩
/-- The number of somebody's asking; 0: none. -/
def whenL (L : List On.O) (x : Int) : Int := match L.find? (fun o => decide (o.who = x)) with | some o => o.when | none => 0

theorem whenL_step {L : List On.O} {x : Int} {j : Nat} (hno : ∀ (i : Nat) (o : On.O), i < j → L[i]? = some o → ¬ o.who = x) : (∀ o, L[j]? = some o → o.who = x → whenL L x = o.when) ∧ (j = L.length → whenL L x = 0) := by
  constructor
  · intro o ho hw
    obtain ⟨hl, hjo⟩ := List.getElem?_eq_some_iff.1 ho
    have e : L = L.take j ++ o :: L.drop (j + 1) := by
      have := List.take_append_drop j L
      rw [List.drop_eq_getElem_cons hl, hjo] at this
      exact this.symm
    have e1 : (L.take j).find? (fun o => decide (o.who = x)) = none := by
      rw [List.find?_eq_none]
      intro q hq
      obtain ⟨i, hi, rfl⟩ := List.getElem_of_mem hq
      rw [List.length_take] at hi
      have := hno i _ (by omega) (List.getElem?_eq_getElem (by omega : i < L.length))
      rw [List.getElem_take]
      simpa using this
    have e2 : L.find? (fun o => decide (o.who = x)) = some o := by
      rw [e, List.find?_append, e1]
      simp [hw]
    unfold whenL
    rw [e2]
  · intro e
    have e2 : L.find? (fun o => decide (o.who = x)) = none := by
      rw [List.find?_eq_none]
      intro q hq
      obtain ⟨i, hi, rfl⟩ := List.getElem_of_mem hq
      have := hno i _ (by omega) (List.getElem?_eq_getElem hi)
      simpa using this
    unfold whenL
    rw [e2]
set_option maxHeartbeats 1000000 in
theorem rat_any {w : World} {r : Nat} {v : Value} {N : Int} {L : List On.O} (c : RtAt w r v N L) (x : Int) : Calls Try.prog 33 #[.pointer (some ⟨r, 0, none⟩), .int .i64 x] w fun e w' => e = .returned (.int .i64 (whenL L x)) ∧ Below w.heap.size w w' := by
  obtain ⟨oa, cap, rfl, hold⟩ := On.Olds.hold c.own.olds
  obtain ⟨M, HM⟩ : ∃ M, Hid (L.length = M) := ⟨_, rfl⟩
  have hsm : M ≤ 100 := by rw [← HM.out]; exact c.small
  have HCL : Hid (∀ i, i < M → ∃ (A : Addr) (x0 x1 : Int), oa = some A ∧ L[i]? = some ⟨x0, x1⟩ ∧ ∀ w', Below w.heap.size w w' → ∀ j u, [Value.int .i64 x0, .int .i64 x1][j]? = some u → w'.cell? ((A.add (i * 2)).add j) = some u) := fun i hi => by
    obtain ⟨A, x0, x1, h1, h2, h3⟩ := hold i (by rw [HM.out]; exact hi)
    exact ⟨A, x0, x1, h1, h2, fun w' b j u hj => cell_keep (h3 j u hj) b⟩
  have c2 := row_at c.row 0 _ rfl
  rw [HM.out] at c2
  clear hold
  go_enter Try.func33, Try.ntmps33
  go_wp2_with fail
  go_loopw [12] (fun i wr => ∃ j : Nat, i = .int .i64 j ∧ j ≤ M ∧ Hid (∀ (i : Nat) (o : On.O), i < j → L[i]? = some o → ¬ o.who = x) ∧ Below w.heap.size w wr) (fun i _ => M - (intOf i).toNat)
  case atStart => exact ⟨0, rfl, by omega, fun i o h => absurd h (by omega), Below.refl _ _⟩
  case round =>
    obtain ⟨j, rfl, hj, HNO, rb⟩ := hrel
    by_cases hjn : j < M
    · have hjn' : (j : Int) < (M : Int) := by omega
      obtain ⟨A, x0, x1, hoa, hL, hcell⟩ := HCL.out j hjn
      subst hoa
      have hcw := hcell wr rb
      have z0 : Row (wr.alloc (.cells #[.int .i64 0, .int .i64 0] 81)) wr.heap.size #[.int .i64 0, .int .i64 0] 81 := Row.new _ _ _
      have r2 : Row ((wr.alloc (.cells #[.int .i64 0, .int .i64 0] 81)).setRow wr.heap.size #[.int .i64 x0, .int .i64 x1]) wr.heap.size #[.int .i64 x0, .int .i64 x1] 81 := z0.set _
      have b2 : Below wr.heap.size wr ((wr.alloc (.cells #[.int .i64 0, .int .i64 0] 81)).setRow wr.heap.size #[.int .i64 x0, .int .i64 x1]) := below_setRow ((Below.refl _ _).alloc (Nat.le_refl _) _) (Nat.le_refl _) _
      have rb2 := rb.trans (b2.mono rb.size)
      have k0 := row_at r2 0 (.int .i64 x0) rfl
      have k1 := row_at r2 1 (.int .i64 x1) rfl
      have HT : Hid _ := hL
      have hz81 := zero81
      have tl : Hid (1 = 1) := rfl
      have ts : Hid (1 = 1) := rfl
      clear hcell hL b2
      by_cases hx : x0 = x
      · subst hx
        have HE : Hid (whenL L x0 = x1) := (whenL_step HNO.out).1 _ HT.out rfl
        go_wp2_with (first
        | (have hh := tl; clear hh tl; refine wpList_load_any rfl 81 (.tmp 14) rfl (A.add (j * 2)) rfl [.int .i64 x0, .int .i64 x1] _ hcw Try.underlying81 rfl size81 ?_) | (have hh := ts; clear hh ts; refine store_cells rfl 81 (.tmp 6) (.tmp 15) rfl wr.heap.size #[.int .i64 x0, .int .i64 x1] rfl rfl 81 _ z0 2 size81 rfl rfl (by simp [Value.oneCell']) ?_))
        go_ret
        exact ⟨by rw [HE.out]; rfl, rb2⟩
      · go_wp2_with (first
        | (have hh := tl; clear hh tl; refine wpList_load_any rfl 81 (.tmp 14) rfl (A.add (j * 2)) rfl [.int .i64 x0, .int .i64 x1] _ hcw Try.underlying81 rfl size81 ?_) | (have hh := ts; clear hh ts; refine store_cells rfl 81 (.tmp 6) (.tmp 15) rfl wr.heap.size #[.int .i64 x0, .int .i64 x1] rfl rfl 81 _ z0 2 size81 rfl rfl (by simp [Value.oneCell']) ?_))
        go_roundw
        case rel => exact ⟨j + 1, by go_num, by omega, fun i o hi ho => by
            by_cases q : i < j
            · exact HNO.out i o q ho
            · obtain rfl : i = j := by omega
              have := HT.out
              rw [ho] at this
              cases this
              exact hx, rb2⟩
        case measure => simp [intOf]; omega
    · have hjn' : ¬ (j : Int) < (M : Int) := by omega
      have HE : Hid (whenL L x = 0) := (whenL_step HNO.out).2 (by rw [HM.out]; omega)
      go_wp2
      go_ret
      exact ⟨by rw [HE.out]; rfl, rb⟩
/-- Is there nobody who asked ahead? -/
def rhasV (L : List On.O) (x : Int) : Bool := if (∃ o ∈ L, o.when < whenL L x) then false else decide (whenL L x > 0)
set_option maxHeartbeats 1000000 in
theorem rhas_any {w : World} {r : Nat} {v : Value} {N : Int} {L : List On.O} (c : RtAt w r v N L) (x : Int) : Calls Try.prog 31 #[.pointer (some ⟨r, 0, none⟩), .int .i64 x] w fun e w' => e = .returned (.bool (rhasV L x)) ∧ Below w.heap.size w w' := by
  have hat := rat_any c x
  obtain ⟨oa, cap, rfl, hold⟩ := On.Olds.hold c.own.olds
  obtain ⟨M, HM⟩ : ∃ M, Hid (L.length = M) := ⟨_, rfl⟩
  have hsm : M ≤ 100 := by rw [← HM.out]; exact c.small
  have HCL : Hid (∀ i, i < M → ∃ (A : Addr) (x0 x1 : Int), oa = some A ∧ L[i]? = some ⟨x0, x1⟩ ∧ ∀ w', Below w.heap.size w w' → ∀ j u, [Value.int .i64 x0, .int .i64 x1][j]? = some u → w'.cell? ((A.add (i * 2)).add j) = some u) := fun i hi => by
    obtain ⟨A, x0, x1, h1, h2, h3⟩ := hold i (by rw [HM.out]; exact hi)
    exact ⟨A, x0, x1, h1, h2, fun w' b j u hj => cell_keep (h3 j u hj) b⟩
  have c2 := row_at c.row 0 _ rfl
  rw [HM.out] at c2
  clear hold
  have HC : Hid (∀ w', Below w.heap.size w w' → w'.cell? ⟨r, 0, none⟩ = some (.slice oa M cap)) := fun w' b => cell_keep c2 b
  obtain ⟨a, HA⟩ : ∃ a, Hid (whenL L x = a) := ⟨_, rfl⟩
  rw [HA.out] at hat
  clear c2
  go_enter Try.func31, Try.ntmps31
  go_upto_block 0 with (go_at_call 33; refine hat.mono ?_; clear hat; rintro e w1 ⟨he, b1⟩; obtain rfl := he; have c2 := HC.out _ b1)
  go_wp2_with fail
  go_loopw [16] (fun i wr => ∃ j : Nat, i = .int .i64 j ∧ j ≤ M ∧ Hid (∀ (i : Nat) (o : On.O), i < j → L[i]? = some o → ¬ o.when < a) ∧ Below w.heap.size w wr) (fun i _ => M - (intOf i).toNat)
  case atStart => exact ⟨0, rfl, by omega, fun i o h => absurd h (by omega), b1⟩
  case round =>
    clear b1 c2
    obtain ⟨j, rfl, hj, HNO, rb⟩ := hrel
    by_cases hjn : j < M
    · have hjn' : (j : Int) < (M : Int) := by omega
      obtain ⟨A, x0, x1, hoa, hL, hcell⟩ := HCL.out j hjn
      subst hoa
      have hcw := hcell wr rb
      have z0 : Row (wr.alloc (.cells #[.int .i64 0, .int .i64 0] 81)) wr.heap.size #[.int .i64 0, .int .i64 0] 81 := Row.new _ _ _
      have r2 : Row ((wr.alloc (.cells #[.int .i64 0, .int .i64 0] 81)).setRow wr.heap.size #[.int .i64 x0, .int .i64 x1]) wr.heap.size #[.int .i64 x0, .int .i64 x1] 81 := z0.set _
      have b2 : Below wr.heap.size wr ((wr.alloc (.cells #[.int .i64 0, .int .i64 0] 81)).setRow wr.heap.size #[.int .i64 x0, .int .i64 x1]) := below_setRow ((Below.refl _ _).alloc (Nat.le_refl _) _) (Nat.le_refl _) _
      have rb2 := rb.trans (b2.mono rb.size)
      have k0 := row_at r2 0 (.int .i64 x0) rfl
      have k1 := row_at r2 1 (.int .i64 x1) rfl
      have HT : Hid _ := hL
      have hz81 := zero81
      have tl : Hid (1 = 1) := rfl
      have ts : Hid (1 = 1) := rfl
      clear hcell hL b2
      by_cases hx : x1 < a
      · have HE : Hid (rhasV L x = false) := by
          show _ = _
          unfold rhasV
          rw [if_pos ⟨_, List.mem_of_getElem? HT.out, by rw [HA.out]; exact hx⟩]
        go_wp2_with (first
        | (have hh := tl; clear hh tl; refine wpList_load_any rfl 81 (.tmp 18) rfl (A.add (j * 2)) rfl [.int .i64 x0, .int .i64 x1] _ hcw Try.underlying81 rfl size81 ?_) | (have hh := ts; clear hh ts; refine store_cells rfl 81 (.tmp 7) (.tmp 19) rfl wr.heap.size #[.int .i64 x0, .int .i64 x1] rfl rfl 81 _ z0 2 size81 rfl rfl (by simp [Value.oneCell']) ?_))
        go_ret
        exact ⟨by rw [HE.out]; rfl, rb2⟩
      · go_wp2_with (first
        | (have hh := tl; clear hh tl; refine wpList_load_any rfl 81 (.tmp 18) rfl (A.add (j * 2)) rfl [.int .i64 x0, .int .i64 x1] _ hcw Try.underlying81 rfl size81 ?_) | (have hh := ts; clear hh ts; refine store_cells rfl 81 (.tmp 7) (.tmp 19) rfl wr.heap.size #[.int .i64 x0, .int .i64 x1] rfl rfl 81 _ z0 2 size81 rfl rfl (by simp [Value.oneCell']) ?_))
        go_roundw
        case rel => exact ⟨j + 1, by go_num, by omega, fun i o hi ho => by
            by_cases q : i < j
            · exact HNO.out i o q ho
            · obtain rfl : i = j := by omega
              have := HT.out
              rw [ho] at this
              cases this
              exact hx, rb2⟩
        case measure => simp [intOf]; omega
    · have hjn' : ¬ (j : Int) < (M : Int) := by omega
      have HE : Hid (rhasV L x = decide (a > 0)) := by
        show _ = _
        unfold rhasV
        rw [if_neg, HA.out]
        rintro ⟨o, ho, hw⟩
        rw [HA.out] at hw
        obtain ⟨i, hi, rfl⟩ := List.getElem_of_mem ho
        exact HNO.out i _ (by rw [HM.out] at hi; omega) (List.getElem?_eq_getElem hi) hw
      go_wp2
      go_ret
      exact ⟨by rw [HE.out]; rfl, rb⟩
end Go.Proofs.Ytmnbfcmamhinbaa.Tu
