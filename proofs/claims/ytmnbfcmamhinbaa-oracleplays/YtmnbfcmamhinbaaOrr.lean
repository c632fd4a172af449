/-
  The document's oracle as it lies in memory: all that ever began; what its calls answer, and make of it.
-/
import Derived.Test.YtmnbfcmamhinbaaOrl
import Derived.Test.YtmnbfcmamhinbaaTxn
import Derived.BigQuiet
import Derived.WalkSmall
namespace Go.Proofs.Ytmnbfcmamhinbaa
open Go.ChangeShapes Go.WideShapes Go.ChangeAt Go.RowKit
open Go.Deep Go.Maps
set_option linter.unusedVariables false
set_option linter.unusedSimpArgs false


theorem Tx.Own.off {F : Nat → Prop} {w w' : World} {base : Nat} {v : Value} {os : List Tx.O} (h : Tx.Own w base v os) (ho : Off F w w') (hF : ∀ k, base ≤ k → ¬ F k) : Tx.Own w' base v os := by
  have hl := World.ownsRow.lt h
  obtain ⟨h1, h2⟩ := h
  refine ⟨h1, ?_⟩
  rcases h2 with h2 | ⟨g, cap, cur, rfl, hb', hc, rest⟩
  · exact Or.inl h2
  · have := hl g (by simp [Value.ownBlock])
    exact Or.inr ⟨g, cap, cur, rfl, hb', (ho.block g this.2 (hF g hb')).trans hc, rest⟩
theorem below_setRow {B : Nat} {a w : World} (h : Below B a w) {g : Nat} (hg : B ≤ g) (cs : Array Value) : Below B a (w.setRow g cs) :=
  ⟨h.os, h.tape, h.output, by simp [World.setRow]; exact h.size, fun k hk => (setRow_other w g k cs (by omega)).trans (h.block k hk)⟩
/-- The document's oracle in memory. -/
structure RfAt (w : World) (r : Nat) (v : Value) (last max : Int) (T : List Tx.O) : Prop where
  row : Row w r #[.int .u32 last, .int .u32 max, v] 30
  own : Tx.Own w (r + 1) v T
  small : T.length ≤ 100
  nums : ∀ (i : Nat) (o : Tx.O), T[i]? = some o → o.n = (i : Int) + 1
theorem RfAt.off {F : Nat → Prop} {w w' : World} {r : Nat} {v : Value} {last max : Int} {T : List Tx.O} (c : RfAt w r v last max T) (ho : Off F w w') (hF : ∀ k, r ≤ k → ¬ F k) : RfAt w' r v last max T :=
  { c with row := c.row.off ho (hF _ (Nat.le_refl _)), own := c.own.off ho (fun k hk => hF k (by omega)) }
theorem RfAt.below {w w' : World} {r : Nat} {v : Value} {last max : Int} {T : List Tx.O} (c : RfAt w r v last max T) (hb : Below w.heap.size w w') : RfAt w' r v last max T :=
  c.off (F := fun _ => False) (Off.of_below hb) fun _ _ q => q
/-- The live ones. -/
def lv (T : List Tx.O) : List (Int × Int) := (T.filter (·.live)).map fun o => (o.n, o.start)
theorem lv_append (A B : List Tx.O) : lv (A ++ B) = lv A ++ lv B := by simp [lv]
theorem take_next {T : List Tx.O} {j : Nat} {o : Tx.O} (h : T[j]? = some o) : T.take (j + 1) = T.take j ++ [o] := by
  rw [List.take_add_one, h]; rfl
theorem size41 : (Try.prog.info? 41).map (·.size) = some 3 := by kernel_rfl
theorem zero41 (w : World) : (zeroValue 41).run Try.prog w = .ok (.agg #[.int .u64 0, .int .u32 0, .bool false]) w := (zero_of_info (P := Try.prog) (t := 41) (v := .agg #[.int .u64 0, .int .u32 0, .bool false]) (n := 3) (by kernel_rfl)).1 w
/-- The place of a live one. -/
def atT (T : List Tx.O) (n : Int) : Option Nat := T.findIdx? fun o => decide (o.n = n) && o.live
def atI (T : List Tx.O) (n : Int) : Int := match atT T n with | some i => (i : Int) | none => -1

set_option maxHeartbeats 1000000 in
theorem rat_any {w : World} {r : Nat} {v : Value} {last max : Int} {T : List Tx.O} (c : RfAt w r v last max T) (n : Int) :
    Calls Try.prog 11 #[.pointer (some ⟨r, 0, none⟩), .int .u64 n] w fun e w' => e = .returned (.int .i64 (atI T n)) ∧ w' = w := by
  obtain ⟨oa, cap, rfl, hold⟩ := Tx.Olds.hold c.own.olds
  obtain ⟨N, HN⟩ : ∃ N, Hid (T.length = N) := ⟨_, rfl⟩
  have hsm : N ≤ 100 := by rw [← HN.out]; exact c.small
  have HCL : Hid (∀ i, i < N → ∃ (A : Addr) (x0 x1 : Int) (x2 : Bool), oa = some A ∧ T[i]? = some ⟨x0, x1, x2⟩ ∧ ∀ w', Below w.heap.size w w' → ∀ j u, [Value.int .u64 x0, .int .u32 x1, .bool x2][j]? = some u → w'.cell? ((A.add (i * 3)).add j) = some u) := fun i hi => by
    obtain ⟨A, x0, x1, x2, h1, h2, h3⟩ := hold i (by rw [HN.out]; exact hi)
    exact ⟨A, x0, x1, x2, h1, h2, fun w' b j u hj => cell_keep (h3 j u hj) b⟩
  have c2 := row_at c.row 2 _ rfl
  rw [HN.out] at c2
  clear hold
  have HNO : Hid (∀ j, j ≤ N → (∀ (i : Nat) (o : Tx.O), i < j → T[i]? = some o → ¬ (o.n = n ∧ o.live = true)) → (j = N → atI T n = -1) ∧ (∀ o, T[j]? = some o → o.n = n → o.live = true → atI T n = j)) := fun j hj hno => by
    constructor
    · intro e
      have : atT T n = none := by
        unfold atT
        rw [List.findIdx?_eq_none_iff]
        intro o ho
        obtain ⟨i, hi, rfl⟩ := List.getElem_of_mem ho
        have := hno i _ (by rw [e, ← HN.out]; exact hi) (List.getElem?_eq_getElem hi)
        simpa using this
      unfold atI; rw [this]
    · intro o ho h1 h2
      have : atT T n = some j := by
        unfold atT
        obtain ⟨hjl, hjo⟩ := List.getElem?_eq_some_iff.1 ho
        rw [List.findIdx?_eq_some_iff_getElem]
        refine ⟨hjl, by rw [hjo]; simp [h1, h2], fun i hi => ?_⟩
        have := hno i _ hi (List.getElem?_eq_getElem (by omega))
        simpa using this
      unfold atI; rw [this]
  go_enter Try.func11, Try.ntmps11
  go_wp2_with fail
  go_loopw [11] (fun i wr => ∃ j : Nat, i = .int .i64 j ∧ j ≤ N ∧ wr = w ∧ Hid (∀ (i : Nat) (o : Tx.O), i < j → T[i]? = some o → ¬ (o.n = n ∧ o.live = true))) (fun i _ => N - (intOf i).toNat)
  case atStart => exact ⟨0, rfl, by omega, rfl, fun i o h => absurd h (by omega)⟩
  case round =>
    obtain ⟨j, rfl, hj, rfl, HM⟩ := hrel
    by_cases hjn : j < N
    · have hjn' : (j : Int) < (N : Int) := by omega
      obtain ⟨A, x0, x1, x2, hoa, hT, hcell⟩ := HCL.out j hjn
      subst hoa
      have d0 : wr.cell? (A.add (j * 3)) = some (.int .u64 x0) := by
        have := hcell wr (Below.refl _ _) 0 (.int .u64 x0) rfl
        rwa [Addr.add_zero'] at this
      have d2 : wr.cell? ⟨(A.add (j * 3)).block, (A.add (j * 3)).off + 2, none⟩ = some (.bool x2) := hcell wr (Below.refl _ _) 2 (.bool x2) rfl
      have HT : Hid _ := hT
      clear hcell hT
      by_cases hx : x0 = n
      · subst hx
        cases x2 with
        | true =>
          have e := (HNO.out j hj HM.out).2 _ HT.out rfl rfl
          have HE : Hid _ := e
          clear e
          go_wp2
          go_ret
          exact ⟨by rw [HE.out]; rfl, rfl⟩
        | false =>
          go_wp2
          go_roundw
          case rel => exact ⟨j + 1, by go_num, by omega, by first | rfl | trivial, fun i o hi ho => by
            by_cases q : i < j
            · exact HM.out i o q ho
            · obtain rfl : i = j := by omega
              have := HT.out
              rw [ho] at this
              cases this
              simp⟩
          case measure => simp [intOf]; omega
      · go_wp2
        go_roundw
        case rel => exact ⟨j + 1, by go_num, by omega, by first | rfl | trivial, fun i o hi ho => by
            by_cases q : i < j
            · exact HM.out i o q ho
            · obtain rfl : i = j := by omega
              have := HT.out
              rw [ho] at this
              cases this
              exact fun h => hx h.1⟩
        case measure => simp [intOf]; omega
    · have hjn' : ¬ (j : Int) < (N : Int) := by omega
      obtain rfl : j = N := by omega
      have e := (HNO.out j hj HM.out).1 rfl
      have HE : Hid _ := e
      clear e
      go_wp2
      go_ret
      exact ⟨by rw [HE.out]; rfl, rfl⟩

set_option maxHeartbeats 1000000 in
theorem rlive_any {w : World} {r : Nat} {v : Value} {last max : Int} {T : List Tx.O} (c : RfAt w r v last max T) :
    Calls Try.prog 35 #[.pointer (some ⟨r, 0, none⟩)] w fun e w' => e = .returned (.int .i64 ((lv T).length : Nat)) ∧ Below w.heap.size w w' := by
  obtain ⟨oa, cap, rfl, hold⟩ := Tx.Olds.hold c.own.olds
  obtain ⟨N, HN⟩ : ∃ N, Hid (T.length = N) := ⟨_, rfl⟩
  have hsm : N ≤ 100 := by rw [← HN.out]; exact c.small
  have HCL : Hid (∀ i, i < N → ∃ (A : Addr) (x0 x1 : Int) (x2 : Bool), oa = some A ∧ T[i]? = some ⟨x0, x1, x2⟩ ∧ ∀ w', Below w.heap.size w w' → ∀ j u, [Value.int .u64 x0, .int .u32 x1, .bool x2][j]? = some u → w'.cell? ((A.add (i * 3)).add j) = some u) := fun i hi => by
    obtain ⟨A, x0, x1, x2, h1, h2, h3⟩ := hold i (by rw [HN.out]; exact hi)
    exact ⟨A, x0, x1, x2, h1, h2, fun w' b j u hj => cell_keep (h3 j u hj) b⟩
  have c2 := row_at c.row 2 _ rfl
  rw [HN.out] at c2
  clear hold
  have HEND : Hid ((lv (T.take N)).length = (lv T).length) := by show _ = _; rw [List.take_of_length_le (by rw [HN.out]; exact Nat.le_refl _)]
  have HLE : Hid (∀ j, (lv (T.take j)).length ≤ 100) := fun j => by
    have h1 : (lv (T.take j)).length ≤ (T.take j).length := by unfold lv; rw [List.length_map]; exact List.length_filter_le _ _
    have h2 : (T.take j).length ≤ T.length := by rw [List.length_take]; exact Nat.min_le_right _ _
    have h3 := HN.out
    omega
  go_enter Try.func35, Try.ntmps35
  go_wp2_with fail
  go_loopw [3, 11] (fun a i wr => ∃ (j q : Nat), a = .int .i64 q ∧ i = .int .i64 j ∧ j ≤ N ∧ Hid ((lv (T.take j)).length = q) ∧ Below w.heap.size w wr) (fun _ i _ => N - (intOf i).toNat)
  case atStart => exact ⟨0, 0, rfl, rfl, by omega, rfl, Below.refl _ _⟩
  case round =>
    obtain ⟨j, q, rfl, rfl, hj, HQ, rb⟩ := hrel
    have hq : q ≤ 100 := by rw [← HQ.out]; exact HLE.out j
    by_cases hjn : j < N
    · have hjn' : (j : Int) < (N : Int) := by omega
      obtain ⟨A, x0, x1, x2, hoa, hT, hcell⟩ := HCL.out j hjn
      subst hoa
      have hcw := hcell wr rb
      have z0 : Row (wr.alloc (.cells #[.int .u64 0, .int .u32 0, .bool false] 41)) wr.heap.size #[.int .u64 0, .int .u32 0, .bool false] 41 := Row.new _ _ _
      have r2 : Row ((wr.alloc (.cells #[.int .u64 0, .int .u32 0, .bool false] 41)).setRow wr.heap.size #[.int .u64 x0, .int .u32 x1, .bool x2]) wr.heap.size #[.int .u64 x0, .int .u32 x1, .bool x2] 41 := z0.set _
      have b2 : Below wr.heap.size wr ((wr.alloc (.cells #[.int .u64 0, .int .u32 0, .bool false] 41)).setRow wr.heap.size #[.int .u64 x0, .int .u32 x1, .bool x2]) := below_setRow ((Below.refl _ _).alloc (Nat.le_refl _) _) (Nat.le_refl _) _
      have rb2 := rb.trans (b2.mono rb.size)
      have k0 := row_at r2 0 (.int .u64 x0) rfl
      have k1 := row_at r2 1 (.int .u32 x1) rfl
      have k2 := row_at r2 2 (.bool x2) rfl
      have HT : Hid _ := hT
      have hz41 := zero41
      have tl : Hid (1 = 1) := rfl
      have ts : Hid (1 = 1) := rfl
      clear hcell hT r2 b2
      cases x2 with
      | true =>
        have HQ2 : Hid ((lv (T.take (j + 1))).length = q + 1) := by show _ = _; rw [take_next HT.out, lv_append, List.length_append, HQ.out]; rfl
        go_wp2_with (first
        | (have hh := tl; clear hh tl; refine wpList_load_any rfl 41 (.tmp 13) rfl (A.add (j * 3)) rfl [.int .u64 x0, .int .u32 x1, .bool true] _ hcw Try.underlying41 rfl size41 ?_) | (have hh := ts; clear hh ts; refine store_cells rfl 41 (.tmp 5) (.tmp 14) rfl wr.heap.size #[.int .u64 x0, .int .u32 x1, .bool true] rfl rfl 41 _ z0 3 size41 rfl rfl (by simp [Value.oneCell']) ?_))
        go_roundw
        case rel => exact ⟨j + 1, q + 1, by go_num, by go_num, by omega, HQ2, rb2⟩
        case measure => simp [intOf]; omega
      | false =>
        have HQ2 : Hid ((lv (T.take (j + 1))).length = q) := by show _ = _; rw [take_next HT.out, lv_append, List.length_append, HQ.out]; rfl
        go_wp2_with (first
        | (have hh := tl; clear hh tl; refine wpList_load_any rfl 41 (.tmp 13) rfl (A.add (j * 3)) rfl [.int .u64 x0, .int .u32 x1, .bool false] _ hcw Try.underlying41 rfl size41 ?_) | (have hh := ts; clear hh ts; refine store_cells rfl 41 (.tmp 5) (.tmp 14) rfl wr.heap.size #[.int .u64 x0, .int .u32 x1, .bool false] rfl rfl 41 _ z0 3 size41 rfl rfl (by simp [Value.oneCell']) ?_))
        go_roundw
        case rel => exact ⟨j + 1, q, rfl, by go_num, by omega, HQ2, rb2⟩
        case measure => simp [intOf]; omega
    · have hjn' : ¬ (j : Int) < (N : Int) := by omega
      obtain rfl : j = N := by omega
      have e : (lv T).length = q := by rw [← HEND.out]; exact HQ.out
      have HE : Hid _ := e
      clear e
      go_wp2
      go_ret
      exact ⟨by rw [HE.out]; rfl, rb⟩
theorem horL_append (last : Int) (A B : List (Int × Int)) : horL last (A ++ B) = horL (horL last A) B := by unfold horL; rw [List.foldl_append]
set_option maxHeartbeats 1000000 in
theorem rhor_any {w : World} {r : Nat} {v : Value} {last max : Int} {T : List Tx.O} (c : RfAt w r v last max T) :
    Calls Try.prog 20 #[.pointer (some ⟨r, 0, none⟩)] w fun e w' => e = .returned (.int .u32 (horL last (lv T))) ∧ Below w.heap.size w w' := by
  obtain ⟨oa, cap, rfl, hold⟩ := Tx.Olds.hold c.own.olds
  obtain ⟨N, HN⟩ : ∃ N, Hid (T.length = N) := ⟨_, rfl⟩
  have hsm : N ≤ 100 := by rw [← HN.out]; exact c.small
  have HCL : Hid (∀ i, i < N → ∃ (A : Addr) (x0 x1 : Int) (x2 : Bool), oa = some A ∧ T[i]? = some ⟨x0, x1, x2⟩ ∧ ∀ w', Below w.heap.size w w' → ∀ j u, [Value.int .u64 x0, .int .u32 x1, .bool x2][j]? = some u → w'.cell? ((A.add (i * 3)).add j) = some u) := fun i hi => by
    obtain ⟨A, x0, x1, x2, h1, h2, h3⟩ := hold i (by rw [HN.out]; exact hi)
    exact ⟨A, x0, x1, x2, h1, h2, fun w' b j u hj => cell_keep (h3 j u hj) b⟩
  have c2 := row_at c.row 2 _ rfl
  rw [HN.out] at c2
  clear hold
  have c0 := row_at c.row 0 _ rfl
  have HEND : Hid (horL last (lv (T.take N)) = horL last (lv T)) := by show _ = _; rw [List.take_of_length_le (by rw [HN.out]; exact Nat.le_refl _)]
  go_enter Try.func20, Try.ntmps20
  go_wp2_with fail
  go_loopw [3, 15] (fun a i wr => ∃ (j : Nat) (h : Int), a = .int .u32 h ∧ i = .int .i64 j ∧ j ≤ N ∧ Hid (horL last (lv (T.take j)) = h) ∧ Below w.heap.size w wr) (fun _ i _ => N - (intOf i).toNat)
  case atStart => exact ⟨0, last, rfl, rfl, by omega, rfl, Below.refl _ _⟩
  case round =>
    obtain ⟨j, h, rfl, rfl, hj, HQ, rb⟩ := hrel
    by_cases hjn : j < N
    · have hjn' : (j : Int) < (N : Int) := by omega
      obtain ⟨A, x0, x1, x2, hoa, hT, hcell⟩ := HCL.out j hjn
      subst hoa
      have hcw := hcell wr rb
      have z0 : Row (wr.alloc (.cells #[.int .u64 0, .int .u32 0, .bool false] 41)) wr.heap.size #[.int .u64 0, .int .u32 0, .bool false] 41 := Row.new _ _ _
      have r2 : Row ((wr.alloc (.cells #[.int .u64 0, .int .u32 0, .bool false] 41)).setRow wr.heap.size #[.int .u64 x0, .int .u32 x1, .bool x2]) wr.heap.size #[.int .u64 x0, .int .u32 x1, .bool x2] 41 := z0.set _
      have b2 : Below wr.heap.size wr ((wr.alloc (.cells #[.int .u64 0, .int .u32 0, .bool false] 41)).setRow wr.heap.size #[.int .u64 x0, .int .u32 x1, .bool x2]) := below_setRow ((Below.refl _ _).alloc (Nat.le_refl _) _) (Nat.le_refl _) _
      have rb2 := rb.trans (b2.mono rb.size)
      have k0 := row_at r2 0 (.int .u64 x0) rfl
      have k1 := row_at r2 1 (.int .u32 x1) rfl
      have k2 := row_at r2 2 (.bool x2) rfl
      have HT : Hid _ := hT
      have hz41 := zero41
      have tl : Hid (1 = 1) := rfl
      have ts : Hid (1 = 1) := rfl
      clear hcell hT r2 b2
      cases x2 with
      | true =>
        have HQ2 : Hid (horL last (lv (T.take (j + 1))) = min h x1) := by show _ = _; rw [take_next HT.out, lv_append, horL_append, HQ.out]; rfl
        by_cases hlt : x1 < h
        · go_wp2_with (first
          | (have hh := tl; clear hh tl; refine wpList_load_any rfl 41 (.tmp 17) rfl (A.add (j * 3)) rfl [.int .u64 x0, .int .u32 x1, .bool true] _ hcw Try.underlying41 rfl size41 ?_) | (have hh := ts; clear hh ts; refine store_cells rfl 41 (.tmp 5) (.tmp 18) rfl wr.heap.size #[.int .u64 x0, .int .u32 x1, .bool true] rfl rfl 41 _ z0 3 size41 rfl rfl (by simp [Value.oneCell']) ?_))
          go_roundw
          case rel => exact ⟨j + 1, x1, rfl, by go_num, by omega, by show _ = _; rw [HQ2.out]; omega, rb2⟩
          case measure => simp [intOf]; omega
        · go_wp2_with (first
          | (have hh := tl; clear hh tl; refine wpList_load_any rfl 41 (.tmp 17) rfl (A.add (j * 3)) rfl [.int .u64 x0, .int .u32 x1, .bool true] _ hcw Try.underlying41 rfl size41 ?_) | (have hh := ts; clear hh ts; refine store_cells rfl 41 (.tmp 5) (.tmp 18) rfl wr.heap.size #[.int .u64 x0, .int .u32 x1, .bool true] rfl rfl 41 _ z0 3 size41 rfl rfl (by simp [Value.oneCell']) ?_))
          go_roundw
          case rel => exact ⟨j + 1, h, rfl, by go_num, by omega, by show _ = _; rw [HQ2.out]; omega, rb2⟩
          case measure => simp [intOf]; omega
      | false =>
        have HQ2 : Hid (horL last (lv (T.take (j + 1))) = h) := by show _ = _; rw [take_next HT.out, lv_append, horL_append, HQ.out]; rfl
        go_wp2_with (first
        | (have hh := tl; clear hh tl; refine wpList_load_any rfl 41 (.tmp 17) rfl (A.add (j * 3)) rfl [.int .u64 x0, .int .u32 x1, .bool false] _ hcw Try.underlying41 rfl size41 ?_) | (have hh := ts; clear hh ts; refine store_cells rfl 41 (.tmp 5) (.tmp 18) rfl wr.heap.size #[.int .u64 x0, .int .u32 x1, .bool false] rfl rfl 41 _ z0 3 size41 rfl rfl (by simp [Value.oneCell']) ?_))
        go_roundw
        case rel => exact ⟨j + 1, h, rfl, by go_num, by omega, HQ2, rb2⟩
        case measure => simp [intOf]; omega
    · have hjn' : ¬ (j : Int) < (N : Int) := by omega
      obtain rfl : j = N := by omega
      have e : horL last (lv T) = h := by rw [← HEND.out]; exact HQ.out
      have HE : Hid _ := e
      clear e
      go_wp2
      go_ret
      exact ⟨by rw [HE.out]; rfl, rb⟩
set_option maxHeartbeats 2000000 in
set_option maxRecDepth 20000 in
theorem lives_any {w : World} {r : Nat} {v : Value} {last max : Int} {T : List Tx.O} (c : RfAt w r v last max T) {a cap2 : Nat} {cur : Array Value} (U : S8.UAt w a cur ((lv T).map Prod.fst)) (K : Nat) (hK : (lv T).length = K) (h8 : K ≤ 8) :
    Calls Try.prog 21 #[.slice (some ⟨a, 0, none⟩) K cap2, .pointer (some ⟨r, 0, none⟩)] w fun e w' => e = .returned (.bool true) ∧ Below w.heap.size w w' := by
  obtain ⟨oa, cap, rfl, hold⟩ := Tx.Olds.hold c.own.olds
  obtain ⟨N, HN⟩ : ∃ N, Hid (T.length = N) := ⟨_, rfl⟩
  have hsm : N ≤ 100 := by rw [← HN.out]; exact c.small
  have HCL : Hid (∀ i, i < N → ∃ (A : Addr) (x0 x1 : Int) (x2 : Bool), oa = some A ∧ T[i]? = some ⟨x0, x1, x2⟩ ∧ ∀ w', Below w.heap.size w w' → ∀ j u, [Value.int .u64 x0, .int .u32 x1, .bool x2][j]? = some u → w'.cell? ((A.add (i * 3)).add j) = some u) := fun i hi => by
    obtain ⟨A, x0, x1, x2, h1, h2, h3⟩ := hold i (by rw [HN.out]; exact hi)
    exact ⟨A, x0, x1, x2, h1, h2, fun w' b j u hj => cell_keep (h3 j u hj) b⟩
  have c2 := row_at c.row 2 _ rfl
  rw [HN.out] at c2
  clear hold
  have HK : Hid _ := hK
  clear hK
  have HEND : Hid ((lv (T.take N)).length = K) := by show _ = _; rw [List.take_of_length_le (by rw [HN.out]; exact Nat.le_refl _)]; exact HK.out
  have HCE : Hid (∀ j o, T[j]? = some o → o.live = true → (lv (T.take j)).length < K ∧ ∀ w', Below w.heap.size w w' → w'.cell? ⟨a, (lv (T.take j)).length, none⟩ = some (.int .u64 o.n)) := fun j o ho hl => by
    obtain ⟨hjl, hjo⟩ := List.getElem?_eq_some_iff.1 ho
    have e : lv T = lv (T.take j) ++ (o.n, o.start) :: lv (T.drop (j + 1)) := by
      have q : T = T.take j ++ ([o] ++ T.drop (j + 1)) := by
        rw [List.singleton_append, ← hjo, ← List.drop_eq_getElem_cons hjl, List.take_append_drop]
      have q2 : lv T = lv (T.take j ++ ([o] ++ T.drop (j + 1))) := by rw [← q]
      rw [q2, lv_append, lv_append]
      have q3 : lv [o] = [(o.n, o.start)] := by unfold lv; simp [hl]
      rw [q3]; rfl
    constructor
    · rw [← HK.out, e]; simp
    · intro w' b
      refine cell_keep (U.cell _ o.n ?_) b
      rw [e, List.map_append, List.getElem?_append_right (by simp)]
      simp
  clear U
  go_enter Try.func21, Try.ntmps21
  go_wp2_with fail
  go_loopw [5, 13] (fun a i wr => ∃ (j q : Nat), a = .int .i64 q ∧ i = .int .i64 j ∧ j ≤ N ∧ Hid ((lv (T.take j)).length = q) ∧ Below w.heap.size w wr) (fun _ i _ => N - (intOf i).toNat)
  case atStart => exact ⟨0, 0, rfl, rfl, by omega, rfl, Below.refl _ _⟩
  case round =>
    obtain ⟨j, q, rfl, rfl, hj, HQ, rb⟩ := hrel
    by_cases hjn : j < N
    · have hjn' : (j : Int) < (N : Int) := by omega
      obtain ⟨A, x0, x1, x2, hoa, hT, hcell⟩ := HCL.out j hjn
      subst hoa
      have hcw := hcell wr rb
      have z0 : Row (wr.alloc (.cells #[.int .u64 0, .int .u32 0, .bool false] 41)) wr.heap.size #[.int .u64 0, .int .u32 0, .bool false] 41 := Row.new _ _ _
      have r2 : Row ((wr.alloc (.cells #[.int .u64 0, .int .u32 0, .bool false] 41)).setRow wr.heap.size #[.int .u64 x0, .int .u32 x1, .bool x2]) wr.heap.size #[.int .u64 x0, .int .u32 x1, .bool x2] 41 := z0.set _
      have b2 : Below wr.heap.size wr ((wr.alloc (.cells #[.int .u64 0, .int .u32 0, .bool false] 41)).setRow wr.heap.size #[.int .u64 x0, .int .u32 x1, .bool x2]) := below_setRow ((Below.refl _ _).alloc (Nat.le_refl _) _) (Nat.le_refl _) _
      have rb2 := rb.trans (b2.mono rb.size)
      have k0 := row_at r2 0 (.int .u64 x0) rfl
      have k1 := row_at r2 1 (.int .u32 x1) rfl
      have k2 := row_at r2 2 (.bool x2) rfl
      have HT : Hid _ := hT
      have hz41 := zero41
      have tl : Hid (1 = 1) := rfl
      have ts : Hid (1 = 1) := rfl
      clear hcell hT r2 b2
      cases x2 with
      | true =>
        have HQ2 : Hid ((lv (T.take (j + 1))).length = q + 1) := by show _ = _; rw [take_next HT.out, lv_append, List.length_append, HQ.out]; rfl
        obtain ⟨hqK, hce⟩ := HCE.out j _ HT.out rfl
        have ce := hce _ rb2
        rw [HQ.out] at ce hqK
        simp only at ce
        have hqK' : (q : Int) < (K : Int) := by omega
        have hge : decide ((q : Int) ≥ (K : Int)) = false := by simp; omega
        clear hce
        go_upto_region 6 with (first
        | (have hh := tl; clear hh tl; refine wpList_load_any rfl 41 (.tmp 15) rfl (A.add (j * 3)) rfl [.int .u64 x0, .int .u32 x1, .bool true] _ hcw Try.underlying41 rfl size41 ?_) | (have hh := ts; clear hh ts; refine store_cells rfl 41 (.tmp 7) (.tmp 16) rfl wr.heap.size #[.int .u64 x0, .int .u32 x1, .bool true] rfl rfl 41 _ z0 3 size41 rfl rfl (by simp [Value.oneCell']) ?_))
        clear hcw z0
        go_quiet (fail)
        go_wp2
        go_roundw
        case rel => exact ⟨j + 1, q + 1, by go_num, by go_num, by omega, HQ2, below_drewN rb2 _⟩
        case measure => simp [intOf]; omega
      | false =>
        have HQ2 : Hid ((lv (T.take (j + 1))).length = q) := by show _ = _; rw [take_next HT.out, lv_append, List.length_append, HQ.out]; rfl
        go_wp2_with (first
        | (have hh := tl; clear hh tl; refine wpList_load_any rfl 41 (.tmp 15) rfl (A.add (j * 3)) rfl [.int .u64 x0, .int .u32 x1, .bool false] _ hcw Try.underlying41 rfl size41 ?_) | (have hh := ts; clear hh ts; refine store_cells rfl 41 (.tmp 7) (.tmp 16) rfl wr.heap.size #[.int .u64 x0, .int .u32 x1, .bool false] rfl rfl 41 _ z0 3 size41 rfl rfl (by simp [Value.oneCell']) ?_))
        go_roundw
        case rel => exact ⟨j + 1, q, rfl, by go_num, by omega, HQ2, rb2⟩
        case measure => simp [intOf]; omega
    · have hjn' : ¬ (j : Int) < (N : Int) := by omega
      obtain rfl : j = N := by omega
      have e : K = q := by rw [← HEND.out]; exact HQ.out
      subst e
      have h8' : (K : Int) ≤ 8 := by omega
      go_wp2
      go_ret
      exact ⟨rfl, rb⟩
end Go.Proofs.Ytmnbfcmamhinbaa
