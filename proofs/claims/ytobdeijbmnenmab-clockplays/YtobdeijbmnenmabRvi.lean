/-
  Proved here: which frame the document's clock gives up.
-/
import Derived.Test.YtobdeijbmnenmabRtn
namespace Go.Proofs.Ytobdeijbmnenmab
open Go.ChangeShapes Go.WideShapes Go.ChangeAt Go.RowKit
open Go.Deep
set_option linter.unusedVariables false
set_option linter.unusedSimpArgs false

/-- The frames as they lie in memory. -/
def decR (w : World) (r : Nat) : List Fr := match w.cell? ⟨r, 0, none⟩ with
  | some (.slice (some a) n _) => (List.range n).map fun j => ⟨(numOf (w.cell? ⟨a.block, j * 4 + 0, none⟩)).toNat, boolOf (w.cell? ⟨a.block, j * 4 + 1, none⟩), boolOf (w.cell? ⟨a.block, j * 4 + 2, none⟩), numOf (w.cell? ⟨a.block, j * 4 + 3, none⟩)⟩
  | _ => []
theorem RAt.dec {w : World} {r b cap : Nat} {cur : Array Value} {L : List Fr} {R0 : Nat} (c : RAt w r b cap cur L R0) : decR w r = L := by
  unfold decR
  rw [row_at c.row 0 _ rfl]
  show (List.range L.length).map _ = L
  apply List.ext_getElem?
  intro j
  rw [List.getElem?_map]
  by_cases hj : j < L.length
  · obtain ⟨x, hx⟩ := c.ex hj
    rw [List.getElem?_range hj, hx, Option.map_some, c.cell hx 0 (by omega) _ rfl, c.cell hx 1 (by omega) _ rfl, c.cell hx 2 (by omega) _ rfl, c.cell hx 3 (by omega) _ rfl]
    simp [numOf, boolOf]
  · rw [List.getElem?_eq_none (by simp; omega), List.getElem?_eq_none (by omega)]; rfl
def RVicted (w : World) (r R0 : Nat) (L : List Fr) (e : Ending) (w' : World) : Prop :=
  ∃ (v : Nat) (ok : Bool) (L' : List Fr) (b' cap' : Nat) (cur' : Array Value), e = .returned (.tuple #[.int .i64 v, .bool ok]) ∧ Vict L v ok L' ∧ RAt w' r b' cap' cur' L' R0 ∧ Off (fun j => R0 ≤ j) w w'
theorem zero36 (w : World) : (zeroValue 36).run Try.prog w = .ok (.agg #[.int .i64 0, .bool false, .bool false, .int .i64 0]) w := (zero_of_info (P := Try.prog) (t := 36) (v := .agg #[.int .i64 0, .bool false, .bool false, .int .i64 0]) (n := 4) (by kernel_rfl)).1 w
def anyP (L : List Fr) : Bool := L.any fun y => decide (y.pins = 0)
set_option maxHeartbeats 2000000 in
set_option maxRecDepth 20000 in
theorem rvictim_any {w : World} {r b cap : Nat} {cur : Array Value} {L : List Fr} {R0 : Nat} (c : RAt w r b cap cur L R0) :
    Calls Try.prog 13 #[.pointer (some ⟨r, 0, none⟩)] w fun e w' => RVicted w r R0 L e w' := by
  obtain ⟨PP, HP⟩ : ∃ P : Ending → World → Prop, Hid (P = fun e w' => RVicted w r R0 L e w') := ⟨_, rfl⟩
  rw [show (fun e w' => RVicted w r R0 L e w') = PP from HP.out.symm]
  have HR : Hid (∀ (v : Nat) (ok : Bool) (L' : List Fr) (b' cap' : Nat) (cur' : Array Value) (w' : World), Vict L v ok L' → RAt w' r b' cap' cur' L' R0 → Off (fun j => R0 ≤ j) w w' → PP (.returned (.tuple #[.int .i64 v, .bool ok])) w') := fun v ok L' b' cap' cur' w' q1 q2 q3 => by
    rw [HP.out]; exact ⟨v, ok, L', b', cap', cur', rfl, q1, q2, q3⟩
  clear HP
  obtain ⟨n, Hn⟩ : ∃ n, Hid (L.length = n) := ⟨_, rfl⟩
  have hsm := c.small
  have c0 : w.cell? ⟨r, 0, none⟩ = some (.slice (some ⟨b, 0, none⟩) L.length cap) := row_at c.row 0 _ rfl
  rw [Hn.out] at c0 hsm
  have hz := zero36
  go_enter Try.func13, Try.ntmps13
  go_wp2_with fail
  go_loop [14] (fun i => ∃ k : Nat, i = .int .i64 k ∧ k ≤ n ∧ Hid (∀ (j : Nat) (y : Fr), j < k → L[j]? = some y → y.cf = false)) (fun i => n - (intOf i).toNat)
  case atStart => exact ⟨0, rfl, by omega, fun j y hj => by omega⟩
  case round =>
    obtain ⟨k, rfl, hk, HK⟩ := hrel
    by_cases hkn : k < n
    · have hkn' : (k : Int) < n := by omega
      obtain ⟨⟨no, sn, cd, p⟩, hx⟩ := c.ex (i := k) (by rw [Hn.out]; exact hkn)
      have x0 := c.cell hx 0 (by omega) _ rfl
      have x2 := c.cell hx 2 (by omega) _ rfl
      have x3 := c.cell hx 3 (by omega) _ rfl
      simp only [Nat.add_zero] at x0 x2 x3
      have HX : Hid _ := hx
      have HKN : Hid (∀ q : Fr, L[k]? = some q → q.cf = false → ∀ (j : Nat) (y : Fr), j < k + 1 → L[j]? = some y → y.cf = false) := fun q hq hcf j y hj hy => by
        by_cases e : j = k
        · subst e; rw [hq] at hy; cases hy; exact hcf
        · exact HK.out j y (by omega) hy
      clear hx
      cases cd with
      | false =>
        go_wp2_with fail
        go_round
        case rel => exact ⟨k + 1, by go_num, by omega, HKN.out _ HX.out rfl⟩
        case measure => simp [intOf]; omega
      | true =>
        by_cases hp : p = 0
        · subst hp
          have htn := turn_any c (k + 1) (by rw [Hn.out]; omega)
          have HVV : Hid (Vict L no true (L.drop (k + 1) ++ L.take (k + 1))) := by
            have hkl : k < L.length := by rw [Hn.out]; exact hkn
            have hget := (List.getElem?_eq_some_iff.1 HX.out).2
            refine Or.inl ⟨L.take k, ⟨no, sn, true, 0⟩, L.drop (k + 1), ?_, fun y hy => ?_, rfl, rfl, rfl, ?_⟩
            · rw [← hget, ← List.drop_eq_getElem_cons hkl, List.take_append_drop]
            · obtain ⟨j, hj, rfl⟩ := List.getElem_of_mem hy
              have hj' : j < k := by rw [List.length_take] at hj; omega
              refine HK.out j _ hj' ?_
              rw [List.getElem_take, List.getElem?_eq_getElem (by omega)]
            · rw [List.take_add_one, HX.out]; rfl
          go_wp2_with (go_at_call 21; refine htn.mono ?_; clear htn; rintro e w5 ⟨he, b5, cap5, cur5, C5, o5⟩; obtain rfl := he)
          try go_ret2
          exact HR.out no true _ _ _ _ _ HVV.out C5 (o5.mono (fun j q => Or.inl (by subst q; exact c.lor)))
        · have qp : (p == 0) = false := by simpa using hp
          go_wp2_with fail
          go_round
          case rel => exact ⟨k + 1, by go_num, by omega, HKN.out _ HX.out (by simp [Fr.cf, hp])⟩
          case measure => simp [intOf]; omega
    · have hkn' : ¬ (k : Int) < n := by omega
      have HNO : Hid (∀ y ∈ L, y.cf = false) := fun y hy => by
        obtain ⟨j, hj, rfl⟩ := List.getElem_of_mem hy
        exact HK.out j _ (by rw [Hn.out] at hj; omega) (List.getElem?_eq_getElem hj)
      clear HK
      go_wp2_with fail
      go_loop [6, 55] (fun f i => ∃ q : Nat, i = .int .i64 q ∧ q ≤ n ∧ f = .bool (anyP (L.take q))) (fun _ i => n - (intOf i).toNat)
      case atStart => exact ⟨0, rfl, by omega, by rw [List.take_zero]; rfl⟩
      case round =>
        obtain ⟨q, rfl, hq, rfl⟩ := hrel
        by_cases hqn : q < n
        · have hqn' : (q : Int) < n := by omega
          obtain ⟨x, hx⟩ := c.ex (i := q) (by rw [Hn.out]; exact hqn)
          have x3 := c.cell hx 3 (by omega) _ rfl
          have HS : Hid (anyP (L.take (q + 1)) = (anyP (L.take q) || decide (x.pins = 0))) := by
            show _ = _
            unfold anyP
            rw [List.take_add_one, hx, List.any_append]
            simp
          obtain ⟨B0, HB0⟩ : ∃ B0, Hid (anyP (L.take q) = B0) := ⟨_, rfl⟩
          rw [HB0.out]
          rw [HB0.out] at HS
          clear hx
          cases B0 with
          | true =>
            go_wp2_with fail
            go_round
            case rel => exact ⟨q + 1, by go_num, by omega, by rw [HS.out]; rfl⟩
            case measure => simp [intOf]; omega
          | false =>
            go_wp2_with fail
            go_round
            case rel => exact ⟨q + 1, by go_num, by omega, by rw [HS.out, Bool.false_or]; rfl⟩
            case measure => simp [intOf]; omega
        · have hqn' : ¬ (q : Int) < n := by omega
          have hfull : L.take q = L := List.take_of_length_le (by rw [Hn.out]; omega)
          rw [hfull]
          cases hfr : anyP L with
          | false =>
            have hv : Vict L 0 false L := Or.inr (Or.inr ⟨fun y hy h0 => by
              have := List.any_eq_false.1 hfr y hy
              simp at this; exact this h0, rfl, rfl, rfl⟩)
            have HVV : Hid _ := HR.out 0 false L b cap cur w hv c (Off.refl _ _)
            clear hv hfr hfull
            go_wp2_with fail
            go_loopw [8] (fun _ wr => wr = w) (fun _ _ => 0)
            case atStart => rfl
            case round =>
              subst hrel
              go_wp2_with fail
              try go_ret2
              exact HVV.out
          | true =>
            have HF : Hid (∃ y ∈ L, y.pins = 0) := by
              obtain ⟨y, hy, h0⟩ := List.any_eq_true.1 hfr
              exact ⟨y, hy, by simpa using h0⟩
            clear hfr hfull
            go_wp2_with fail
            go_loopw [8] (fun _ wr => ∃ (L' : List Fr) (b' cap' : Nat) (cur' : Array Value), RAt wr r b' cap' cur' L' R0 ∧ Hid (∀ v S, Vic L' v S → Vic L v S) ∧ Hid (∃ y ∈ L', y.pins = 0) ∧ Off (fun j => R0 ≤ j) w wr) (fun _ wr => way (decR wr r))
            case atStart => exact ⟨L, b, cap, cur, c, fun v S q => q, HF, Off.refl _ _⟩
            case round =>
              clear c0 c
              obtain ⟨L', b', cap', cur', C, HV, HE, ro⟩ := hrel
              obtain ⟨⟨no, sn, cd, p⟩, T', hL0⟩ : ∃ x T', L' = x :: T' := by
                cases hq : L' with
                | nil => have := C.pos; rw [hq] at this; simp at this
                | cons x T' => exact ⟨x, T', rfl⟩
              by_cases hp : p = 0
              · subst hp
                cases sn with
                | false =>
                  have HL0 : Hid (L' = ⟨no, false, cd, 0⟩ :: T') := hL0
                  have hx0 : L'[0]? = some ⟨no, false, cd, 0⟩ := by rw [hL0]; rfl
                  have rg : wr.rangeAt b' 0 [.int .i64 no, .bool false, .bool cd, .int .i64 0] := fun j v hv => by
                    have := C.cell (i := 0) hx0 j (List.getElem?_eq_some_iff.1 hv).1 v hv
                    simpa using this
                  have z0 : Row (wr.alloc (.cells #[.int .i64 0, .bool false, .bool false, .int .i64 0] 36)) wr.heap.size #[.int .i64 0, .bool false, .bool false, .int .i64 0] 36 := Row.new _ _ _
                  have r2 : Row ((wr.alloc (.cells #[.int .i64 0, .bool false, .bool false, .int .i64 0] 36)).setRow wr.heap.size #[.int .i64 no, .bool false, .bool cd, .int .i64 0]) wr.heap.size #[.int .i64 no, .bool false, .bool cd, .int .i64 0] 36 := z0.set _
                  have b2 : Below wr.heap.size wr ((wr.alloc (.cells #[.int .i64 0, .bool false, .bool false, .int .i64 0] 36)).setRow wr.heap.size #[.int .i64 no, .bool false, .bool cd, .int .i64 0]) := below_setRow ((Below.refl _ _).alloc (Nat.le_refl _) _) (Nat.le_refl _) _
                  have C2 := C.below b2
                  have hll : C.row.lt = C.row.lt := rfl
                  have hrl : r < wr.heap.size := C.row.lt
                  have hbl : b' < wr.heap.size := C.arr.lt
                  have ro2 := ro.trans (Off.of_below (F := fun _ => False) b2) (fun _ q => q.elim)
                  have e1 := row_at r2 1 (.bool false) rfl
                  have e3 := row_at r2 3 (.int .i64 0) rfl
                  have hpos := C.pos
                  have tl : Hid (1 = 1) := rfl
                  have ts : Hid (1 = 1) := rfl
                  have htn := turn_any C2 1 hpos
                  have hL2 : L'.drop 1 ++ L'.take 1 = T' ++ [⟨no, false, cd, 0⟩] := by rw [hL0]; rfl
                  rw [hL2] at htn
                  clear hL2 hL0 hpos hll
                  have hx0' : Hid _ := hx0
                  clear hx0 
                  have c0 : wr.cell? ⟨r, 0, none⟩ = some (.slice (some ⟨b', 0, none⟩) L'.length cap') := row_at C.row 0 _ rfl
                  have cc0 : ((wr.alloc (.cells #[.int .i64 0, .bool false, .bool false, .int .i64 0] 36)).setRow wr.heap.size #[.int .i64 no, .bool false, .bool cd, .int .i64 0]).cell? ⟨r, 0, none⟩ = some (.slice (some ⟨b', 0, none⟩) L'.length cap') := row_at C2.row 0 _ rfl
                  have hn0 : (0 : Int) < (L'.length : Int) := by have := C.pos; omega
                  go_wp2_with (first
                    | (have hh := tl; clear hh tl; refine wpList_load_mid rfl 36 (.tmp 76) rfl b' 0 rfl [.int .i64 no, .bool false, .bool cd, .int .i64 0] _ rg Try.underlying36 rfl size36 ?_)
                    | (have hh := ts; clear hh ts; refine store_cells rfl 36 (.tmp 8) (.tmp 77) rfl wr.heap.size #[.int .i64 no, .bool false, .bool cd, .int .i64 0] rfl rfl 36 _ z0 4 size36 rfl rfl (by simp [Value.oneCell']) ?_)
                    | (go_at_call 21; refine htn.mono ?_; clear htn; rintro e w5 ⟨he, b5, cap5, cur5, C5, o5⟩; obtain rfl := he
                       have r5 := r2.off o5 (by omega : ¬ wr.heap.size = r)
                       have g0 := row_at r5 0 (.int .i64 no) rfl
                       have g1 := row_at r5 1 (.bool false) rfl
                       have g3 := row_at r5 3 (.int .i64 0) rfl
                       have ro5 := ro2.trans o5 (fun j q => Or.inl (by subst q; exact C.lor))))
                  try go_ret2
                  refine HR.out no true _ _ _ _ _ (Or.inr (Or.inl ⟨HNO.out, HF.out, HV.out _ _ ?_, rfl⟩)) C5 ro5
                  rw [HL0.out]
                  exact Vic.hit ⟨no, false, cd, 0⟩ T' ⟨rfl, rfl⟩
                | true =>
                  have HL0 : Hid (L' = ⟨no, true, cd, 0⟩ :: T') := hL0
                  have hx0 : L'[0]? = some ⟨no, true, cd, 0⟩ := by rw [hL0]; rfl
                  have rg : wr.rangeAt b' 0 [.int .i64 no, .bool true, .bool cd, .int .i64 0] := fun j v hv => by
                    have := C.cell (i := 0) hx0 j (List.getElem?_eq_some_iff.1 hv).1 v hv
                    simpa using this
                  have z0 : Row (wr.alloc (.cells #[.int .i64 0, .bool false, .bool false, .int .i64 0] 36)) wr.heap.size #[.int .i64 0, .bool false, .bool false, .int .i64 0] 36 := Row.new _ _ _
                  have r2 : Row ((wr.alloc (.cells #[.int .i64 0, .bool false, .bool false, .int .i64 0] 36)).setRow wr.heap.size #[.int .i64 no, .bool true, .bool cd, .int .i64 0]) wr.heap.size #[.int .i64 no, .bool true, .bool cd, .int .i64 0] 36 := z0.set _
                  have b2 : Below wr.heap.size wr ((wr.alloc (.cells #[.int .i64 0, .bool false, .bool false, .int .i64 0] 36)).setRow wr.heap.size #[.int .i64 no, .bool true, .bool cd, .int .i64 0]) := below_setRow ((Below.refl _ _).alloc (Nat.le_refl _) _) (Nat.le_refl _) _
                  have C2 := C.below b2
                  have hll : C.row.lt = C.row.lt := rfl
                  have hrl : r < wr.heap.size := C.row.lt
                  have hbl : b' < wr.heap.size := C.arr.lt
                  have ro2 := ro.trans (Off.of_below (F := fun _ => False) b2) (fun _ q => q.elim)
                  have e1 := row_at r2 1 (.bool true) rfl
                  have e3 := row_at r2 3 (.int .i64 0) rfl
                  have hpos := C.pos
                  have tl : Hid (1 = 1) := rfl
                  have ts : Hid (1 = 1) := rfl
                  have hx2 : L'[0]? = some ⟨no, true, cd, 0⟩ := hx0
                  have C3 := C2.turn (y := ⟨no, false, cd, 0⟩) hx2 1 (by omega) (.bool false) rfl
                  simp only [Nat.zero_mul, Nat.zero_add] at C3
                  have d1 := row_frozen C2.arr 1
                  have d2 : ((wr.alloc (.cells #[.int .i64 0, .bool false, .bool false, .int .i64 0] 36)).setRow wr.heap.size #[.int .i64 no, .bool true, .bool cd, .int .i64 0]).cell? ⟨b', 1, none⟩ = some (.bool true) := by
                    have := C2.cell (i := 0) hx2 1 (by omega) _ rfl
                    simpa using this
                  have r3 := row_setCell_other r2 (by omega : wr.heap.size ≠ b') 1 (.bool false)
                  have ro3 := ro2.trans (Off.of_setCell (F := fun j => R0 ≤ j) ((wr.alloc (.cells #[.int .i64 0, .bool false, .bool false, .int .i64 0] 36)).setRow wr.heap.size #[.int .i64 no, .bool true, .bool cd, .int .i64 0]) ⟨b', 1, none⟩ (.bool false) C.lob) (fun _ q => Or.inl q)
                  have htn := turn_any C3 1 (by rw [List.length_set]; omega)
                  have hL2 : (L'.set 0 ⟨no, false, cd, 0⟩).drop 1 ++ (L'.set 0 ⟨no, false, cd, 0⟩).take 1 = T' ++ [⟨no, false, cd, 0⟩] := by rw [hL0]; rfl
                  rw [hL2] at htn
                  clear hL2 hL0 hpos hll
                  have hx0' : Hid _ := hx0
                  clear hx0 hx2
                  have c0 : wr.cell? ⟨r, 0, none⟩ = some (.slice (some ⟨b', 0, none⟩) L'.length cap') := row_at C.row 0 _ rfl
                  have cc0 : ((wr.alloc (.cells #[.int .i64 0, .bool false, .bool false, .int .i64 0] 36)).setRow wr.heap.size #[.int .i64 no, .bool true, .bool cd, .int .i64 0]).cell? ⟨r, 0, none⟩ = some (.slice (some ⟨b', 0, none⟩) L'.length cap') := row_at C2.row 0 _ rfl
                  have hn0 : (0 : Int) < (L'.length : Int) := by have := C.pos; omega
                  go_wp2_with (first
                    | (have hh := tl; clear hh tl; refine wpList_load_mid rfl 36 (.tmp 76) rfl b' 0 rfl [.int .i64 no, .bool true, .bool cd, .int .i64 0] _ rg Try.underlying36 rfl size36 ?_)
                    | (have hh := ts; clear hh ts; refine store_cells rfl 36 (.tmp 8) (.tmp 77) rfl wr.heap.size #[.int .i64 no, .bool true, .bool cd, .int .i64 0] rfl rfl 36 _ z0 4 size36 rfl rfl (by simp [Value.oneCell']) ?_)
                    | (go_at_call 21; refine htn.mono ?_; clear htn; rintro e w5 ⟨he, b5, cap5, cur5, C5, o5⟩; obtain rfl := he
                       have r5 := r3.off o5 (by omega : ¬ wr.heap.size = r)
                       have g0 := row_at r5 0 (.int .i64 no) rfl
                       have g1 := row_at r5 1 (.bool true) rfl
                       have g3 := row_at r5 3 (.int .i64 0) rfl
                       have ro5 := ro3.trans o5 (fun j q => Or.inl (by subst q; exact C.lor))))
                  go_roundw
                  case rel =>
                    refine ⟨_, b5, cap5, cur5, C5, fun v S q => HV.out v S ?_, ?_, ro5⟩
                    · rw [HL0.out]
                      refine Vic.pass _ _ _ _ (fun q => by cases q.2) ?_
                      exact q
                    · have := way_pass (x := ⟨no, true, cd, 0⟩) (T := T') (fun q => by cases q.2) (by rw [← HL0.out]; exact HE.out)
                      exact this.2
                  case measure =>
                    have := way_pass (x := ⟨no, true, cd, 0⟩) (T := T') (fun q => by cases q.2) (by rw [← HL0.out]; exact HE.out)
  
                    rw [C5.dec, C.dec, HL0.out]
                    exact this.1
              · have qp : (p == 0) = false := by simpa using hp
                have HL0 : Hid (L' = ⟨no, sn, cd, p⟩ :: T') := hL0
                have hx0 : L'[0]? = some ⟨no, sn, cd, p⟩ := by rw [hL0]; rfl
                have rg : wr.rangeAt b' 0 [.int .i64 no, .bool sn, .bool cd, .int .i64 p] := fun j v hv => by
                  have := C.cell (i := 0) hx0 j (List.getElem?_eq_some_iff.1 hv).1 v hv
                  simpa using this
                have z0 : Row (wr.alloc (.cells #[.int .i64 0, .bool false, .bool false, .int .i64 0] 36)) wr.heap.size #[.int .i64 0, .bool false, .bool false, .int .i64 0] 36 := Row.new _ _ _
                have r2 : Row ((wr.alloc (.cells #[.int .i64 0, .bool false, .bool false, .int .i64 0] 36)).setRow wr.heap.size #[.int .i64 no, .bool sn, .bool cd, .int .i64 p]) wr.heap.size #[.int .i64 no, .bool sn, .bool cd, .int .i64 p] 36 := z0.set _
                have b2 : Below wr.heap.size wr ((wr.alloc (.cells #[.int .i64 0, .bool false, .bool false, .int .i64 0] 36)).setRow wr.heap.size #[.int .i64 no, .bool sn, .bool cd, .int .i64 p]) := below_setRow ((Below.refl _ _).alloc (Nat.le_refl _) _) (Nat.le_refl _) _
                have C2 := C.below b2
                have hll : C.row.lt = C.row.lt := rfl
                have hrl : r < wr.heap.size := C.row.lt
                have hbl : b' < wr.heap.size := C.arr.lt
                have ro2 := ro.trans (Off.of_below (F := fun _ => False) b2) (fun _ q => q.elim)
                have e1 := row_at r2 1 (.bool sn) rfl
                have e3 := row_at r2 3 (.int .i64 p) rfl
                have hpos := C.pos
                have tl : Hid (1 = 1) := rfl
                have ts : Hid (1 = 1) := rfl
                have htn := turn_any C2 1 hpos
                have hL2 : L'.drop 1 ++ L'.take 1 = T' ++ [⟨no, sn, cd, p⟩] := by rw [hL0]; rfl
                rw [hL2] at htn
                clear hL2 hL0 hpos hll
                have hx0' : Hid _ := hx0
                clear hx0 
                have c0 : wr.cell? ⟨r, 0, none⟩ = some (.slice (some ⟨b', 0, none⟩) L'.length cap') := row_at C.row 0 _ rfl
                have cc0 : ((wr.alloc (.cells #[.int .i64 0, .bool false, .bool false, .int .i64 0] 36)).setRow wr.heap.size #[.int .i64 no, .bool sn, .bool cd, .int .i64 p]).cell? ⟨r, 0, none⟩ = some (.slice (some ⟨b', 0, none⟩) L'.length cap') := row_at C2.row 0 _ rfl
                have hn0 : (0 : Int) < (L'.length : Int) := by have := C.pos; omega
                go_wp2_with (first
                  | (have hh := tl; clear hh tl; refine wpList_load_mid rfl 36 (.tmp 76) rfl b' 0 rfl [.int .i64 no, .bool sn, .bool cd, .int .i64 p] _ rg Try.underlying36 rfl size36 ?_)
                  | (have hh := ts; clear hh ts; refine store_cells rfl 36 (.tmp 8) (.tmp 77) rfl wr.heap.size #[.int .i64 no, .bool sn, .bool cd, .int .i64 p] rfl rfl 36 _ z0 4 size36 rfl rfl (by simp [Value.oneCell']) ?_)
                  | (go_at_call 21; refine htn.mono ?_; clear htn; rintro e w5 ⟨he, b5, cap5, cur5, C5, o5⟩; obtain rfl := he
                     have r5 := r2.off o5 (by omega : ¬ wr.heap.size = r)
                     have g0 := row_at r5 0 (.int .i64 no) rfl
                     have g1 := row_at r5 1 (.bool sn) rfl
                     have g3 := row_at r5 3 (.int .i64 p) rfl
                     have ro5 := ro2.trans o5 (fun j q => Or.inl (by subst q; exact C.lor))))
                go_roundw
                case rel =>
                  refine ⟨_, b5, cap5, cur5, C5, fun v S q => HV.out v S ?_, ?_, ro5⟩
                  · rw [HL0.out]
                    refine Vic.pass _ _ _ _ (fun q => hp q.1) ?_
                    rw [pass_held (x := ⟨no, sn, cd, p⟩) hp]; exact q
                  · have := way_pass (x := ⟨no, sn, cd, p⟩) (T := T') (fun q => hp q.1) (by rw [← HL0.out]; exact HE.out)
                    rw [pass_held (x := ⟨no, sn, cd, p⟩) hp] at this; exact this.2
                case measure =>
                  have := way_pass (x := ⟨no, sn, cd, p⟩) (T := T') (fun q => hp q.1) (by rw [← HL0.out]; exact HE.out)
                  rw [pass_held (x := ⟨no, sn, cd, p⟩) hp] at this
                  rw [C5.dec, C.dec, HL0.out]
                  exact this.1
end Go.Proofs.Ytobdeijbmnenmab
