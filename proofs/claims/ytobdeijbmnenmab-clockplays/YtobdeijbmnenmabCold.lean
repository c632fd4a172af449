/-
  Proved here: which frame clock.Victim gives up.
-/
import Derived.Test.YtobdeijbmnenmabVic
namespace Go.Proofs.Ytobdeijbmnenmab
open Go.ChangeShapes Go.WideShapes Go.ChangeAt Go.RowKit
set_option linter.unusedVariables false
set_option linter.unusedSimpArgs false

theorem nxt_mod (n h k : Nat) : (h + (k + 1)) % n = nxt n ((h + k) % n) := by
  unfold nxt
  rw [Nat.mod_add_mod, Nat.add_assoc]
theorem nxt_lt {n : Nat} (h : 0 < n) (k : Nat) : nxt n k < n := Nat.mod_lt _ h
/-- The first cold frame from the hand on that nobody holds, or none. -/
def Colded (w : World) (fs : List Fr) (h : Nat) (e : Ending) (w' : World) : Prop :=
  Below w.heap.size w w' ∧ ((∃ k x, k < fs.length ∧ fs[(h + k) % fs.length]? = some x ∧ x.cf = true ∧ (∀ i, i < k → ∀ y, fs[(h + i) % fs.length]? = some y → y.cf = false) ∧ e = .returned (.tuple #[.int .i64 ((h + k) % fs.length : Nat), .bool true])) ∨ ((∀ y ∈ fs, y.cf = false) ∧ e = .returned (.tuple #[.int .i64 0, .bool false])))
theorem all_round {fs : List Fr} {h : Nat} (hh : h < fs.length) (hn : ∀ i, i < fs.length → ∀ y, fs[(h + i) % fs.length]? = some y → y.cf = false) : ∀ y ∈ fs, y.cf = false := fun y hy => by
  obtain ⟨j, hj, rfl⟩ := List.getElem_of_mem hy
  by_cases q : h ≤ j
  · refine hn (j - h) (by omega) _ ?_
    rw [show h + (j - h) = j by omega, Nat.mod_eq_of_lt hj, List.getElem?_eq_getElem hj]
  · refine hn (j + fs.length - h) (by omega) _ ?_
    rw [show h + (j + fs.length - h) = j + fs.length by omega, Nat.add_mod_right, Nat.mod_eq_of_lt hj, List.getElem?_eq_getElem hj]
theorem coldest_any {w : World} {g a : Nat} {fs : List Fr} {h : Nat} {M : Int} (c : CAt w g a fs h M) :
    Calls Try.prog 24 #[.pointer (some ⟨g, 0, none⟩)] w fun e w' => Colded w fs h e w' := by
  have c0 := row_at c.row 0 _ rfl
  have c1 := row_at c.row 1 _ rfl
  have hz := zero53
  obtain ⟨PP, HP⟩ : ∃ P : Ending → World → Prop, Hid (P = fun e w' => Colded w fs h e w') := ⟨_, rfl⟩
  rw [show (fun e w' => Colded w fs h e w') = PP from HP.out.symm]
  obtain ⟨n, Hn⟩ : ∃ n, Hid (fs.length = n) := ⟨_, rfl⟩
  have hsm := c.small
  have hhn := c.hand
  have HT : Hid (∀ k x w', k < n → fs[(h + k) % n]? = some x → x.cf = true → (∀ i, i < k → ∀ y, fs[(h + i) % n]? = some y → y.cf = false) → Below w.heap.size w w' → PP (.returned (.tuple #[.int .i64 ((h + k) % n : Nat), .bool true])) w') := fun k x w' h1 h2 h3 h4 h5 => by
    rw [HP.out]; rw [← Hn.out] at h1 h2 h4 ⊢; exact ⟨h5, Or.inl ⟨k, x, h1, h2, h3, h4, rfl⟩⟩
  have HN : Hid (∀ w', (∀ i, i < n → ∀ y, fs[(h + i) % n]? = some y → y.cf = false) → Below w.heap.size w w' → PP (.returned (.tuple #[.int .i64 0, .bool false])) w') := fun w' h4 h5 => by
    rw [HP.out]; rw [← Hn.out] at h4; exact ⟨h5, Or.inr ⟨all_round hhn h4, rfl⟩⟩
  rw [Hn.out] at c0 hsm hhn
  clear HP
  go_enter Try.func24, Try.ntmps24
  go_wp2
  go_loopw [4, 15] (fun s i wr => ∃ k j : Nat, j = (h + k) % n ∧ s = .int .i64 j ∧ i = .int .i64 k ∧ k ≤ n ∧ Hid (∀ i, i < k → ∀ y, fs[(h + i) % n]? = some y → y.cf = false) ∧ CAt wr g a fs h M ∧ Below w.heap.size w wr) (fun _ i _ => n - (intOf i).toNat)
  case atStart => exact ⟨0, h, by rw [Nat.add_zero, Nat.mod_eq_of_lt hhn], rfl, rfl, by omega, fun i hi => by omega, c, Below.refl _ _⟩
  case round =>
    clear c0 c1
    obtain ⟨k, j, hj, rfl, rfl, hk, HK, D, rb⟩ := hrel
    have Hj : Hid (j = (h + k) % n) := hj
    have c0 := row_at D.row 0 _ rfl
    rw [Hn.out] at c0
    by_cases hkn : k < n
    · have hkn' : (k : Int) < n := by omega
      have hjn : j < n := by rw [hj]; exact Nat.mod_lt _ (by omega)
      have hjn' : (j : Int) < n := by omega
      clear hj
      obtain ⟨⟨no, sn, cd, p⟩, hx⟩ := D.ex (i := j) (by rw [Hn.out]; exact hjn)
      cases cd with
      | false =>
        have rg : wr.rangeAt a (j * 3) [.bool sn, .bool false, .int .i64 p] := D.range hx
        have HX : Hid (fs[j]? = some ⟨no, sn, false, p⟩) := hx
        have z0 : Row (wr.alloc (.cells #[.bool false, .bool false, .int .i64 0] 53)) wr.heap.size #[.bool false, .bool false, .int .i64 0] 53 := Row.new _ _ _
        have r2 : Row ((wr.alloc (.cells #[.bool false, .bool false, .int .i64 0] 53)).setRow wr.heap.size #[.bool sn, .bool false, .int .i64 p]) wr.heap.size #[.bool sn, .bool false, .int .i64 p] 53 := z0.set _
        have c1 := row_at r2 1 (.bool false) rfl
        have c2 := row_at r2 2 (.int .i64 p) rfl
        have b2 : Below wr.heap.size wr ((wr.alloc (.cells #[.bool false, .bool false, .int .i64 0] 53)).setRow wr.heap.size #[.bool sn, .bool false, .int .i64 p]) := below_setRow ((Below.refl _ _).alloc (Nat.le_refl _) _) (Nat.le_refl _) _
        have D2 := D.below b2
        have rb2 := rb.trans (b2.mono rb.size)
        have hbh := behind_any D2 j (by rw [Hn.out]; exact hjn)
        rw [Hn.out] at hbh
        have tl : Hid (1 = 1) := rfl
        have ts : Hid (1 = 1) := rfl
        clear hx
        go_wp2_with (first
          | (have hh := tl; clear hh tl; refine wpList_load_mid rfl 53 (.tmp 22) rfl a (j * 3) rfl [.bool sn, .bool false, .int .i64 p] _ rg Try.underlying53 rfl size53 ?_)
          | (have hh := ts; clear hh ts; refine store_cells rfl 53 (.tmp 5) (.tmp 23) rfl wr.heap.size #[.bool sn, .bool false, .int .i64 p] rfl rfl 53 _ z0 3 size53 rfl rfl (by simp [Value.oneCell']) ?_)
          | (go_at_call 25; refine hbh.mono ?_; rintro e wb ⟨he, hww⟩; rw [hww]; clear hww wb; obtain rfl := he))
        go_roundw
        case rel =>
          refine ⟨k + 1, nxt n j, by rw [Hj.out]; exact (nxt_mod n h k).symm, rfl, by go_num, by omega, fun i hi y hy => ?_, D2, rb2⟩
          by_cases q : i = k
          · subst q; rw [← Hj.out, HX.out] at hy; cases hy; rfl
          · exact HK.out i (by omega) y hy
        case measure => simp [intOf]; omega
      | true =>
        by_cases hp : p = 0
        · subst hp
          have rg : wr.rangeAt a (j * 3) [.bool sn, .bool true, .int .i64 0] := D.range hx
          have HX : Hid (fs[j]? = some ⟨no, sn, true, 0⟩) := hx
          have z0 : Row (wr.alloc (.cells #[.bool false, .bool false, .int .i64 0] 53)) wr.heap.size #[.bool false, .bool false, .int .i64 0] 53 := Row.new _ _ _
          have r2 : Row ((wr.alloc (.cells #[.bool false, .bool false, .int .i64 0] 53)).setRow wr.heap.size #[.bool sn, .bool true, .int .i64 0]) wr.heap.size #[.bool sn, .bool true, .int .i64 0] 53 := z0.set _
          have c1 := row_at r2 1 (.bool true) rfl
          have c2 := row_at r2 2 (.int .i64 0) rfl
          have b2 : Below wr.heap.size wr ((wr.alloc (.cells #[.bool false, .bool false, .int .i64 0] 53)).setRow wr.heap.size #[.bool sn, .bool true, .int .i64 0]) := below_setRow ((Below.refl _ _).alloc (Nat.le_refl _) _) (Nat.le_refl _) _
          have D2 := D.below b2
          have rb2 := rb.trans (b2.mono rb.size)
          have hbh := behind_any D2 j (by rw [Hn.out]; exact hjn)
          rw [Hn.out] at hbh
          have tl : Hid (1 = 1) := rfl
          have ts : Hid (1 = 1) := rfl
          clear hx
          go_wp2_with (first
            | (have hh := tl; clear hh tl; refine wpList_load_mid rfl 53 (.tmp 22) rfl a (j * 3) rfl [.bool sn, .bool true, .int .i64 0] _ rg Try.underlying53 rfl size53 ?_)
            | (have hh := ts; clear hh ts; refine store_cells rfl 53 (.tmp 5) (.tmp 23) rfl wr.heap.size #[.bool sn, .bool true, .int .i64 0] rfl rfl 53 _ z0 3 size53 rfl rfl (by simp [Value.oneCell']) ?_)
            | (go_at_call 25; refine hbh.mono ?_; rintro e wb ⟨he, hww⟩; rw [hww]; clear hww wb; obtain rfl := he))
          have hr := HT.out k _ _ hkn (by rw [← Hj.out]; exact HX.out) (by rfl) HK.out rb2
          rw [← Hj.out] at hr
          try go_ret2
          exact hr
        · have rg : wr.rangeAt a (j * 3) [.bool sn, .bool true, .int .i64 p] := D.range hx
          have HX : Hid (fs[j]? = some ⟨no, sn, true, p⟩) := hx
          have z0 : Row (wr.alloc (.cells #[.bool false, .bool false, .int .i64 0] 53)) wr.heap.size #[.bool false, .bool false, .int .i64 0] 53 := Row.new _ _ _
          have r2 : Row ((wr.alloc (.cells #[.bool false, .bool false, .int .i64 0] 53)).setRow wr.heap.size #[.bool sn, .bool true, .int .i64 p]) wr.heap.size #[.bool sn, .bool true, .int .i64 p] 53 := z0.set _
          have c1 := row_at r2 1 (.bool true) rfl
          have c2 := row_at r2 2 (.int .i64 p) rfl
          have b2 : Below wr.heap.size wr ((wr.alloc (.cells #[.bool false, .bool false, .int .i64 0] 53)).setRow wr.heap.size #[.bool sn, .bool true, .int .i64 p]) := below_setRow ((Below.refl _ _).alloc (Nat.le_refl _) _) (Nat.le_refl _) _
          have D2 := D.below b2
          have rb2 := rb.trans (b2.mono rb.size)
          have hbh := behind_any D2 j (by rw [Hn.out]; exact hjn)
          rw [Hn.out] at hbh
          have tl : Hid (1 = 1) := rfl
          have ts : Hid (1 = 1) := rfl
          clear hx
          go_wp2_with (first
            | (have hh := tl; clear hh tl; refine wpList_load_mid rfl 53 (.tmp 22) rfl a (j * 3) rfl [.bool sn, .bool true, .int .i64 p] _ rg Try.underlying53 rfl size53 ?_)
            | (have hh := ts; clear hh ts; refine store_cells rfl 53 (.tmp 5) (.tmp 23) rfl wr.heap.size #[.bool sn, .bool true, .int .i64 p] rfl rfl 53 _ z0 3 size53 rfl rfl (by simp [Value.oneCell']) ?_)
            | (go_at_call 25; refine hbh.mono ?_; rintro e wb ⟨he, hww⟩; rw [hww]; clear hww wb; obtain rfl := he))
          go_roundw
          case rel =>
            refine ⟨k + 1, nxt n j, by rw [Hj.out]; exact (nxt_mod n h k).symm, rfl, by go_num, by omega, fun i hi y hy => ?_, D2, rb2⟩
            by_cases q : i = k
            · subst q; rw [← Hj.out, HX.out] at hy; cases hy; simp [Fr.cf, hp]
            · exact HK.out i (by omega) y hy
          case measure => simp [intOf]; omega
    · have hkn' : ¬ (k : Int) < n := by omega
      have hr := HN.out wr (fun i hi => HK.out i (by omega)) rb
      go_wp2
      try go_ret2
      exact hr
end Go.Proofs.Ytobdeijbmnenmab
