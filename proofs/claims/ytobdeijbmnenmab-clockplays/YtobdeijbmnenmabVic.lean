/-
  Proved here: what clock.New makes, and which frame clock.Victim gives up.
-/
import Derived.Test.YtobdeijbmnenmabClr
namespace Go.Proofs.Ytobdeijbmnenmab
open Go.ChangeShapes Go.WideShapes Go.ChangeAt Go.RowKit
set_option linter.unusedVariables false
set_option linter.unusedSimpArgs false

/-- New frames. -/
def newF (n : Nat) : List Fr := (List.range n).map fun j => ⟨j, false, false, 0⟩
theorem newF_length (n : Nat) : (newF n).length = n := by simp [newF]
theorem info53 : (Try.prog.info? 53).map (fun i => (i.zero, i.size, i.bytes)) = some (some (.agg #[.bool false, .bool false, .int .i64 0]), 3, 16) := by kernel_rfl
theorem new_none (n : Int) (hn : ¬ (1 ≤ n ∧ n ≤ 64)) (w : World) : Calls Try.prog 8 #[.int .i64 n] w fun e w' => e = .returned (.pointer none) ∧ w' = w := by
  by_cases h : n < 1
  · clear hn
    go_enter Try.func8, Try.ntmps8
    go_wp2
    go_ret
    exact ⟨rfl, rfl⟩
  · have h' : n > 64 := by omega
    clear hn
    go_enter Try.func8, Try.ntmps8
    go_wp2
    go_ret
    exact ⟨rfl, rfl⟩
theorem made_fcells (n : Nat) : (madeCells #[.bool false, .bool false, .int .i64 0] (n * 3)).toList = fcells (newF n) := by
  apply List.ext_getElem?
  intro m
  by_cases hm : m < n * 3
  · have e : m = m / 3 * 3 + m % 3 := by omega
    have hx : (newF n)[m / 3]? = some ⟨m / 3, false, false, 0⟩ := by unfold newF; rw [List.getElem?_map, List.getElem?_range (by omega)]; rfl
    have h2 := fcells_at hx (m % 3) (by omega)
    rw [← e] at h2
    rw [h2]
    have h3 : m % 3 = 0 ∨ m % 3 = 1 ∨ m % 3 = 2 := by omega
    simp [madeCells, hm]
    rcases h3 with h3 | h3 | h3 <;> rw [h3] <;> rfl
  · rw [List.getElem?_eq_none (by simp [madeCells]; omega), List.getElem?_eq_none (by rw [fcells_length, newF_length]; omega)]
def Newed (w : World) (n : Nat) (e : Ending) (w' : World) : Prop := ∃ g a, e = .returned (.pointer (some ⟨g, 0, none⟩)) ∧ w.heap.size ≤ g ∧ w.heap.size ≤ a ∧ CAt w' g a (newF n) 0 0 ∧ Below w.heap.size w w'
theorem new_some (n : Nat) (h1 : 1 ≤ n) (h2 : n ≤ 64) (w : World) : Calls Try.prog 8 #[.int .i64 n] w fun e w' => Newed w n e w' := by
  obtain ⟨i, hi, hz, hs, hb⟩ := info_parts info53
  have k1 : ¬ (n : Int) < 1 := by omega
  have k2 : ¬ (n : Int) > 64 := by omega
  go_enter Try.func8, Try.ntmps8
  go_wp2_with (at_make; refine wpList_make_full w rfl (.tmp 9) (.tmp 9) 44 rfl w.heap.size 53 i _ 3 Try.underlying44 hi hz hs .i64 .i64 n n n rfl rfl rfl rfl (by rw [hb]; omega) (by unfold maxLen; omega) (Nat.le_refl _) ?_; intro w1 own1 gr1)
  go_ret
  have hlt := own1.lt _ rfl
  have hsz := hlt.2
  have hrow : Row w1 w.heap.size (fcells (newF n)).toArray 53 := by
    rcases own1.2 with ⟨q, _⟩ | ⟨g, cap, cur, q, _, hr, hc1, hc2, hc3, hc4⟩
    · cases q
    · simp only [Value.slice.injEq, Option.some.injEq, Addr.mk.injEq] at q
      obtain ⟨⟨rfl, _⟩, _, rfl⟩ := q
      have e : cur.toList = fcells (newF n) := by
        rw [← made_fcells, ← List.take_of_length_le (l := cur.toList) (i := n * 3) (by rw [Array.length_toList, hc3]; omega), hc4]
        rfl
      unfold Row
      rw [hr, ← e]
  have b1 : Below w.heap.size w w1 := ⟨gr1.os, gr1.tape, gr1.output, gr1.size, fun k hk => gr1.block k hk (by simp)⟩
  refine ⟨w1.heap.size, w.heap.size, rfl, gr1.size, Nat.le_refl _, ?_, b1.alloc b1.size _⟩
  have hl := newF_length n
  exact { row := by rw [hl]; exact Row.new _ _ _, arr := hrow.alloc _, ne := by omega, hand := by omega, small := by omega,
          nos := fun j x hx => by
            unfold newF at hx
            rw [List.getElem?_map] at hx
            by_cases hj : j < n
            · rw [List.getElem?_range hj] at hx; simp at hx; rw [← hx]
            · rw [List.getElem?_eq_none (by simp; omega)] at hx; simp at hx
          pins := fun x hx => by
            unfold newF at hx
            obtain ⟨j, _, rfl⟩ := List.mem_map.1 hx
            exact ⟨Int.le_refl _, Int.le_refl _⟩
          big := by decide }
theorem zero53 (w : World) : (zeroValue 53).run Try.prog w = .ok (.agg #[.bool false, .bool false, .int .i64 0]) w := (zero_of_info (P := Try.prog) (t := 53) (v := .agg #[.bool false, .bool false, .int .i64 0]) (n := 3) (by kernel_rfl)).1 w
theorem CAt.range {w : World} {g a : Nat} {fs : List Fr} {h : Nat} {M : Int} (c : CAt w g a fs h M) {i : Nat} {x : Fr} (hx : fs[i]? = some x) : w.rangeAt a (i * 3) [.bool x.seen, .bool x.cold, .int .i64 x.pins] := fun j v hv => by
  have hj : j < 3 := (List.getElem?_eq_some_iff.1 hv).1
  exact c.at hx j hj v hv
theorem loose_any {w : World} {g a : Nat} {fs : List Fr} {h : Nat} {M : Int} (c : CAt w g a fs h M) :
    Calls Try.prog 23 #[.pointer (some ⟨g, 0, none⟩)] w fun e w' => e = .returned (.bool (fs.any fun y => decide (y.pins = 0))) ∧ Below w.heap.size w w' := by
  have c0 := row_at c.row 0 _ rfl
  have hz := zero53
  obtain ⟨B, HB⟩ : ∃ B, Hid ((fs.any fun y => decide (y.pins = 0)) = B) := ⟨_, rfl⟩
  rw [HB.out]
  have HT : Hid (∀ y ∈ fs, y.pins = 0 → B = true) := fun y hy h0 => by rw [← HB.out]; exact List.any_eq_true.2 ⟨y, hy, by simpa using h0⟩
  have HN : Hid ((∀ y ∈ fs, ¬ y.pins = 0) → B = false) := fun hn => by rw [← HB.out]; exact List.any_eq_false.2 fun y hy => by simpa using hn y hy
  obtain ⟨n, Hn⟩ : ∃ n, Hid (fs.length = n) := ⟨_, rfl⟩
  have hsm := c.small
  rw [Hn.out] at c0 hsm
  go_enter Try.func23, Try.ntmps23
  go_wp2
  go_loopw [10] (fun i wr => ∃ k : Nat, i = .int .i64 k ∧ k ≤ n ∧ Hid (∀ j, j < k → ∀ y, fs[j]? = some y → ¬ y.pins = 0) ∧ CAt wr g a fs h M ∧ Below w.heap.size w wr) (fun i _ => n - (intOf i).toNat)
  case atStart => exact ⟨0, rfl, by omega, fun j hj => by omega, c, Below.refl _ _⟩
  case round =>
    clear c0
    obtain ⟨k, rfl, hk, HK, D, rb⟩ := hrel
    by_cases hkn : k < n
    · have hkn' : (k : Int) < n := by omega
      obtain ⟨⟨no, sn, cd, p⟩, hx⟩ := D.ex (i := k) (by rw [Hn.out]; exact hkn)
      by_cases hp : p = 0
      · subst hp
        have rg : wr.rangeAt a (k * 3) [.bool sn, .bool cd, .int .i64 0] := D.range hx
        have HX : Hid (fs[k]? = some ⟨no, sn, cd, 0⟩) := hx
        have z0 : Row (wr.alloc (.cells #[.bool false, .bool false, .int .i64 0] 53)) wr.heap.size #[.bool false, .bool false, .int .i64 0] 53 := Row.new _ _ _
        have r2 : Row ((wr.alloc (.cells #[.bool false, .bool false, .int .i64 0] 53)).setRow wr.heap.size #[.bool sn, .bool cd, .int .i64 0]) wr.heap.size #[.bool sn, .bool cd, .int .i64 0] 53 := z0.set _
        have c2 := row_at r2 2 (.int .i64 0) rfl
        have b2 : Below wr.heap.size wr ((wr.alloc (.cells #[.bool false, .bool false, .int .i64 0] 53)).setRow wr.heap.size #[.bool sn, .bool cd, .int .i64 0]) := below_setRow ((Below.refl _ _).alloc (Nat.le_refl _) _) (Nat.le_refl _) _
        have D2 := D.below b2
        have rb2 := rb.trans (b2.mono rb.size)
        have tl : Hid (1 = 1) := rfl
        have ts : Hid (1 = 1) := rfl
        clear hx
        have hb : Hid (B = true) := HT.out _ (List.mem_of_getElem? HX.out) rfl
        go_wp2_with (first
          | (have hh := tl; clear hh tl; refine wpList_load_mid rfl 53 (.tmp 12) rfl a (k * 3) rfl [.bool sn, .bool cd, .int .i64 0] _ rg Try.underlying53 rfl size53 ?_)
          | (have hh := ts; clear hh ts; refine store_cells rfl 53 (.tmp 4) (.tmp 13) rfl wr.heap.size #[.bool sn, .bool cd, .int .i64 0] rfl rfl 53 _ z0 3 size53 rfl rfl (by simp [Value.oneCell']) ?_))
        go_ret
        exact ⟨by rw [hb.out]; rfl, rb2⟩
      · have rg : wr.rangeAt a (k * 3) [.bool sn, .bool cd, .int .i64 p] := D.range hx
        have HX : Hid (fs[k]? = some ⟨no, sn, cd, p⟩) := hx
        have z0 : Row (wr.alloc (.cells #[.bool false, .bool false, .int .i64 0] 53)) wr.heap.size #[.bool false, .bool false, .int .i64 0] 53 := Row.new _ _ _
        have r2 : Row ((wr.alloc (.cells #[.bool false, .bool false, .int .i64 0] 53)).setRow wr.heap.size #[.bool sn, .bool cd, .int .i64 p]) wr.heap.size #[.bool sn, .bool cd, .int .i64 p] 53 := z0.set _
        have c2 := row_at r2 2 (.int .i64 p) rfl
        have b2 : Below wr.heap.size wr ((wr.alloc (.cells #[.bool false, .bool false, .int .i64 0] 53)).setRow wr.heap.size #[.bool sn, .bool cd, .int .i64 p]) := below_setRow ((Below.refl _ _).alloc (Nat.le_refl _) _) (Nat.le_refl _) _
        have D2 := D.below b2
        have rb2 := rb.trans (b2.mono rb.size)
        have tl : Hid (1 = 1) := rfl
        have ts : Hid (1 = 1) := rfl
        clear hx
        go_wp2_with (first
          | (have hh := tl; clear hh tl; refine wpList_load_mid rfl 53 (.tmp 12) rfl a (k * 3) rfl [.bool sn, .bool cd, .int .i64 p] _ rg Try.underlying53 rfl size53 ?_)
          | (have hh := ts; clear hh ts; refine store_cells rfl 53 (.tmp 4) (.tmp 13) rfl wr.heap.size #[.bool sn, .bool cd, .int .i64 p] rfl rfl 53 _ z0 3 size53 rfl rfl (by simp [Value.oneCell']) ?_))
        go_roundw
        case rel =>
          refine ⟨k + 1, by go_num, by omega, fun j hj y hy => ?_, D2, rb2⟩
          by_cases q : j = k
          · subst q; have := HX.out; rw [hy] at this; cases this; exact hp
          · exact HK.out j (by omega) y hy
        case measure => simp [intOf]; omega
    · have hkn' : ¬ (k : Int) < n := by omega
      have hb : Hid (B = false) := HN.out fun y hy => by
        obtain ⟨j, hj, rfl⟩ := List.getElem_of_mem hy
        exact HK.out j (by rw [Hn.out] at hj; omega) _ (List.getElem?_eq_getElem hj)
      go_wp2
      go_ret
      exact ⟨by rw [hb.out]; rfl, rb⟩
end Go.Proofs.Ytobdeijbmnenmab
