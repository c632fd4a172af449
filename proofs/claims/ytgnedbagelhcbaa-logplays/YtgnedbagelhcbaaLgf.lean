/-
  Proved here: how many of a log's blocks that last hold nothing from a place on.
-/
import Derived.Test.YtgnedbagelhcbaaLge
namespace Go.Proofs.Ytgnedbagelhcbaa
open Go.ChangeShapes Go.WideShapes Go.ChangeAt Go.RowKit
set_option linter.unusedVariables false
set_option linter.unusedSimpArgs false
set_option maxRecDepth 20000
def spentL (dur lsn : Int) : List Int → Nat
  | [] => 0
  | [_] => if lsn < dur then 0 else 1
  | _ :: y :: r => if lsn < y then 0 else 1 + spentL dur lsn (y :: r)
theorem OwnU.at {w : World} {base : Nat} {v : Value} {xs : List Int} (h : OwnU w base v xs) (k : Nat) (x : Int) (hk : xs[k]? = some x) : ∃ g cap, v = .slice (some ⟨g, 0, none⟩) xs.length cap ∧ w.cell? ⟨g, k, none⟩ = some (.int .u64 x) := by
  have hc := fun g hg => World.ownsRow.cells h (g := g) hg
  rcases h.2 with ⟨rfl, h2⟩ | ⟨g, cap, cur, rfl, _⟩
  · rw [List.eq_nil_of_length_eq_zero h2] at hk; simp at hk
  · have hq := hc g rfl k (.int .u64 x) (by rw [List.getElem?_map, hk]; rfl)
    rw [Addr.add_mid, Nat.zero_add] at hq
    exact ⟨g, cap, rfl, hq⟩
set_option maxHeartbeats 4000000 in
theorem spent_any (gl : Nat) (pd vl vs : Value) (l : Lg) (lsn : Int) (w : World) (hr : Row w gl (lcells pd vl vs l) 102) (hu : OwnU w (gl + 1) vl l.last) (hn : l.last.length ≤ 1000000) :
    Calls Try.prog 51 #[.pointer (some ⟨gl, 0, none⟩), .int .u64 lsn] w fun e w' => e = .returned (.int .i64 (spentL l.dur lsn l.last : Nat)) ∧ w' = w := by
  obtain ⟨oa, ca, hv⟩ := hu.form
  subst hv
  obtain ⟨xs, HX⟩ : ∃ xs, Hid (l.last = xs) := ⟨_, rfl⟩
  rw [HX.out] at hr hu hn ⊢
  have HAT : Hid (∀ k x, xs[k]? = some x → ∃ g cap, Value.slice oa xs.length ca = .slice (some ⟨g, 0, none⟩) xs.length cap ∧ w.cell? ⟨g, k, none⟩ = some (.int .u64 x)) := fun k x hk => hu.at k x hk
  have c4 : w.cell? ⟨gl, 4, none⟩ = some (.slice oa xs.length ca) := row_at hr 4 _ rfl
  have c10 : w.cell? ⟨gl, 10, none⟩ = some (.int .u64 l.dur) := row_at hr 10 _ rfl
  have HGET : Hid (∀ k : Nat, xs.drop k = [] ∨ ∃ x, xs.drop k = x :: xs.drop (k + 1) ∧ k < xs.length) := fun k => by
    by_cases h : k < xs.length
    · exact Or.inr ⟨xs[k], (List.drop_eq_getElem_cons h), h⟩
    · exact Or.inl (List.drop_of_length_le (by omega))
  have HNX : Hid (∀ (k : Nat) (y : Int) (r : List Int), xs.drop (k + 1) = y :: r → xs[k + 1]? = some y) := fun k y r h => by
    have := congrArg (fun l => l[0]?) h
    simpa [List.getElem?_drop] using this
  obtain ⟨S, HS⟩ : ∃ S, Hid (spentL l.dur lsn xs = S) := ⟨_, rfl⟩
  rw [HS.out]
  obtain ⟨n, HN⟩ : ∃ n, Hid (xs.length = n) := ⟨_, rfl⟩
  rw [HN.out] at HAT hn HGET c4
  clear hr hu
  go_enter Try.func51, Try.ntmps51
  go_wp2
  go_loopw [12] (fun i wr => ∃ (k : Nat), k ≤ n ∧ i = .int .i64 k ∧ wr = w ∧ S = k + spentL l.dur lsn (xs.drop k)) (fun i _ => n - (intOf i).toNat)
  case atStart => exact ⟨0, by omega, rfl, rfl, by rw [← HS.out]; simp⟩
  case round =>
    obtain ⟨k, hk, rfl, rfl, hS⟩ := hrel
    by_cases hkn : k < n
    · have hkn' : (k : Int) < (n : Int) := by omega
      have hdr : ∃ x, xs.drop k = x :: xs.drop (k + 1) := by
        rcases HGET.out k with h | ⟨x, h, _⟩
        · have := congrArg List.length h; rw [List.length_drop, HN.out] at this; simp at this; omega
        · exact ⟨x, h⟩
      obtain ⟨x, hx⟩ := hdr
      have v1 : IntKind.i64.wrap ((k : Int) + 1) = (k : Int) + 1 := by rw [IntKind.wrap_i64]; omega
      cases hd : xs.drop (k + 1) with
      | nil =>
        have hlast : k + 1 = n := by have := congrArg List.length hd; rw [List.length_drop, HN.out] at this; simp at this; omega
        have hl' : ¬ (k : Int) + 1 < (n : Int) := by omega
        have e1 : spentL l.dur lsn (xs.drop k) = if lsn < l.dur then 0 else 1 := by rw [hx, hd]; rfl
        rw [e1] at hS
        by_cases hq : lsn < l.dur
        · rw [if_pos hq] at hS
          subst hS
          clear hx hd e1 hlast
          go_wp2
          go_ret
          exact ⟨by simp, rfl⟩
        · rw [if_neg hq] at hS
          have hdn : xs.drop (k + 1) = [] := hd
          clear hx hd e1
          go_wp2
          go_roundw
          case rel => exact ⟨k + 1, by omega, by go_num, trivial, by rw [hS, hdn]; rfl⟩
          case measure => simp [intOf]; omega
      | cons y r =>
        have hlt : k + 1 < n := by have := congrArg List.length hd; rw [List.length_drop, HN.out] at this; simp at this; omega
        have hl' : (k : Int) + 1 < (n : Int) := by omega
        have e1 : spentL l.dur lsn (xs.drop k) = if lsn < y then 0 else 1 + spentL l.dur lsn (y :: r) := by rw [hx, hd]; rfl
        rw [e1] at hS
        obtain ⟨g, cap, hv, hcell⟩ := HAT.out (k + 1) y (HNX.out k y r hd)
        cases hv
        have hcell2 : wr.cell? ((⟨g, 0, none⟩ : Addr).add (k + 1)) = some (.int .u64 y) := by rw [Addr.add_mid, Nat.zero_add]; exact hcell
        by_cases hq : lsn < y
        · rw [if_pos hq] at hS
          subst hS
          clear hx hd e1
          go_wp2
          go_ret
          exact ⟨by simp, rfl⟩
        · rw [if_neg hq, ← hd] at hS
          clear hx hd e1
          go_wp2
          go_roundw
          case rel => exact ⟨k + 1, by omega, by go_num, trivial, by omega⟩
          case measure => simp [intOf]; omega
    · obtain rfl : n = k := by omega
      have hkn' : ¬ (n : Int) < (n : Int) := by omega
      have e1 : xs.drop n = [] := List.drop_of_length_le (by rw [HN.out]; exact Nat.le_refl _)
      rw [e1] at hS
      have e2 : S = n := hS
      subst e2
      clear hS e1
      go_wp2
      go_ret
      exact ⟨by simp, rfl⟩
theorem spentL_le (dur lsn : Int) : ∀ xs : List Int, spentL dur lsn xs ≤ xs.length
  | [] => Nat.le_refl _
  | [_] => by unfold spentL; split <;> simp
  | _ :: y :: r => by
    have := spentL_le dur lsn (y :: r)
    unfold spentL
    split
    · exact Nat.zero_le _
    · simp only [List.length_cons] at this ⊢; omega
theorem from_any (gl : Nat) (pd vl vs : Value) (l : Lg) (lsn : Int) (w : World) (hr : Row w gl (lcells pd vl vs l) 102) (hu : OwnU w (gl + 1) vl l.last) (ho : Ck.Own w (gl + 1) vs l.sealed) (hn : l.last.length ≤ 1000000) (hm : l.sealed.length ≤ 1000000) :
    Calls Try.prog 17 #[.pointer (some ⟨gl, 0, none⟩), .int .u64 lsn] w fun e w' => e = .returned (.int .u32 (IntKind.u32.wrap (IntKind.u32.wrap (l.next - ((l.last.length : Int) + l.sealed.length)) + (spentL l.dur lsn l.last : Nat)))) ∧ Below w.heap.size w w' := by
  have hle := spentL_le l.dur lsn l.last
  have HSP : Hid (∀ wa, Row wa gl (lcells pd vl vs l) 102 → OwnU wa (gl + 1) vl l.last → Calls Try.prog 51 #[.pointer (some ⟨gl, 0, none⟩), .int .u64 lsn] wa fun e w' => e = .returned (.int .i64 (spentL l.dur lsn l.last : Nat)) ∧ w' = wa) := fun wa h1 h2 => spent_any gl pd vl vs l lsn wa h1 h2 hn
  obtain ⟨oa, ca, hv1⟩ := hu.form
  obtain ⟨ob, cb, hv2⟩ := ho.form
  have HTL : Hid (Calls Try.prog 27 #[.pointer (some ⟨gl, 0, none⟩)] w fun e w' => e = .returned (.int .u32 (IntKind.u32.wrap (l.next - ((l.last.length : Int) + l.sealed.length)))) ∧ Below w.heap.size w w') := tail_any gl pd l oa ob _ _ ca cb w (by rw [← hv1, ← hv2]; exact hr) hn hm
  generalize IntKind.u32.wrap (l.next - ((l.last.length : Int) + l.sealed.length)) = TL at HTL ⊢
  have v1 : IntKind.u32.wrap ((spentL l.dur lsn l.last : Nat) : Int) = (spentL l.dur lsn l.last : Nat) := by rw [IntKind.wrap_u32]; omega
  generalize spentL l.dur lsn l.last = S at HSP v1 ⊢
  clear hle hv1 hv2
  go_enter Try.func17, Try.ntmps17
  go_wp2_with (first
    | (go_at_call 27; refine Calls.mono HTL.out ?_; clear HTL; rintro e w1 ⟨rfl, h1⟩)
    | (go_at_call 51; refine Calls.mono (HSP.out _ (hr.below h1 hr.lt) (hu.keep h1)) ?_; clear HSP; rintro e w2 ⟨rfl, rfl⟩))
  go_ret
  exact ⟨rfl, h1⟩
end Go.Proofs.Ytgnedbagelhcbaa
