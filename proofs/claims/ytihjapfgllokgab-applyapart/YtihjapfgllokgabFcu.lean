/-
  Plain facts for the statements of apply: few's logs rise; a rising log gone over twice, or first in part, makes the same; a log's head is a log.
-/
import Derived.Test.YtihjapfgllokgabFct
import Derived.Test.YtihjapfgllokgabFew
namespace Go.Proofs.Ytihjapfgllokgab
open Go.ChangeShapes Go.WideShapes Go.ChangeAt Go.RowKit
set_option linter.unusedVariables false
set_option linter.unusedSimpArgs false

theorem Rises.snoc : ∀ {m : Int} {es : List En} {e : En}, Rises m es → m < e.lsn → (∀ x ∈ es, x.lsn < e.lsn) → Rises m (es ++ [e])
  | _, [], _, _, hm, _ => ⟨hm, trivial⟩
  | _, a :: es, e, h, _, ha => ⟨h.1, Rises.snoc h.2 (ha a (by simp)) (fun x hx => ha x (by simp [hx]))⟩
theorem fewN_lsn (es : List En) : ∀ k, ∀ e ∈ fewN es k, e.lsn ≤ k
  | 0, e, he => by cases he
  | k + 1, e, he => by
    rw [fewN] at he
    rcases List.mem_append.1 he with he | he
    · have := fewN_lsn es k e he; omega
    · cases hq : es[k]? with
      | none => rw [hq] at he; cases he
      | some x => rw [hq] at he; simp at he; subst he; show ((k : Int) + 1) ≤ ((k + 1 : Nat) : Int); omega
theorem fewN_rises (es : List En) : ∀ k, Rises 0 (fewN es k)
  | 0 => trivial
  | k + 1 => by
    rw [fewN]
    cases hq : es[k]? with
    | none => simpa using fewN_rises es k
    | some x => exact Rises.snoc (fewN_rises es k) (by show (0 : Int) < k + 1; omega) (fun y hy => by have := fewN_lsn es k y hy; show y.lsn < (k : Int) + 1; omega)
theorem replay_twice {u : Bool} {no : Int} {p : List Int} {l : List En} (hno : 0 ≤ no ∧ no ≤ 65535) (hp : p.length = 224) (hb : Bytes p) (hf : ∀ e ∈ l, e.Fits) (hr : Rises 0 l) :
    replayR u no (replayR u no p l) l = replayR u no p l := by
  have h := fold_flag (u := u) hno l (p, isP u no p) hf ⟨hp, hb⟩ rfl
  have h2 := fold_twice (u := u) hno l 0 (p, isP u no p) hr hf ⟨hp, hb⟩
  unfold replayR replayS
  rw [← h]
  show (l.foldl (stepR u no) (l.foldl (stepR u no) (p, isP u no p))).1 = _
  rw [h2]
theorem replay_part {u : Bool} {no : Int} {p : List Int} {l : List En} (hno : 0 ≤ no ∧ no ≤ 65535) (hp : p.length = 224) (hb : Bytes p) (hf : ∀ e ∈ l, e.Fits) (hr : Rises 0 l) (k : Nat) :
    replayR u no (replayR u no p (l.take k)) l = replayR u no p l := by
  have hf1 : ∀ e ∈ l.take k, e.Fits := fun e he => hf e (List.mem_of_mem_take he)
  have h := fold_flag (u := u) hno (l.take k) (p, isP u no p) hf1 ⟨hp, hb⟩ rfl
  have h2 := fold_part (u := u) hno (l.take k) (l.drop k) 0 (p, isP u no p) (by rw [List.take_append_drop]; exact hr) (by rw [List.take_append_drop]; exact hf) ⟨hp, hb⟩
  rw [List.take_append_drop] at h2
  unfold replayR replayS
  rw [← h]
  show (l.foldl (stepR u no) ((l.take k).foldl (stepR u no) (p, isP u no p))).1 = _
  rw [h2]
/-- Entries about other pages, and commits, laid between those of a log, change nothing. -/
theorem replay_mixed {u : Bool} {no : Int} {p : List Int} {l m : List En} (h : (m.filter fun e => aboutR u no e.r) = (l.filter fun e => aboutR u no e.r)) : replayR u no p m = replayR u no p l := by
  rw [replayR_filter u no p m, h, ← replayR_filter]
theorem Log.take {w : World} {oa : Option Addr} {n cap : Nat} {es : List En} (h : Log w (.slice oa n cap) es) (k : Nat) (hk : k ≤ n) : Log w (.slice oa k cap) (es.take k) := by
  rcases h with ⟨h, rfl⟩ | ⟨a, cap', h, hc⟩
  · cases h
    have : k = 0 := by omega
    subst this
    exact Or.inl ⟨rfl, by simp⟩
  · cases h
    refine Or.inr ⟨a, cap, by rw [List.length_take, Nat.min_eq_left hk], fun i e he j x hj => ?_⟩
    rw [List.getElem?_take] at he
    split at he
    · exact hc i e he j x hj
    · cases he
end Go.Proofs.Ytihjapfgllokgab
