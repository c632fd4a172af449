/-
  Plain facts on a range over a map of sectors: begun, one step, and that only the keys that there can be count.
-/
import Derived.Test.YtcbjjofckhohjaaCrash
namespace Go.Proofs.Ytcbjjofckhohjaa
open Go.ChangeShapes Go.WideShapes Go.ChangeAt Go.RowKit
set_option linter.unusedVariables false
set_option linter.unusedSimpArgs false
set_option maxRecDepth 20000

theorem SMap.congr {w : World} {a n : Nat} {f h : Secs} (hs : SMap w a n f) (e : ∀ b s, Wf b → Wf s → f b s = h b s) : SMap w a n h := by
  obtain ⟨D, hD, hf⟩ := hs
  exact ⟨D, hD, fun b s hb hw => by rw [← e b s hb hw]; exact hf b s hb hw⟩
theorem SMap.range {w : World} {a n : Nat} {f : Secs} (h : SMap w a n f) :
    ∃ w' cnt, (Instr.range 72 (.map (some a))).run Try.prog w = .ok (.pointer (some ⟨w.heap.size, 0, none⟩)) w' ∧ SRng w' a w.heap.size n f (fun b s => (f b s).isSome) cnt ∧ cnt ≤ n ∧ w.grownBy w' none ∧ w'.heap.size = w.heap.size + 1 := by
  obtain ⟨D, hD, hf⟩ := h
  obtain ⟨w', hrun, hr, hg, hs⟩ := hD.range law79 Try.underlying72
  refine ⟨w', _, hrun, ⟨D, _, hr, hf, fun b s hb hw => ?_⟩, hD.size_le, hg, hs⟩
  show _ = (f b s).isSome
  cases e : f b s with
  | none => rw [(hf b s hb hw).1 e]; rfl
  | some xs => rw [Maps.has_true_of_atKey ((hf b s hb hw).2 xs e).2]; rfl
theorem same_kl {b s b' s' : Int} (hb : Wf b) (hs : Wf s) (hb' : Wf b') (hs' : Wf s') : (kl b' s').sameKey (kl b s) = decide (b' = b ∧ s' = s) := by
  by_cases e : b' = b ∧ s' = s
  · obtain ⟨rfl, rfl⟩ := e
    rw [WideAt.sameKey_self (kl_key hb hs)]; simp
  · rw [decide_eq_false e]
    exact Maps.sameKey_ne (fun q => e (kl_inj hb' hs' hb hs q))
theorem SRng.next {w : World} {a r n : Nat} {f : Secs} {left : Int → Int → Bool} {cnt : Nat} (h : SRng w a r n f left cnt) :
    (cnt = 0 ∧ (∀ b s, Wf b → Wf s → left b s = false) ∧ ∀ ty, (Instr.next (.pointer (some ⟨r, 0, none⟩)) false ty).run Try.prog w = .ok (.tuple #[.bool false]) w) ∨
    ∃ b s xs w' cnt', Wf b ∧ Wf s ∧ Sec xs ∧ left b s = true ∧ f b s = some xs ∧ (∀ ty, (Instr.next (.pointer (some ⟨r, 0, none⟩)) false ty).run Try.prog w = .ok (.tuple #[.bool true, pk b s, .agg (bs xs)]) w') ∧
      SRng w' a r n f (fun b' s' => left b' s' && !decide (b' = b ∧ s' = s)) cnt' ∧ cnt' < cnt ∧ w.grownBy w' (some r) ∧ w'.heap.size = w.heap.size ∧ (Instr.entry (.pointer (some ⟨r, 0, none⟩))).run Try.prog w' = .ok (.tuple #[pk b s, .agg (bs xs)]) w' := by
  obtain ⟨D, lf, hr, hf, hl⟩ := h
  rcases hr.next law79 0 with ⟨h0, h1, _⟩ | ⟨key, v, k0, y, w', cnt', hkey, hlk, hv, hat, hrun, hrg, hlt, hgr, hsz, hen⟩
  · refine Or.inl ⟨h0, fun b s hb hs => by rw [← hl b s hb hs]; exact h1 _, fun ty => ?_⟩
    rcases hr.next law79 ty with ⟨_, _, hrun⟩ | ⟨_, _, _, _, _, cnt', _, _, _, _, _, _, hlt, _⟩
    · exact hrun
    · omega
  · obtain ⟨b, s, rfl, hb, hs, rfl⟩ := key_inv hkey
    obtain ⟨xs, hx, rfl, rfl⟩ := secR_inv hv
    refine Or.inr ⟨b, s, xs, w', cnt', hb, hs, hx, by rw [← hl b s hb hs]; exact hlk, ?_, fun ty => ?_, ⟨D, _, hrg, hf, fun b' s' hb' hs' => ?_⟩, hlt, hgr, hsz, hen⟩
    · cases e : f b s with
      | none =>
        have := (hf b s hb hs).1 e
        rw [Maps.has_true_of_atKey hat] at this; cases this
      | some ys =>
        have := ((hf b s hb hs).2 ys e).2 .nil
        rw [hat] at this
        cases this; rfl
    · exact hrun
    · rw [hl b' s' hb' hs', same_kl hb hs hb' hs']
end Go.Proofs.Ytcbjjofckhohjaa
