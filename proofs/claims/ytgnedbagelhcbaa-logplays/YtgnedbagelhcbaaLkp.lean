/-
  Proved here: the starts that begin ahead of a place, and the number behind the last of them (ring.Keep).
-/
import Derived.Test.YtgnedbagelhcbaaJe
namespace Go.Proofs.Ytgnedbagelhcbaa.St
open Go.ChangeShapes Go.WideShapes Go.ChangeAt Go.RowKit
set_option linter.unusedVariables false
set_option linter.unusedSimpArgs false
set_option maxRecDepth 20000

theorem clone_any (v : Value) (os : List O) (w : World) (h : Olds w v os) (hn : os.length ≤ 1000000000) : Calls Try.prog 84 #[v] w fun e w' => Cop w os e w' := by
  have hr := fun ty => run_copy w ty v os h hn
  have HR : Hid _ := hr
  clear hr
  have hcase : (v = .slice none 0 0 ∧ os = []) ∨ ∃ a n cap, v = .slice (some a) n cap := by
    rcases h with h | ⟨a, cap, rfl, _⟩
    · exact Or.inl h
    · exact Or.inr ⟨a, _, cap, rfl⟩
  clear h
  rcases hcase with ⟨rfl, rfl⟩ | ⟨a, n, cap, rfl⟩
  · have hq := eql_nil none 0 0
    simp only [Option.isNone] at hq
    go_enter Try.func84, Try.ntmps84
    go_wp2
    go_ret
    exact ⟨_, rfl, ⟨rfl, Or.inl ⟨rfl, rfl⟩⟩, Below.refl _ _⟩
  · have hq := eql_nil (some a) n cap
    simp only [Option.isNone] at hq
    go_enter Try.func84, Try.ntmps84
    go_wp2_with (at_builtin; refine wpList_copy rfl (.tmp 5) (.tmp 6) 23 rfl _ _ rfl rfl (T := fun v' w' => Own w' w.heap.size v' os ∧ Below w.heap.size w w') (fun ty => HR.out ty) ?_; intro v' w' hT)
    go_ret
    exact ⟨v', rfl, hT⟩
/-- Those that begin ahead of a place. -/
def kp (os : List O) (e : Int) : List O := os.takeWhile fun o => decide (o.off < e)
def ahead (os : List O) (e : Int) (k : Nat) : Prop := ∀ i o, i < k → os[i]? = some o → o.off < e
theorem ahead_succ {os : List O} {e : Int} {k : Nat} (h : ahead os e k) {o : O} (ho : os[k]? = some o) (hl : o.off < e) : ahead os e (k + 1) := fun i p hi hp => by
  by_cases q : i = k
  · subst q; rw [ho] at hp; cases hp; exact hl
  · exact h i p (by omega) hp
theorem kp_is : ∀ (os : List O) (e : Int) (k : Nat), ahead os e k → k ≤ os.length → (∀ o, os[k]? = some o → ¬ o.off < e) → kp os e = os.take k
  | [], e, k, _, hk, _ => by simp [kp]
  | o :: r, e, 0, _, _, hs => by
    have := hs o rfl
    simp [kp, this]
  | o :: r, e, k + 1, h, hk, hs => by
    have h0 := h 0 o (by omega) rfl
    have := kp_is r e k (fun i p hi hp => h (i + 1) p (by omega) (by simpa using hp)) (by simpa using hk) (fun p hp => hs p (by simpa using hp))
    unfold kp at this ⊢
    rw [List.takeWhile_cons, if_pos (by simpa using h0), this]; rfl
def kpN (first : Int) (os : List O) (e : Int) : Int := IntKind.u32.wrap (first + (kp os e).length)
theorem Own.cap {w : World} {base n cap : Nat} {oa : Option Addr} {os : List O} (h : Own w base (.slice oa n cap) os) : os.length ≤ cap := by
  rcases h.2 with ⟨q, h2⟩ | ⟨g, cap', cur, q, hb, hc, hle, _⟩
  · omega
  · cases q; exact hle
theorem kpN_is (first : Int) (os : List O) (e : Int) (k : Nat) (h : (kp os e).length = k) : (first + (k : Int)) % 4294967296 = kpN first os e := by
  unfold kpN; rw [h, IntKind.wrap_u32]
/-- Behind Keep. -/
def Kept (w : World) (first : Int) (os : List O) (e : Int) (ex : Ending) (w' : World) : Prop :=
  ∃ v', ex = .returned (.tuple #[v', .int .u32 (kpN first os e)]) ∧ Own w' w.heap.size v' (kp os e) ∧ Below w.heap.size w w'

set_option maxHeartbeats 2000000 in
theorem keep_any (first e : Int) (v : Value) (os : List O) (w : World) (base : Nat) (hO : Own w base v os) (hn : os.length ≤ 100) (hf : 0 ≤ first ∧ first ≤ 4294967295) :
    Calls Try.prog 64 #[.int .u32 first, v, .int .u64 e] w fun ex w' => Kept w first os e ex w' := by
  obtain ⟨P, HP⟩ : ∃ P : Ending → World → Prop, Hid (P = Kept w first os e) := ⟨_, rfl⟩
  rw [← HP.out]
  have ho := hO.olds
  have HO : Hid _ := ho
  obtain ⟨oa, cap, rfl, hcs⟩ := ho.hold
  have hcp : os.length ≤ cap := hO.cap
  clear hO
  have HCS : Hid _ := hcs
  clear hcs ho
  obtain ⟨n, HN⟩ : ∃ n, Hid (os.length = n) := ⟨_, rfl⟩
  have HO : Hid (Olds w (.slice oa n cap) os) := by show Olds _ _ _; rw [← HN.out]; exact HO.out
  rw [HN.out] at HCS hn hcp ⊢
  go_enter Try.func64, Try.ntmps64
  go_upto_region 2 with fail
  go_loopw [8] (fun d wr => ∃ (k : Nat), d = .int .i64 k ∧ k ≤ n ∧ wr = w ∧ Hid (ahead os e k)) (fun d _ => n - (intOf d).toNat)
  case atStart => exact ⟨0, rfl, by omega, rfl, fun i o hi => absurd hi (by omega)⟩
  case round =>
    obtain ⟨k, rfl, hk, rfl, HA⟩ := hrel
    have fin : Hid ((∀ o, os[k]? = some o → ¬ o.off < e) → kp os e = os.take k) := fun hs => kp_is os e k HA.out (by rw [HN.out]; exact hk) hs
    by_cases hkn : k < n
    · have hkn' : (k : Int) < (n : Int) := by omega
      obtain ⟨a, p, t, rfl, he, hc1⟩ := HCS.out k hkn
      have c1 : wr.cell? ⟨(a.add (k * 2)).block, (a.add (k * 2)).off + 1, none⟩ = some (.int .u64 t) := hc1 1 _ rfl
      have HE := show Hid _ from he
      clear he hc1
      have hkc : (k : Int) ≤ (cap : Int) := by omega
      have hkc2 : ¬ (cap : Int) < (k : Int) := by omega
      by_cases hte : t < e
      · go_wp2
        go_roundw
        case rel => exact ⟨k + 1, by go_num, by omega, trivial, ahead_succ HA.out HE.out hte⟩
        case measure => simp [intOf]; omega
      · have HK : Hid (kp os e = os.take k) := fin.out fun o q => by rw [HE.out] at q; cases q; exact hte
        clear fin
        have hlen : Hid ((kp os e).length = k) := by show _ = _; rw [HK.out]; simp [HN.out]; omega
        have HCL : Hid _ := clone_any (.slice (some a) k cap) (os.take k) wr (Olds.cut HO.out k (by rw [HN.out]; omega)) (by simp; omega)
        go_wp2_with (go_at_call 84; refine Calls.mono HCL.out ?_; rintro ex w2 ⟨v2, rfl, o2, b2⟩)
        rw [HP.out]
        refine ⟨v2, ?_, by rw [HK.out]; exact o2, b2⟩
        rw [← kpN_is first os e _ hlen.out]; rfl
    · obtain rfl : k = n := by omega
      have hkn' : ¬ (k : Int) < (k : Int) := by omega
      have HK : Hid (kp os e = os.take k) := fin.out fun o q => by rw [List.getElem?_eq_none (by rw [HN.out]; omega)] at q; cases q
      clear fin
      have hlen : Hid ((kp os e).length = k) := by show _ = _; rw [HK.out]; simp [HN.out]
      have HCL : Hid _ := clone_any (.slice oa k cap) (os.take k) wr (Olds.cut HO.out k (by rw [HN.out]; omega)) (by simp; omega)
      have hoa : (oa = none ∧ k = 0 ∧ cap = 0) ∨ ∃ a, oa = some a := by
        cases oa with
        | some a => exact Or.inr ⟨a, rfl⟩
        | none =>
          refine Or.inl ⟨rfl, ?_⟩
          rcases HO.out with ⟨q, _⟩ | ⟨a, c, q, _⟩
          · cases q; exact ⟨rfl, rfl⟩
          · cases q
      have hkc : (k : Int) ≤ (cap : Int) := by omega
      have hkc2 : ¬ (cap : Int) < (k : Int) := by omega
      rcases hoa with ⟨rfl, rfl, rfl⟩ | ⟨a, rfl⟩
      · go_wp2_with (go_at_call 84; refine Calls.mono HCL.out ?_; rintro ex w2 ⟨v2, rfl, o2, b2⟩)
        rw [HP.out]
        refine ⟨v2, ?_, by rw [HK.out]; exact o2, b2⟩
        rw [← kpN_is first os e _ hlen.out, show (first + ((0 : Nat) : Int)) % 4294967296 = first by omega]; rfl
      · go_wp2_with (go_at_call 84; refine Calls.mono HCL.out ?_; rintro ex w2 ⟨v2, rfl, o2, b2⟩)
        rw [HP.out]
        refine ⟨v2, ?_, by rw [HK.out]; exact o2, b2⟩
        rw [← kpN_is first os e _ hlen.out]; rfl
end Go.Proofs.Ytgnedbagelhcbaa.St
