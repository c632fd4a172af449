/-
  Proved here: the keys of a map are told, the least first (keys.Rising).
-/
import Derived.Test.YtmnbfcmamhinbabWst
import Derived.Maps.RangeWalk
import Derived.Maps.OwnSet
import Derived.Maps.Ext
import Derived.Sort.OwnSorted
namespace Go.Proofs.Ytmnbfcmamhinbab.S2
open Go.ChangeShapes Go.WideShapes Go.ChangeAt Go.RowKit
open Go.Deep Go.Maps
set_option linter.unusedVariables false
set_option linter.unusedSimpArgs false

theorem info40 : (Try.prog.info? 40).map (fun i => (i.zero, i.size, i.bytes)) = some (some (.int .u16 0), 1, 2) := by kernel_rfl
theorem same_key (a b : Int) : (Lit.int .u16 a).sameKey (.int .u16 b) = decide (a = b) := by simp [Lit.sameKey]
/-- Two rising lists with the same members are one. -/
theorem rising_eq : ∀ {l m : List Int}, l.Pairwise (· < ·) → m.Pairwise (· < ·) → (∀ x, x ∈ l ↔ x ∈ m) → l = m
  | [], [], _, _, _ => rfl
  | [], b :: m, _, _, h => by have := (h b).2 (by simp); simp at this
  | a :: l, [], _, _, h => by have := (h a).1 (by simp); simp at this
  | a :: l, b :: m, h1, h2, h => by
    obtain ⟨p1, p2⟩ := List.pairwise_cons.1 h1
    obtain ⟨q1, q2⟩ := List.pairwise_cons.1 h2
    have e : a = b := by
      rcases List.mem_cons.1 ((h a).1 (by simp)) with e | e
      · exact e
      · rcases List.mem_cons.1 ((h b).2 (by simp)) with e' | e'
        · exact e'.symm
        · have x1 := q1 a e
          have x2 := p1 b e'
          omega
    subst e
    congr 1
    refine rising_eq p2 q2 fun x => ⟨fun hx => ?_, fun hx => ?_⟩
    · rcases List.mem_cons.1 ((h x).1 (by simp [hx])) with e | e
      · have := p1 x hx; omega
      · exact e
    · rcases List.mem_cons.1 ((h x).2 (by simp [hx])) with e | e
      · have := q1 x hx; omega
      · exact e
theorem rising_of {l : List Int} (h : l.Pairwise (· ≤ ·)) (hn : l.Nodup) : l.Pairwise (· < ·) := by
  have := List.Pairwise.and h hn
  exact this.imp fun {a b} q => by have := q.1; have := q.2; omega
/-- The keys met so far. -/
def Col (K : List Int) (left : Lit → Bool) (ks : List Int) : Prop := ks.Nodup ∧ ∀ x, x ∈ ks ↔ x ∈ K ∧ left (.int .u16 x) = false
theorem Col.step {K : List Int} {left : Lit → Bool} {ks : List Int} (c : Col K left ks) {x : Int} (hx : x ∈ K) (hl : left (.int .u16 x) = true) : Col K (fun z => left z && !z.sameKey (.int .u16 x)) (ks ++ [x]) := by
  refine ⟨List.nodup_append.2 ⟨c.1, by simp, fun a ha b hb e => ?_⟩, fun y => ?_⟩
  · simp at hb
    subst hb
    subst e
    have := ((c.2 a).1 ha).2
    rw [hl] at this; cases this
  · simp only [same_key, List.mem_append, List.mem_singleton]
    constructor
    · rintro (h | rfl)
      · have := (c.2 y).1 h
        exact ⟨this.1, by simp [this.2]⟩
      · exact ⟨hx, by simp⟩
    · rintro ⟨h1, h2⟩
      by_cases e : y = x
      · exact Or.inr e
      · left
        refine (c.2 y).2 ⟨h1, ?_⟩
        simpa [e] using h2
/-- What Rising leaves. -/
def Rose (w : World) (K : List Int) (e : Ending) (w' : World) : Prop :=
  ∃ g cap cur, e = .returned (.slice (some ⟨g, 0, none⟩) K.length cap) ∧ w.heap.size ≤ g ∧ UAt w' g cur K ∧ Below w.heap.size w w'
set_option maxRecDepth 100000 in
set_option maxHeartbeats 1000000 in
theorem rising_any {w : World} {b n : Nat} {D : DataW (List Int)} (hown : w.ownsMap Try.prog 40 Ws.wrR b n D) (K : List Int) (hK : K.Pairwise (· < ·)) (hmem : ∀ x, Maps.has D (.int .u16 x) = true ↔ x ∈ K) (hsize : Maps.size D = K.length) (hsm : K.length ≤ 12) :
    Calls Try.prog 34 #[.map (some b)] w fun e w' => Rose w K e w' := by
  obtain ⟨i0, hi, hz0, hz1, hz2⟩ := info_parts info40
  have hbl := hown.lt
  have HK : Hid (K.Pairwise (· < ·) ∧ ∀ x, Maps.has D (.int .u16 x) = true ↔ x ∈ K) := ⟨hK, hmem⟩
  have HSZ : Hid (Maps.size D = K.length) := hsize
  have hs0 : Hid (∀ {P : Prop}, (Maps.size D ≤ 12 → P) → P) := fun h => h (by rw [HSZ.out]; exact hsm)
  have hsm2 : Maps.size D ≤ 12 := by rw [hsize]; exact hsm
  obtain ⟨N, HNN⟩ : ∃ N, Hid (Maps.size D = N) := ⟨_, rfl⟩
  have hN : N ≤ 12 := by rw [← HNN.out]; exact hsm2
  clear hK hmem hsize hsm hsm2 hs0
  obtain ⟨PP, HPP⟩ : ∃ PP : Ending → World → Prop, Hid (PP = fun e w' => Rose w K e w') := ⟨_, rfl⟩
  rw [← HPP.out]
  go_enter Try.func34, Try.ntmps34
  go_wp2_with (first
    | (at_len; refine wpList_len_own _ rfl _ 69 rfl 40 73 Try.underlying69 _ b n _ rfl hown ?_; rw [HNN.out])
    | (at_make; refine wpList_make_own _ rfl _ _ 56 rfl w.heap.size 40 i0 (.int .u16 0) 1 Try.underlying56 hi hz0 hz1 _ _ _ N rfl rfl rfl (by rw [hz2]; omega) (by unfold maxLen; omega) (Nat.le_refl _) ?_; intro w1 hrow1 hg1)
    | (at_range; refine wpList_range_own _ rfl _ 69 rfl 40 73 Ws.lawK Try.underlying69 _ b n _ rfl (hown.kept hg1 (by simp)) ?_; intro w0 hrg0 hg0 hs0))
  go_frame
  have HC0 : Hid (Col K (Maps.has D) []) := ⟨List.nodup_nil, fun x => by
    constructor
    · intro h; cases h
    · rintro ⟨h1, h2⟩
      rw [(HK.out.2 x).2 h1] at h2; cases h2⟩
  have B0 : Below w.heap.size w w0 := ((Below.refl _ _).grown hg1 (Nat.le_refl _) (fun j hj => by cases hj)).grown hg0 hg1.size (fun j hj => by cases hj)
  have hrow0 := hrow1.kept hg0 (Or.inr (by simp [Value.ownBlock]))
  have HG1 : Hid (w.heap.size ≤ w1.heap.size) := hg1.size
  rw [HNN.out] at hrg0
  clear hs0 hg0 hg1 hrow1
  go_loopw [3] (fun v wr => ∃ (left : Lit → Bool) (cnt : Nat) (ss : List Int), wr.ranges Try.prog 40 Ws.wrR b w1.heap.size n D left cnt ∧ ss.length + cnt ≤ N ∧
      wr.ownsRow w.heap.size 40 1 v ss.length (us ss) ∧ v ≠ .slice none 0 0 ∧ Hid (Col K left ss) ∧ Below w.heap.size w wr)
    (fun _ wr => wr.rangeLeft b w1.heap.size)
  case atStart => exact ⟨_, _, [], hrg0, by simp, hrow0, by simp, HC0, B0⟩
  case round =>
    clear hrg0 hrow0 HC0 B0
    obtain ⟨left, cnt, ss, hrg, hcs, hrow, hnn, HC, hnx⟩ := hrel
    go_wp2_with (at_next; refine wpList_next_ranges _ rfl _ rfl 40 Ws.lawK Ws.wrR (Value.int .u16) (fun xs : List Int => Value.agg (bs xs)) (fun key kl hk => by obtain ⟨x, rfl, _⟩ := Maps.keyOf_int_inv Try.underlying40 hk; exact ⟨x, rfl⟩) (fun v y hv => by obtain ⟨xs, _, rfl, _⟩ := Ws.wrR_inv hv; exact ⟨xs, rfl⟩) b w1.heap.size n _ _ _ rfl hrg ?_ ?_)
    · intro hc0 hl0
      rcases hrow.2 with ⟨hnil, _⟩ | ⟨g, cap, cur, rfl, hbase, hb, h1, h2, h3, h4⟩
      · exact absurd hnil hnn
      have hU : UAt wr g cur ss := ⟨hb, by simpa using h4⟩
      obtain ⟨L0, HL0⟩ : ∃ L0, Hid (ss.length = L0) := ⟨_, rfl⟩
      have hc := sort_any (cap := cap) hU L0 HL0.out (by rw [← HL0.out]; omega)
      rw [HL0.out]
      clear hU hb h4 h3
      go_wp2_with (go_at_call 39; refine hc.mono ?_; clear hc; rintro e w2 ⟨he, ys, cur2, hp, hso, U2, o2⟩; obtain rfl := he)
      try go_ret
      rw [HPP.out]
      have hys : ys = K := by
        refine rising_eq (rising_of hso (hp.nodup_iff.2 HC.out.1)) HK.out.1 fun x => ?_
        rw [hp.mem_iff, HC.out.2 x]
        exact ⟨fun h => h.1, fun h => ⟨h, hl0 _⟩⟩
      have hlen : L0 = K.length := by rw [← HL0.out, ← hys]; exact hp.length_eq.symm
      subst hys
      subst hlen
      exact ⟨g, cap, cur2, rfl, hbase, U2, hnx.trans (o2.below hnx.size (fun k e => by rw [e]; exact hbase))⟩
    · intro x c kl yd yp w2 cnt2 hkey hlk hv hat hrg2 hlt hg2 hs2 hen
      obtain ⟨x', ex, rfl, hwx⟩ := Maps.keyOf_int_inv Try.underlying40 hkey
      cases ex
      have hlx := hlk
      clear hlk
      have HX : Hid (x ∈ K) := (HK.out.2 x).1 (Maps.has_true_of_atKey hat)
      have HC2 : Hid (Col K (fun z => left z && !z.sameKey (.int .u16 x)) (ss ++ [x])) := HC.out.step HX.out hlx
      have hrow2 := hrow.kept hg2 (Or.inr (row_ne_iter hrow hrg).symm)
      clear hs2 hat hlx
      go_wp2_with (at_builtin; refine wpList_append_own_at _ rfl _ _ 56 rfl w.heap.size 40 i0 (.int .u16 0) 1 2 Try.underlying56 hi hz0 hz1 hz2 rfl (by decide) _ _ _ rfl (hrow2.alloc _) ⟨w2.heap.size, 0, none⟩ 1 1 [.int .u16 x] rfl rfl (cell_one_new _ _ _) (by simp [Value.oneCell']) (by unfold maxLen; omega) (by omega) (by have := hnx.size; have := hg2.size; simp; omega) ?_; intro v' w3 hown' hg3 hnil3 hloc3)
      have hrg3 := (hrg2.alloc _).kept hg3 (row_ne_low hrow2 hbl) (row_ne_iter hrow2 hrg2)
      go_roundw
      case rel =>
        refine ⟨_, cnt2, ss ++ [x], hrg3, by simp; omega, by simpa [us] using hown', fun hv' => by have := (hnil3.1 hv').2; omega, HC2, ?_⟩
        exact ((hnx.grown hg2 hnx.size (fun j hj => by cases hj; exact HG1.out)).alloc (by have := hnx.size; have := hg2.size; omega) _).grown hg3 (by have := hnx.size; have := hg2.size; simp; omega) (fun j hj => (hrow2.lt j hj).1)
      case measure => rw [hrg3.left_eq, hrg.left_eq]; exact hlt
end Go.Proofs.Ytmnbfcmamhinbab.S2
