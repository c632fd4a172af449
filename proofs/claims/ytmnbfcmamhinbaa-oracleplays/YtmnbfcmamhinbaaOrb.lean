/-
  Proved here: what each call of an oracle that is there answers, and makes of it.
-/
import Derived.Test.YtmnbfcmamhinbaaOra
import Derived.Test.YtmnbfcmamhinbaaLst
namespace Go.Proofs.Ytmnbfcmamhinbaa
open Go.ChangeShapes Go.WideShapes Go.ChangeAt Go.RowKit
open Go.Deep Go.Maps
set_option linter.unusedVariables false
set_option linter.unusedSimpArgs false


theorem new_some (last max : Int) (h0 : 0 ≤ last) (h1 : last ≤ max) (h2 : max ≤ 4294967295) (w : World) :
    Calls Try.prog 9 #[.int .u32 last, .int .u32 max] w fun e w' => ∃ g m, e = .returned (.pointer (some ⟨g, 0, none⟩)) ∧ w.heap.size ≤ g ∧ w.heap.size ≤ m ∧ OAt w' g m last max 0 [] ∧ Below w.heap.size w w' := by
  have hmm := @run_makeMap Try.prog
  have hgt : ¬ last > max := by omega
  have own0 := World.ownsMap_made (H := Unit) w Try.prog 31 (plainElem Try.prog 22)
  have r1 : Row ((w.alloc (.map #[] 0)).alloc (.cells #[.int .u32 last, .int .u32 max, .int .u64 0, .map (some w.heap.size)] 74)) (w.alloc (.map #[] 0)).heap.size #[.int .u32 last, .int .u32 max, .int .u64 0, .map (some w.heap.size)] 74 := Row.new _ _ _
  have b0 : Below w.heap.size w (w.alloc (.map #[] 0)) := (Below.refl _ _).alloc (Nat.le_refl _) _
  have b1 : Below w.heap.size w ((w.alloc (.map #[] 0)).alloc (.cells #[.int .u32 last, .int .u32 max, .int .u64 0, .map (some w.heap.size)] 74)) := b0.alloc b0.size _
  have e1 : (w.alloc (.map #[] 0)).heap.size = w.heap.size + 1 := Array.size_push ..
  have HC : Hid (OAt ((w.alloc (.map #[] 0)).alloc (.cells #[.int .u32 last, .int .u32 max, .int .u64 0, .map (some w.heap.size)] 74)) (w.heap.size + 1) w.heap.size last max 0 []) := { row := by rw [e1] at r1; exact r1, own := own0.alloc _, ne := by omega, lo := ⟨h0, h1, h2⟩, nums := fun p hp => by simp at hp, rising := List.Pairwise.nil, small := by simp, pos := Int.le_refl _ }
  have HB : Hid _ := b1
  clear own0 r1 b0 b1 e1
  go_enter Try.func9, Try.ntmps9
  go_wp2
  go_ret
  exact ⟨w.heap.size + 1, rfl, Nat.le_succ _, w.heap.size, Nat.le_refl _, HC.out, HB.out⟩
theorem new_none (last max : Int) (h1 : max < last) (w : World) :
    Calls Try.prog 9 #[.int .u32 last, .int .u32 max] w fun e w' => e = .returned (.pointer none) ∧ w' = w := by
  have hgt : last > max := by omega
  go_enter Try.func9, Try.ntmps9
  go_wp2
  go_ret
  exact ⟨rfl, rfl⟩
theorem last_any {w : World} {g m : Nat} {last max begun : Int} {L : List (Int × Int)} (c : OAt w g m last max begun L) :
    Calls Try.prog 18 #[.pointer (some ⟨g, 0, none⟩)] w fun e w' => e = .returned (.int .u32 last) ∧ w' = w := by
  have c0 := row_at c.row 0 _ rfl
  go_enter Try.func18, Try.ntmps18
  go_wp2
  go_ret
  exact ⟨rfl, rfl⟩
/-- What Next answers. -/
def nextV (last max : Int) : Int := if last = max then 0 else last + 1
def nextE (last max : Int) : Int := if last = max then 8 else 0
theorem next_any {w : World} {g m : Nat} {last max begun : Int} {L : List (Int × Int)} (c : OAt w g m last max begun L) :
    Calls Try.prog 12 #[.pointer (some ⟨g, 0, none⟩)] w fun e w' => e = .returned (.tuple #[.int .u32 (nextV last max), .int .i64 (nextE last max)]) ∧ Below w.heap.size w w' := by
  have c0 := row_at c.row 0 _ rfl
  have c1 := row_at c.row 1 _ rfl
  have hb := below_drew w
  have hlo := c.lo
  by_cases hq : last = max
  · have hb0 : (last == max) = true := by simp [hq]
    have e1 : nextV last max = 0 := if_pos hq
    have e2 : nextE last max = 8 := if_pos hq
    rw [e1, e2]
    clear e1 e2 hlo
    obtain ⟨z, hz⟩ : ∃ z, Hid (last = z ∧ max = z) := ⟨max, hq, rfl⟩
    go_enter Try.func12, Try.ntmps12
    go_wp2
    go_region
    go_wp2
    go_ret2
    exact ⟨rfl, hb⟩
  · have hb0 : (last == max) = false := by simp [hq]
    have hw : IntKind.u32.wrap (last + 1) = last + 1 := by rw [IntKind.wrap_u32]; omega
    have e1 : nextV last max = last + 1 := if_neg hq
    have e2 : nextE last max = 0 := if_neg hq
    rw [e1, e2]
    clear e1 e2 hlo
    go_enter Try.func12, Try.ntmps12
    go_wp2
    go_region
    go_wp2
    go_ret2
    exact ⟨rfl, hb⟩
theorem start_any {w : World} {g m : Nat} {last max begun : Int} {L : List (Int × Int)} (c : OAt w g m last max begun L) (k : Int) (hk : (Lit.int .u64 k).wf = true) :
    Calls Try.prog 13 #[.pointer (some ⟨g, 0, none⟩), .int .u64 k] w fun e w' => e = .returned (.tuple #[.int .u32 (startL L k), .bool (hasL L k)]) ∧ w' = w := by
  have c3 := row_at c.row 3 _ rfl
  have hown := c.own
  have HA : Hid ((liveD L).atKey (.int .u64 k) (.lit (.int .u32 0)) = .lit (.int .u32 (startL L k))) := liveD_at L k
  have HH : Hid (Maps.has (liveD L) (.int .u64 k) = hasL L k) := liveD_has L k
  go_enter Try.func13, Try.ntmps13
  go_wp2_with (at_lookup; refine wpList_lookup_own_ok_int _ rfl _ _ 72 rfl 31 22 .u32 law31 Try.underlying72 Try.underlying22 (zero22 _) m _ _ rfl hown _ _ rfl (keyOf_int_mk Try.underlying31 hk) ?_; intro s hat hws; rw [HA.out] at hat; obtain rfl : startL L k = s := (by injection hat with q; injection q); clear hat hws; rw [HH.out])
  go_ret2
  exact ⟨rfl, rfl⟩
/-- Behind an End of one that is live. -/
theorem OAt.ended {w : World} {g m : Nat} {last max begun : Int} {L : List (Int × Int)} (c : OAt w g m last max begun L) {w' : World} {n : Nat} (k : Int) (h : w'.ownsMap Try.prog 31 (plainElem Try.prog 22) m n (liveD (endL L k))) (ht : w.mapTurned w' m) : OAt w' g m last max begun (endL L k) ∧ Off (two g m) w w' := by
  have ho : Off (· = m) w w' := Off.of_grown ht.grown (fun j hj => by cases hj; rfl)
  refine ⟨{ row := c.row.off ho c.ne, own := ?_, ne := c.ne, lo := c.lo, nums := fun p hp => c.nums p (List.mem_filter.1 hp).1, rising := c.rising.filter _, small := Nat.le_trans (List.length_filter_le _ _) c.small, pos := c.pos }, ho.mono (fun j q => Or.inl (Or.inr q))⟩
  have := ownsMap_tight h
  rw [liveD_size] at this
  exact this
/-- What End answers. -/
def endE (L : List (Int × Int)) (k : Int) : Int := if hasL L k = true then 0 else 9
theorem end_any {w : World} {g m : Nat} {last max begun : Int} {L : List (Int × Int)} (c : OAt w g m last max begun L) (k : Int) (hk : (Lit.int .u64 k).wf = true) :
    Calls Try.prog 16 #[.pointer (some ⟨g, 0, none⟩), .int .u64 k] w fun e w' => e = .returned (.int .i64 (endE L k)) ∧ OAt w' g m last max begun (endL L k) ∧ Off (two g m) w w' := by
  have hst := start_any c k hk
  have hown := c.own
  have c3 := row_at c.row 3 _ rfl
  by_cases hh : hasL L k = true
  · have e9 : endE L k = 0 := if_pos hh
    rw [e9]
    rw [hh] at hst
    have HD : Hid ((liveD L).del (.int .u64 k) = liveD (endL L k)) := liveD_del L k
    go_enter Try.func16, Try.ntmps16
    go_wp2_with (first
      | (go_at_call 13; refine hst.mono ?_; clear hst; rintro e wb ⟨he, hww⟩; rw [hww]; clear hww wb; obtain rfl := he)
      | (at_delete; refine wpList_delete_own _ rfl _ _ 72 31 rfl 22 law31 Try.underlying72 _ m _ _ rfl hown _ _ rfl (keyOf_int_mk Try.underlying31 hk) ?_; intro w1 hown1 hturn1; rw [HD.out] at hown1; have HE := c.ended k hown1 hturn1; clear hown1 hturn1))
    go_ret
    exact ⟨rfl, HE⟩
  · have e9 : endE L k = 9 := if_neg hh
    rw [e9]
    rw [Bool.not_eq_true] at hh
    rw [hh] at hst
    have e0 : endL L k = L := List.filter_eq_self.2 fun p hp => by
      have := List.any_eq_false.1 hh p hp
      simpa using this
    rw [e0]
    clear hown c3 e0
    go_enter Try.func16, Try.ntmps16
    go_wp2_with (go_at_call 13; refine hst.mono ?_; clear hst; rintro e wb ⟨he, hww⟩; rw [hww]; clear hww wb; obtain rfl := he)
    go_ret
    exact ⟨rfl, c, Off.refl _ _⟩
/-- Behind a Publish that was taken. -/
theorem OAt.published {w : World} {g m : Nat} {last max begun : Int} {L : List (Int × Int)} (c : OAt w g m last max begun L) (ts : Int) (h1 : last ≤ ts) (h2 : ts ≤ max) : OAt (w.setCell ⟨g, 0, none⟩ (.int .u32 ts)) g m ts max begun L ∧ Off (two g m) w (w.setCell ⟨g, 0, none⟩ (.int .u32 ts)) := by
  have lo := c.lo
  refine ⟨{ row := row_set c.row 0 _, own := c.own.setCell (fun e => c.ne e.symm) _, ne := c.ne, lo := ⟨by omega, h2, by omega⟩, nums := fun p hp => by have := c.nums p hp; omega, rising := c.rising, small := c.small, pos := c.pos }, Off.of_setCell _ _ _ (Or.inl rfl)⟩
/-- Whether a timestamp is taken. -/
def okTs (last max ts : Int) : Prop := ¬ last = max ∧ ts = last + 1
theorem publish_yes {w : World} {g m : Nat} {last max begun : Int} {L : List (Int × Int)} (c : OAt w g m last max begun L) (ts : Int) (h : okTs last max ts) :
    Calls Try.prog 17 #[.pointer (some ⟨g, 0, none⟩), .int .u32 ts] w fun e w' => e = .returned (.int .i64 0) ∧ OAt w' g m ts max begun L ∧ Off (two g m) w w' := by
  have hnx := next_any c
  have lo := c.lo
  obtain ⟨h1, rfl⟩ := h
  have e1 : nextV last max = last + 1 := if_neg h1
  have e2 : nextE last max = 0 := if_neg h1
  rw [e1, e2] at hnx
  clear e1 e2
  have HP : Hid (∀ w', OAt w' g m last max begun L → OAt (w'.setCell ⟨g, 0, none⟩ (.int .u32 (last + 1))) g m (last + 1) max begun L ∧ Off (two g m) w' (w'.setCell ⟨g, 0, none⟩ (.int .u32 (last + 1)))) := fun w' c' => c'.published (last + 1) (by omega) (by omega)
  obtain ⟨ts, HT⟩ : ∃ ts, Hid (last + 1 = ts) := ⟨_, rfl⟩
  rw [HT.out] at hnx HP ⊢
  go_enter Try.func17, Try.ntmps17
  go_wp2_with (go_at_call 12; refine hnx.mono ?_; clear hnx; rintro e w1 ⟨he, b1⟩; obtain rfl := he; have C1 := c.below b1; have HQ := HP.out _ C1; have f1 := row_frozen C1.row 0; have k1 := row_at C1.row 0 _ rfl; clear C1; have HB : Hid _ := b1; clear b1)
  go_ret
  exact ⟨rfl, HQ.1, (Off.of_below HB.out).trans HQ.2 (fun j q => Or.inl q)⟩
theorem publish_no {w : World} {g m : Nat} {last max begun : Int} {L : List (Int × Int)} (c : OAt w g m last max begun L) (ts : Int) (h : ¬ okTs last max ts) :
    Calls Try.prog 17 #[.pointer (some ⟨g, 0, none⟩), .int .u32 ts] w fun e w' => e = .returned (.int .i64 1) ∧ Below w.heap.size w w' := by
  have hnx := next_any c
  by_cases h1 : last = max
  · have e1 : nextV last max = 0 := if_pos h1
    have e2 : nextE last max = 8 := if_pos h1
    rw [e1, e2] at hnx
    clear e1 e2 h1
    go_enter Try.func17, Try.ntmps17
    go_wp2_with (go_at_call 12; refine hnx.mono ?_; clear hnx; rintro e w1 ⟨he, b1⟩; obtain rfl := he)
    go_ret
    exact ⟨rfl, b1⟩
  · have e1 : nextV last max = last + 1 := if_neg h1
    have e2 : nextE last max = 0 := if_neg h1
    have h3 : ¬ ts = last + 1 := fun q => h ⟨h1, q⟩
    rw [e1, e2] at hnx
    clear e1 e2 h1
    go_enter Try.func17, Try.ntmps17
    go_wp2_with (go_at_call 12; refine hnx.mono ?_; clear hnx; rintro e w1 ⟨he, b1⟩; obtain rfl := he)
    go_ret
    exact ⟨rfl, b1⟩
end Go.Proofs.Ytmnbfcmamhinbaa
