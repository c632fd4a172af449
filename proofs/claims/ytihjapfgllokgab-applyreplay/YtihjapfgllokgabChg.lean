/-
  Proved here: apply.changed: what a record makes of an undo page's records, if it can.
-/
import Derived.Test.YtihjapfgllokgabAbt
import Derived.Test.YtihjapfgllokgabOwn
namespace Go.Proofs.Ytihjapfgllokgab
open Go.ChangeShapes Go.WideShapes Go.ChangeAt Go.RowKit
set_option linter.unusedVariables false
set_option linter.unusedSimpArgs false
set_option maxRecDepth 20000

/-- What a record makes of an undo page's records: none: it can't. -/
def chgO (os : List O) (r : R) : Option (List O) :=
  if r.kind = 3 then if fit os r.old && may (added os r.old) && decide ((spareAt os : Int) = r.slot) then some (added os r.old) else none
  else if r.kind = 4 then if (got os r.slot.toNat).2 then some (freed os r.slot.toNat) else none
  else if r.kind = 5 then if (got os r.slot.toNat).2 then some (os.set r.slot.toNat { (got os r.slot.toNat).1 with np := 0, ns := 0 }) else none
  else some os
def Chg (w : World) (v : Value) (os : List O) (r : R) (e : Ending) (w' : World) : Prop :=
  ∃ ls v' os', e = .returned (.tuple #[.agg #[.int .u64 ls, v'], .bool (chgO os r).isSome]) ∧ (∀ os1, chgO os r = some os1 → os' = os1) ∧ ((v' = v ∧ os' = os) ∨ Own w' w.heap.size v' os') ∧ Below w.heap.size w w'
theorem chg_add (lsn : Int) (os : List O) (r : R) (hk : r.kind = 3) :
    ∃ ls rs at_ E, (∀ w v, Olds w v os → Calls Try.prog 58 #[.agg #[.int .u64 lsn, v], .agg #[.bool r.old.live, .int .u16 r.old.page, .int .u32 r.old.ts, .int .u16 r.old.np, .int .u8 r.old.ns, .string r.old.delta]] w fun e w' => AnsA w ls rs at_ E e w') ∧ (chgO os r).isSome = ((E == 0) && (at_ == r.slot)) ∧ ∀ os1, chgO os r = some os1 → rs = os1 := by
  unfold chgO
  rw [if_pos hk]
  cases hf : fit os r.old with
  | false => exact ⟨0, [], 0, 1, fun w v h => add_bad lsn v os r.old w h hf, by simp, by simp⟩
  | true =>
    cases hm : may (added os r.old) with
    | false => exact ⟨0, [], 0, 5, fun w v h => add_fit lsn v os r.old w h hf 5 0 [] 0 ⟨fun q => (by rw [hm] at q; cases q), fun _ => ⟨rfl, rfl, rfl, rfl⟩⟩, by simp, by simp⟩
    | true =>
      refine ⟨lsn, added os r.old, spareAt os, 0, fun w v h => add_fit lsn v os r.old w h hf 0 lsn _ _ ⟨fun _ => ⟨rfl, rfl, rfl, rfl⟩, fun q => (by rw [hm] at q; cases q)⟩, ?_, ?_⟩
      · by_cases h : (spareAt os : Int) = r.slot <;> simp [h]
      · by_cases h : (spareAt os : Int) = r.slot <;> simp [h]
theorem chg_free (lsn : Int) (os : List O) (r : R) (hk : r.kind = 4) (hs : 0 ≤ r.slot ∧ r.slot ≤ 255) :
    ∃ ls rs E, (∀ w v, Olds w v os → Calls Try.prog 59 #[.agg #[.int .u64 lsn, v], .int .u8 r.slot] w fun e w' => Ans w ls rs E e w') ∧ (chgO os r).isSome = (E == 0) ∧ ∀ os1, chgO os r = some os1 → rs = os1 := by
  obtain ⟨s, hs'⟩ : ∃ s : Nat, r.slot = s := ⟨r.slot.toNat, by omega⟩
  unfold chgO
  rw [if_neg (by omega), if_pos hk, hs']
  rw [hs'] at hs
  have e1 : ((s : Int)).toNat = s := by omega
  rw [e1]
  rcases got_cases os s with h | ⟨o, _, _, _, h⟩
  · rw [h]; exact ⟨0, [], 1, fun w v ho => free_bad lsn v os s (by omega) w ho h, by simp, by simp⟩
  · rw [h]; exact ⟨lsn, freed os s, 0, fun w v ho => free_ok lsn v os s (by omega) w ho o h, by simp, by simp⟩
theorem chg_cut (lsn : Int) (os : List O) (r : R) (hk : r.kind = 5) (hs : 0 ≤ r.slot ∧ r.slot ≤ 255) :
    ∃ ls rs E, (∀ w v, Olds w v os → Calls Try.prog 60 #[.agg #[.int .u64 lsn, v], .int .u8 r.slot] w fun e w' => Ans w ls rs E e w') ∧ (chgO os r).isSome = (E == 0) ∧ ∀ os1, chgO os r = some os1 → rs = os1 := by
  obtain ⟨s, hs'⟩ : ∃ s : Nat, r.slot = s := ⟨r.slot.toNat, by omega⟩
  unfold chgO
  rw [if_neg (by omega), if_neg (by omega), if_pos hk, hs']
  rw [hs'] at hs
  have e1 : ((s : Int)).toNat = s := by omega
  rw [e1]
  rcases got_cases os s with h | ⟨o, _, _, _, h⟩
  · rw [h]; exact ⟨0, [], 1, fun w v ho => cut_bad lsn v os s (by omega) w ho h, by simp, by simp⟩
  · rw [h]; exact ⟨lsn, _, 0, fun w v ho => cut_ok lsn v os s (by omega) w ho o h, by simp, by simp⟩
set_option maxHeartbeats 4000000 in
theorem chg_3 (lsn : Int) (v : Value) (os : List O) (r : R) (w : World) (hl : r.img.length = 224) (hs : 0 ≤ r.slot ∧ r.slot ≤ 255) (ho : Olds w v os) (hk : r.kind = 3) :
    Calls Try.prog 43 #[.agg #[.int .u64 lsn, v], .agg r.arr] w fun e w' => Chg w v os r e w' := by
  obtain ⟨ls, rs, at_, E, hC, hok, hrs⟩ := chg_add lsn os r hk
  have HC := show Hid _ from hC
  clear hC
  have t3 : (r.kind == 3) = true := by simp [hk]
  clear hk
  have hz := zero64
  have hsl : (r.slot == r.slot) = true := by simp
  obtain ⟨oa, cap, rfl, _⟩ := ho.open
  obtain ⟨n, HN⟩ : ∃ n, Hid (os.length = n) := ⟨_, rfl⟩
  rw [HN.out] at ho ⊢
  have r0 : Row (((w.alloc (.cells #[.int .u64 lsn, .slice oa n cap] 64)).alloc (.cells r.arr 37)).alloc (.cells #[.int .u64 0, .slice none 0 0] 64)) w.heap.size #[.int .u64 lsn, .slice oa n cap] 64 := ((Row.new _ _ _).alloc _).alloc _
  have r1 : Row (((w.alloc (.cells #[.int .u64 lsn, .slice oa n cap] 64)).alloc (.cells r.arr 37)).alloc (.cells #[.int .u64 0, .slice none 0 0] 64)) (w.heap.size + 1) r.arr 37 := by have := (Row.new (w.alloc (.cells #[.int .u64 lsn, .slice oa n cap] 64)) r.arr 37).alloc (.cells #[.int .u64 0, .slice none 0 0] 64); simpa using this
  have r2 : Row (((w.alloc (.cells #[.int .u64 lsn, .slice oa n cap] 64)).alloc (.cells r.arr 37)).alloc (.cells #[.int .u64 0, .slice none 0 0] 64)) (w.heap.size + 2) #[.int .u64 0, .slice none 0 0] 64 := by have := Row.new ((w.alloc (.cells #[.int .u64 lsn, .slice oa n cap] 64)).alloc (.cells r.arr 37)) #[.int .u64 0, .slice none 0 0] 64; simpa using this
  have ab : Below w.heap.size w (((w.alloc (.cells #[.int .u64 lsn, .slice oa n cap] 64)).alloc (.cells r.arr 37)).alloc (.cells #[.int .u64 0, .slice none 0 0] 64)) := (((Below.refl _ _).alloc (Nat.le_refl _) _).alloc (by simp) _).alloc (by simp; omega) _
  have ho1 := ho.keep ab
  go_enter Try.func43, Try.ntmps43
  go_upto_region 1 with fail
  generalize ((w.alloc (.cells #[.int .u64 lsn, .slice oa n cap] 64)).alloc (.cells r.arr 37)).alloc (.cells #[.int .u64 0, .slice none 0 0] 64) = w1 at r0 r1 r2 ab ho1 ⊢
  have c0 := row_at r1 0 _ r.at0
  have c6 := row_at r1 231 _ (R.atT r hl 4)
  have hm := mid_row r1 232 [.bool r.old.live, .int .u16 r.old.page, .int .u32 r.old.ts, .int .u16 r.old.np, .int .u8 r.old.ns, .string r.old.delta] (fun j v h => by
    match j, h with
    | 0, h => rw [← h]; exact R.atT r hl 5
    | 1, h => rw [← h]; exact R.atT r hl 6
    | 2, h => rw [← h]; exact R.atT r hl 7
    | 3, h => rw [← h]; exact R.atT r hl 8
    | 4, h => rw [← h]; exact R.atT r hl 9
    | 5, h => rw [← h]; exact R.atT r hl 10)
  by_cases hE : E = 0
  · have be : (E == 0) = true := by simp [hE]
    by_cases hA : at_ = r.slot
    · have ba : (at_ == r.slot) = true := by simp [hA]
      rw [be, ba] at hok
      clear hE hA
      go_upto_region 10 with (first
        | (refine load_cells rfl 64 (.tmp 2) rfl w.heap.size rfl 64 _ r0 2 Try.underlying64 rfl size64 rfl ?_)
        | (refine wpList_load_any rfl 35 (.tmp 16) rfl ⟨w.heap.size + 1, 232, none⟩ rfl [.bool r.old.live, .int .u16 r.old.page, .int .u32 r.old.ts, .int .u16 r.old.np, .int .u8 r.old.ns, .string r.old.delta] _ hm Try.underlying35 rfl size35 ?_)
        | (go_at_call 58; refine (HC.out _ _ ho1).mono ?_; clear HC; rintro e w3 ⟨v3, rfl, hO3, h3⟩
           obtain ⟨oa3, cap3, rfl, _⟩ := hO3.olds.open
           obtain ⟨n3, HN3⟩ : ∃ n, Hid (rs.length = n) := ⟨_, rfl⟩
           rw [HN3.out] at hO3 ⊢
           have y0 := r0.below h3 r0.lt
           have y1 := r1.below h3 r1.lt
           have y2 := r2.below h3 r2.lt
           have yb := ab.trans (h3.mono ab.size)
           have yo := hO3.olds
           have hw3 : w.heap.size < w1.heap.size := r0.lt)
        | (refine store_cells rfl 64 (.tmp 2) (.tmp 19) rfl w.heap.size #[.int .u64 ls, .slice oa3 n3 cap3] rfl rfl 64 _ y0 2 size64 rfl rfl (by simp [Value.oneCell']) ?_))
      have x0 := y0.set #[.int .u64 ls, .slice oa3 n3 cap3]
      have x1 := y1.other (g := w.heap.size) (by omega) #[.int .u64 ls, .slice oa3 n3 cap3]
      have x2 := y2.other (g := w.heap.size) (by omega) #[.int .u64 ls, .slice oa3 n3 cap3]
      have xb := below_setRow yb (Nat.le_refl _) #[.int .u64 ls, .slice oa3 n3 cap3]
      have xo := hO3.setRow w.heap.size hw3 #[.int .u64 ls, .slice oa3 n3 cap3]
      have hw4 : w.heap.size + 2 < w1.heap.size := r2.lt
      clear r0 r1 r2 ab y0 y1 y2 yb yo hO3 h3 c0 c6
      generalize w3.setRow w.heap.size #[.int .u64 ls, .slice oa3 n3 cap3] = W at x0 x1 x2 xb xo ⊢
      have HF : Hid ((chgO os r).isSome = true) := hok
      have HFx := hrs
      clear hok hrs
      have l0 := row_at x0 0 _ rfl
      have l1 := row_at x0 1 _ rfl
      have m6 := row_at x1 231 _ (R.atT r hl 4)
      have o0 := row_at x2 0 _ rfl
      have o1 := row_at x2 1 _ rfl
      have fz0 := row_frozen x2 0
      have fz1 := row_frozen x2 1
      go_upto_region 10 with fail
      go_region
      all_goals
        go_wp2
        have z2 : Row ((W.setCell ⟨w.heap.size + 2, 0, none⟩ (.int .u64 ls)).setCell ⟨w.heap.size + 2, 1, none⟩ (.slice oa3 n3 cap3)).drew (w.heap.size + 2) #[.int .u64 ls, .slice oa3 n3 cap3] 64 := row_set (row_set x2 0 (.int .u64 ls)) 1 (.slice oa3 n3 cap3)
        have zb := ((xb.setCell (p := ⟨w.heap.size + 2, 0, none⟩) (by show w.heap.size ≤ w.heap.size + 2; omega) (.int .u64 ls)).setCell (p := ⟨w.heap.size + 2, 1, none⟩) (by show w.heap.size ≤ w.heap.size + 2; omega) (.slice oa3 n3 cap3)).drew
        refine bodyPost_ret (v := .tuple #[.agg #[.int .u64 ls, .slice oa3 n3 cap3], .bool true]) ?_ rfl ⟨ls, .slice oa3 n3 cap3, rs, by rw [HF.out], HFx, Or.inr (((xo.other (w.heap.size + 2) 0 (.int .u64 ls) hw4).other (w.heap.size + 2) 1 (.slice oa3 n3 cap3) hw4).base (Nat.le_of_lt hw3)), zb⟩
        exact ret_cell2 (fn := Try.f43) rfl _ _ (w.heap.size + 2) 64 _ _ (.bool true) rfl rfl z2 Try.underlying64 rfl size64
    · have ba : (at_ == r.slot) = false := by simp [hA]
      rw [be, ba] at hok
      clear hE hA
      go_upto_region 10 with (first
        | (refine load_cells rfl 64 (.tmp 2) rfl w.heap.size rfl 64 _ r0 2 Try.underlying64 rfl size64 rfl ?_)
        | (refine wpList_load_any rfl 35 (.tmp 16) rfl ⟨w.heap.size + 1, 232, none⟩ rfl [.bool r.old.live, .int .u16 r.old.page, .int .u32 r.old.ts, .int .u16 r.old.np, .int .u8 r.old.ns, .string r.old.delta] _ hm Try.underlying35 rfl size35 ?_)
        | (go_at_call 58; refine (HC.out _ _ ho1).mono ?_; clear HC; rintro e w3 ⟨v3, rfl, hO3, h3⟩
           obtain ⟨oa3, cap3, rfl, _⟩ := hO3.olds.open
           obtain ⟨n3, HN3⟩ : ∃ n, Hid (rs.length = n) := ⟨_, rfl⟩
           rw [HN3.out] at hO3 ⊢
           have y0 := r0.below h3 r0.lt
           have y1 := r1.below h3 r1.lt
           have y2 := r2.below h3 r2.lt
           have yb := ab.trans (h3.mono ab.size)
           have yo := hO3.olds
           have hw3 : w.heap.size < w1.heap.size := r0.lt)
        | (refine store_cells rfl 64 (.tmp 2) (.tmp 19) rfl w.heap.size #[.int .u64 ls, .slice oa3 n3 cap3] rfl rfl 64 _ y0 2 size64 rfl rfl (by simp [Value.oneCell']) ?_))
      have x0 := y0.set #[.int .u64 ls, .slice oa3 n3 cap3]
      have x1 := y1.other (g := w.heap.size) (by omega) #[.int .u64 ls, .slice oa3 n3 cap3]
      have x2 := y2.other (g := w.heap.size) (by omega) #[.int .u64 ls, .slice oa3 n3 cap3]
      have xb := below_setRow yb (Nat.le_refl _) #[.int .u64 ls, .slice oa3 n3 cap3]
      have xo := hO3.setRow w.heap.size hw3 #[.int .u64 ls, .slice oa3 n3 cap3]
      have hw4 : w.heap.size + 2 < w1.heap.size := r2.lt
      clear r0 r1 r2 ab y0 y1 y2 yb yo hO3 h3 c0 c6
      generalize w3.setRow w.heap.size #[.int .u64 ls, .slice oa3 n3 cap3] = W at x0 x1 x2 xb xo ⊢
      have HF : Hid ((chgO os r).isSome = false) := hok
      have HFx := hrs
      clear hok hrs
      have l0 := row_at x0 0 _ rfl
      have l1 := row_at x0 1 _ rfl
      have m6 := row_at x1 231 _ (R.atT r hl 4)
      have o0 := row_at x2 0 _ rfl
      have o1 := row_at x2 1 _ rfl
      have fz0 := row_frozen x2 0
      have fz1 := row_frozen x2 1
      go_upto_region 10 with fail
      go_region
      all_goals
        go_wp2
        have z2 : Row ((W.setCell ⟨w.heap.size + 2, 0, none⟩ (.int .u64 ls)).setCell ⟨w.heap.size + 2, 1, none⟩ (.slice oa3 n3 cap3)).drew (w.heap.size + 2) #[.int .u64 ls, .slice oa3 n3 cap3] 64 := row_set (row_set x2 0 (.int .u64 ls)) 1 (.slice oa3 n3 cap3)
        have zb := ((xb.setCell (p := ⟨w.heap.size + 2, 0, none⟩) (by show w.heap.size ≤ w.heap.size + 2; omega) (.int .u64 ls)).setCell (p := ⟨w.heap.size + 2, 1, none⟩) (by show w.heap.size ≤ w.heap.size + 2; omega) (.slice oa3 n3 cap3)).drew
        refine bodyPost_ret (v := .tuple #[.agg #[.int .u64 ls, .slice oa3 n3 cap3], .bool false]) ?_ rfl ⟨ls, .slice oa3 n3 cap3, rs, by rw [HF.out], HFx, Or.inr (((xo.other (w.heap.size + 2) 0 (.int .u64 ls) hw4).other (w.heap.size + 2) 1 (.slice oa3 n3 cap3) hw4).base (Nat.le_of_lt hw3)), zb⟩
        exact ret_cell2 (fn := Try.f43) rfl _ _ (w.heap.size + 2) 64 _ _ (.bool false) rfl rfl z2 Try.underlying64 rfl size64
  · have be : (E == 0) = false := by simp [hE]
    rw [be] at hok
    clear hE
    go_upto_region 10 with (first
      | (refine load_cells rfl 64 (.tmp 2) rfl w.heap.size rfl 64 _ r0 2 Try.underlying64 rfl size64 rfl ?_)
      | (refine wpList_load_any rfl 35 (.tmp 16) rfl ⟨w.heap.size + 1, 232, none⟩ rfl [.bool r.old.live, .int .u16 r.old.page, .int .u32 r.old.ts, .int .u16 r.old.np, .int .u8 r.old.ns, .string r.old.delta] _ hm Try.underlying35 rfl size35 ?_)
      | (go_at_call 58; refine (HC.out _ _ ho1).mono ?_; clear HC; rintro e w3 ⟨v3, rfl, hO3, h3⟩
         obtain ⟨oa3, cap3, rfl, _⟩ := hO3.olds.open
         obtain ⟨n3, HN3⟩ : ∃ n, Hid (rs.length = n) := ⟨_, rfl⟩
         rw [HN3.out] at hO3 ⊢
         have y0 := r0.below h3 r0.lt
         have y1 := r1.below h3 r1.lt
         have y2 := r2.below h3 r2.lt
         have yb := ab.trans (h3.mono ab.size)
         have yo := hO3.olds
         have hw3 : w.heap.size < w1.heap.size := r0.lt)
      | (refine store_cells rfl 64 (.tmp 2) (.tmp 19) rfl w.heap.size #[.int .u64 ls, .slice oa3 n3 cap3] rfl rfl 64 _ y0 2 size64 rfl rfl (by simp [Value.oneCell']) ?_))
    have x0 := y0.set #[.int .u64 ls, .slice oa3 n3 cap3]
    have x1 := y1.other (g := w.heap.size) (by omega) #[.int .u64 ls, .slice oa3 n3 cap3]
    have x2 := y2.other (g := w.heap.size) (by omega) #[.int .u64 ls, .slice oa3 n3 cap3]
    have xb := below_setRow yb (Nat.le_refl _) #[.int .u64 ls, .slice oa3 n3 cap3]
    have xo := hO3.setRow w.heap.size hw3 #[.int .u64 ls, .slice oa3 n3 cap3]
    have hw4 : w.heap.size + 2 < w1.heap.size := r2.lt
    clear r0 r1 r2 ab y0 y1 y2 yb yo hO3 h3 c0 c6
    generalize w3.setRow w.heap.size #[.int .u64 ls, .slice oa3 n3 cap3] = W at x0 x1 x2 xb xo ⊢
    have HF : Hid ((chgO os r).isSome = false) := hok
    have HFx := hrs
    clear hok hrs
    have l0 := row_at x0 0 _ rfl
    have l1 := row_at x0 1 _ rfl
    have m6 := row_at x1 231 _ (R.atT r hl 4)
    have o0 := row_at x2 0 _ rfl
    have o1 := row_at x2 1 _ rfl
    have fz0 := row_frozen x2 0
    have fz1 := row_frozen x2 1
    go_upto_region 10 with fail
    go_region
    all_goals
      go_wp2
      have z2 : Row ((W.setCell ⟨w.heap.size + 2, 0, none⟩ (.int .u64 ls)).setCell ⟨w.heap.size + 2, 1, none⟩ (.slice oa3 n3 cap3)).drew (w.heap.size + 2) #[.int .u64 ls, .slice oa3 n3 cap3] 64 := row_set (row_set x2 0 (.int .u64 ls)) 1 (.slice oa3 n3 cap3)
      have zb := ((xb.setCell (p := ⟨w.heap.size + 2, 0, none⟩) (by show w.heap.size ≤ w.heap.size + 2; omega) (.int .u64 ls)).setCell (p := ⟨w.heap.size + 2, 1, none⟩) (by show w.heap.size ≤ w.heap.size + 2; omega) (.slice oa3 n3 cap3)).drew
      refine bodyPost_ret (v := .tuple #[.agg #[.int .u64 ls, .slice oa3 n3 cap3], .bool false]) ?_ rfl ⟨ls, .slice oa3 n3 cap3, rs, by rw [HF.out], HFx, Or.inr (((xo.other (w.heap.size + 2) 0 (.int .u64 ls) hw4).other (w.heap.size + 2) 1 (.slice oa3 n3 cap3) hw4).base (Nat.le_of_lt hw3)), zb⟩
      exact ret_cell2 (fn := Try.f43) rfl _ _ (w.heap.size + 2) 64 _ _ (.bool false) rfl rfl z2 Try.underlying64 rfl size64
set_option maxHeartbeats 4000000 in
theorem chg_4 (lsn : Int) (v : Value) (os : List O) (r : R) (w : World) (hl : r.img.length = 224) (hs : 0 ≤ r.slot ∧ r.slot ≤ 255) (ho : Olds w v os) (hk : r.kind = 4) :
    Calls Try.prog 43 #[.agg #[.int .u64 lsn, v], .agg r.arr] w fun e w' => Chg w v os r e w' := by
  obtain ⟨ls, rs, E, hC, hok, hrs⟩ := chg_free lsn os r hk hs
  have HC := show Hid _ from hC
  clear hC
  have t3 : (r.kind == 3) = false := by simp; omega
  have t4 : (r.kind == 4) = true := by simp [hk]
  clear hk
  have hz := zero64
  have hsl : (r.slot == r.slot) = true := by simp
  obtain ⟨oa, cap, rfl, _⟩ := ho.open
  obtain ⟨n, HN⟩ : ∃ n, Hid (os.length = n) := ⟨_, rfl⟩
  rw [HN.out] at ho ⊢
  have r0 : Row (((w.alloc (.cells #[.int .u64 lsn, .slice oa n cap] 64)).alloc (.cells r.arr 37)).alloc (.cells #[.int .u64 0, .slice none 0 0] 64)) w.heap.size #[.int .u64 lsn, .slice oa n cap] 64 := ((Row.new _ _ _).alloc _).alloc _
  have r1 : Row (((w.alloc (.cells #[.int .u64 lsn, .slice oa n cap] 64)).alloc (.cells r.arr 37)).alloc (.cells #[.int .u64 0, .slice none 0 0] 64)) (w.heap.size + 1) r.arr 37 := by have := (Row.new (w.alloc (.cells #[.int .u64 lsn, .slice oa n cap] 64)) r.arr 37).alloc (.cells #[.int .u64 0, .slice none 0 0] 64); simpa using this
  have r2 : Row (((w.alloc (.cells #[.int .u64 lsn, .slice oa n cap] 64)).alloc (.cells r.arr 37)).alloc (.cells #[.int .u64 0, .slice none 0 0] 64)) (w.heap.size + 2) #[.int .u64 0, .slice none 0 0] 64 := by have := Row.new ((w.alloc (.cells #[.int .u64 lsn, .slice oa n cap] 64)).alloc (.cells r.arr 37)) #[.int .u64 0, .slice none 0 0] 64; simpa using this
  have ab : Below w.heap.size w (((w.alloc (.cells #[.int .u64 lsn, .slice oa n cap] 64)).alloc (.cells r.arr 37)).alloc (.cells #[.int .u64 0, .slice none 0 0] 64)) := (((Below.refl _ _).alloc (Nat.le_refl _) _).alloc (by simp) _).alloc (by simp; omega) _
  have ho1 := ho.keep ab
  go_enter Try.func43, Try.ntmps43
  go_upto_region 1 with fail
  generalize ((w.alloc (.cells #[.int .u64 lsn, .slice oa n cap] 64)).alloc (.cells r.arr 37)).alloc (.cells #[.int .u64 0, .slice none 0 0] 64) = w1 at r0 r1 r2 ab ho1 ⊢
  have c0 := row_at r1 0 _ r.at0
  have c6 := row_at r1 231 _ (R.atT r hl 4)
  by_cases hE : E = 0
  · have be : (E == 0) = true := by simp [hE]
    rw [be] at hok
    clear hE
    go_upto_region 10 with (first
      | (refine load_cells rfl 64 (.tmp 2) rfl w.heap.size rfl 64 _ r0 2 Try.underlying64 rfl size64 rfl ?_)
      | (go_at_call 59; refine (HC.out _ _ ho1).mono ?_; clear HC; rintro e w3 ⟨v3, rfl, hO3, h3⟩
         obtain ⟨oa3, cap3, rfl, _⟩ := hO3.olds.open
         obtain ⟨n3, HN3⟩ : ∃ n, Hid (rs.length = n) := ⟨_, rfl⟩
         rw [HN3.out] at hO3 ⊢
         have y0 := r0.below h3 r0.lt
         have y1 := r1.below h3 r1.lt
         have y2 := r2.below h3 r2.lt
         have yb := ab.trans (h3.mono ab.size)
         have yo := hO3.olds
         have hw3 : w.heap.size < w1.heap.size := r0.lt)
      | (refine store_cells rfl 64 (.tmp 2) (.tmp 29) rfl w.heap.size #[.int .u64 ls, .slice oa3 n3 cap3] rfl rfl 64 _ y0 2 size64 rfl rfl (by simp [Value.oneCell']) ?_))
    have x0 := y0.set #[.int .u64 ls, .slice oa3 n3 cap3]
    have x1 := y1.other (g := w.heap.size) (by omega) #[.int .u64 ls, .slice oa3 n3 cap3]
    have x2 := y2.other (g := w.heap.size) (by omega) #[.int .u64 ls, .slice oa3 n3 cap3]
    have xb := below_setRow yb (Nat.le_refl _) #[.int .u64 ls, .slice oa3 n3 cap3]
    have xo := hO3.setRow w.heap.size hw3 #[.int .u64 ls, .slice oa3 n3 cap3]
    have hw4 : w.heap.size + 2 < w1.heap.size := r2.lt
    clear r0 r1 r2 ab y0 y1 y2 yb yo hO3 h3 c0 c6
    generalize w3.setRow w.heap.size #[.int .u64 ls, .slice oa3 n3 cap3] = W at x0 x1 x2 xb xo ⊢
    have HF : Hid ((chgO os r).isSome = true) := hok
    have HFx := hrs
    clear hok hrs
    have l0 := row_at x0 0 _ rfl
    have l1 := row_at x0 1 _ rfl
    have m6 := row_at x1 231 _ (R.atT r hl 4)
    have o0 := row_at x2 0 _ rfl
    have o1 := row_at x2 1 _ rfl
    have fz0 := row_frozen x2 0
    have fz1 := row_frozen x2 1
    go_upto_region 10 with fail
    go_region
    all_goals
      go_wp2
      have z2 : Row ((W.setCell ⟨w.heap.size + 2, 0, none⟩ (.int .u64 ls)).setCell ⟨w.heap.size + 2, 1, none⟩ (.slice oa3 n3 cap3)).drew (w.heap.size + 2) #[.int .u64 ls, .slice oa3 n3 cap3] 64 := row_set (row_set x2 0 (.int .u64 ls)) 1 (.slice oa3 n3 cap3)
      have zb := ((xb.setCell (p := ⟨w.heap.size + 2, 0, none⟩) (by show w.heap.size ≤ w.heap.size + 2; omega) (.int .u64 ls)).setCell (p := ⟨w.heap.size + 2, 1, none⟩) (by show w.heap.size ≤ w.heap.size + 2; omega) (.slice oa3 n3 cap3)).drew
      refine bodyPost_ret (v := .tuple #[.agg #[.int .u64 ls, .slice oa3 n3 cap3], .bool true]) ?_ rfl ⟨ls, .slice oa3 n3 cap3, rs, by rw [HF.out], HFx, Or.inr (((xo.other (w.heap.size + 2) 0 (.int .u64 ls) hw4).other (w.heap.size + 2) 1 (.slice oa3 n3 cap3) hw4).base (Nat.le_of_lt hw3)), zb⟩
      exact ret_cell2 (fn := Try.f43) rfl _ _ (w.heap.size + 2) 64 _ _ (.bool true) rfl rfl z2 Try.underlying64 rfl size64
  · have be : (E == 0) = false := by simp [hE]
    rw [be] at hok
    clear hE
    go_upto_region 10 with (first
      | (refine load_cells rfl 64 (.tmp 2) rfl w.heap.size rfl 64 _ r0 2 Try.underlying64 rfl size64 rfl ?_)
      | (go_at_call 59; refine (HC.out _ _ ho1).mono ?_; clear HC; rintro e w3 ⟨v3, rfl, hO3, h3⟩
         obtain ⟨oa3, cap3, rfl, _⟩ := hO3.olds.open
         obtain ⟨n3, HN3⟩ : ∃ n, Hid (rs.length = n) := ⟨_, rfl⟩
         rw [HN3.out] at hO3 ⊢
         have y0 := r0.below h3 r0.lt
         have y1 := r1.below h3 r1.lt
         have y2 := r2.below h3 r2.lt
         have yb := ab.trans (h3.mono ab.size)
         have yo := hO3.olds
         have hw3 : w.heap.size < w1.heap.size := r0.lt)
      | (refine store_cells rfl 64 (.tmp 2) (.tmp 29) rfl w.heap.size #[.int .u64 ls, .slice oa3 n3 cap3] rfl rfl 64 _ y0 2 size64 rfl rfl (by simp [Value.oneCell']) ?_))
    have x0 := y0.set #[.int .u64 ls, .slice oa3 n3 cap3]
    have x1 := y1.other (g := w.heap.size) (by omega) #[.int .u64 ls, .slice oa3 n3 cap3]
    have x2 := y2.other (g := w.heap.size) (by omega) #[.int .u64 ls, .slice oa3 n3 cap3]
    have xb := below_setRow yb (Nat.le_refl _) #[.int .u64 ls, .slice oa3 n3 cap3]
    have xo := hO3.setRow w.heap.size hw3 #[.int .u64 ls, .slice oa3 n3 cap3]
    have hw4 : w.heap.size + 2 < w1.heap.size := r2.lt
    clear r0 r1 r2 ab y0 y1 y2 yb yo hO3 h3 c0 c6
    generalize w3.setRow w.heap.size #[.int .u64 ls, .slice oa3 n3 cap3] = W at x0 x1 x2 xb xo ⊢
    have HF : Hid ((chgO os r).isSome = false) := hok
    have HFx := hrs
    clear hok hrs
    have l0 := row_at x0 0 _ rfl
    have l1 := row_at x0 1 _ rfl
    have m6 := row_at x1 231 _ (R.atT r hl 4)
    have o0 := row_at x2 0 _ rfl
    have o1 := row_at x2 1 _ rfl
    have fz0 := row_frozen x2 0
    have fz1 := row_frozen x2 1
    go_upto_region 10 with fail
    go_region
    all_goals
      go_wp2
      have z2 : Row ((W.setCell ⟨w.heap.size + 2, 0, none⟩ (.int .u64 ls)).setCell ⟨w.heap.size + 2, 1, none⟩ (.slice oa3 n3 cap3)).drew (w.heap.size + 2) #[.int .u64 ls, .slice oa3 n3 cap3] 64 := row_set (row_set x2 0 (.int .u64 ls)) 1 (.slice oa3 n3 cap3)
      have zb := ((xb.setCell (p := ⟨w.heap.size + 2, 0, none⟩) (by show w.heap.size ≤ w.heap.size + 2; omega) (.int .u64 ls)).setCell (p := ⟨w.heap.size + 2, 1, none⟩) (by show w.heap.size ≤ w.heap.size + 2; omega) (.slice oa3 n3 cap3)).drew
      refine bodyPost_ret (v := .tuple #[.agg #[.int .u64 ls, .slice oa3 n3 cap3], .bool false]) ?_ rfl ⟨ls, .slice oa3 n3 cap3, rs, by rw [HF.out], HFx, Or.inr (((xo.other (w.heap.size + 2) 0 (.int .u64 ls) hw4).other (w.heap.size + 2) 1 (.slice oa3 n3 cap3) hw4).base (Nat.le_of_lt hw3)), zb⟩
      exact ret_cell2 (fn := Try.f43) rfl _ _ (w.heap.size + 2) 64 _ _ (.bool false) rfl rfl z2 Try.underlying64 rfl size64
set_option maxHeartbeats 4000000 in
theorem chg_5 (lsn : Int) (v : Value) (os : List O) (r : R) (w : World) (hl : r.img.length = 224) (hs : 0 ≤ r.slot ∧ r.slot ≤ 255) (ho : Olds w v os) (hk : r.kind = 5) :
    Calls Try.prog 43 #[.agg #[.int .u64 lsn, v], .agg r.arr] w fun e w' => Chg w v os r e w' := by
  obtain ⟨ls, rs, E, hC, hok, hrs⟩ := chg_cut lsn os r hk hs
  have HC := show Hid _ from hC
  clear hC
  have t3 : (r.kind == 3) = false := by simp; omega
  have t4 : (r.kind == 4) = false := by simp; omega
  have t5 : (r.kind == 5) = true := by simp [hk]
  clear hk
  have hz := zero64
  have hsl : (r.slot == r.slot) = true := by simp
  obtain ⟨oa, cap, rfl, _⟩ := ho.open
  obtain ⟨n, HN⟩ : ∃ n, Hid (os.length = n) := ⟨_, rfl⟩
  rw [HN.out] at ho ⊢
  have r0 : Row (((w.alloc (.cells #[.int .u64 lsn, .slice oa n cap] 64)).alloc (.cells r.arr 37)).alloc (.cells #[.int .u64 0, .slice none 0 0] 64)) w.heap.size #[.int .u64 lsn, .slice oa n cap] 64 := ((Row.new _ _ _).alloc _).alloc _
  have r1 : Row (((w.alloc (.cells #[.int .u64 lsn, .slice oa n cap] 64)).alloc (.cells r.arr 37)).alloc (.cells #[.int .u64 0, .slice none 0 0] 64)) (w.heap.size + 1) r.arr 37 := by have := (Row.new (w.alloc (.cells #[.int .u64 lsn, .slice oa n cap] 64)) r.arr 37).alloc (.cells #[.int .u64 0, .slice none 0 0] 64); simpa using this
  have r2 : Row (((w.alloc (.cells #[.int .u64 lsn, .slice oa n cap] 64)).alloc (.cells r.arr 37)).alloc (.cells #[.int .u64 0, .slice none 0 0] 64)) (w.heap.size + 2) #[.int .u64 0, .slice none 0 0] 64 := by have := Row.new ((w.alloc (.cells #[.int .u64 lsn, .slice oa n cap] 64)).alloc (.cells r.arr 37)) #[.int .u64 0, .slice none 0 0] 64; simpa using this
  have ab : Below w.heap.size w (((w.alloc (.cells #[.int .u64 lsn, .slice oa n cap] 64)).alloc (.cells r.arr 37)).alloc (.cells #[.int .u64 0, .slice none 0 0] 64)) := (((Below.refl _ _).alloc (Nat.le_refl _) _).alloc (by simp) _).alloc (by simp; omega) _
  have ho1 := ho.keep ab
  go_enter Try.func43, Try.ntmps43
  go_upto_region 1 with fail
  generalize ((w.alloc (.cells #[.int .u64 lsn, .slice oa n cap] 64)).alloc (.cells r.arr 37)).alloc (.cells #[.int .u64 0, .slice none 0 0] 64) = w1 at r0 r1 r2 ab ho1 ⊢
  have c0 := row_at r1 0 _ r.at0
  have c6 := row_at r1 231 _ (R.atT r hl 4)
  by_cases hE : E = 0
  · have be : (E == 0) = true := by simp [hE]
    rw [be] at hok
    clear hE
    go_upto_region 10 with (first
      | (refine load_cells rfl 64 (.tmp 2) rfl w.heap.size rfl 64 _ r0 2 Try.underlying64 rfl size64 rfl ?_)
      | (go_at_call 60; refine (HC.out _ _ ho1).mono ?_; clear HC; rintro e w3 ⟨v3, rfl, hO3, h3⟩
         obtain ⟨oa3, cap3, rfl, _⟩ := hO3.olds.open
         obtain ⟨n3, HN3⟩ : ∃ n, Hid (rs.length = n) := ⟨_, rfl⟩
         rw [HN3.out] at hO3 ⊢
         have y0 := r0.below h3 r0.lt
         have y1 := r1.below h3 r1.lt
         have y2 := r2.below h3 r2.lt
         have yb := ab.trans (h3.mono ab.size)
         have yo := hO3.olds
         have hw3 : w.heap.size < w1.heap.size := r0.lt)
      | (refine store_cells rfl 64 (.tmp 2) (.tmp 38) rfl w.heap.size #[.int .u64 ls, .slice oa3 n3 cap3] rfl rfl 64 _ y0 2 size64 rfl rfl (by simp [Value.oneCell']) ?_))
    have x0 := y0.set #[.int .u64 ls, .slice oa3 n3 cap3]
    have x1 := y1.other (g := w.heap.size) (by omega) #[.int .u64 ls, .slice oa3 n3 cap3]
    have x2 := y2.other (g := w.heap.size) (by omega) #[.int .u64 ls, .slice oa3 n3 cap3]
    have xb := below_setRow yb (Nat.le_refl _) #[.int .u64 ls, .slice oa3 n3 cap3]
    have xo := hO3.setRow w.heap.size hw3 #[.int .u64 ls, .slice oa3 n3 cap3]
    have hw4 : w.heap.size + 2 < w1.heap.size := r2.lt
    clear r0 r1 r2 ab y0 y1 y2 yb yo hO3 h3 c0 c6
    generalize w3.setRow w.heap.size #[.int .u64 ls, .slice oa3 n3 cap3] = W at x0 x1 x2 xb xo ⊢
    have HF : Hid ((chgO os r).isSome = true) := hok
    have HFx := hrs
    clear hok hrs
    have l0 := row_at x0 0 _ rfl
    have l1 := row_at x0 1 _ rfl
    have m6 := row_at x1 231 _ (R.atT r hl 4)
    have o0 := row_at x2 0 _ rfl
    have o1 := row_at x2 1 _ rfl
    have fz0 := row_frozen x2 0
    have fz1 := row_frozen x2 1
    go_upto_region 10 with fail
    go_region
    all_goals
      go_wp2
      have z2 : Row ((W.setCell ⟨w.heap.size + 2, 0, none⟩ (.int .u64 ls)).setCell ⟨w.heap.size + 2, 1, none⟩ (.slice oa3 n3 cap3)).drew (w.heap.size + 2) #[.int .u64 ls, .slice oa3 n3 cap3] 64 := row_set (row_set x2 0 (.int .u64 ls)) 1 (.slice oa3 n3 cap3)
      have zb := ((xb.setCell (p := ⟨w.heap.size + 2, 0, none⟩) (by show w.heap.size ≤ w.heap.size + 2; omega) (.int .u64 ls)).setCell (p := ⟨w.heap.size + 2, 1, none⟩) (by show w.heap.size ≤ w.heap.size + 2; omega) (.slice oa3 n3 cap3)).drew
      refine bodyPost_ret (v := .tuple #[.agg #[.int .u64 ls, .slice oa3 n3 cap3], .bool true]) ?_ rfl ⟨ls, .slice oa3 n3 cap3, rs, by rw [HF.out], HFx, Or.inr (((xo.other (w.heap.size + 2) 0 (.int .u64 ls) hw4).other (w.heap.size + 2) 1 (.slice oa3 n3 cap3) hw4).base (Nat.le_of_lt hw3)), zb⟩
      exact ret_cell2 (fn := Try.f43) rfl _ _ (w.heap.size + 2) 64 _ _ (.bool true) rfl rfl z2 Try.underlying64 rfl size64
  · have be : (E == 0) = false := by simp [hE]
    rw [be] at hok
    clear hE
    go_upto_region 10 with (first
      | (refine load_cells rfl 64 (.tmp 2) rfl w.heap.size rfl 64 _ r0 2 Try.underlying64 rfl size64 rfl ?_)
      | (go_at_call 60; refine (HC.out _ _ ho1).mono ?_; clear HC; rintro e w3 ⟨v3, rfl, hO3, h3⟩
         obtain ⟨oa3, cap3, rfl, _⟩ := hO3.olds.open
         obtain ⟨n3, HN3⟩ : ∃ n, Hid (rs.length = n) := ⟨_, rfl⟩
         rw [HN3.out] at hO3 ⊢
         have y0 := r0.below h3 r0.lt
         have y1 := r1.below h3 r1.lt
         have y2 := r2.below h3 r2.lt
         have yb := ab.trans (h3.mono ab.size)
         have yo := hO3.olds
         have hw3 : w.heap.size < w1.heap.size := r0.lt)
      | (refine store_cells rfl 64 (.tmp 2) (.tmp 38) rfl w.heap.size #[.int .u64 ls, .slice oa3 n3 cap3] rfl rfl 64 _ y0 2 size64 rfl rfl (by simp [Value.oneCell']) ?_))
    have x0 := y0.set #[.int .u64 ls, .slice oa3 n3 cap3]
    have x1 := y1.other (g := w.heap.size) (by omega) #[.int .u64 ls, .slice oa3 n3 cap3]
    have x2 := y2.other (g := w.heap.size) (by omega) #[.int .u64 ls, .slice oa3 n3 cap3]
    have xb := below_setRow yb (Nat.le_refl _) #[.int .u64 ls, .slice oa3 n3 cap3]
    have xo := hO3.setRow w.heap.size hw3 #[.int .u64 ls, .slice oa3 n3 cap3]
    have hw4 : w.heap.size + 2 < w1.heap.size := r2.lt
    clear r0 r1 r2 ab y0 y1 y2 yb yo hO3 h3 c0 c6
    generalize w3.setRow w.heap.size #[.int .u64 ls, .slice oa3 n3 cap3] = W at x0 x1 x2 xb xo ⊢
    have HF : Hid ((chgO os r).isSome = false) := hok
    have HFx := hrs
    clear hok hrs
    have l0 := row_at x0 0 _ rfl
    have l1 := row_at x0 1 _ rfl
    have m6 := row_at x1 231 _ (R.atT r hl 4)
    have o0 := row_at x2 0 _ rfl
    have o1 := row_at x2 1 _ rfl
    have fz0 := row_frozen x2 0
    have fz1 := row_frozen x2 1
    go_upto_region 10 with fail
    go_region
    all_goals
      go_wp2
      have z2 : Row ((W.setCell ⟨w.heap.size + 2, 0, none⟩ (.int .u64 ls)).setCell ⟨w.heap.size + 2, 1, none⟩ (.slice oa3 n3 cap3)).drew (w.heap.size + 2) #[.int .u64 ls, .slice oa3 n3 cap3] 64 := row_set (row_set x2 0 (.int .u64 ls)) 1 (.slice oa3 n3 cap3)
      have zb := ((xb.setCell (p := ⟨w.heap.size + 2, 0, none⟩) (by show w.heap.size ≤ w.heap.size + 2; omega) (.int .u64 ls)).setCell (p := ⟨w.heap.size + 2, 1, none⟩) (by show w.heap.size ≤ w.heap.size + 2; omega) (.slice oa3 n3 cap3)).drew
      refine bodyPost_ret (v := .tuple #[.agg #[.int .u64 ls, .slice oa3 n3 cap3], .bool false]) ?_ rfl ⟨ls, .slice oa3 n3 cap3, rs, by rw [HF.out], HFx, Or.inr (((xo.other (w.heap.size + 2) 0 (.int .u64 ls) hw4).other (w.heap.size + 2) 1 (.slice oa3 n3 cap3) hw4).base (Nat.le_of_lt hw3)), zb⟩
      exact ret_cell2 (fn := Try.f43) rfl _ _ (w.heap.size + 2) 64 _ _ (.bool false) rfl rfl z2 Try.underlying64 rfl size64
set_option maxHeartbeats 4000000 in
theorem chg_n (lsn : Int) (v : Value) (os : List O) (r : R) (w : World) (hl : r.img.length = 224) (hs : 0 ≤ r.slot ∧ r.slot ≤ 255) (ho : Olds w v os) (hk : r.kind ≠ 3 ∧ r.kind ≠ 4 ∧ r.kind ≠ 5) :
    Calls Try.prog 43 #[.agg #[.int .u64 lsn, v], .agg r.arr] w fun e w' => Chg w v os r e w' := by
  have hc : chgO os r = some os := by unfold chgO; rw [if_neg hk.1, if_neg hk.2.1, if_neg hk.2.2]
  have HF : Hid ((chgO os r).isSome = true) := by show _ = _; rw [hc]; rfl
  have HFx : ∀ os1, chgO os r = some os1 → os = os1 := fun os1 h => by rw [hc] at h; cases h; rfl
  clear hc
  have t3 : (r.kind == 3) = false := by simp; omega
  have t4 : (r.kind == 4) = false := by simp; omega
  have t5 : (r.kind == 5) = false := by simp; omega
  clear hk
  have hz := zero64
  have hsl : (r.slot == r.slot) = true := by simp
  obtain ⟨oa, cap, rfl, _⟩ := ho.open
  obtain ⟨n, HN⟩ : ∃ n, Hid (os.length = n) := ⟨_, rfl⟩
  rw [HN.out] at ho ⊢
  have r0 : Row (((w.alloc (.cells #[.int .u64 lsn, .slice oa n cap] 64)).alloc (.cells r.arr 37)).alloc (.cells #[.int .u64 0, .slice none 0 0] 64)) w.heap.size #[.int .u64 lsn, .slice oa n cap] 64 := ((Row.new _ _ _).alloc _).alloc _
  have r1 : Row (((w.alloc (.cells #[.int .u64 lsn, .slice oa n cap] 64)).alloc (.cells r.arr 37)).alloc (.cells #[.int .u64 0, .slice none 0 0] 64)) (w.heap.size + 1) r.arr 37 := by have := (Row.new (w.alloc (.cells #[.int .u64 lsn, .slice oa n cap] 64)) r.arr 37).alloc (.cells #[.int .u64 0, .slice none 0 0] 64); simpa using this
  have r2 : Row (((w.alloc (.cells #[.int .u64 lsn, .slice oa n cap] 64)).alloc (.cells r.arr 37)).alloc (.cells #[.int .u64 0, .slice none 0 0] 64)) (w.heap.size + 2) #[.int .u64 0, .slice none 0 0] 64 := by have := Row.new ((w.alloc (.cells #[.int .u64 lsn, .slice oa n cap] 64)).alloc (.cells r.arr 37)) #[.int .u64 0, .slice none 0 0] 64; simpa using this
  have ab : Below w.heap.size w (((w.alloc (.cells #[.int .u64 lsn, .slice oa n cap] 64)).alloc (.cells r.arr 37)).alloc (.cells #[.int .u64 0, .slice none 0 0] 64)) := (((Below.refl _ _).alloc (Nat.le_refl _) _).alloc (by simp) _).alloc (by simp; omega) _
  have ho1 := ho.keep ab
  go_enter Try.func43, Try.ntmps43
  go_upto_region 1 with fail
  generalize ((w.alloc (.cells #[.int .u64 lsn, .slice oa n cap] 64)).alloc (.cells r.arr 37)).alloc (.cells #[.int .u64 0, .slice none 0 0] 64) = w1 at r0 r1 r2 ab ho1 ⊢
  have c0 := row_at r1 0 _ r.at0
  have c6 := row_at r1 231 _ (R.atT r hl 4)
  have l0 := row_at r0 0 _ rfl
  have l1 := row_at r0 1 _ rfl
  have m6 := row_at r1 231 _ (R.atT r hl 4)
  have o0 := row_at r2 0 _ rfl
  have o1 := row_at r2 1 _ rfl
  have fz0 := row_frozen r2 0
  have fz1 := row_frozen r2 1
  go_upto_region 10 with fail
  go_region
  all_goals
    go_wp2
    have z2 : Row ((w1.setCell ⟨w.heap.size + 2, 0, none⟩ (.int .u64 lsn)).setCell ⟨w.heap.size + 2, 1, none⟩ (.slice oa n cap)).drew (w.heap.size + 2) #[.int .u64 lsn, .slice oa n cap] 64 := row_set (row_set r2 0 (.int .u64 lsn)) 1 (.slice oa n cap)
    have zb := ((ab.setCell (p := ⟨w.heap.size + 2, 0, none⟩) (by show w.heap.size ≤ w.heap.size + 2; omega) (.int .u64 lsn)).setCell (p := ⟨w.heap.size + 2, 1, none⟩) (by show w.heap.size ≤ w.heap.size + 2; omega) (.slice oa n cap)).drew
    refine bodyPost_ret (v := .tuple #[.agg #[.int .u64 lsn, .slice oa n cap], .bool true]) ?_ rfl ⟨lsn, .slice oa n cap, os, by rw [HF.out], HFx, Or.inl ⟨rfl, rfl⟩, zb⟩
    exact ret_cell2 (fn := Try.f43) rfl _ _ (w.heap.size + 2) 64 _ _ (.bool true) rfl rfl z2 Try.underlying64 rfl size64
theorem changed_any (lsn : Int) (v : Value) (os : List O) (r : R) (w : World) (hl : r.img.length = 224) (hs : 0 ≤ r.slot ∧ r.slot ≤ 255) (ho : Olds w v os) :
    Calls Try.prog 43 #[.agg #[.int .u64 lsn, v], .agg r.arr] w fun e w' => Chg w v os r e w' := by
  by_cases h3 : r.kind = 3
  · exact chg_3 lsn v os r w hl hs ho h3
  by_cases h4 : r.kind = 4
  · exact chg_4 lsn v os r w hl hs ho h4
  by_cases h5 : r.kind = 5
  · exact chg_5 lsn v os r w hl hs ho h5
  exact chg_n lsn v os r w hl hs ho ⟨h3, h4, h5⟩
end Go.Proofs.Ytihjapfgllokgab
