/-
  Proved here: what room.Page tells, which page room.Find finds, how many records room.Live counts.
-/
import Derived.Test.YtddhjkgefninbaaRom
namespace Go.Proofs.Ytddhjkgefninbaa
open Go.ChangeShapes Go.WideShapes Go.ChangeAt Go.RowKit
set_option linter.unusedVariables false
set_option linter.unusedSimpArgs false
set_option maxRecDepth 20000

set_option maxHeartbeats 1000000 in
theorem page_out (r : Value) (hr : ∃ q, r = .pointer q) (i : Int) (w : World) (h : Calls Try.prog 16 #[r, .int .i64 i] (w.alloc (.cells #[.int .u64 0, .slice none 0 0] 33)) fun e w' => e = .returned (.bool false) ∧ w' = w.alloc (.cells #[.int .u64 0, .slice none 0 0] 33)) :
    Calls Try.prog 12 #[r, .int .i64 i] w fun e w' => e = .returned (.agg #[.int .u64 0, .slice none 0 0]) ∧ Below w.heap.size w w' := by
  obtain ⟨q, rfl⟩ := hr
  have hz := zero33
  have hbu := built33
  have r0 : Row (w.alloc (.cells #[.int .u64 0, .slice none 0 0] 33)) w.heap.size #[.int .u64 0, .slice none 0 0] 33 := Row.new _ _ _
  have ab : Below w.heap.size w (w.alloc (.cells #[.int .u64 0, .slice none 0 0] 33)) := (Below.refl _ _).alloc (Nat.le_refl _) _
  go_enter Try.func12, Try.ntmps12
  go_wp2_with (first
    | (go_at_call 16; refine h.mono ?_; rintro e w' ⟨rfl, rfl⟩)
    | (refine store_cells rfl 33 (.tmp 4) (.tmp 9) rfl w.heap.size #[.int .u64 0, .slice none 0 0] rfl rfl 33 _ r0 2 size33 rfl rfl rfl ?_))
  refine bodyPost_ret (v := .agg #[.int .u64 0, .slice none 0 0]) ?_ rfl ⟨rfl, ab⟩
  exact ret_cell (fn := Try.f12) rfl _ _ w.heap.size 33 #[.int .u64 0, .slice none 0 0] _ rfl r0 Try.underlying33 rfl size33
set_option maxHeartbeats 1000000 in
theorem page_in {w : World} {g a : Nat} {ps : List Pge} {l : Nat} (c : RAt w g a ps l) (i : Nat) (p : Pge) (hp : ps[i]? = some p) :
    Calls Try.prog 12 #[.pointer (some ⟨g, 0, none⟩), .int .i64 i] w fun e w' => CopU w p.lsn p.os e w' := by
  have hi := (List.getElem?_eq_some_iff.1 hp).1
  have hm := List.mem_of_getElem? hp
  have hz := zero33
  have r0 : Row (w.alloc (.cells #[.int .u64 0, .slice none 0 0] 33)) w.heap.size #[.int .u64 0, .slice none 0 0] 33 := Row.new _ _ _
  have ab : Below w.heap.size w (w.alloc (.cells #[.int .u64 0, .slice none 0 0] 33)) := (Below.refl _ _).alloc (Nat.le_refl _) _
  have c1 := c.below ab
  have hh := has_any c1 i
  rw [decide_eq_true (⟨by omega, by omega⟩)] at hh
  have c0 := row_at c1.room 0 _ rfl
  have hcell := c1.at hp
  obtain ⟨lsn, v, os⟩ := p
  have hcl := rcloned_any lsn v os _ (c1.olds _ hm).olds (by have := c.len _ hm; simp only at this; omega)
  clear hm
  simp only at hcell ⊢
  have tl : Hid (1 = 1) := rfl
  have ts : Hid (1 = 1) := rfl
  go_enter Try.func12, Try.ntmps12
  go_wp2_with (first
    | (go_at_call 16; refine hh.mono ?_; rintro e w' ⟨rfl, rfl⟩)
    | (have hh := tl; clear hh tl; refine wpList_load_any rfl 33 (.tmp 15) rfl ⟨a, i * 2, none⟩ rfl [.int .u64 lsn, v] _ hcell Try.underlying33 rfl size33 ?_)
    | (go_at_call 17; refine hcl.mono ?_; clear hcl; rintro e wc ⟨v', rfl, hO, hcb⟩; have r1 := r0.below hcb r0.lt; obtain ⟨oa', cap', rfl⟩ := hO.form)
    | (have hh := ts; clear hh ts; refine store_cells rfl 33 (.tmp 4) (.tmp 17) rfl w.heap.size #[.int .u64 lsn, .slice oa' os.length cap'] rfl rfl 33 _ r1 2 size33 rfl rfl (by simp [Value.oneCell']) ?_))
  have hsz : (w.alloc (.cells #[.int .u64 0, .slice none 0 0] 33)).heap.size = w.heap.size + 1 := by simp
  rw [hsz] at hO hcb
  have bw : Below w.heap.size w wc := ab.trans (hcb.mono (by omega))
  refine bodyPost_ret (v := .agg #[.int .u64 lsn, .slice oa' os.length cap']) ?_ rfl ⟨_, rfl, (hO.setRow w.heap.size (by omega) _).base (by omega), below_setRow bw (Nat.le_refl _) _⟩
  exact ret_cell (fn := Try.f12) rfl _ _ w.heap.size 33 #[.int .u64 lsn, .slice oa' os.length cap'] _ rfl (r1.set _) Try.underlying33 rfl size33
/-- How many records there are. -/
def liveP (ps : List Pge) : Int := ps.foldl (fun n p => n + liveN p.os) 0
theorem liveP_succ (ps : List Pge) (k : Nat) (p : Pge) (h : ps[k]? = some p) : liveP (ps.take (k + 1)) = liveP (ps.take k) + liveN p.os := by
  unfold liveP; rw [List.take_add_one, h]; simp [List.foldl_append]
theorem liveP_le (ps : List Pge) (hl : ∀ p ∈ ps, p.os.length ≤ 1000) : ∀ k, k ≤ ps.length → 0 ≤ liveP (ps.take k) ∧ liveP (ps.take k) ≤ k * 1000
  | 0, _ => by simp [liveP]
  | k + 1, h => by
    obtain ⟨p, hp⟩ : ∃ p, ps[k]? = some p := ⟨ps[k], List.getElem?_eq_getElem (by omega)⟩
    have ih := liveP_le ps hl k (by omega)
    rw [liveP_succ ps k p hp]
    have h1 := live_le p.os p.os.length (Nat.le_refl _)
    rw [List.take_length] at h1
    have := hl p (List.mem_of_getElem? hp)
    omega
theorem live_nil (w : World) : Calls Try.prog 15 #[.pointer none] w fun e w' => e = .returned (.int .i64 0) ∧ w' = w := by
  go_enter Try.func15, Try.ntmps15
  go_wp2
  go_ret
  exact ⟨rfl, rfl⟩
set_option maxHeartbeats 1000000 in
theorem rlive_any {w : World} {g a : Nat} {ps : List Pge} {l : Nat} (c : RAt w g a ps l) :
    Calls Try.prog 15 #[.pointer (some ⟨g, 0, none⟩)] w fun e w' => e = .returned (.int .i64 (liveP ps)) ∧ Below w.heap.size w w' := by
  have c0 := row_at c.room 0 _ rfl
  have HC : Hid _ := c
  have HL : Hid _ := liveP_le ps c.len
  have hsm := c.small
  obtain ⟨n, HN⟩ : ∃ n, Hid (ps.length = n) := ⟨_, rfl⟩
  rw [HN.out] at c0 hsm HL
  have hz := zero33
  clear c
  go_enter Try.func15, Try.ntmps15
  go_wp2
  go_loopw [3, 13] (fun c d wr => ∃ (k : Nat), c = .int .i64 (liveP (ps.take k)) ∧ d = .int .i64 k ∧ k ≤ n ∧ Below w.heap.size w wr) (fun _ d _ => n - (intOf d).toNat)
  case atStart => exact ⟨0, rfl, rfl, by omega, Below.refl _ _⟩
  case round =>
    obtain ⟨k, rfl, rfl, hk, rb⟩ := hrel
    by_cases hkn : k < n
    · have hkn' : (k : Int) < (n : Int) := by omega
      obtain ⟨p, hp⟩ : ∃ p, ps[k]? = some p := ⟨ps[k]'(by rw [HN.out]; exact hkn), List.getElem?_eq_getElem (by rw [HN.out]; exact hkn)⟩
      have hm := List.mem_of_getElem? hp
      have c1 := HC.out.below rb
      have hcell := c1.at hp
      have hs := liveP_succ ps k p hp
      have hb := HL.out k hk
      have hlen := HC.out.len p hm
      have ho := (c1.olds p hm).olds
      obtain ⟨lsn, v, os⟩ := p
      simp only at hcell hs hlen ho
      have hlv := live_le os os.length (Nat.le_refl _)
      rw [List.take_length] at hlv
      obtain ⟨z, HZ⟩ : ∃ z, Hid (liveP (ps.take k) = z) := ⟨_, rfl⟩
      obtain ⟨y, HY⟩ : ∃ y, Hid (liveN os = y) := ⟨_, rfl⟩
      rw [HZ.out] at hs hb ⊢
      rw [HY.out] at hs hlv
      have hb1 := hb.1
      have hb2 := hb.2
      have hl1 := hlv.1
      have hl2 := hlv.2
      clear hb hlv hm
      have w3 : IntKind.i64.wrap (z + y) = z + y := by rw [IntKind.wrap_i64]; omega
      obtain ⟨oa, cap, rfl, _⟩ := ho.open
      have r0 : Row (wr.alloc (.cells #[.int .u64 0, .slice none 0 0] 33)) wr.heap.size #[.int .u64 0, .slice none 0 0] 33 := Row.new _ _ _
      have r1 := r0.set #[.int .u64 lsn, .slice oa os.length cap]
      have b1 : Below wr.heap.size wr ((wr.alloc (.cells #[.int .u64 0, .slice none 0 0] 33)).setRow wr.heap.size #[.int .u64 lsn, .slice oa os.length cap]) := below_setRow ((Below.refl _ _).alloc (Nat.le_refl _) _) (Nat.le_refl _) _
      have b2 := rb.trans (b1.mono rb.size)
      have hlive := live_any lsn _ os _ (ho.keep b1) (by omega)
      rw [HY.out] at hlive
      have tl : Hid (1 = 1) := rfl
      have ts : Hid (1 = 1) := rfl
      have tm : Hid (1 = 1) := rfl
      go_wp2_with (first
        | (have hh := tl; clear hh tl; refine wpList_load_any rfl 33 (.tmp 15) rfl ⟨a, k * 2, none⟩ rfl [.int .u64 lsn, .slice oa os.length cap] _ hcell Try.underlying33 rfl size33 ?_)
        | (have hh := ts; clear hh ts; refine store_cells rfl 33 (.tmp 5) (.tmp 16) rfl wr.heap.size #[.int .u64 lsn, .slice oa os.length cap] rfl rfl 33 _ r0 2 size33 rfl rfl (by simp [Value.oneCell']) ?_)
        | (have hh := tm; clear hh tm; refine wpList_load_row rfl 33 (.tmp 5) rfl wr.heap.size rfl 33 _ (0, 0) _ r1 Try.underlying33 rfl size33 ?_)
        | (go_at_call 14; refine hlive.mono ?_; clear hlive; rintro e wc ⟨rfl, hcb⟩; have b3 := b2.trans (hcb.mono b2.size)))
      go_roundw
      case rel => exact ⟨k + 1, by rw [hs], by go_num, by omega, b3⟩
      case measure => simp [intOf]; omega
    · have e : k = n := by omega
      subst e
      have hkn' : ¬ (k : Int) < (k : Int) := by omega
      have ht : ps.take k = ps := by rw [← HN.out, List.take_length]
      rw [ht]
      go_wp2
      go_ret
      exact ⟨rfl, rb⟩
/-- Which page has room. -/
def findP (ps : List Pge) (l : Nat) (n : Int) : Option Nat := if ((ps[l]?).map fun p => fits p.os n) = some true then some l else ps.findIdx? fun p => fits p.os n
theorem find_nil (n : Int) (w : World) : Calls Try.prog 9 #[.pointer none, .int .i64 n] w fun e w' => e = .returned (.tuple #[.int .i64 0, .bool false]) ∧ w' = w := by
  go_enter Try.func9, Try.ntmps9
  go_wp2
  go_ret2
  exact ⟨rfl, rfl⟩
def Found (w : World) (g a : Nat) (ps : List Pge) (l : Nat) (n : Int) (e : Ending) (w' : World) : Prop :=
  e = .returned (.tuple #[.int .i64 ((findP ps l n).getD 0 : Nat), .bool (findP ps l n).isSome]) ∧ RAt w' g a ps ((findP ps l n).getD l) ∧ Off (two g a) w w'
theorem find_hit {ps : List Pge} {l : Nat} {n : Int} {p : Pge} (h : ps[l]? = some p) (hf : fits p.os n = true) : findP ps l n = some l := by
  unfold findP; rw [h, if_pos (by simp [hf])]
theorem find_at {ps : List Pge} {l k : Nat} {n : Int} {p q : Pge} (h : ps[l]? = some p) (hf : fits p.os n = false) (hq : ps[k]? = some q) (hfq : fits q.os n = true) (hb : ∀ j r, j < k → ps[j]? = some r → fits r.os n = false) : findP ps l n = some k := by
  unfold findP
  rw [h, if_neg (by simp [hf])]
  have hk := (List.getElem?_eq_some_iff.1 hq).1
  rw [List.findIdx?_eq_some_iff_getElem]
  refine ⟨hk, ?_, fun j hj => ?_⟩
  · have := (List.getElem?_eq_some_iff.1 hq).2; rw [this]; exact hfq
  · have := hb j ps[j] hj (by simp); simp [this]
theorem find_no {ps : List Pge} {l : Nat} {n : Int} {p : Pge} (h : ps[l]? = some p) (hf : fits p.os n = false) (hb : ∀ j r, j < ps.length → ps[j]? = some r → fits r.os n = false) : findP ps l n = none := by
  unfold findP
  rw [h, if_neg (by simp [hf]), List.findIdx?_eq_none_iff]
  intro r hr
  obtain ⟨j, hj, e⟩ := List.getElem_of_mem hr
  exact hb j r hj (by rw [← e]; simp)
set_option maxHeartbeats 2000000 in
theorem find_any {w : World} {g a : Nat} {ps : List Pge} {l : Nat} (c : RAt w g a ps l) (m : Int) :
    Calls Try.prog 9 #[.pointer (some ⟨g, 0, none⟩), .int .i64 m] w fun e w' => Found w g a ps l m e w' := by
  obtain ⟨p, hp⟩ : ∃ p, ps[l]? = some p := ⟨ps[l]'c.lt, List.getElem?_eq_getElem c.lt⟩
  have hmp := List.mem_of_getElem? hp
  have hl := c.lt
  have hsm := c.small
  have HC : Hid _ := c
  have hO := (c.olds p hmp).olds
  go_enter Try.func9, Try.ntmps9
  go_upto_region 3 with fail
  refine wp_region_held_drew (S := fun w' => RAt w' g a ps l ∧ Below w.heap.size w w') (by kernel_rfl) ⟨c.below (Below.refl _ _).drew, (Below.refl _ _).drew⟩ fun hS => ?_
  refine wpAnyH_take (i := 0) (v := .pointer (some ⟨g, 0, none⟩)) rfl (by kernel_rfl) (by kernel_rfl) (by kernel_rfl) (fun _ _ _ h => h) (Or.inl ⟨by rfl, fun w _ => by go_simp⟩) hS ?_
  try simp only [Act.put, List.getElem_toArray, List.getElem_cons_zero, List.getElem_cons_succ, List.setIfInBounds_toArray, List.set_cons_zero, List.set_cons_succ]
  refine wpAnyH_take (i := 1) (v := .pointer (some ⟨g, 0, none⟩)) rfl (by kernel_rfl) (by kernel_rfl) (by kernel_rfl) (fun _ _ _ h => h) (Or.inl ⟨by rfl, fun w _ => by go_simp⟩) hS ?_
  try simp only [Act.put, List.getElem_toArray, List.getElem_cons_zero, List.getElem_cons_succ, List.setIfInBounds_toArray, List.set_cons_zero, List.set_cons_succ]
  refine wpAnyH_take (i := 2) (v := .pointer (some ⟨g, 0, none⟩)) rfl (by kernel_rfl) (by kernel_rfl) (by kernel_rfl) (fun _ _ _ h => h) (Or.inl ⟨by rfl, fun w _ => by go_simp⟩) hS ?_
  try simp only [Act.put, List.getElem_toArray, List.getElem_cons_zero, List.getElem_cons_succ, List.setIfInBounds_toArray, List.set_cons_zero, List.set_cons_succ]
  refine wpAnyH_take (i := 3) (v := .slice (some ⟨a, 0, none⟩) ps.length ps.length) rfl (by kernel_rfl) (by kernel_rfl) (by kernel_rfl) (fun _ _ _ h => h) (Or.inl ⟨by rfl, fun w h => by have c := row_at h.1.room 0 _ rfl; go_simp⟩) hS ?_
  try simp only [Act.put, List.getElem_toArray, List.getElem_cons_zero, List.getElem_cons_succ, List.setIfInBounds_toArray, List.set_cons_zero, List.set_cons_succ]
  refine wpAnyH_take (i := 4) (v := .pointer (some ⟨g, 0, none⟩)) rfl (by kernel_rfl) (by kernel_rfl) (by kernel_rfl) (fun _ _ _ h => h) (Or.inl ⟨by rfl, fun w _ => by go_simp⟩) hS ?_
  try simp only [Act.put, List.getElem_toArray, List.getElem_cons_zero, List.getElem_cons_succ, List.setIfInBounds_toArray, List.set_cons_zero, List.set_cons_succ]
  refine wpAnyH_take (i := 5) (v := .pointer (some ⟨g, 0, none⟩)) rfl (by kernel_rfl) (by kernel_rfl) (by kernel_rfl) (fun _ _ _ h => h) (Or.inl ⟨by rfl, fun w _ => by go_simp⟩) hS ?_
  try simp only [Act.put, List.getElem_toArray, List.getElem_cons_zero, List.getElem_cons_succ, List.setIfInBounds_toArray, List.set_cons_zero, List.set_cons_succ]
  refine wpAnyH_take (i := 6) (v := .pointer (some ⟨g, 1, none⟩)) rfl (by kernel_rfl) (by kernel_rfl) (by kernel_rfl) (fun _ _ _ h => h) (Or.inl ⟨by rfl, fun w _ => by go_simp⟩) hS ?_
  try simp only [Act.put, List.getElem_toArray, List.getElem_cons_zero, List.getElem_cons_succ, List.setIfInBounds_toArray, List.set_cons_zero, List.set_cons_succ]
  refine wpAnyH_take (i := 7) (v := .int .i64 l) rfl (by kernel_rfl) (by kernel_rfl) (by kernel_rfl) (fun _ _ _ h => h) (Or.inl ⟨by rfl, fun w h => by have c := row_at h.1.room 1 _ rfl; go_simp⟩) hS ?_
  try simp only [Act.put, List.getElem_toArray, List.getElem_cons_zero, List.getElem_cons_succ, List.setIfInBounds_toArray, List.set_cons_zero, List.set_cons_succ]
  refine wpAnyH_take (i := 8) (v := .pointer (some ⟨a, l * 2, none⟩)) rfl (by kernel_rfl) (by kernel_rfl) (by kernel_rfl) (fun _ _ _ h => h) (Or.inl ⟨by rfl, fun w _ => by go_simp⟩) hS ?_
  try simp only [Act.put, List.getElem_toArray, List.getElem_cons_zero, List.getElem_cons_succ, List.setIfInBounds_toArray, List.set_cons_zero, List.set_cons_succ]
  refine wpAnyH_take (i := 9) (v := .agg #[.int .u64 p.lsn, p.v]) rfl (by kernel_rfl) (by kernel_rfl) (by kernel_rfl) (fun _ _ _ h => h) (yields_any (by rfl) 33 (.tmp 18) rfl ⟨a, l * 2, none⟩ rfl [.int .u64 p.lsn, p.v] (fun w h => h.1.at hp) Try.underlying33 rfl size33) hS ?_
  try simp only [Act.put, List.getElem_toArray, List.getElem_cons_zero, List.getElem_cons_succ, List.setIfInBounds_toArray, List.set_cons_zero, List.set_cons_succ]
  refine wpAnyH_take (i := 10) (v := .int .i64 m) rfl (by kernel_rfl) (by kernel_rfl) (by kernel_rfl) (fun _ _ _ h => h) (Or.inl ⟨by rfl, fun w _ => by go_simp⟩) hS ?_
  try simp only [Act.put, List.getElem_toArray, List.getElem_cons_zero, List.getElem_cons_succ, List.setIfInBounds_toArray, List.set_cons_zero, List.set_cons_succ]
  refine wpAnyH_ready (rs := [11]) (by kernel_rfl) (by simp) ?_
  refine AllReadyH.cons rfl (fun K hK => ?_) AllReadyH.nil
  go_simp
  go_at_call 18
  refine (fits_any p.lsn _ p.os m _ (hO.keep hS.2)).mono ?_
  rintro e wc ⟨rfl, hcb⟩
  refine hK.out _ _ ⟨hS.1.below hcb, hS.2.trans (hcb.mono hS.2.size)⟩ fun hS => ?_
  try simp only [Act.put, List.getElem_toArray, List.getElem_cons_zero, List.getElem_cons_succ, List.setIfInBounds_toArray, List.set_cons_zero, List.set_cons_succ]
  refine wpAnyH_done (by kernel_rfl) ?_ _
  have c1 := hS.1
  have bw := hS.2
  clear hcb hS
  cases hf : fits p.os m
  · have c0 := row_at c1.room 0 _ rfl
    obtain ⟨n, HN⟩ : ∃ n, Hid (ps.length = n) := ⟨_, rfl⟩
    have hz := zero33
    rw [HN.out] at c0 hl hsm
    have HC1 : Hid _ := c1
    have HF : Hid (fits p.os m = false) := hf
    clear hf c c1
    go_wp2
    go_loopw [31] (fun d wr => ∃ (k : Nat), d = .int .i64 k ∧ k ≤ n ∧ Below w.heap.size w wr ∧ ∀ j r, j < k → ps[j]? = some r → fits r.os m = false) (fun d _ => n - (intOf d).toNat)
    case atStart => exact ⟨0, rfl, by omega, bw, fun j r hj => absurd hj (by omega)⟩
    case round =>
      obtain ⟨k, rfl, hk, rb, hno⟩ := hrel
      by_cases hkn : k < n
      · have hkn' : (k : Int) < (n : Int) := by omega
        have hkl : k < ps.length := by rw [HN.out]; exact hkn
        obtain ⟨q, hq⟩ : ∃ q, ps[k]? = some q := ⟨ps[k], List.getElem?_eq_getElem hkl⟩
        have hmq := List.mem_of_getElem? hq
        have c2 := HC.out.below rb
        have hcell := c2.at hq
        have ho := (c2.olds q hmq).olds
        obtain ⟨lsn, v, os⟩ := q
        simp only at hcell ho
        obtain ⟨oa, cap, rfl, _⟩ := ho.open
        have r0 : Row (wr.alloc (.cells #[.int .u64 0, .slice none 0 0] 33)) wr.heap.size #[.int .u64 0, .slice none 0 0] 33 := Row.new _ _ _
        have r1 := r0.set #[.int .u64 lsn, .slice oa os.length cap]
        have b1 : Below wr.heap.size wr ((wr.alloc (.cells #[.int .u64 0, .slice none 0 0] 33)).setRow wr.heap.size #[.int .u64 lsn, .slice oa os.length cap]) := below_setRow ((Below.refl _ _).alloc (Nat.le_refl _) _) (Nat.le_refl _) _
        have b2 := rb.trans (b1.mono rb.size)
        have hfits := fits_any lsn _ os m _ (ho.keep b1)
        have HNO : Hid _ := hno
        clear hno
        have tl : Hid (1 = 1) := rfl
        have ts : Hid (1 = 1) := rfl
        have tm : Hid (1 = 1) := rfl
        obtain ⟨fb, HFB⟩ : ∃ fb, Hid (fits os m = fb) := ⟨_, rfl⟩
        rw [HFB.out] at hfits
        cases fb
        · go_wp2_with (first
            | (have hh := tl; clear hh tl; refine wpList_load_any rfl 33 (.tmp 34) rfl ⟨a, k * 2, none⟩ rfl [.int .u64 lsn, .slice oa os.length cap] _ hcell Try.underlying33 rfl size33 ?_)
            | (have hh := ts; clear hh ts; refine store_cells rfl 33 (.tmp 7) (.tmp 35) rfl wr.heap.size #[.int .u64 lsn, .slice oa os.length cap] rfl rfl 33 _ r0 2 size33 rfl rfl (by simp [Value.oneCell']) ?_)
            | (have hh := tm; clear hh tm; refine wpList_load_row rfl 33 (.tmp 7) rfl wr.heap.size rfl 33 _ (0, 0) _ r1 Try.underlying33 rfl size33 ?_)
            | (go_at_call 18; refine hfits.mono ?_; clear hfits; rintro e wx ⟨rfl, hxb⟩; have b3 := b2.trans (hxb.mono b2.size)))
          go_roundw
          case rel => exact ⟨k + 1, by go_num, by omega, b3, fun j r hj hr => by
            by_cases z : j = k
            · subst z; rw [hq] at hr; simp at hr; subst hr; exact HFB.out
            · exact HNO.out j r (by omega) hr⟩
          case measure => simp [intOf]; omega
        · go_wp2_with (first
            | (have hh := tl; clear hh tl; refine wpList_load_any rfl 33 (.tmp 34) rfl ⟨a, k * 2, none⟩ rfl [.int .u64 lsn, .slice oa os.length cap] _ hcell Try.underlying33 rfl size33 ?_)
            | (have hh := ts; clear hh ts; refine store_cells rfl 33 (.tmp 7) (.tmp 35) rfl wr.heap.size #[.int .u64 lsn, .slice oa os.length cap] rfl rfl 33 _ r0 2 size33 rfl rfl (by simp [Value.oneCell']) ?_)
            | (have hh := tm; clear hh tm; refine wpList_load_row rfl 33 (.tmp 7) rfl wr.heap.size rfl 33 _ (0, 0) _ r1 Try.underlying33 rfl size33 ?_)
            | (go_at_call 18; refine hfits.mono ?_; clear hfits; rintro e wx ⟨rfl, hxb⟩; have b3 := b2.trans (hxb.mono b2.size); have c3 := HC.out.below b3; have d1 := row_at c3.room 1 _ rfl; have d2 := row_frozen c3.room 1))
          go_ret2
          have e := find_at hp HF.out hq HFB.out HNO.out
          refine ⟨by rw [e]; rfl, ?_, ?_⟩
          · rw [e]; exact c3.setLast k hkl
          · exact (Off.of_below (F := two g a) b3).trans (Off.of_setCell (F := two g a) wx ⟨g, 1, none⟩ (.int .i64 k) (Or.inl rfl)) (fun _ h => Or.inl h)
      · have e : k = n := by omega
        subst e
        have hkn' : ¬ (k : Int) < (k : Int) := by omega
        have HNO : Hid _ := hno
        clear hno
        go_wp2
        go_ret2
        have e := find_no hp HF.out (by rw [HN.out]; exact HNO.out)
        refine ⟨by rw [e]; rfl, ?_, Off.of_below rb⟩
        rw [e]; exact HC.out.below rb
  · have c0 := row_at c1.room 1 _ rfl
    go_wp2
    go_ret2
    have e := find_hit hp hf
    refine ⟨by rw [e]; rfl, ?_, Off.of_below bw⟩
    rw [e]; exact c1
end Go.Proofs.Ytddhjkgefninbaa
