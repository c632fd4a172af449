/-
  Proved here: a commit of nothing, one without a timestamp left, and one that is refused.
-/
import Derived.Test.YtpncmbkklkfmnaaMwr
namespace Go.Proofs.Ytpncmbkklkfmnaa
open Go.ChangeShapes Go.WideShapes Go.ChangeAt Go.RowKit
open Go.Deep Go.Maps
set_option linter.unusedVariables false
set_option linter.unusedSimpArgs false
set_option maxRecDepth 20000


set_option maxHeartbeats 1000000 in
theorem commit_none {w : World} {F : Nat → Prop} {g : Nat} {m : M} (c : MA w F g m) (start : Int) (h0 : 0 ≤ start) (h1 : start ≤ 4294967295) (mb : Nat) (ws : List (Int × List Int)) (hws : WsOk m.ps.length ws) (own : w.ownsMap Try.prog 33 wrR mb ws.length (setD ws)) (hn : ws = []) :
    Calls Try.prog 30 #[.pointer (some ⟨g, 0, none⟩), .agg #[.int .u32 start, .map (some mb)]] w fun r w' => r = .returned (.agg (Rep.mk 0 0 start (zs 64)).arr) ∧ Below w.heap.size w w' := by
  have hz40 := zero40
  have HZS : Hid (Rep.zero.arr.size = 67) := rz
  generalize Rep.zero.arr = Z at hz40 HZS
  have HSZ : Hid (Maps.size (setD ws) = ws.length) := setD_size ws
  have HCC : Hid (MA w F g m) := c
  have ab : Below w.heap.size w (w.alloc (.cells #[.int .u32 start, .map (some mb)] 70)) := (Below.refl _ _).alloc (Nat.le_refl _) _
  have rx : Row (w.alloc (.cells #[.int .u32 start, .map (some mb)] 70)) w.heap.size #[.int .u32 start, .map (some mb)] 70 := Row.new _ _ _
  have e1 : (w.alloc (.cells #[.int .u32 start, .map (some mb)] 70)).heap.size = w.heap.size + 1 := Array.size_push ..
  have ab1 : Below w.heap.size w ((w.alloc (.cells #[.int .u32 start, .map (some mb)] 70)).alloc (.cells Z 40)) := ab.alloc ab.size _
  have r40 : Row ((w.alloc (.cells #[.int .u32 start, .map (some mb)] 70)).alloc (.cells Z 40)) (w.alloc (.cells #[.int .u32 start, .map (some mb)] 70)).heap.size Z 40 := Row.new _ _ _
  have rx1 := rx.alloc (.cells Z 40)
  rw [e1] at r40
  have own1 := ownsMap_off (F := fun _ => False) own (Off.of_below ab1) (fun q => q)
  have HOWN : Hid (w.ownsMap Try.prog 33 wrR mb ws.length (setD ws)) := own
  obtain ⟨PP, HPP⟩ : ∃ PP : Ending → World → Prop, Hid (PP = fun r w' => r = .returned (.agg (Rep.mk 0 0 start (zs 64)).arr) ∧ Below w.heap.size w w') := ⟨_, rfl⟩
  rw [← HPP.out]
  clear c rx ab e1 own
  go_enter Try.func30, Try.ntmps30
  go_upto_region 1 with fail
  generalize (w.alloc (.cells #[.int .u32 start, .map (some mb)] 70)).alloc (.cells Z 40) = W at ab1 r40 rx1 own1 ⊢
  obtain ⟨A0, HA0⟩ : ∃ A0, Hid (w.heap.size = A0) := ⟨_, rfl⟩
  rw [HA0.out] at r40 rx1 ⊢
  have x0 := row_at rx1 0 _ rfl
  have x1 := row_at rx1 1 _ rfl
  have hl : ws.length = 0 := by rw [hn]; rfl
  rw [hl] at HSZ
  have bu := built40_ts start
  have HFS : Hid ((Rep.mk 0 0 start (zs 64)).arr.size = 67) := Rep.arr_size (zs_length _)
  have fo := (Rep.mk 0 0 start (zs 64)).one
  obtain ⟨FA, HFA⟩ : ∃ FA, Hid ((Rep.mk 0 0 start (zs 64)).arr = FA) := ⟨_, rfl⟩
  rw [HFA.out] at bu HFS fo
  have tb : Hid (1 = 1) := rfl
  have ts : Hid (1 = 1) := rfl
  go_wp2_with (first
    | (at_len; refine wpList_len_own _ rfl _ 68 rfl 33 38 Try.underlying68 _ mb _ _ rfl own1 ?_; rw [HSZ.out])
    | (have hh := tb; clear hh tb; refine build_cells rfl 40 #[(2, .tmp 13)] rfl _ rfl FA bu ?_)
    | (have hh := ts; clear hh ts; refine store_cells rfl 40 (.tmp 4) (.tmp 14) rfl (A0 + 1) FA rfl rfl 40 _ r40 67 size40 HZS.out HFS.out fo ?_))
  refine bodyPost_ret (v := .agg FA) (ret_cell (fn := Try.f30) rfl _ _ (A0 + 1) 40 FA _ rfl (r40.set _) Try.underlying40 rfl (by rw [size40, HFS.out])) rfl ?_
  rw [HPP.out]
  exact ⟨by rw [HFA.out], below_setRow ab1 (by rw [HA0.out]; exact Nat.le_succ _) _⟩

set_option maxHeartbeats 1000000 in
theorem commit_ts {w : World} {F : Nat → Prop} {g : Nat} {m : M} (c : MA w F g m) (start : Int) (h0 : 0 ≤ start) (h1 : start ≤ 4294967295) (mb : Nat) (ws : List (Int × List Int)) (hws : WsOk m.ps.length ws) (own : w.ownsMap Try.prog 33 wrR mb ws.length (setD ws)) (hn : ws ≠ []) (hlm : m.last = m.max) :
    Calls Try.prog 30 #[.pointer (some ⟨g, 0, none⟩), .agg #[.int .u32 start, .map (some mb)]] w fun r w' => r = .returned (.agg (Rep.fail 8).arr) ∧ Below w.heap.size w w' := by
  have hz40 := zero40
  have HZS : Hid (Rep.zero.arr.size = 67) := rz
  generalize Rep.zero.arr = Z at hz40 HZS
  have HSZ : Hid (Maps.size (setD ws) = ws.length) := setD_size ws
  have HCC : Hid (MA w F g m) := c
  have ab : Below w.heap.size w (w.alloc (.cells #[.int .u32 start, .map (some mb)] 70)) := (Below.refl _ _).alloc (Nat.le_refl _) _
  have rx : Row (w.alloc (.cells #[.int .u32 start, .map (some mb)] 70)) w.heap.size #[.int .u32 start, .map (some mb)] 70 := Row.new _ _ _
  have e1 : (w.alloc (.cells #[.int .u32 start, .map (some mb)] 70)).heap.size = w.heap.size + 1 := Array.size_push ..
  have ab1 : Below w.heap.size w ((w.alloc (.cells #[.int .u32 start, .map (some mb)] 70)).alloc (.cells Z 40)) := ab.alloc ab.size _
  have r40 : Row ((w.alloc (.cells #[.int .u32 start, .map (some mb)] 70)).alloc (.cells Z 40)) (w.alloc (.cells #[.int .u32 start, .map (some mb)] 70)).heap.size Z 40 := Row.new _ _ _
  have rx1 := rx.alloc (.cells Z 40)
  rw [e1] at r40
  have own1 := ownsMap_off (F := fun _ => False) own (Off.of_below ab1) (fun q => q)
  have HOWN : Hid (w.ownsMap Try.prog 33 wrR mb ws.length (setD ws)) := own
  obtain ⟨PP, HPP⟩ : ∃ PP : Ending → World → Prop, Hid (PP = fun r w' => r = .returned (.agg (Rep.fail 8).arr) ∧ Below w.heap.size w w') := ⟨_, rfl⟩
  rw [← HPP.out]
  clear c rx ab e1 own
  go_enter Try.func30, Try.ntmps30
  go_upto_region 1 with fail
  generalize (w.alloc (.cells #[.int .u32 start, .map (some mb)] 70)).alloc (.cells Z 40) = W at ab1 r40 rx1 own1 ⊢
  obtain ⟨A0, HA0⟩ : ∃ A0, Hid (w.heap.size = A0) := ⟨_, rfl⟩
  rw [HA0.out] at r40 rx1 ⊢
  have x0 := row_at rx1 0 _ rfl
  have x1 := row_at rx1 1 _ rfl
  have hl : ¬ (ws.length : Int) = 0 := by
    intro q
    exact hn (List.eq_nil_of_length_eq_zero (by omega))
  have hlb : ((ws.length : Int) == 0) = false := by simpa using hl
  have C1 := HCC.out.below ab1
  have d1 := C1.at_.c1
  have d2 := C1.at_.c2
  have HO : Hid (∀ W, Calls Try.prog 19 #[.int .i64 8] W fun r w' => r = .returned (.agg (Rep.fail 8).arr) ∧ Below W.heap.size W w') := fun W => only_any 8 W
  have HFS : Hid ((Rep.fail 8).arr.size = 67) := Rep.arr_size (zs_length _)
  have fo := (Rep.fail 8).one
  obtain ⟨FA, HFA⟩ : ∃ FA, Hid ((Rep.fail 8).arr = FA) := ⟨_, rfl⟩
  rw [HFA.out] at HO HFS fo
  rw [← hlm] at d1
  obtain ⟨mm, HMM⟩ : ∃ mm, Hid (m.last = mm) := ⟨_, rfl⟩
  rw [HMM.out] at d1 d2
  clear C1 hlm hl
  go_upto_region 3 with (at_len; refine wpList_len_own _ rfl _ 68 rfl 33 38 Try.underlying68 _ mb _ _ rfl own1 ?_; rw [HSZ.out])
  have abd : Below w.heap.size w W.drew := ab1.drew
  have r40d : Row W.drew (A0 + 1) Z 40 := r40
  go_region
  generalize W.drew = W2 at abd r40d ⊢
  clear d1 d2 x0 x1 own1 rx1 r40 ab1
  have ho := HO.out W2
  have ts : Hid (1 = 1) := rfl
  go_wp2_with (first
    | (go_at_call 19; refine ho.mono ?_; clear ho; rintro e wc ⟨he, hcb⟩; obtain rfl := he; have r1 := r40d.below hcb r40d.lt; have ab3 := abd.trans (hcb.mono abd.size))
    | (have hh := ts; clear hh ts; refine store_cells rfl 40 (.tmp 4) (.tmp 24) rfl (A0 + 1) FA rfl rfl 40 _ r1 67 size40 HZS.out HFS.out fo ?_))
  refine bodyPost_ret (v := .agg FA) (ret_cell (fn := Try.f30) rfl _ _ (A0 + 1) 40 FA _ rfl (r1.set _) Try.underlying40 rfl (by rw [size40, HFS.out])) rfl ?_
  rw [HPP.out]
  exact ⟨by rw [HFA.out], below_setRow ab3 (by rw [HA0.out]; exact Nat.le_succ _) _⟩

theorem ranges_off {H : Type} {P : Program} {k : TypeId} {R : Value → Option (DataW H × List MemPlace)} {F : Nat → Prop} {w w' : World} {b r n : Nat} {D : DataW H} {left : Lit → Bool} {cnt : Nat} (h : w.ranges P k R b r n D left cnt) (ho : Off F w w') (hb : ¬ F b) (hr : ¬ F r) : w'.ranges P k R b r n D left cnt := by
  have l1 := h.lt
  have l2 := h.owns.lt
  obtain ⟨es, cl, since, seen, c0, e1, e2, e3, e4, e5, e6⟩ := h
  exact ⟨es, cl, since, seen, c0, by rw [ho.block b l2 hb]; exact e1, e2, e3, e4, by rw [ho.block r l1 hr]; exact e5, e6⟩
theorem ranges_below {H : Type} {P : Program} {k : TypeId} {R : Value → Option (DataW H × List MemPlace)} {w w' : World} {b r n : Nat} {D : DataW H} {left : Lit → Bool} {cnt : Nat} (h : w.ranges P k R b r n D left cnt) (hb : Below w.heap.size w w') : w'.ranges P k R b r n D left cnt :=
  ranges_off (F := fun _ => False) h (Off.of_below hb) (fun q => q) (fun q => q)
theorem setD_mem {L : List (Int × List Int)} {x : Int} {b : List Int} (h : ∀ z, (setD L).atKey (.int .u16 x) z = .held b) : (x, b) ∈ L := by
  have hh := Maps.has_true_of_atKey h
  rw [setD_has] at hh
  have ha := h (.held (zs 64))
  rw [setD_at] at ha
  have e : atP L x = b := by injection ha
  unfold hasP at hh
  unfold atP at e
  obtain ⟨p, hp, hq⟩ := List.any_eq_true.1 hh
  have hs : (L.find? fun p => decide (p.1 = x)).isSome = true := List.find?_isSome.2 ⟨p, hp, hq⟩
  obtain ⟨y, hy⟩ := Option.isSome_iff_exists.1 hs
  rw [hy] at e
  have h1 := List.find?_some hy
  have h2 := List.mem_of_find?_eq_some hy
  simp at h1 e
  rw [← h1, ← e]; exact h2
end Go.Proofs.Ytpncmbkklkfmnaa
