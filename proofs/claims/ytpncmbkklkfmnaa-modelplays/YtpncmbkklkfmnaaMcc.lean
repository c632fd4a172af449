/-
  Proved here: a commit whose pages have newer versions is refused.
-/
import Derived.Test.YtpncmbkklkfmnaaMco
namespace Go.Proofs.Ytpncmbkklkfmnaa
open Go.ChangeShapes Go.WideShapes Go.ChangeAt Go.RowKit
open Go.Deep Go.Maps
set_option linter.unusedVariables false
set_option linter.unusedSimpArgs false
set_option maxRecDepth 20000


set_option maxHeartbeats 2000000 in
theorem commit_clash {w : World} {F : Nat → Prop} {g : Nat} {m : M} (c : MA w F g m) (start : Int) (h0 : 0 ≤ start) (h1 : start ≤ 4294967295) (mb : Nat) (ws : List (Int × List Int)) (hws : WsOk m.ps.length ws) (own : w.ownsMap Try.prog 33 wrR mb ws.length (setD ws)) (hn : ws ≠ []) (hlm : ¬ m.last = m.max) (hcl : clash m.abs start ws = true) :
    Calls Try.prog 30 #[.pointer (some ⟨g, 0, none⟩), .agg #[.int .u32 start, .map (some mb)]] w fun r w' => r = .returned (.agg (Rep.fail 7).arr) ∧ Below w.heap.size w w' := by
  have hz40 := zero40
  have HZS : Hid (Rep.zero.arr.size = 67) := rz
  generalize Rep.zero.arr = Z at hz40 HZS
  have HSZ : Hid (Maps.size (setD ws) = ws.length) := setD_size ws
  have HCC : Hid (MA w F g m) := c
  have ab : Below w.heap.size w (w.alloc (.cells #[.int .u32 start, .map (some mb)] 70)) := (Below.refl _ _).alloc (Nat.le_refl _) _
  have rx : Row (w.alloc (.cells #[.int .u32 start, .map (some mb)] 70)) w.heap.size #[.int .u32 start, .map (some mb)] 70 := Row.new _ _ _
  have e1 : (w.alloc (.cells #[.int .u32 start, .map (some mb)] 70)).heap.size = w.heap.size + 1 := Array.size_push ..
  have ab1 : Below w.heap.size w ((w.alloc (.cells #[.int .u32 start, .map (some mb)] 70)).alloc (.cells Z 40)) := ab.alloc ab.size _
  have r40 : Row ((w.alloc (.cells #[.int .u32 start, .map (some mb)] 70)).alloc (.cells Z 40)) (w.alloc (.cells #[.int .u32 start, .map (some mb)] 70)).heap.size Z 40 := Row.new _ _ _
  have rx1 := rx.alloc (.cells Z 40)
  rw [e1] at r40
  have own1 := ownsMap_off (F := fun _ => False) own (Off.of_below ab1) (fun q => q)
  have HOWN : Hid (w.ownsMap Try.prog 33 wrR mb ws.length (setD ws)) := own
  obtain ⟨PP, HPP⟩ : ∃ PP : Ending → World → Prop, Hid (PP = fun r w' => r = .returned (.agg (Rep.fail 7).arr) ∧ Below w.heap.size w w') := ⟨_, rfl⟩
  rw [← HPP.out]
  clear c rx ab e1 own
  go_enter Try.func30, Try.ntmps30
  go_upto_region 1 with fail
  generalize (w.alloc (.cells #[.int .u32 start, .map (some mb)] 70)).alloc (.cells Z 40) = W at ab1 r40 rx1 own1 ⊢
  obtain ⟨A0, HA0⟩ : ∃ A0, Hid (w.heap.size = A0) := ⟨_, rfl⟩
  rw [HA0.out] at r40 rx1 ⊢
  have x0 := row_at rx1 0 _ rfl
  have x1 := row_at rx1 1 _ rfl
  have hl : ¬ (ws.length : Int) = 0 := by
    intro q
    exact hn (List.eq_nil_of_length_eq_zero (by omega))
  have hlb : ((ws.length : Int) == 0) = false := by simpa using hl
  have hmb : (m.last == m.max) = false := by simpa using hlm
  have C1 := HCC.out.below ab1
  have d1 := C1.at_.c1
  have d2 := C1.at_.c2
  have HL0 : Hid (0 ≤ m.last) := HCC.out.ok.lo
  have HCL : Hid (clash m.abs start ws = true) := hcl
  have HWS : Hid (WsOk m.ps.length ws) := hws
  have HO : Hid (∀ W, Calls Try.prog 19 #[.int .i64 7] W fun r w' => r = .returned (.agg (Rep.fail 7).arr) ∧ Below W.heap.size W w') := fun W => only_any 7 W
  have HFS : Hid ((Rep.fail 7).arr.size = 67) := Rep.arr_size (zs_length _)
  have fo := (Rep.fail 7).one
  obtain ⟨FA, HFA⟩ : ∃ FA, Hid ((Rep.fail 7).arr = FA) := ⟨_, rfl⟩
  rw [HFA.out] at HO HFS fo
  clear C1 hlm hl hcl hws
  go_upto_region 3 with (at_len; refine wpList_len_own _ rfl _ 68 rfl 33 38 Try.underlying68 _ mb _ _ rfl own1 ?_; rw [HSZ.out])
  have abd : Below w.heap.size w W.drew := ab1.drew
  have r40d : Row W.drew (A0 + 1) Z 40 := r40
  have rxd : Row W.drew A0 #[.int .u32 start, .map (some mb)] 70 := rx1
  have ownd : W.drew.ownsMap Try.prog 33 wrR mb ws.length (setD ws) := own1.drew
  go_region
  clear d1 d2 x0 x1 own1 rx1 r40 ab1
  generalize W.drew = W2 at abd r40d rxd ownd ⊢
  have x1 := row_at rxd 1 _ rfl
  go_upto_region 6 with (at_range; refine wpList_range_own _ rfl _ 68 rfl 33 38 lawK Try.underlying68 _ mb _ _ rfl ownd ?_; intro w0 hrg0 hg0 hs0)
  go_frame
  have B0 : Below w.heap.size w w0 := abd.grown hg0 abd.size (fun j hj => by cases hj)
  have rx0 : Row w0 A0 #[.int .u32 start, .map (some mb)] 70 := rxd.off (F := fun _ => False) (Off.of_grown hg0 (fun k hk => by cases hk)) (fun q => q)
  have r400 : Row w0 (A0 + 1) Z 40 := r40d.off (F := fun _ => False) (Off.of_grown hg0 (fun k hk => by cases hk)) (fun q => q)
  obtain ⟨it, HIT⟩ : ∃ it, Hid (W2.heap.size = it) := ⟨_, rfl⟩
  have hitw : w.heap.size ≤ it := by rw [← HIT.out]; exact abd.size
  have hitA : A0 + 1 < it := by rw [← HIT.out]; exact r40d.lt
  rw [HIT.out] at hrg0 ⊢
  clear hs0 hg0 x1 ownd rxd r40d abd
  have HN0 : Hid (∀ p ∈ ws, Maps.has (setD ws) (.int .u16 p.1) = false → ¬ start < (atV (m.abs.page p.1) m.last).ts) := fun p hp hq => by
    rw [setD_has] at hq
    have := List.any_eq_false.1 hq p hp
    simp at this
  go_loopw [5] (fun _ wr => ∃ (left : Lit → Bool) (cnt : Nat), wr.ranges Try.prog 33 wrR mb it ws.length (setD ws) left cnt ∧ Row wr A0 #[.int .u32 start, .map (some mb)] 70 ∧ Row wr (A0 + 1) Z 40 ∧ Below w.heap.size w wr ∧ Hid (∀ p ∈ ws, left (.int .u16 p.1) = false → ¬ start < (atV (m.abs.page p.1) m.last).ts)) (fun _ wr => wr.rangeLeft mb it)
  case atStart => exact ⟨_, _, hrg0, rx0, r400, B0, HN0⟩
  case round =>
    clear hrg0 rx0 r400 B0 HN0
    obtain ⟨left, cnt, hrg, rx, r40, rb, HN⟩ := hrel
    go_wp2_with (at_next; refine wpList_next_ranges _ rfl _ rfl 33 lawK wrR (Value.int .u16) (fun xs : List Int => Value.agg (bs xs)) (fun key kl hk => by obtain ⟨x, rfl, _⟩ := Maps.keyOf_int_inv Try.underlying33 hk; exact ⟨x, rfl⟩) (fun v y hv => by obtain ⟨xs, _, rfl, _⟩ := wrR_inv hv; exact ⟨xs, rfl⟩) mb it _ _ _ _ rfl hrg ?_ ?_)
    · intro hc0 hl0
      exfalso
      have q := HCL.out
      unfold clash at q
      obtain ⟨p, hp, hq⟩ := List.any_eq_true.1 q
      have q2 := HN.out p hp (hl0 _)
      have q3 : start < (atV (m.abs.page p.1) m.last).ts := of_decide_eq_true hq
      omega
    · intro x cc kl yd yp w2 cnt2 hkey hlk hv hat0 hrg2 hlt hg2 hs2 hen
      obtain ⟨x', ex, rfl, hwx⟩ := Maps.keyOf_int_inv Try.underlying33 hkey
      cases ex
      obtain ⟨xs, hxw, exs, eyd⟩ := wrR_inv hv
      have hmem : (x, xs) ∈ ws := setD_mem (fun z => by rw [hat0 z]; cases eyd; rfl)
      have hx := (HWS.out.wr _ hmem).2
      obtain ⟨k, rfl⟩ : ∃ k : Nat, x = (k : Int) := ⟨x.toNat, by simp only at hx; omega⟩
      have hkl : k < m.ps.length := by simp only at hx; omega
      obtain ⟨p, hp⟩ : ∃ p, m.ps[k]? = some p := ⟨_, List.getElem?_eq_getElem hkl⟩
      have HPV : Hid (m.abs.page (k : Int) = p.vs) := St.page_at hp
      have O2 : Off (· = it) wr w2 := Off.of_grown hg2 (fun j hj => by cases hj; rfl)
      have rx2 : Row w2 A0 #[.int .u32 start, .map (some mb)] 70 := rx.off O2 (by omega)
      have r402 : Row w2 (A0 + 1) Z 40 := r40.off O2 (by omega)
      have rb2 : Below w.heap.size w w2 := rb.trans (O2.below rb.size (fun j e => by rw [e]; exact hitw))
      have C2 := HCC.out.below rb2
      have HN2 : Hid (¬ start < (atV p.vs m.last).ts → ∀ q ∈ ws, (left (.int .u16 q.1) && !(Lit.int .u16 q.1).sameKey (.int .u16 (k : Int))) = false → ¬ start < (atV (m.abs.page q.1) m.last).ts) := fun h q hq hl => by
        rw [same_u16] at hl
        by_cases e : q.1 = (k : Int)
        · rw [e, HPV.out]; exact h
        · simp [e] at hl
          have q2 := HN.out q hq hl
          omega
      obtain ⟨T, HT⟩ : ∃ T, Hid ((atV p.vs m.last).ts = T) := ⟨_, rfl⟩
      rw [HT.out] at HN2
      have HMS : Hid (w2.rangeLeft mb it < wr.rangeLeft mb it) := by rw [hrg2.left_eq, hrg.left_eq]; exact hlt
      obtain ⟨left2, HL2⟩ : ∃ left2 : Lit → Bool, Hid (left2 = fun z => left z && !z.sameKey (.int .u16 (k : Int))) := ⟨_, rfl⟩
      have HN3 : Hid (¬ start < T → ∀ q ∈ ws, left2 (.int .u16 q.1) = false → ¬ start < (atV (m.abs.page q.1) m.last).ts) := by rw [HL2.out]; exact HN2.out
      rw [← HL2.out] at hrg2
      clear hs2 hat0 hlk hlt hkey hv hmem hx hxw exs eyd hg2 O2 HN HN2 rx r40 rb hrg hwx HL2
      by_cases hgt : T > start
      · go_upto_region 8 with fail
        refine wp_region_held_drew (S := fun w' => MA w' F g m ∧ Row w' A0 #[.int .u32 start, .map (some mb)] 70 ∧ Row w' (A0 + 1) Z 40 ∧ w'.ranges Try.prog 33 wrR mb it ws.length (setD ws) left2 cnt2 ∧ Below w.heap.size w w') (by kernel_rfl) ⟨C2.below (below_drew _), rx2, r402, ranges_below hrg2 (below_drew _), rb2.drew⟩ fun hS => ?_
        refine wpAnyH_take (i := 0) (v := .pointer (some ⟨g, 0, none⟩)) rfl (by kernel_rfl) (by kernel_rfl) (by kernel_rfl) (fun _ _ _ h => h) (Or.inl ⟨by rfl, fun w _ => by rfl⟩) hS ?_
        try simp only [Act.put, List.getElem_toArray, List.getElem_cons_zero, List.getElem_cons_succ, List.setIfInBounds_toArray, List.set_cons_zero, List.set_cons_succ]
        refine wpAnyH_take (i := 1) (v := .int .u16 (k : Int)) rfl (by kernel_rfl) (by kernel_rfl) (by kernel_rfl) (fun _ _ _ h => h) (Or.inl ⟨by rfl, fun w _ => by rfl⟩) hS ?_
        try simp only [Act.put, List.getElem_toArray, List.getElem_cons_zero, List.getElem_cons_succ, List.setIfInBounds_toArray, List.set_cons_zero, List.set_cons_succ]
        refine wpAnyH_take (i := 2) (v := .pointer (some ⟨g, 0, none⟩)) rfl (by kernel_rfl) (by kernel_rfl) (by kernel_rfl) (fun _ _ _ h => h) (Or.inl ⟨by rfl, fun w _ => by rfl⟩) hS ?_
        try simp only [Act.put, List.getElem_toArray, List.getElem_cons_zero, List.getElem_cons_succ, List.setIfInBounds_toArray, List.set_cons_zero, List.set_cons_succ]
        refine wpAnyH_take (i := 3) (v := .pointer (some ⟨g, 0, none⟩)) rfl (by kernel_rfl) (by kernel_rfl) (by kernel_rfl) (fun _ _ _ h => h) (Or.inl ⟨by rfl, fun w _ => by go_simp⟩) hS ?_
        try simp only [Act.put, List.getElem_toArray, List.getElem_cons_zero, List.getElem_cons_succ, List.setIfInBounds_toArray, List.set_cons_zero, List.set_cons_succ]
        refine wpAnyH_take (i := 4) (v := .pointer (some ⟨g, 2, none⟩)) rfl (by kernel_rfl) (by kernel_rfl) (by kernel_rfl) (fun _ _ _ h => h) (Or.inl ⟨by rfl, fun w _ => by go_simp⟩) hS ?_
        try simp only [Act.put, List.getElem_toArray, List.getElem_cons_zero, List.getElem_cons_succ, List.setIfInBounds_toArray, List.set_cons_zero, List.set_cons_succ]
        refine wpAnyH_take (i := 5) (v := .int .u32 m.last) rfl (by kernel_rfl) (by kernel_rfl) (by kernel_rfl) (fun _ _ _ h => h) (Or.inl ⟨by rfl, fun w h => by have c := h.1.at_.c2; go_simp⟩) hS ?_
        try simp only [Act.put, List.getElem_toArray, List.getElem_cons_zero, List.getElem_cons_succ, List.setIfInBounds_toArray, List.set_cons_zero, List.set_cons_succ]
        refine wpAnyH_take (i := 8) (v := .pointer (some ⟨A0, 0, none⟩)) rfl (by kernel_rfl) (by kernel_rfl) (by kernel_rfl) (fun _ _ _ h => h) (Or.inl ⟨by rfl, fun w _ => by go_simp⟩) hS ?_
        try simp only [Act.put, List.getElem_toArray, List.getElem_cons_zero, List.getElem_cons_succ, List.setIfInBounds_toArray, List.set_cons_zero, List.set_cons_succ]
        refine wpAnyH_take (i := 9) (v := .int .u32 start) rfl (by kernel_rfl) (by kernel_rfl) (by kernel_rfl) (fun _ _ _ h => h) (Or.inl ⟨by rfl, fun w h => by have c := row_at h.2.1 0 _ rfl; go_simp⟩) hS ?_
        try simp only [Act.put, List.getElem_toArray, List.getElem_cons_zero, List.getElem_cons_succ, List.setIfInBounds_toArray, List.set_cons_zero, List.set_cons_succ]
        generalize w2.drew = W8 at hS ⊢
        have hat := at_in hS.1 k p hp m.last HL0.out
        obtain ⟨VA, HVA⟩ : ∃ VA, Hid ((atV p.vs m.last).arr = VA) := ⟨_, rfl⟩
        rw [HVA.out] at hat
        have hft : ∀ w, (Instr.field 44 (.agg VA) 0).run Try.prog w = .ok (.int .u32 T) w := fun w => by rw [← HVA.out, ← HT.out]; exact field44t w
        refine wpAnyH_ready (rs := [6]) (by kernel_rfl) (by simp) ?_
        refine AllReadyH.cons rfl (fun K hK => ?_) AllReadyH.nil
        go_simp
        go_at_call 16
        refine Calls.mono hat ?_
        rintro e wc ⟨rfl, hcb⟩
        refine hK.out _ _ ⟨hS.1.below hcb, hS.2.1.below hcb hS.2.1.lt, hS.2.2.1.below hcb hS.2.2.1.lt, ranges_below hS.2.2.2.1 hcb, hS.2.2.2.2.trans (hcb.mono hS.2.2.2.2.size)⟩ fun hS => ?_
        try simp only [Act.put, List.getElem_toArray, List.getElem_cons_zero, List.getElem_cons_succ, List.setIfInBounds_toArray, List.set_cons_zero, List.set_cons_succ]
        clear hcb hat
        refine wpAnyH_take (i := 7) (v := .int .u32 T) rfl (by kernel_rfl) (by kernel_rfl) (by kernel_rfl) (fun _ _ _ h => h) (Or.inl ⟨by rfl, fun w h => by have c := hft; go_simp⟩) hS ?_
        try simp only [Act.put, List.getElem_toArray, List.getElem_cons_zero, List.getElem_cons_succ, List.setIfInBounds_toArray, List.set_cons_zero, List.set_cons_succ]
        refine wpAnyH_take (i := 10) (v := .bool true) rfl (by kernel_rfl) (by kernel_rfl) (by kernel_rfl) (fun _ _ _ h => h) (Or.inl ⟨by rfl, fun w _ => by go_simp⟩) hS ?_
        try simp only [Act.put, List.getElem_toArray, List.getElem_cons_zero, List.getElem_cons_succ, List.setIfInBounds_toArray, List.set_cons_zero, List.set_cons_succ]
        refine wpAnyH_done (by kernel_rfl) ?_ _
        obtain ⟨hS1, hS2, hS3, hS4, hS5⟩ := hS
        have ho := HO.out wc
        have ts : Hid (1 = 1) := rfl
        go_wp2_with (first
          | (go_at_call 19; refine ho.mono ?_; clear ho; rintro e wd ⟨he, hcb⟩; obtain rfl := he; have r1 := hS3.below hcb hS3.lt; have ab3 := hS5.trans (hcb.mono hS5.size))
          | (have hh := ts; clear hh ts; refine store_cells rfl 40 (.tmp 4) (.tmp 43) rfl (A0 + 1) FA rfl rfl 40 _ r1 67 size40 HZS.out HFS.out fo ?_))
        refine bodyPost_ret (v := .agg FA) (ret_cell (fn := Try.f30) rfl _ _ (A0 + 1) 40 FA _ rfl (r1.set _) Try.underlying40 rfl (by rw [size40, HFS.out])) rfl ?_
        rw [HPP.out]
        exact ⟨by rw [HFA.out], below_setRow ab3 (by rw [HA0.out]; exact Nat.le_succ _) _⟩
      · go_upto_region 8 with fail
        refine wp_region_held_drew (S := fun w' => MA w' F g m ∧ Row w' A0 #[.int .u32 start, .map (some mb)] 70 ∧ Row w' (A0 + 1) Z 40 ∧ w'.ranges Try.prog 33 wrR mb it ws.length (setD ws) left2 cnt2 ∧ Below w.heap.size w w') (by kernel_rfl) ⟨C2.below (below_drew _), rx2, r402, ranges_below hrg2 (below_drew _), rb2.drew⟩ fun hS => ?_
        refine wpAnyH_take (i := 0) (v := .pointer (some ⟨g, 0, none⟩)) rfl (by kernel_rfl) (by kernel_rfl) (by kernel_rfl) (fun _ _ _ h => h) (Or.inl ⟨by rfl, fun w _ => by rfl⟩) hS ?_
        try simp only [Act.put, List.getElem_toArray, List.getElem_cons_zero, List.getElem_cons_succ, List.setIfInBounds_toArray, List.set_cons_zero, List.set_cons_succ]
        refine wpAnyH_take (i := 1) (v := .int .u16 (k : Int)) rfl (by kernel_rfl) (by kernel_rfl) (by kernel_rfl) (fun _ _ _ h => h) (Or.inl ⟨by rfl, fun w _ => by rfl⟩) hS ?_
        try simp only [Act.put, List.getElem_toArray, List.getElem_cons_zero, List.getElem_cons_succ, List.setIfInBounds_toArray, List.set_cons_zero, List.set_cons_succ]
        refine wpAnyH_take (i := 2) (v := .pointer (some ⟨g, 0, none⟩)) rfl (by kernel_rfl) (by kernel_rfl) (by kernel_rfl) (fun _ _ _ h => h) (Or.inl ⟨by rfl, fun w _ => by rfl⟩) hS ?_
        try simp only [Act.put, List.getElem_toArray, List.getElem_cons_zero, List.getElem_cons_succ, List.setIfInBounds_toArray, List.set_cons_zero, List.set_cons_succ]
        refine wpAnyH_take (i := 3) (v := .pointer (some ⟨g, 0, none⟩)) rfl (by kernel_rfl) (by kernel_rfl) (by kernel_rfl) (fun _ _ _ h => h) (Or.inl ⟨by rfl, fun w _ => by go_simp⟩) hS ?_
        try simp only [Act.put, List.getElem_toArray, List.getElem_cons_zero, List.getElem_cons_succ, List.setIfInBounds_toArray, List.set_cons_zero, List.set_cons_succ]
        refine wpAnyH_take (i := 4) (v := .pointer (some ⟨g, 2, none⟩)) rfl (by kernel_rfl) (by kernel_rfl) (by kernel_rfl) (fun _ _ _ h => h) (Or.inl ⟨by rfl, fun w _ => by go_simp⟩) hS ?_
        try simp only [Act.put, List.getElem_toArray, List.getElem_cons_zero, List.getElem_cons_succ, List.setIfInBounds_toArray, List.set_cons_zero, List.set_cons_succ]
        refine wpAnyH_take (i := 5) (v := .int .u32 m.last) rfl (by kernel_rfl) (by kernel_rfl) (by kernel_rfl) (fun _ _ _ h => h) (Or.inl ⟨by rfl, fun w h => by have c := h.1.at_.c2; go_simp⟩) hS ?_
        try simp only [Act.put, List.getElem_toArray, List.getElem_cons_zero, List.getElem_cons_succ, List.setIfInBounds_toArray, List.set_cons_zero, List.set_cons_succ]
        refine wpAnyH_take (i := 8) (v := .pointer (some ⟨A0, 0, none⟩)) rfl (by kernel_rfl) (by kernel_rfl) (by kernel_rfl) (fun _ _ _ h => h) (Or.inl ⟨by rfl, fun w _ => by go_simp⟩) hS ?_
        try simp only [Act.put, List.getElem_toArray, List.getElem_cons_zero, List.getElem_cons_succ, List.setIfInBounds_toArray, List.set_cons_zero, List.set_cons_succ]
        refine wpAnyH_take (i := 9) (v := .int .u32 start) rfl (by kernel_rfl) (by kernel_rfl) (by kernel_rfl) (fun _ _ _ h => h) (Or.inl ⟨by rfl, fun w h => by have c := row_at h.2.1 0 _ rfl; go_simp⟩) hS ?_
        try simp only [Act.put, List.getElem_toArray, List.getElem_cons_zero, List.getElem_cons_succ, List.setIfInBounds_toArray, List.set_cons_zero, List.set_cons_succ]
        generalize w2.drew = W8 at hS ⊢
        have hat := at_in hS.1 k p hp m.last HL0.out
        obtain ⟨VA, HVA⟩ : ∃ VA, Hid ((atV p.vs m.last).arr = VA) := ⟨_, rfl⟩
        rw [HVA.out] at hat
        have hft : ∀ w, (Instr.field 44 (.agg VA) 0).run Try.prog w = .ok (.int .u32 T) w := fun w => by rw [← HVA.out, ← HT.out]; exact field44t w
        refine wpAnyH_ready (rs := [6]) (by kernel_rfl) (by simp) ?_
        refine AllReadyH.cons rfl (fun K hK => ?_) AllReadyH.nil
        go_simp
        go_at_call 16
        refine Calls.mono hat ?_
        rintro e wc ⟨rfl, hcb⟩
        refine hK.out _ _ ⟨hS.1.below hcb, hS.2.1.below hcb hS.2.1.lt, hS.2.2.1.below hcb hS.2.2.1.lt, ranges_below hS.2.2.2.1 hcb, hS.2.2.2.2.trans (hcb.mono hS.2.2.2.2.size)⟩ fun hS => ?_
        try simp only [Act.put, List.getElem_toArray, List.getElem_cons_zero, List.getElem_cons_succ, List.setIfInBounds_toArray, List.set_cons_zero, List.set_cons_succ]
        clear hcb hat
        refine wpAnyH_take (i := 7) (v := .int .u32 T) rfl (by kernel_rfl) (by kernel_rfl) (by kernel_rfl) (fun _ _ _ h => h) (Or.inl ⟨by rfl, fun w h => by have c := hft; go_simp⟩) hS ?_
        try simp only [Act.put, List.getElem_toArray, List.getElem_cons_zero, List.getElem_cons_succ, List.setIfInBounds_toArray, List.set_cons_zero, List.set_cons_succ]
        refine wpAnyH_take (i := 10) (v := .bool false) rfl (by kernel_rfl) (by kernel_rfl) (by kernel_rfl) (fun _ _ _ h => h) (Or.inl ⟨by rfl, fun w _ => by go_simp⟩) hS ?_
        try simp only [Act.put, List.getElem_toArray, List.getElem_cons_zero, List.getElem_cons_succ, List.setIfInBounds_toArray, List.set_cons_zero, List.set_cons_succ]
        refine wpAnyH_done (by kernel_rfl) ?_ _
        have HSS : Hid _ := hS
        have HLT : Hid (wc.rangeLeft mb it < wr.rangeLeft mb it) := by
          have := HMS.out
          rw [hrg2.left_eq] at this
          rw [hS.2.2.2.1.left_eq]; exact this
        have HN4 := HN3.out (by omega)
        clear hS
        go_wp2
        go_roundw
        case rel => exact ⟨left2, cnt2, HSS.out.2.2.2.1, HSS.out.2.1, HSS.out.2.2.1, HSS.out.2.2.2.2, HN4⟩
        case measure => exact HLT.out
end Go.Proofs.Ytpncmbkklkfmnaa
