/-
  Proved here: cache.Unpin, cache.Cold. Plain facts on payloads: what stands at each place; what was put is read again; unlike data pages have unlike payloads. Proved here: two data pages are alike just if all they hold is; page.Blank and page.Right of data pages; the statements' fixed run (awake).
-/
import Derived.Test.YtehogiondcpbcaaJq20
import Derived.Test.YtehogiondcpbcaaJq19
namespace Go.Proofs.Ytehogiondcpbcaa
open Go.ChangeShapes Go.WideShapes Go.ChangeAt Go.RowKit
set_option linter.unusedVariables false
set_option linter.unusedSimpArgs false
set_option maxRecDepth 20000
def unpinE (s : Cs) (u : Bool) (k : Int) : Int := if pinsC s u k = 0 then 1 else 0
def setPins (s : Cs) (i : Nat) (n : Int) : Cs := { s with ck := match s.ck[i]? with | some x => s.ck.set i { x with pins := x.pins + n } | none => s.ck }
def unpinS (s : Cs) (u : Bool) (k : Int) : Cs := match posF s.fs u k with | some i => if pinsC s u k = 0 then s else setPins s i (-1) | none => s
def setCold (s : Cs) (i : Nat) (b : Bool) : Cs := { s with ck := match s.ck[i]? with | some x => s.ck.set i { x with cold := b } | none => s.ck }
def coldS (s : Cs) (u : Bool) (k : Int) (b : Bool) : Cs := match posF s.fs u k with | some i => setCold s i b | none => s
set_option maxHeartbeats 1000000 in
theorem unpin_any {w : World} {F : Nat → Prop} {gc gd gl gk ak : Nat} {s : Cs} {l : Lg} {d : Dsk} {M : Int} {N : Nat} (c : CL w F gc gd gl gk ak s l d M N) (u : Bool) (k : Int) (hk : WfU k) : Calls Try.prog 21 #[.pointer (some ⟨gc, 0, none⟩), idv u k] w fun e w' => e = .returned (.int .i64 (unpinE s u k)) ∧ CStep w F gc gd gl gk ak (unpinS s u k) l d M N w' := by
  have ok := c.ok
  obtain ⟨PP, HPP⟩ : ∃ PP : Ending → World → Prop, Hid (PP = fun e w' => e = .returned (.int .i64 (unpinE s u k)) ∧ CStep w F gc gd gl gk ak (unpinS s u k) l d M N w') := ⟨_, rfl⟩
  rw [← HPP.out]
  have r0 : Row (w.alloc (.cells #[.bool u, .int .u16 k] 31)) w.heap.size #[.bool u, .int .u16 k] 31 := Row.new _ _ _
  have ab : Below w.heap.size w (w.alloc (.cells #[.bool u, .int .u16 k] 31)) := (Below.refl _ _).alloc (Nat.le_refl _) _
  have hfi : Calls Try.prog 56 #[.pointer (some ⟨gc, 0, none⟩), .agg #[.bool u, .int .u16 k]] (w.alloc (.cells #[.bool u, .int .u16 k] 31)) fun e w' => e = .returned (.tuple #[.int .i64 ((whereF s.fs u k).getD 0), .bool (whereF s.fs u k).isSome]) ∧ Below (w.alloc (.cells #[.bool u, .int .u16 k] 31)).heap.size (w.alloc (.cells #[.bool u, .int .u16 k] 31)) w' := by
    obtain ⟨fv, m, n, vl, vs, L, cA, _⟩ := c.ex
    exact find_any (cA.below ab) u k hk
  have HC : Hid (CL w F gc gd gl gk ak s l d M N) := c
  unfold idv
  cases hp : posF s.fs u k with
  | none =>
    rw [where_none hp] at hfi
    simp only [Option.getD_none, Option.isSome_none] at hfi
    have HE : Hid (unpinE s u k = 1 ∧ unpinS s u k = s) := ⟨by unfold unpinE pinsC; rw [hp]; rfl, by unfold unpinS; rw [hp]⟩
    clear hp c ok
    go_enter Try.func21, Try.ntmps21
    go_upto_region 1 with fail
    generalize w.alloc (.cells #[.bool u, .int .u16 k] 31) = W at r0 ab hfi ⊢
    obtain ⟨A0, HA0⟩ : ∃ A0, Hid (w.heap.size = A0) := ⟨_, rfl⟩
    rw [HA0.out] at r0 ⊢
    have tl : Hid (1 = 1) := rfl
    go_wp2_with (first
      | (have hh := tl; clear hh tl; refine load_cells rfl 31 (.tmp 3) rfl A0 rfl 31 #[.bool u, .int .u16 k] r0 2 Try.underlying31 rfl size31 rfl ?_)
      | (have hh := hfi; clear hh; go_at_call 56; refine Calls.mono hfi ?_; clear hfi; rintro e W1 ⟨he, hb⟩; obtain rfl := he; have ab := ab.trans (hb.mono ab.size); clear hb; ))
    rw [HPP.out, HE.out.1, HE.out.2]
    exact ⟨rfl, CStep.same HC.out ab⟩
  | some i =>
    rw [where_some hp] at hfi
    simp only [Option.getD_some, Option.isSome_some] at hfi
    have hil := posF_lt hp
    obtain ⟨x, hx⟩ : ∃ x, s.ck[i]? = some x := ⟨_, List.getElem?_eq_getElem (by rw [ok.ck]; exact Nat.lt_of_lt_of_le hil ok.few)⟩
    have hpc : pinsC s u k = x.pins := by unfold pinsC; rw [hp]; simp [hx]
    by_cases h0 : x.pins = 0
    · have HE : Hid (unpinE s u k = 1 ∧ unpinS s u k = s) := ⟨by unfold unpinE; rw [hpc, if_pos h0], by unfold unpinS; rw [hp]; simp only [hpc, h0, if_true]⟩
      have HUP : Hid (∀ W, CL W F gc gd gl gk ak s l d M N → Calls Try.prog 57 #[.pointer (some ⟨gk, 0, none⟩), .int .i64 i] W fun e w' => e = .returned (.bool false) ∧ w' = W) := fun W h => by
        obtain ⟨fv, m, n, vl, vs, L, cA, _⟩ := h.ex
        have := Cl.pins_in cA.clk i x hx
        rw [h0] at this
        exact Cl.unpin_zero _ _ W this
      clear hp c ok hil hx hpc h0
      go_enter Try.func21, Try.ntmps21
      go_upto_region 1 with fail
      generalize w.alloc (.cells #[.bool u, .int .u16 k] 31) = W at r0 ab hfi ⊢
      obtain ⟨A0, HA0⟩ : ∃ A0, Hid (w.heap.size = A0) := ⟨_, rfl⟩
      rw [HA0.out] at r0 ⊢
      have tl : Hid (1 = 1) := rfl
      go_wp2_with (first
        | (have hh := tl; clear hh tl; refine load_cells rfl 31 (.tmp 3) rfl A0 rfl 31 #[.bool u, .int .u16 k] r0 2 Try.underlying31 rfl size31 rfl ?_)
        | (have hh := hfi; clear hh; go_at_call 56; refine Calls.mono hfi ?_; clear hfi; rintro e W1 ⟨he, hb⟩; obtain rfl := he; have ab := ab.trans (hb.mono ab.size); clear hb; obtain ⟨fv1, m1, n1, vl1, vs1, L1, cA1, _⟩ := (HC.out.below ab).ex; have c2 : W1.cell? ⟨gc, 2, none⟩ = some (.pointer (some ⟨gk, 0, none⟩)) := row_at cA1.row 2 _ rfl; have hup := HUP.out W1 (HC.out.below ab))
        | (have hh := hup; clear hh; go_at_call 57; refine Calls.mono hup ?_; clear hup; rintro e W2 ⟨he, hww⟩; rw [hww]; clear hww W2; obtain rfl := he))
      rw [HPP.out, HE.out.1, HE.out.2]
      exact ⟨rfl, CStep.same HC.out ab⟩
    · have HE : Hid (unpinE s u k = 0 ∧ unpinS s u k = { s with ck := s.ck.set i { x with pins := x.pins - 1 } }) := ⟨by unfold unpinE; rw [hpc, if_neg h0], by unfold unpinS setPins; rw [hp]; simp only [hpc, h0, if_false, hx]; rfl⟩
      have HUP : Hid (∀ W, CL W F gc gd gl gk ak s l d M N → Calls Try.prog 57 #[.pointer (some ⟨gk, 0, none⟩), .int .i64 i] W fun e w' => e = .returned (.bool true) ∧ CStep W F gc gd gl gk ak { s with ck := s.ck.set i { x with pins := x.pins - 1 } } l d M N w') := fun W h => by
        obtain ⟨fv, m, n, vl, vs, L, cA, _⟩ := h.ex
        refine (Cl.unpin_in cA.clk i x hx h0).mono fun e w' q => ⟨q.1, ?_⟩
        exact h.clock q.2.1 q.2.2 (List.length_set ..)
      clear hp c ok hil hx hpc h0
      go_enter Try.func21, Try.ntmps21
      go_upto_region 1 with fail
      generalize w.alloc (.cells #[.bool u, .int .u16 k] 31) = W at r0 ab hfi ⊢
      obtain ⟨A0, HA0⟩ : ∃ A0, Hid (w.heap.size = A0) := ⟨_, rfl⟩
      rw [HA0.out] at r0 ⊢
      have tl : Hid (1 = 1) := rfl
      go_wp2_with (first
        | (have hh := tl; clear hh tl; refine load_cells rfl 31 (.tmp 3) rfl A0 rfl 31 #[.bool u, .int .u16 k] r0 2 Try.underlying31 rfl size31 rfl ?_)
        | (have hh := hfi; clear hh; go_at_call 56; refine Calls.mono hfi ?_; clear hfi; rintro e W1 ⟨he, hb⟩; obtain rfl := he; have ab := ab.trans (hb.mono ab.size); clear hb; obtain ⟨fv1, m1, n1, vl1, vs1, L1, cA1, _⟩ := (HC.out.below ab).ex; have c2 : W1.cell? ⟨gc, 2, none⟩ = some (.pointer (some ⟨gk, 0, none⟩)) := row_at cA1.row 2 _ rfl; have hup := HUP.out W1 (HC.out.below ab))
        | (have hh := hup; clear hh; go_at_call 57; refine Calls.mono hup ?_; clear hup; rintro e W2 ⟨he, hst⟩; obtain rfl := he))
      rw [HPP.out, HE.out.1, HE.out.2]
      exact ⟨rfl, CStep.ahead ab hst⟩
set_option maxHeartbeats 1000000 in
theorem ccold_any {w : World} {F : Nat → Prop} {gc gd gl gk ak : Nat} {s : Cs} {l : Lg} {d : Dsk} {M : Int} {N : Nat} (c : CL w F gc gd gl gk ak s l d M N) (u : Bool) (k : Int) (hk : WfU k) (b : Bool) : Calls Try.prog 36 #[.pointer (some ⟨gc, 0, none⟩), idv u k, .bool b] w fun e w' => e = .returned (.tuple #[]) ∧ CStep w F gc gd gl gk ak (coldS s u k b) l d M N w' := by
  have ok := c.ok
  obtain ⟨PP, HPP⟩ : ∃ PP : Ending → World → Prop, Hid (PP = fun e w' => e = .returned (.tuple #[]) ∧ CStep w F gc gd gl gk ak (coldS s u k b) l d M N w') := ⟨_, rfl⟩
  rw [← HPP.out]
  have r0 : Row (w.alloc (.cells #[.bool u, .int .u16 k] 31)) w.heap.size #[.bool u, .int .u16 k] 31 := Row.new _ _ _
  have ab : Below w.heap.size w (w.alloc (.cells #[.bool u, .int .u16 k] 31)) := (Below.refl _ _).alloc (Nat.le_refl _) _
  have hfi : Calls Try.prog 56 #[.pointer (some ⟨gc, 0, none⟩), .agg #[.bool u, .int .u16 k]] (w.alloc (.cells #[.bool u, .int .u16 k] 31)) fun e w' => e = .returned (.tuple #[.int .i64 ((whereF s.fs u k).getD 0), .bool (whereF s.fs u k).isSome]) ∧ Below (w.alloc (.cells #[.bool u, .int .u16 k] 31)).heap.size (w.alloc (.cells #[.bool u, .int .u16 k] 31)) w' := by
    obtain ⟨fv, m, n, vl, vs, L, cA, _⟩ := c.ex
    exact find_any (cA.below ab) u k hk
  have HC : Hid (CL w F gc gd gl gk ak s l d M N) := c
  unfold idv
  cases hp : posF s.fs u k with
  | none =>
    rw [where_none hp] at hfi
    simp only [Option.getD_none, Option.isSome_none] at hfi
    have HE : Hid (coldS s u k b = s) := by show coldS s u k b = s; unfold coldS; rw [hp]
    clear hp c ok
    go_enter Try.func36, Try.ntmps36
    go_upto_region 1 with fail
    generalize w.alloc (.cells #[.bool u, .int .u16 k] 31) = W at r0 ab hfi ⊢
    obtain ⟨A0, HA0⟩ : ∃ A0, Hid (w.heap.size = A0) := ⟨_, rfl⟩
    rw [HA0.out] at r0 ⊢
    have tl : Hid (1 = 1) := rfl
    go_wp2_with (first
      | (have hh := tl; clear hh tl; refine load_cells rfl 31 (.tmp 4) rfl A0 rfl 31 #[.bool u, .int .u16 k] r0 2 Try.underlying31 rfl size31 rfl ?_)
      | (have hh := hfi; clear hh; go_at_call 56; refine Calls.mono hfi ?_; clear hfi; rintro e W1 ⟨he, hb⟩; obtain rfl := he; have ab := ab.trans (hb.mono ab.size); clear hb; ))
    first
      | go_end0
      | (refine bodyPost_ret (results_none rfl _ _ _) rfl ?_)
    rw [HPP.out, HE.out]
    exact ⟨rfl, CStep.same HC.out ab⟩
  | some i =>
    rw [where_some hp] at hfi
    simp only [Option.getD_some, Option.isSome_some] at hfi
    have hil := posF_lt hp
    obtain ⟨x, hx⟩ : ∃ x, s.ck[i]? = some x := ⟨_, List.getElem?_eq_getElem (by rw [ok.ck]; exact Nat.lt_of_lt_of_le hil ok.few)⟩
    have HE : Hid (coldS s u k b = { s with ck := s.ck.set i { x with cold := b } }) := by show coldS s u k b = _; unfold coldS setCold; rw [hp]; simp only [hx]
    have HUP : Hid (∀ W, CL W F gc gd gl gk ak s l d M N → Calls Try.prog 69 #[.pointer (some ⟨gk, 0, none⟩), .int .i64 i, .bool b] W fun e w' => e = .returned (.tuple #[]) ∧ CStep W F gc gd gl gk ak { s with ck := s.ck.set i { x with cold := b } } l d M N w') := fun W h => by
      obtain ⟨fv, m, n, vl, vs, L, cA, _⟩ := h.ex
      refine (Cl.cold_in cA.clk i x hx b).mono fun e w' q => ⟨q.1, ?_⟩
      exact h.clock q.2.1 q.2.2 (List.length_set ..)
    clear hp c ok hil hx
    go_enter Try.func36, Try.ntmps36
    go_upto_region 1 with fail
    generalize w.alloc (.cells #[.bool u, .int .u16 k] 31) = W at r0 ab hfi ⊢
    obtain ⟨A0, HA0⟩ : ∃ A0, Hid (w.heap.size = A0) := ⟨_, rfl⟩
    rw [HA0.out] at r0 ⊢
    have tl : Hid (1 = 1) := rfl
    go_wp2_with (first
      | (have hh := tl; clear hh tl; refine load_cells rfl 31 (.tmp 4) rfl A0 rfl 31 #[.bool u, .int .u16 k] r0 2 Try.underlying31 rfl size31 rfl ?_)
      | (have hh := hfi; clear hh; go_at_call 56; refine Calls.mono hfi ?_; clear hfi; rintro e W1 ⟨he, hb⟩; obtain rfl := he; have ab := ab.trans (hb.mono ab.size); clear hb; obtain ⟨fv1, m1, n1, vl1, vs1, L1, cA1, _⟩ := (HC.out.below ab).ex; have c2 : W1.cell? ⟨gc, 2, none⟩ = some (.pointer (some ⟨gk, 0, none⟩)) := row_at cA1.row 2 _ rfl; have hup := HUP.out W1 (HC.out.below ab))
      | (have hh := hup; clear hh; go_at_call 69; refine Calls.mono hup ?_; clear hup; rintro e W2 ⟨he, hst⟩; obtain rfl := he))
    first
      | go_end0
      | (refine bodyPost_ret (results_none rfl _ _ _) rfl ?_)
    rw [HPP.out, HE.out]
    exact ⟨rfl, CStep.ahead ab hst⟩
theorem payT_at (k no lsn : Int) (t : List Int) (h : t.length ≤ 209) (j : Nat) (hj : j < 3 ∨ 7 ≤ j) : (payT k no lsn t).getD j 0 = (headT k no lsn ++ t).getD j 0 := by
  have hl : (headT k no lsn ++ t).length ≤ 224 := by rw [List.length_append, headT_length]; omega
  unfold payT sealT
  rw [splice_getD _ _ _ _ (by rw [low_length, padT_length _ hl]; omega), low_length, padT_at _ hl]
  rcases hj with hj | hj
  · rw [if_pos hj]
  · rw [if_neg (by omega), if_neg (by omega)]
theorem head_kind (k no lsn : Int) (t : List Int) : (headT k no lsn ++ t).getD 0 0 = k % 256 := by
  rw [getD_left (by rw [headT_length]; omega)]
  unfold headT
  rw [getD_left (by simp [low_length]), getD_left (by simp [low_length]), getD_left (by simp [low_length]), low_getD _ _ _ (by decide)]
  simp
theorem head_no (k no lsn : Int) (t : List Int) (i : Nat) (hi : i < 2) : (headT k no lsn ++ t).getD (1 + i) 0 = no / 2 ^ (8 * i) % 256 := by
  rw [getD_left (by rw [headT_length]; omega)]
  unfold headT
  rw [getD_left (by simp [low_length]; omega), getD_left (by simp [low_length]; omega), getD_right (by simp [low_length]), low_length, low_getD _ _ _ (by omega)]
  rw [show 1 + i - 1 = i by omega]
theorem head_lsn (k no lsn : Int) (t : List Int) (i : Nat) (hi : i < 8) : (headT k no lsn ++ t).getD (7 + i) 0 = lsn / 2 ^ (8 * i) % 256 := by
  rw [getD_left (by rw [headT_length]; omega)]
  unfold headT
  have e : (low k 1 ++ low no 2 ++ low 0 4).length = 7 := by simp [low_length]
  rw [getD_right (by rw [e]; omega), e, low_getD _ _ _ (by omega)]
  rw [show 7 + i - 7 = i by omega]
theorem head_text (k no lsn : Int) (t : List Int) (i : Nat) : (headT k no lsn ++ t).getD (15 + i) 0 = t.getD i 0 := by
  rw [getD_right (by rw [headT_length]; omega), headT_length]
  rw [show 15 + i - 15 = i by omega]
theorem payT_lsn (k no lsn : Int) (t : List Int) (h : t.length ≤ 209) (hb : Bytes t) (hl : 0 ≤ lsn ∧ lsn ≤ 18446744073709551615) : getN (strOfNums (payT k no lsn t)) 7 8 = lsn := by
  refine getN_tx (payT_bytes k no lsn t hb) lsn hl.1 7 8 (by rw [payT_length _ _ _ _ h]; omega) (by omega) fun i hi => ?_
  rw [payT_at _ _ _ _ h _ (by omega), head_lsn _ _ _ _ _ hi]
theorem payT_no (k no lsn : Int) (t : List Int) (h : t.length ≤ 209) (hb : Bytes t) (hl : 0 ≤ no ∧ no ≤ 65535) : getN (strOfNums (payT k no lsn t)) 1 2 = no := by
  refine getN_tx (payT_bytes k no lsn t hb) no hl.1 1 2 (by rw [payT_length _ _ _ _ h]; omega) (by omega) fun i hi => ?_
  rw [payT_at _ _ _ _ h _ (by omega), head_no _ _ _ _ _ hi]
theorem data_ts (d : D) (i : Nat) (hi : i < 4) : (dataT d).getD i 0 = d.ts / 2 ^ (8 * i) % 256 := by
  unfold dataT
  rw [List.append_assoc, getD_left (by rw [low_length]; exact hi), low_getD _ _ _ hi]
theorem data_page (d : D) (i : Nat) (hi : i < 2) : (dataT d).getD (4 + i) 0 = d.page / 2 ^ (8 * i) % 256 := by
  unfold dataT
  rw [List.append_assoc, getD_right (by rw [low_length]; omega), low_length, show 4 + i - 4 = i by omega, getD_left (by rw [refT_length]; omega)]
  unfold refT
  rw [getD_left (by rw [low_length]; exact hi), low_getD _ _ _ hi]
theorem data_slot (d : D) : (dataT d).getD 6 0 = d.slot % 256 := by
  unfold dataT
  rw [List.append_assoc, getD_right (by rw [low_length]; omega), low_length, getD_left (by rw [refT_length]; omega)]
  unfold refT
  rw [getD_right (by rw [low_length]; omega), low_length, low_getD _ _ _ (by decide)]
  simp
theorem data_body (d : D) (i : Nat) : (dataT d).getD (7 + i) 0 = d.body.getD i 0 := by
  unfold dataT
  rw [getD_right (by simp [low_length, refT_length])]
  congr 1
  simp [low_length, refT_length]
theorem dOf_putD (no : Int) (d : D) (hd : d.Ok) : dOf (putD no d) = d := by
  obtain ⟨hlsn, hts, hpg, hsl, hbl, hby⟩ := hd
  have hl := dataT_length d hbl
  have hb := dataT_bytes d hby
  have hpl := putD_length no d hbl
  have hpb := putD_bytes no d hby
  have at15 : ∀ i, (putD no d).getD (15 + i) 0 = (dataT d).getD i 0 := fun i => by
    unfold putD
    rw [payT_at _ _ _ _ (by omega) _ (by omega), head_text]
  have e1 : getN (strOfNums (putD no d)) 7 8 = d.lsn := payT_lsn _ _ _ _ (by omega) hb hlsn
  have e2 : getN (strOfNums (putD no d)) 15 4 = d.ts := getN_tx hpb _ hts.1 15 4 (by omega) (by omega) fun i hi => by rw [at15, data_ts _ _ hi]
  have e3 : getN (strOfNums (putD no d)) 19 2 = d.page := getN_tx hpb _ hpg.1 19 2 (by omega) (by omega) fun i hi => by
    have := at15 (4 + i)
    rw [show 15 + (4 + i) = 19 + i by omega] at this
    rw [this, data_page _ _ hi]
  have e4 : getN (strOfNums (putD no d)) 21 1 = d.slot := getN_tx hpb _ hsl.1 21 1 (by omega) (by omega) fun i hi => by
    have := at15 6
    obtain rfl : i = 0 := by omega
    rw [show 21 + 0 = 15 + 6 by omega, this, data_slot]
    simp
  have e5 : ((putD no d).drop 22).take 64 = d.body := by
    apply list_ext _ _ 64 (by simp; omega) hbl
    intro i hi
    have := at15 (7 + i)
    rw [data_body] at this
    rw [← this]
    simp only [List.getD]
    rw [List.getElem?_take, if_pos hi, List.getElem?_drop]
    congr 2
    omega
  unfold dOf
  rw [e1, e2, e3, e4, e5]
theorem isD_putD (no : Int) (d : D) (hd : d.Ok) : isD no (putD no d) = true := by
  unfold isD; rw [dOf_putD no d hd]; simp
theorem putD_no (no : Int) (d : D) (hd : d.Ok) (hno : 0 ≤ no ∧ no ≤ 65535) : getN (strOfNums (putD no d)) 1 2 = no :=
  payT_no _ _ _ _ (by rw [dataT_length d hd.len]; omega) (dataT_bytes d hd.bytes) hno
theorem putD_kind (no : Int) (d : D) (hd : d.Ok) : (putD no d).getD 0 0 = 1 := by
  unfold putD
  rw [payT_at _ _ _ _ (by rw [dataT_length d hd.len]; omega) _ (by omega), head_kind]
  rfl
theorem putD_inj (no on : Int) (a b : D) (ha : a.Ok) (hb : b.Ok) (h1 : 0 ≤ no ∧ no ≤ 65535) (h2 : 0 ≤ on ∧ on ≤ 65535) (h : putD no a = putD on b) : no = on ∧ a = b := by
  refine ⟨?_, ?_⟩
  · rw [← putD_no no a ha h1, h, putD_no on b hb h2]
  · rw [← dOf_putD no a ha, h, dOf_putD on b hb]
theorem isD_other (no on : Int) (d : D) (hd : d.Ok) (h1 : 0 ≤ no ∧ no ≤ 65535) (h2 : 0 ≤ on ∧ on ≤ 65535) : isD on (putD no d) = decide (no = on) := by
  unfold isD
  rw [dOf_putD no d hd]
  apply decide_eq_decide.2
  constructor
  · intro h; exact ((putD_inj on no d d hd hd h2 h1 h).1).symm
  · intro h; rw [h]
instance : DecidableEq D := fun a b => by
  cases a; cases b
  simp only [D.mk.injEq]
  exact inferInstance
theorem built31 (no : Int) : (Try.prog.built 31 [(1, .int .u16 no)]) = some #[.bool false, .int .u16 no] := by kernel_rfl
set_option maxHeartbeats 1000000 in
theorem blank_data (no : Int) (w : World) (hno : 0 ≤ no ∧ no ≤ 65535) :
    Calls Try.prog 15 #[.agg #[.bool false, .int .u16 no]] w fun e w' => e = .returned (.agg (bs (putD no D.zero))) ∧ Below w.heap.size w w' := by
  have hz := zero34
  have r0 : Row ((w.alloc (.cells #[.bool false, .int .u16 no] 31)).alloc (.cells (bs (zs 224)) 34)) w.heap.size #[.bool false, .int .u16 no] 31 := (Row.new _ _ _).alloc _
  have r1 : Row ((w.alloc (.cells #[.bool false, .int .u16 no] 31)).alloc (.cells (bs (zs 224)) 34)) (w.heap.size + 1) (bs (zs 224)) 34 := by have := Row.new (w.alloc (.cells #[.bool false, .int .u16 no] 31)) (bs (zs 224)) 34; simpa using this
  have ab : Below w.heap.size w ((w.alloc (.cells #[.bool false, .int .u16 no] 31)).alloc (.cells (bs (zs 224)) 34)) := ((Below.refl _ _).alloc (Nat.le_refl _) _).alloc (by simp) _
  have HP : Hid _ := fun w => putData_any no D.zero w hno D.zero_ok
  have hlen := putD_length no D.zero (zs_length _)
  obtain ⟨R, HR⟩ : ∃ R, Hid (putD no D.zero = R) := ⟨_, rfl⟩
  rw [HR.out] at HP hlen ⊢
  have c0 := row_at r0 0 _ rfl
  have c1 := row_at r0 1 _ rfl
  go_enter Try.func15, Try.ntmps15
  go_upto_region 1 with fail
  generalize (w.alloc (.cells #[.bool false, .int .u16 no] 31)).alloc (.cells (bs (zs 224)) 34) = w1 at r0 r1 ab c0 c1 ⊢
  go_wp2_with (first
    | (refine build_none rfl 109 rfl _ built109 ?_)
    | (go_at_call 44; refine (HP.out _).mono ?_; clear HP; rintro e w3 ⟨rfl, h3⟩)
    | (refine store_row rfl 34 (.tmp 2) (.tmp 18) rfl (w.heap.size + 1) R rfl rfl 34 _ (r1.below h3 r1.lt) 224 size34 (by rw [bs_size, zs_length]) hlen ?_))
  refine bodyPost_ret (v := .agg (bs R)) ?_ rfl ⟨rfl, below_setRow (ab.trans (h3.mono ab.size)) (by omega) _⟩
  exact ret_row (fn := Try.f15) rfl _ _ (w.heap.size + 1) 34 (bs R) 224 5 rfl ((r1.below h3 r1.lt).set _) Try.underlying34 size34 (by rw [bs_size, hlen])
theorem gotD_ok (no : Int) (p : List Int) (hp : p.length = 224) (hb : Bytes p) : (gotD no p).Ok := by
  unfold gotD; split
  · exact dOf_ok p hp hb
  · exact D.zero_ok
set_option maxHeartbeats 1000000 in
theorem right_data (no : Int) (p : List Int) (w : World) (hno : 0 ≤ no ∧ no ≤ 65535) (hp : p.length = 224) (hb : Bytes p) :
    Calls Try.prog 53 #[.agg #[.bool false, .int .u16 no], .agg (bs p)] w fun e w' => e = .returned (.bool (isD no p)) ∧ Below w.heap.size w w' := by
  have hz := zero109
  have r0 : Row ((w.alloc (.cells #[.bool false, .int .u16 no] 31)).alloc (.cells (bs p) 34)) w.heap.size #[.bool false, .int .u16 no] 31 := (Row.new _ _ _).alloc _
  have r1 : Row ((w.alloc (.cells #[.bool false, .int .u16 no] 31)).alloc (.cells (bs p) 34)) (w.heap.size + 1) (bs p) 34 := by have := Row.new (w.alloc (.cells #[.bool false, .int .u16 no] 31)) (bs p) 34; simpa using this
  have ab : Below w.heap.size w ((w.alloc (.cells #[.bool false, .int .u16 no] 31)).alloc (.cells (bs p) 34)) := ((Below.refl _ _).alloc (Nat.le_refl _) _).alloc (by simp) _
  have HP : Hid _ := fun w => getData_any no p w hno hp hb
  have hok := gotD_ok no p hp hb
  have hsz := D.arr_size (gotD no p) hok.len
  have hone := D.arr_one (gotD no p)
  have HE : Hid (errD no p = 0 ↔ isD no p = true) := by
    show _ ↔ _
    unfold errD
    split <;> simp_all
  obtain ⟨X, HX⟩ : ∃ R, Hid ((gotD no p).arr = R) := ⟨_, rfl⟩
  obtain ⟨E, HEE⟩ : ∃ R, Hid (errD no p = R) := ⟨_, rfl⟩
  rw [HX.out] at HP hsz hone
  rw [HEE.out] at HP HE
  have HB : Hid ((E == 0) = isD no p) := by
    show _ = _
    rw [Bool.eq_iff_iff, ← HE.out]; simp
  have hpb : (bs p).size = 224 := by rw [bs_size, hp]
  have c0 := row_at r0 0 _ rfl
  have c1 := row_at r0 1 _ rfl
  go_enter Try.func53, Try.ntmps53
  go_upto_region 1 with fail
  generalize (w.alloc (.cells #[.bool false, .int .u16 no] 31)).alloc (.cells (bs p) 34) = w1 at r0 r1 ab c0 c1 ⊢
  go_wp2_with (first
    | (refine load_row rfl 34 (.tmp 3) rfl (w.heap.size + 1) rfl 34 (bs p) r1 224 5 Try.underlying34 size34 hpb ?_)
    | (go_at_call 83; refine (HP.out _).mono ?_; clear HP; rintro e w3 ⟨rfl, h3⟩
       have q3 : Row (w3.alloc (.cells D.zero.arr 109)) w3.heap.size D.zero.arr 109 := Row.new _ _ _)
    | (refine store_cells rfl 109 (.tmp 7) (.tmp 25) rfl w3.heap.size X rfl rfl 109 _ q3 68 size109 rfl hsz hone ?_))
  have b3 : Below w.heap.size w w3 := ab.trans (h3.mono ab.size)
  go_ret
  exact ⟨ret_bool HB.out, below_setRow (b3.alloc b3.size _) b3.size _⟩
end Go.Proofs.Ytehogiondcpbcaa
