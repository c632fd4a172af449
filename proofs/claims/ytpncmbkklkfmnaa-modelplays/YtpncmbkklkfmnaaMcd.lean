/-
  Proved here: a commit that is done gives each page that was written a version.
-/
import Derived.Test.YtpncmbkklkfmnaaMcp
namespace Go.Proofs.Ytpncmbkklkfmnaa
open Go.ChangeShapes Go.WideShapes Go.ChangeAt Go.RowKit
open Go.Deep Go.Maps
set_option linter.unusedVariables false
set_option linter.unusedSimpArgs false
set_option maxRecDepth 20000


theorem info_parts {P : Program} {t : TypeId} {z : Option Value} {n b : Nat} (h : (P.info? t).map (fun i => (i.zero, i.size, i.bytes)) = some (z, n, b)) : ∃ i, P.info? t = some i ∧ i.zero = z ∧ i.size = n ∧ i.bytes = b := by
  cases q : P.info? t with
  | none => simp [q] at h
  | some i =>
    simp [q] at h
    exact ⟨i, rfl, h.1, h.2.1, h.2.2⟩
theorem step_of {P : Program} {ops : Array Oper} {o : Oper} {a : Act} {w : World} {K : Act → World → Prop} {Q : Exit → Act → World → Prop} {E : Prop} (hgd : o.guard = none) (h : Oper.wp P o a w K Q) :
    if Region.wanted o (yielded ops a.tmps) = true then Oper.wp P o a w K Q else E := by
  have hw : Region.wanted o (yielded ops a.tmps) = true := by simp [Region.wanted, hgd]
  rw [if_pos hw]; exact h
theorem info44 : (Try.prog.info? 44).map (fun i => (i.zero, i.size, i.bytes)) = some (some (.agg Ver.zero.arr), 65, 68) := by kernel_rfl
theorem wp_ver_one {o : Oper} {a : Act} {w : World} {K : Act → World → Prop} {Q : Exit → Act → World → Prop} (x : Operand) (ho : o.op = .buildSlice 59 1 #[(0, x)]) (va : Array Value) (hb : va.size = 65) (hx : a.eval x = .agg va)
    (h : K (a.put o.dst (.slice (some ⟨w.heap.size, 0, none⟩) 1 1)) (w.alloc (.cells va 44))) : Oper.wp Try.prog o a w K Q := by
  obtain ⟨i, hi, hz, hs, _⟩ := info_parts info44
  refine wp_buildSlice 59 44 1 _ ho va i _ Try.underlying59 hi hz (by rw [hs]; decide) (by rw [hs]; decide) ?_ h
  have e1 : (#[(0, x)].map fun (i, x) => (i, a.eval x)).toList = [(0, .agg va)] := by simp [hx]
  rw [e1, fill_step _ _ 0 (.agg va) _ 0 65 (by simp [hs]) (by show va.size = 65; exact hb) (by simp [hs])]
  unfold Instr.fill
  congr 1
  show (⟨splice _ 0 va.toList⟩ : Array Value) = va
  unfold splice
  rw [List.take_zero, List.nil_append, Array.length_toList, hb, List.drop_of_length_le (by simp [hs]), List.append_nil]
set_option maxHeartbeats 4000000 in
theorem commit_done {w : World} {F : Nat → Prop} {g : Nat} {m : M} (c : MA w F g m) (start : Int) (h0 : 0 ≤ start) (h1 : start ≤ 4294967295) (mb : Nat) (ws : List (Int × List Int)) (hws : WsOk m.ps.length ws) (own : w.ownsMap Try.prog 33 wrR mb ws.length (setD ws)) (hn : ws ≠ []) (hlm : ¬ m.last = m.max) (hcl : ¬ clash m.abs start ws = true) :
    Calls Try.prog 30 #[.pointer (some ⟨g, 0, none⟩), .agg #[.int .u32 start, .map (some mb)]] w fun r w' => r = .returned (.agg (Rep.mk 0 0 (m.last + 1) (zs 64)).arr) ∧ Went w F g (commitS m.abs start ws) w' := by
  have hz40 := zero40
  have HZS : Hid (Rep.zero.arr.size = 67) := rz
  generalize Rep.zero.arr = Z at hz40 HZS
  have HSZ : Hid (Maps.size (setD ws) = ws.length) := setD_size ws
  have HCC : Hid (MA w F g m) := c
  have ab : Below w.heap.size w (w.alloc (.cells #[.int .u32 start, .map (some mb)] 70)) := (Below.refl _ _).alloc (Nat.le_refl _) _
  have rx : Row (w.alloc (.cells #[.int .u32 start, .map (some mb)] 70)) w.heap.size #[.int .u32 start, .map (some mb)] 70 := Row.new _ _ _
  have e1 : (w.alloc (.cells #[.int .u32 start, .map (some mb)] 70)).heap.size = w.heap.size + 1 := Array.size_push ..
  have ab1 : Below w.heap.size w ((w.alloc (.cells #[.int .u32 start, .map (some mb)] 70)).alloc (.cells Z 40)) := ab.alloc ab.size _
  have r40 : Row ((w.alloc (.cells #[.int .u32 start, .map (some mb)] 70)).alloc (.cells Z 40)) (w.alloc (.cells #[.int .u32 start, .map (some mb)] 70)).heap.size Z 40 := Row.new _ _ _
  have rx1 := rx.alloc (.cells Z 40)
  rw [e1] at r40
  have own1 := ownsMap_off (F := fun _ => False) own (Off.of_below ab1) (fun q => q)
  have HOWN : Hid (w.ownsMap Try.prog 33 wrR mb ws.length (setD ws)) := own
  obtain ⟨PP, HPP⟩ : ∃ PP : Ending → World → Prop, Hid (PP = fun r w' => r = .returned (.agg (Rep.mk 0 0 (m.last + 1) (zs 64)).arr) ∧ Went w F g (commitS m.abs start ws) w') := ⟨_, rfl⟩
  rw [← HPP.out]
  clear c rx ab e1 own
  go_enter Try.func30, Try.ntmps30
  go_upto_region 1 with fail
  generalize (w.alloc (.cells #[.int .u32 start, .map (some mb)] 70)).alloc (.cells Z 40) = W at ab1 r40 rx1 own1 ⊢
  obtain ⟨A0, HA0⟩ : ∃ A0, Hid (w.heap.size = A0) := ⟨_, rfl⟩
  rw [HA0.out] at r40 rx1 ⊢
  have x0 := row_at rx1 0 _ rfl
  have x1 := row_at rx1 1 _ rfl
  have hl : ¬ (ws.length : Int) = 0 := by
    intro q
    exact hn (List.eq_nil_of_length_eq_zero (by omega))
  have hlb : ((ws.length : Int) == 0) = false := by simpa using hl
  have hmb : (m.last == m.max) = false := by simpa using hlm
  have C1 := HCC.out.below ab1
  have d1 := C1.at_.c1
  have d2 := C1.at_.c2
  have HL0 : Hid (0 ≤ m.last) := HCC.out.ok.lo
  have HMX : Hid (m.last < m.max ∧ m.max ≤ 4294967295) := ⟨by have := HCC.out.ok.hi; simp only [M.abs] at this; omega, HCC.out.ok.mx⟩
  have HCL : Hid (¬ clash m.abs start ws = true) := hcl
  have HWS : Hid (WsOk m.ps.length ws) := hws
  have HNE : Hid (ws ≠ []) := hn
  have HLM : Hid (¬ m.last = m.max) := hlm
  have HBT : Hid (Try.prog.built 40 [(2, .int .u32 (m.last + 1))] = some (Rep.mk 0 0 (m.last + 1) (zs 64)).arr) := built40_ts _
  have HFS : Hid ((Rep.mk 0 0 (m.last + 1) (zs 64)).arr.size = 67) := Rep.arr_size (zs_length _)
  have fo := (Rep.mk 0 0 (m.last + 1) (zs 64)).one
  obtain ⟨FA, HFA⟩ : ∃ FA, Hid ((Rep.mk 0 0 (m.last + 1) (zs 64)).arr = FA) := ⟨_, rfl⟩
  rw [HFA.out] at HBT HFS fo
  clear C1 hlm hl hcl hws hn
  go_upto_region 3 with (at_len; refine wpList_len_own _ rfl _ 68 rfl 33 38 Try.underlying68 _ mb _ _ rfl own1 ?_; rw [HSZ.out])
  have abd : Below w.heap.size w W.drew := ab1.drew
  have r40d : Row W.drew (A0 + 1) Z 40 := r40
  have rxd : Row W.drew A0 #[.int .u32 start, .map (some mb)] 70 := rx1
  have ownd : W.drew.ownsMap Try.prog 33 wrR mb ws.length (setD ws) := own1.drew
  go_region
  clear d1 d2 x0 x1 own1 rx1 r40 ab1
  generalize W.drew = W2 at abd r40d rxd ownd ⊢
  have x1 := row_at rxd 1 _ rfl
  go_upto_region 6 with (at_range; refine wpList_range_own _ rfl _ 68 rfl 33 38 lawK Try.underlying68 _ mb _ _ rfl ownd ?_; intro w0 hrg0 hg0 hs0)
  go_frame
  have B0 : Below w.heap.size w w0 := abd.grown hg0 abd.size (fun j hj => by cases hj)
  have rx0 : Row w0 A0 #[.int .u32 start, .map (some mb)] 70 := rxd.off (F := fun _ => False) (Off.of_grown hg0 (fun k hk => by cases hk)) (fun q => q)
  have r400 : Row w0 (A0 + 1) Z 40 := r40d.off (F := fun _ => False) (Off.of_grown hg0 (fun k hk => by cases hk)) (fun q => q)
  obtain ⟨it, HIT⟩ : ∃ it, Hid (W2.heap.size = it) := ⟨_, rfl⟩
  have hitw : w.heap.size ≤ it := by rw [← HIT.out]; exact abd.size
  have hitA : A0 + 1 < it := by rw [← HIT.out]; exact r40d.lt
  rw [HIT.out] at hrg0 ⊢
  clear hs0 hg0 x1 ownd rxd r40d abd
  go_loopw [5] (fun _ wr => ∃ (left : Lit → Bool) (cnt : Nat), wr.ranges Try.prog 33 wrR mb it ws.length (setD ws) left cnt ∧ Row wr A0 #[.int .u32 start, .map (some mb)] 70 ∧ Row wr (A0 + 1) Z 40 ∧ Below w.heap.size w wr) (fun _ wr => wr.rangeLeft mb it)
  case atStart => exact ⟨_, _, hrg0, rx0, r400, B0⟩
  case round =>
    clear hrg0 rx0 r400 B0
    obtain ⟨left, cnt, hrg, rx, r40, rb⟩ := hrel
    go_wp2_with (at_next; refine wpList_next_ranges _ rfl _ rfl 33 lawK wrR (Value.int .u16) (fun xs : List Int => Value.agg (bs xs)) (fun key kl hk => by obtain ⟨x, rfl, _⟩ := Maps.keyOf_int_inv Try.underlying33 hk; exact ⟨x, rfl⟩) (fun v y hv => by obtain ⟨xs, _, rfl, _⟩ := wrR_inv hv; exact ⟨xs, rfl⟩) mb it _ _ _ _ rfl hrg ?_ ?_)
    · intro hc0 hl0
      clear hc0 hl0
      have C := HCC.out.below rb
      have e2 := C.at_.c2
      have f2 := row_frozen C.at_.row 2
      have hw32 : IntKind.u32.wrap (m.last + 1) = m.last + 1 := by have := HL0.out; have := HMX.out; rw [IntKind.wrap_u32]; omega
      have G0 : Off (· = g) wr (wr.setCell ⟨g, 2, none⟩ (.int .u32 (m.last + 1))) := Off.of_setCell _ _ _ rfl
      have HPG0 : Hid (Paged w F g m ws (fun k => Maps.has (setD ws) k) (wr.setCell ⟨g, 2, none⟩ (.int .u32 (m.last + 1)))) := Paged.start HCC.out rb HMX.out.1 HWS.out rfl
      have hA0g : A0 ≠ g := ne_types (row_is rx) C.at_.kg (by decide)
      have hA1g : A0 + 1 ≠ g := ne_types (row_is r40) C.at_.kg (by decide)
      have rxb : Row (wr.setCell ⟨g, 2, none⟩ (.int .u32 (m.last + 1))) A0 #[.int .u32 start, .map (some mb)] 70 := rx.off G0 hA0g
      have r40b : Row (wr.setCell ⟨g, 2, none⟩ (.int .u32 (m.last + 1))) (A0 + 1) Z 40 := r40.off G0 hA1g
      have ownb : (wr.setCell ⟨g, 2, none⟩ (.int .u32 (m.last + 1))).ownsMap Try.prog 33 wrR mb ws.length (setD ws) := ownsMap_off hrg.owns G0 (fun q => by have := ne_map C.at_.kg (map_is hrg.owns); exact this q.symm)
      clear hrg C rx r40 rb G0
      go_upto_region 11 with fail
      generalize wr.setCell ⟨g, 2, none⟩ (.int .u32 (m.last + 1)) = W3 at HPG0 rxb r40b ownb ⊢
      clear e2 f2 hw32
      have x1 := row_at rxb 1 _ rfl
      go_upto_region 12 with (at_range; refine wpList_range_own _ rfl _ 68 rfl 33 38 lawK Try.underlying68 _ mb _ _ rfl ownb ?_; intro w0 hrg0 hg0 hs0)
      go_frame
      have B0 : Below W3.heap.size W3 w0 := (Below.refl _ _).grown hg0 (Nat.le_refl _) (fun j hj => by cases hj)
      have rx0 : Row w0 A0 #[.int .u32 start, .map (some mb)] 70 := rxb.off (F := fun _ => False) (Off.of_below B0) (fun q => q)
      have r400 : Row w0 (A0 + 1) Z 40 := r40b.off (F := fun _ => False) (Off.of_below B0) (fun q => q)
      have HPG1 : Hid (Paged w F g m ws (fun k => Maps.has (setD ws) k) w0) := Paged.below HPG0.out B0
      obtain ⟨it2, HIT2⟩ : ∃ it2, Hid (W3.heap.size = it2) := ⟨_, rfl⟩
      have hit2w : w.heap.size ≤ it2 := by rw [← HIT2.out]; exact HPG0.out.1.size
      have hit2A : A0 + 1 < it2 := by rw [← HIT2.out]; exact r40b.lt
      rw [HIT2.out] at hrg0 ⊢
      clear hs0 hg0 x1 ownb rxb r40b HPG0 B0
      rename World => wo
      go_loopw [6, 7] (fun _ _ wr => ∃ (left : Lit → Bool) (cnt : Nat), wr.ranges Try.prog 33 wrR mb it2 ws.length (setD ws) left cnt ∧ Row wr A0 #[.int .u32 start, .map (some mb)] 70 ∧ Row wr (A0 + 1) Z 40 ∧ Hid (Paged w F g m ws left wr)) (fun _ _ wr => wr.rangeLeft mb it2)
      case atStart => exact ⟨_, _, hrg0, rx0, r400, HPG1⟩
      case round =>
        clear hrg0 rx0 r400 HPG1
        obtain ⟨left, cnt, hrg, rx, r40, HPG⟩ := hrel
        go_wp2_with (at_next; refine wpList_next_ranges _ rfl _ rfl 33 lawK wrR (Value.int .u16) (fun xs : List Int => Value.agg (bs xs)) (fun key kl hk => by obtain ⟨x, rfl, _⟩ := Maps.keyOf_int_inv Try.underlying33 hk; exact ⟨x, rfl⟩) (fun v y hv => by obtain ⟨xs, _, rfl, _⟩ := wrR_inv hv; exact ⟨xs, rfl⟩) mb it2 _ _ _ _ rfl hrg ?_ ?_)
        · intro hc0 hl0
          have HWE : Hid (Went w F g (commitS m.abs start ws) wr ∧ Row wr g (M.cells { m with last := m.last + 1 }) 58) := by
            refine ⟨Paged.done HPG.out hl0 start HNE.out HLM.out HCL.out, ?_⟩
            obtain ⟨_, _, ps, c, e, _⟩ := HPG.out
            have h := c.at_.row
            have e2 : ps.length = m.ps.length := by have := congrArg List.length e; rw [moreL_length] at this; simpa using this
            have e3 : M.cells { m with last := m.last + 1, ps := ps } = M.cells { m with last := m.last + 1 } := by simp [M.cells, e2]
            rw [← e3]; exact h
          have e2 := row_at HWE.out.2 2 _ rfl
          have HPD := HPG.out.row (row_is r40) (by decide) (Off.of_setRow wr (A0 + 1) FA rfl) (by rw [HA0.out]; exact Nat.le_succ _)
          have HWD : Hid (Went w F g (commitS m.abs start ws) (wr.setRow (A0 + 1) FA)) := HPD.done hl0 start HNE.out HLM.out HCL.out
          clear hc0 hl0 hrg HPD HWE HPG
          have tb : Hid (1 = 1) := rfl
          have ts : Hid (1 = 1) := rfl
          have bu := HBT.out
          go_wp2_with (first
            | (have hh := tb; clear hh tb; refine build_cells rfl 40 #[(2, .tmp 83)] rfl _ rfl FA bu ?_)
            | (have hh := ts; clear hh ts; refine store_cells rfl 40 (.tmp 4) (.tmp 84) rfl (A0 + 1) FA rfl rfl 40 _ r40 67 size40 HZS.out HFS.out fo ?_))
          refine bodyPost_ret (v := .agg FA) (ret_cell (fn := Try.f30) rfl _ _ (A0 + 1) 40 FA _ rfl (r40.set _) Try.underlying40 rfl (by rw [size40, HFS.out])) rfl ?_
          rw [HPP.out]
          exact ⟨by rw [HFA.out], HWD.out⟩
        · intro x cc kl yd yp w2 cnt2 hkey hlk hv hat0 hrg2 hlt hg2 hs2 hen
          obtain ⟨x', ex, rfl, hwx⟩ := Maps.keyOf_int_inv Try.underlying33 hkey
          cases ex
          obtain ⟨xs, hxw, exs, eyd⟩ := wrR_inv hv
          have hcc : cc = xs := bs_inj (by have q : Value.agg (bs cc) = Value.agg (bs xs) := exs; injection q)
          subst hcc
          have hmem : (x, cc) ∈ ws := setD_mem (fun z => by rw [hat0 z]; cases eyd; rfl)
          have hx := (HWS.out.wr _ hmem).2
          obtain ⟨k, rfl⟩ : ∃ k : Nat, x = (k : Int) := ⟨x.toNat, by simp only at hx; omega⟩
          have hkl : k < m.ps.length := by simp only at hx; omega
          have O2 : Off (· = it2) wr w2 := Off.of_grown hg2 (fun j hj => by cases hj; rfl)
          have rx2 : Row w2 A0 #[.int .u32 start, .map (some mb)] 70 := rx.off O2 (by omega)
          have r402 : Row w2 (A0 + 1) Z 40 := r40.off O2 (by omega)
          have HP2 : Hid (Paged w F g m ws left w2) := Paged.iter HPG.out hrg O2 hit2w
          have HMS : Hid (w2.rangeLeft mb it2 < wr.rangeLeft mb it2) := by rw [hrg2.left_eq, hrg.left_eq]; exact hlt
          have HMEM : Hid (((k : Int), cc) ∈ ws) := hmem
          have HLK : Hid (left (.int .u16 (k : Int)) = true) := hlk
          obtain ⟨left2, HL2⟩ : ∃ left2 : Lit → Bool, Hid (left2 = fun z => left z && !z.sameKey (.int .u16 (k : Int))) := ⟨_, rfl⟩
          rw [← HL2.out] at hrg2
          have HXL : Hid (cc.length = 64) := hxw.1
          clear hs2 hat0 hlk hlt hkey hv hmem hx hxw exs eyd hg2 O2 rx r40 hrg hwx HPG
          have hz38 := zero38
          have HZ8 : Hid ((bs (zs 64)).size = 64) := by rw [bs_size]; exact zs_length _
          obtain ⟨Z8, HZZ⟩ : ∃ Z8, Hid (bs (zs 64) = Z8) := ⟨_, rfl⟩
          rw [HZZ.out] at hz38 HZ8
          have a38 : Below w2.heap.size w2 (w2.alloc (.cells Z8 38)) := (Below.refl _ _).alloc (Nat.le_refl _) _
          have q38 : Row (w2.alloc (.cells Z8 38)) w2.heap.size Z8 38 := Row.new _ _ _
          obtain ⟨N, HNN⟩ : ∃ N, Hid (w2.heap.size = N) := ⟨_, rfl⟩
          rw [HNN.out] at q38
          have b38 : Below w2.heap.size w2 ((w2.alloc (.cells Z8 38)).setRow N (bs cc)) := below_setRow a38 (by rw [HNN.out]; exact Nat.le_refl _) _
          have r38 : Row ((w2.alloc (.cells Z8 38)).setRow N (bs cc)) N (bs cc) 38 := q38.set _
          have hxone := bs_one cc
          have HCS : Hid ((bs cc).size = 64) := by rw [bs_size]; exact HXL.out
          have rx3 := rx2.below b38 rx2.lt
          have r403 := r402.below b38 r402.lt
          have hrg3 := ranges_below hrg2 b38
          have HP3 : Hid (Paged w F g m ws left ((w2.alloc (.cells Z8 38)).setRow N (bs cc))) := Paged.below HP2.out b38
          have HMS3 : Hid (((w2.alloc (.cells Z8 38)).setRow N (bs cc)).rangeLeft mb it2 < wr.rangeLeft mb it2) := by
            have := HMS.out
            rw [hrg2.left_eq] at this
            rw [hrg3.left_eq]; exact this
          clear HMS HP2 rx2 r402 hrg2 b38 a38
          have t8 : Hid (1 = 1) := rfl
          go_upto_region 14 with (have hh := t8; clear hh t8; rw [HNN.out]; refine store_cells rfl 38 (.tmp 7) (.tmp 58) rfl N (bs cc) rfl rfl 38 _ q38 64 size38 HZ8.out HCS.out hxone ?_)
          clear q38 hz38 hen
          generalize (w2.alloc (.cells Z8 38)).setRow N (bs cc) = W4 at r38 rx3 r403 hrg3 HP3 HMS3 ⊢
          obtain ⟨o4, F4, ps, c4, e4, hF4⟩ := HP3.out
          have c4d := c4.below (below_drew W4)
          have HC4 : Hid (MA W4.drew F4 g ({ m with last := m.last + 1, ps := ps } : M)) := c4d
          have HO4 : Hid (Off F w W4.drew) := o4.drew
          have HE4 : Hid (ps.map Pg.vs = moreL (m.ps.map Pg.vs) ws (m.last + 1) left) := e4
          have HF4 : Hid (∀ k, k < w.heap.size → F4 k → F k) := hF4
          have hpl : ps.length = m.ps.length := by have := congrArg List.length e4; rw [moreL_length] at this; simpa using this
          obtain ⟨p, hp⟩ : ∃ p, ps[k]? = some p := ⟨_, List.getElem?_eq_getElem (by omega)⟩
          have HP : Hid (ps[k]? = some p) := hp
          obtain ⟨n, HN⟩ : ∃ n, Hid (ps.length = n) := ⟨_, rfl⟩
          have hn16 : n ≤ 16 := by have := c4.ok.n1; simp only [M.abs, List.length_map] at this; rw [← HN.out]; exact this
          have hkn : (k : Int) < (n : Int) := by rw [← HN.out]; omega
          have hp4 : W4.drew.ownsRow 0 59 1 (.slice (some ⟨m.pb, 0, none⟩) n m.pcap) n (ps.map Pg.val) := by have := c4d.at_.prow; simp only [HN.out] at this; exact this
          have HPC : Hid (∀ W : World, W.ownsRow 0 59 1 (.slice (some ⟨m.pb, 0, none⟩) n m.pcap) n (ps.map Pg.val) → W.cell? ⟨m.pb, k, none⟩ = some p.val) := fun W h => by
            have hkn' : k < n * 1 := by omega
            rw [h.cellAt k hkn', List.getElem?_map, HP.out]; rfl
          have HC0 : Hid (∀ W : World, Row W g (M.cells ({ m with last := m.last + 1, ps := ps } : M)) 58 → W.cell? ⟨g, 0, none⟩ = some (.slice (some ⟨m.pb, 0, none⟩) n m.pcap)) := fun W h => by
            have e : (M.cells ({ m with last := m.last + 1, ps := ps } : M))[0]? = some (.slice (some ⟨m.pb, 0, none⟩) n m.pcap) := by rw [← HN.out]; rfl
            exact row_at h 0 _ e
          have HBU : Hid (Try.prog.built 44 [(0, .int .u32 (m.last + 1)), (1, .agg (bs cc))] = some (Ver.mk (m.last + 1) cc).arr) := built44_two _ _ HXL.out
          have HVO : Hid (Ver.Ok ⟨m.last + 1, cc⟩) := ⟨by show (0 : Int) ≤ m.last + 1; have := HL0.out; omega, by show m.last + 1 ≤ 4294967295; have := HMX.out; omega, (HWS.out.wr _ HMEM.out).1⟩
          have HVS : Hid ((Ver.mk (m.last + 1) cc).arr.size = 65) := Ver.arr_size HVO.out
          obtain ⟨VA, HVA⟩ : ∃ VA, Hid ((Ver.mk (m.last + 1) cc).arr = VA) := ⟨_, rfl⟩
          rw [HVA.out] at HBU HVS
          clear c4 o4 e4 hF4 hpl hp HP3
          refine wp_region_last (S := fun w' => Row w' g (M.cells ({ m with last := m.last + 1, ps := ps } : M)) 58 ∧ w'.ownsRow 0 59 1 (.slice (some ⟨m.pb, 0, none⟩) n m.pcap) n (ps.map Pg.val) ∧ Row w' N (bs cc) 38) 21 (by kernel_rfl) ⟨c4d.at_.row, hp4, r38⟩ fun hS => ?_
          refine wpAnyL_take (i := 0) (v := .pointer (some ⟨g, 0, none⟩)) rfl (by kernel_rfl) (by kernel_rfl) (by kernel_rfl) (by kernel_rfl) (fun _ _ _ h => h) (Or.inl ⟨by rfl, fun w _ => by rfl⟩) hS ?_
          try simp only [Act.put, List.getElem_toArray, List.getElem_cons_zero, List.getElem_cons_succ, List.setIfInBounds_toArray, List.set_cons_zero, List.set_cons_succ]
          refine wpAnyL_take (i := 1) (v := .pointer (some ⟨g, 0, none⟩)) rfl (by kernel_rfl) (by kernel_rfl) (by kernel_rfl) (by kernel_rfl) (fun _ _ _ h => h) (Or.inl ⟨by rfl, fun w _ => by go_simp⟩) hS ?_
          try simp only [Act.put, List.getElem_toArray, List.getElem_cons_zero, List.getElem_cons_succ, List.setIfInBounds_toArray, List.set_cons_zero, List.set_cons_succ]
          refine wpAnyL_take (i := 2) (v := .pointer (some ⟨g, 0, none⟩)) rfl (by kernel_rfl) (by kernel_rfl) (by kernel_rfl) (by kernel_rfl) (fun _ _ _ h => h) (Or.inl ⟨by rfl, fun w _ => by go_simp⟩) hS ?_
          try simp only [Act.put, List.getElem_toArray, List.getElem_cons_zero, List.getElem_cons_succ, List.setIfInBounds_toArray, List.set_cons_zero, List.set_cons_succ]
          refine wpAnyL_take (i := 3) (v := .slice (some ⟨m.pb, 0, none⟩) n m.pcap) rfl (by kernel_rfl) (by kernel_rfl) (by kernel_rfl) (by kernel_rfl) (fun _ _ _ h => h) (Or.inl ⟨by rfl, fun w h => by have c : w.cell? ⟨g, 0, none⟩ = some (.slice (some ⟨m.pb, 0, none⟩) n m.pcap) := HC0.out w h.1; go_simp⟩) hS ?_
          try simp only [Act.put, List.getElem_toArray, List.getElem_cons_zero, List.getElem_cons_succ, List.setIfInBounds_toArray, List.set_cons_zero, List.set_cons_succ]
          refine wpAnyL_take (i := 4) (v := .int .u16 (k : Int)) rfl (by kernel_rfl) (by kernel_rfl) (by kernel_rfl) (by kernel_rfl) (fun _ _ _ h => h) (Or.inl ⟨by rfl, fun w _ => by rfl⟩) hS ?_
          try simp only [Act.put, List.getElem_toArray, List.getElem_cons_zero, List.getElem_cons_succ, List.setIfInBounds_toArray, List.set_cons_zero, List.set_cons_succ]
          refine wpAnyL_take (i := 5) (v := .pointer (some ⟨g, 0, none⟩)) rfl (by kernel_rfl) (by kernel_rfl) (by kernel_rfl) (by kernel_rfl) (fun _ _ _ h => h) (Or.inl ⟨by rfl, fun w _ => by rfl⟩) hS ?_
          try simp only [Act.put, List.getElem_toArray, List.getElem_cons_zero, List.getElem_cons_succ, List.setIfInBounds_toArray, List.set_cons_zero, List.set_cons_succ]
          refine wpAnyL_take (i := 6) (v := .pointer (some ⟨g, 0, none⟩)) rfl (by kernel_rfl) (by kernel_rfl) (by kernel_rfl) (by kernel_rfl) (fun _ _ _ h => h) (Or.inl ⟨by rfl, fun w _ => by go_simp⟩) hS ?_
          try simp only [Act.put, List.getElem_toArray, List.getElem_cons_zero, List.getElem_cons_succ, List.setIfInBounds_toArray, List.set_cons_zero, List.set_cons_succ]
          refine wpAnyL_take (i := 7) (v := .pointer (some ⟨g, 0, none⟩)) rfl (by kernel_rfl) (by kernel_rfl) (by kernel_rfl) (by kernel_rfl) (fun _ _ _ h => h) (Or.inl ⟨by rfl, fun w _ => by go_simp⟩) hS ?_
          try simp only [Act.put, List.getElem_toArray, List.getElem_cons_zero, List.getElem_cons_succ, List.setIfInBounds_toArray, List.set_cons_zero, List.set_cons_succ]
          refine wpAnyL_take (i := 8) (v := .slice (some ⟨m.pb, 0, none⟩) n m.pcap) rfl (by kernel_rfl) (by kernel_rfl) (by kernel_rfl) (by kernel_rfl) (fun _ _ _ h => h) (Or.inl ⟨by rfl, fun w h => by have c : w.cell? ⟨g, 0, none⟩ = some (.slice (some ⟨m.pb, 0, none⟩) n m.pcap) := HC0.out w h.1; go_simp⟩) hS ?_
          try simp only [Act.put, List.getElem_toArray, List.getElem_cons_zero, List.getElem_cons_succ, List.setIfInBounds_toArray, List.set_cons_zero, List.set_cons_succ]
          refine wpAnyL_take (i := 9) (v := .int .u16 (k : Int)) rfl (by kernel_rfl) (by kernel_rfl) (by kernel_rfl) (by kernel_rfl) (fun _ _ _ h => h) (Or.inl ⟨by rfl, fun w _ => by rfl⟩) hS ?_
          try simp only [Act.put, List.getElem_toArray, List.getElem_cons_zero, List.getElem_cons_succ, List.setIfInBounds_toArray, List.set_cons_zero, List.set_cons_succ]
          refine wpAnyL_take (i := 10) (v := .pointer (some ⟨m.pb, k, none⟩)) rfl (by kernel_rfl) (by kernel_rfl) (by kernel_rfl) (by kernel_rfl) (fun _ _ _ h => h) (Or.inl ⟨by rfl, fun w _ => by go_simp⟩) hS ?_
          try simp only [Act.put, List.getElem_toArray, List.getElem_cons_zero, List.getElem_cons_succ, List.setIfInBounds_toArray, List.set_cons_zero, List.set_cons_succ]
          refine wpAnyL_take (i := 11) (v := p.val) rfl (by kernel_rfl) (by kernel_rfl) (by kernel_rfl) (by kernel_rfl) (fun _ _ _ h => h) (Or.inl ⟨by rfl, fun w h => by have c := HPC.out w h.2.1; go_simp⟩) hS ?_
          try simp only [Act.put, List.getElem_toArray, List.getElem_cons_zero, List.getElem_cons_succ, List.setIfInBounds_toArray, List.set_cons_zero, List.set_cons_succ]
          refine wpAnyL_take (i := 12) (v := .pointer (some ⟨g, 0, none⟩)) rfl (by kernel_rfl) (by kernel_rfl) (by kernel_rfl) (by kernel_rfl) (fun _ _ _ h => h) (Or.inl ⟨by rfl, fun w _ => by rfl⟩) hS ?_
          try simp only [Act.put, List.getElem_toArray, List.getElem_cons_zero, List.getElem_cons_succ, List.setIfInBounds_toArray, List.set_cons_zero, List.set_cons_succ]
          refine wpAnyL_take (i := 13) (v := .pointer (some ⟨g, 0, none⟩)) rfl (by kernel_rfl) (by kernel_rfl) (by kernel_rfl) (by kernel_rfl) (fun _ _ _ h => h) (Or.inl ⟨by rfl, fun w _ => by go_simp⟩) hS ?_
          try simp only [Act.put, List.getElem_toArray, List.getElem_cons_zero, List.getElem_cons_succ, List.setIfInBounds_toArray, List.set_cons_zero, List.set_cons_succ]
          refine wpAnyL_take (i := 14) (v := .pointer (some ⟨g, 2, none⟩)) rfl (by kernel_rfl) (by kernel_rfl) (by kernel_rfl) (by kernel_rfl) (fun _ _ _ h => h) (Or.inl ⟨by rfl, fun w _ => by go_simp⟩) hS ?_
          try simp only [Act.put, List.getElem_toArray, List.getElem_cons_zero, List.getElem_cons_succ, List.setIfInBounds_toArray, List.set_cons_zero, List.set_cons_succ]
          refine wpAnyL_take (i := 15) (v := .int .u32 (m.last + 1)) rfl (by kernel_rfl) (by kernel_rfl) (by kernel_rfl) (by kernel_rfl) (fun _ _ _ h => h) (Or.inl ⟨by rfl, fun w h => by have c : w.cell? ⟨g, 2, none⟩ = some (.int .u32 (m.last + 1)) := row_at h.1 2 _ rfl; go_simp⟩) hS ?_
          try simp only [Act.put, List.getElem_toArray, List.getElem_cons_zero, List.getElem_cons_succ, List.setIfInBounds_toArray, List.set_cons_zero, List.set_cons_succ]
          refine wpAnyL_take (i := 16) (v := .agg (bs cc)) rfl (by kernel_rfl) (by kernel_rfl) (by kernel_rfl) (by kernel_rfl) (fun _ _ _ h => h) (yields_cells (by rfl) 38 (.tmp 7) rfl N rfl 38 (bs cc) (fun w h => h.2.2) 64 Try.underlying38 rfl size38 (by rw [bs_size, HXL.out])) hS ?_
          try simp only [Act.put, List.getElem_toArray, List.getElem_cons_zero, List.getElem_cons_succ, List.setIfInBounds_toArray, List.set_cons_zero, List.set_cons_succ]
          refine wpAnyL_take (i := 17) (v := .agg VA) rfl (by kernel_rfl) (by kernel_rfl) (by kernel_rfl) (by kernel_rfl) (fun _ _ _ h => h) (yields_build (by rfl) 44 #[(0, .tmp 74), (1, .tmp 75)] rfl _ rfl _ HBU.out) hS ?_
          try simp only [Act.put, List.getElem_toArray, List.getElem_cons_zero, List.getElem_cons_succ, List.setIfInBounds_toArray, List.set_cons_zero, List.set_cons_succ]
          clear hp4 c4d r38
          have rx5 : Row W4.drew A0 #[.int .u32 start, .map (some mb)] 70 := rx3
          have r405 : Row W4.drew (A0 + 1) Z 40 := r403
          have hrg5 := ranges_below hrg3 (below_drew W4)
          have HMS5 : Hid (W4.drew.rangeLeft mb it2 < wr.rangeLeft mb it2) := by
            have := HMS3.out
            rw [hrg3.left_eq] at this
            rw [hrg5.left_eq]; exact this
          clear rx3 r403 hrg3 HMS3
          generalize W4.drew = W5 at hS HC4 HO4 rx5 r405 hrg5 HMS5 ⊢
          refine wpAnyL_ready (rs := [18]) (by kernel_rfl) (by simp) ?_
          refine AllReadyL.cons rfl (fun K hK => step_of rfl (wp_ver_one (.tmp 76) rfl VA HVS.out rfl ?_)) AllReadyL.nil
          have hab : Below W5.heap.size W5 (W5.alloc (.cells VA 44)) := (Below.refl _ _).alloc (Nat.le_refl _) _
          have rV : Row (W5.alloc (.cells VA 44)) W5.heap.size VA 44 := Row.new _ _ _
          obtain ⟨NV, HNV⟩ : ∃ NV, Hid (W5.heap.size = NV) := ⟨_, rfl⟩
          have hS6 : Row (W5.alloc (.cells VA 44)) g (M.cells ({ m with last := m.last + 1, ps := ps } : M)) 58 ∧ (W5.alloc (.cells VA 44)).ownsRow 0 59 1 (.slice (some ⟨m.pb, 0, none⟩) n m.pcap) n (ps.map Pg.val) ∧ Row (W5.alloc (.cells VA 44)) N (bs cc) 38 := ⟨hS.1.alloc _, ownsRow_off (F := fun _ => False) hS.2.1 (Off.of_below hab) (fun _ _ q => q), hS.2.2.alloc _⟩
          refine hK.out _ _ (fun _ => hS6) ?_
          try simp only [Act.put, List.getElem_toArray, List.getElem_cons_zero, List.getElem_cons_succ, List.setIfInBounds_toArray, List.set_cons_zero, List.set_cons_succ]
          have HC6 : Hid (MA (W5.alloc (.cells VA 44)) F4 g ({ m with last := m.last + 1, ps := ps } : M)) := HC4.out.below hab
          have HO6 : Hid (Off F w (W5.alloc (.cells VA 44))) := HO4.out.trans (Off.of_below (F := fun _ => False) hab) (fun j h => h.elim)
          have rx6 := rx5.alloc (.cells VA 44)
          have r406 := r405.alloc (.cells VA 44)
          have hrg6 := ranges_below hrg5 hab
          have HMS6 : Hid ((W5.alloc (.cells VA 44)).rangeLeft mb it2 < wr.rangeLeft mb it2) := by
            have := HMS5.out
            rw [hrg5.left_eq] at this
            rw [hrg6.left_eq]; exact this
          rw [HNV.out] at rV ⊢
          clear hS rx5 r405 hrg5 HMS5 hab HC4 HO4
          generalize W5.alloc (.cells VA 44) = W6 at hS6 rV HC6 HO6 rx6 r406 hrg6 HMS6 ⊢
          have hown6 := HC6.out.at_.pown p (List.mem_of_getElem? HP.out)
          have hpb : p.vs.length ≤ 4294967296 := by have h1 := (HC6.out.vsok HP.out).len; have := HMX.out; simp only at h1; omega
          obtain ⟨i44, hi44, hz44, hs44, hb44⟩ := info_parts info44
          have HNW : Hid (∀ j u, (Ver.cells ⟨m.last + 1, cc⟩)[j]? = some u → W6.cell? ((⟨NV, 0, none⟩ : Addr).add j) = some u) := fun j u hu => World.news_of_block rV j u (by rw [← HVA.out]; exact hu)
          refine wpAnyL_ready (rs := [19]) (by kernel_rfl) (by simp) ?_
          refine AllReadyL.cons rfl (fun K hK => step_append_lies W6 rfl _ _ 59 rfl 0 44 i44 (.agg Ver.zero.arr) 65 68 Try.underlying59 hi44 hz44 hs44 hb44 vz (by omega) p.val p.vs.length _ rfl hown6 ⟨NV, 0, none⟩ 1 1 (Ver.cells ⟨m.last + 1, cc⟩) rfl (by rw [Ver.cells_length HVO.out]) HNW.out (fun u hu => by have := (Ver.mk (m.last + 1) cc).one; rw [Array.all_eq_true_iff_forall_mem] at this; exact this u (by simpa [Ver.arr] using hu)) (by omega) (by unfold maxLen; omega) (by omega) (Nat.zero_le _) _ rfl ?_) AllReadyL.nil
          intro gb cap W7 hown7 hg7 hat7 hlt7
          have hg7' : W6.grownBy W7 (some p.b) := hg7
          have hat7' : p.b = gb ∨ gb = W6.heap.size := by
            rcases hat7 with q | q
            · exact Or.inl (by have q2 : some p.b = some gb := q; injection q2)
            · exact Or.inr q
          have O7 : Off (· = p.b) W6 W7 := Off.of_grown hg7' (fun j e => by cases e; rfl)
          have kb := HC6.out.at_.kb (List.mem_of_getElem? HP.out)
          have hS7 : Row W7 g (M.cells ({ m with last := m.last + 1, ps := ps } : M)) 58 ∧ W7.ownsRow 0 59 1 (.slice (some ⟨m.pb, 0, none⟩) n m.pcap) n (ps.map Pg.val) ∧ Row W7 N (bs cc) 38 := ⟨hS6.1.off O7 (fun q => ne_types (row_is hS6.1) kb (by decide) q), ownsRow_off hS6.2.1 O7 (fun j e => by cases e; exact fun q => ne_types (own_is hS6.2.1) kb (by decide) q), hS6.2.2.off O7 (fun q => ne_types (row_is hS6.2.2) kb (by decide) q)⟩
          refine hK.out _ _ (fun _ => hS7) ?_
          try simp only [Act.put, List.getElem_toArray, List.getElem_cons_zero, List.getElem_cons_succ, List.setIfInBounds_toArray, List.set_cons_zero, List.set_cons_succ]
          obtain ⟨HPS, HOS⟩ := paged_step HO6.out HC6.out HE4.out HF4.out HCC.out.ok HMX.out.1 HWS.out HP.out HMEM.out HLK.out hown7 hg7' hat7'
          rw [← HL2.out] at HPS
          have HPS' : Hid _ := HPS
          have kp := HC6.out.at_.kp
          have k2 : ∀ j t, isCells W6 j t → t ≠ 59 → t ≠ 44 → ¬ (j = m.pb ∨ j = p.b) := fun j t h h1 h2 q => by
            rcases q with q | q
            · exact ne_types h kp h1 q
            · exact ne_types h kb h2 q
          have k3 : ∀ j, (¬ ∃ t, isCells W6 j t) → ¬ (j = m.pb ∨ j = p.b) := fun j h q => by
            rcases q with q | q
            · exact h ⟨_, by rw [q]; exact kp⟩
            · exact h ⟨_, by rw [q]; exact kb⟩
          have rx8 := rx6.off HOS (k2 _ _ (row_is rx6) (by decide) (by decide))
          have r408 := r406.off HOS (k2 _ _ (row_is r406) (by decide) (by decide))
          have hrg8 := ranges_off hrg6 HOS (k3 _ (fun ⟨t, q⟩ => ne_map q (map_is hrg6.owns) rfl)) (k3 _ (fun ⟨t, cur, hc⟩ => by
            obtain ⟨es, cl, since, seen, c0, e1, e2, e3, e4, e5, e6⟩ := hrg6
            rw [e5] at hc
            cases hc))
          have HMS8 : Hid ((W7.setCell ⟨m.pb, k, none⟩ (.slice (some ⟨gb, 0, none⟩) (p.vs.length + 1) cap)).rangeLeft mb it2 < wr.rangeLeft mb it2) := by
            have := HMS6.out
            rw [hrg6.left_eq] at this
            rw [hrg8.left_eq]; exact this
          have cc7 := HPC.out W7 hS7.2.1
          have fz7 : W7.frozen? ⟨m.pb, k, none⟩ = false := by
            obtain ⟨cur, hc⟩ := own_is hS7.2.1
            exact row_frozen hc k
          clear hS6 hown6 hown7 hg7 hg7' hat7 hat7' O7 kb kp k2 k3 rx6 r406 hrg6 HMS6 HPS HOS rV HNW
          refine wpAnyL_ready (rs := [20]) (by kernel_rfl) (by simp) ?_
          refine AllReadyL.cons rfl (fun K hK => ?_) AllReadyL.nil
          go_simp
          refine hK.out _ _ (fun _ => hS7) ?_
          try simp only [Act.put, List.getElem_toArray, List.getElem_cons_zero, List.getElem_cons_succ, List.setIfInBounds_toArray, List.set_cons_zero, List.set_cons_succ]
          clear hS7
          refine wpAnyL_ready (rs := [21]) (by kernel_rfl) (by simp) ?_
          refine AllReadyL.cons rfl (fun K hK => ?_) AllReadyL.nil
          obtain ⟨pv, HPVV⟩ : ∃ pv, Hid (p.val = pv) := ⟨_, rfl⟩
          rw [HPVV.out] at cc7
          go_simp
          refine hK.out _ _ (fun q => absurd rfl q) ?_
          try simp only [Act.put, List.getElem_toArray, List.getElem_cons_zero, List.getElem_cons_succ, List.setIfInBounds_toArray, List.set_cons_zero, List.set_cons_succ]
          refine wpAnyL_done (by kernel_rfl) ?_ _
          clear cc7 fz7
          generalize W7.setCell ⟨m.pb, k, none⟩ (.slice (some ⟨gb, 0, none⟩) (p.vs.length + 1) cap) = W8 at rx8 r408 hrg8 HMS8 HPS' ⊢
          go_wp2
          go_roundw
          case rel => exact ⟨left2, cnt2, hrg8, rx8, r408, HPS'⟩
          case measure => exact HMS8.out
    · intro x cc kl yd yp w2 cnt2 hkey hlk hv hat0 hrg2 hlt hg2 hs2 hen
      obtain ⟨x', ex, rfl, hwx⟩ := Maps.keyOf_int_inv Try.underlying33 hkey
      cases ex
      obtain ⟨xs, hxw, exs, eyd⟩ := wrR_inv hv
      have hmem : (x, xs) ∈ ws := setD_mem (fun z => by rw [hat0 z]; cases eyd; rfl)
      have hx := (HWS.out.wr _ hmem).2
      obtain ⟨k, rfl⟩ : ∃ k : Nat, x = (k : Int) := ⟨x.toNat, by simp only at hx; omega⟩
      have hkl : k < m.ps.length := by simp only at hx; omega
      obtain ⟨p, hp⟩ : ∃ p, m.ps[k]? = some p := ⟨_, List.getElem?_eq_getElem hkl⟩
      have HPV : Hid (m.abs.page (k : Int) = p.vs) := St.page_at hp
      have O2 : Off (· = it) wr w2 := Off.of_grown hg2 (fun j hj => by cases hj; rfl)
      have rx2 : Row w2 A0 #[.int .u32 start, .map (some mb)] 70 := rx.off O2 (by omega)
      have r402 : Row w2 (A0 + 1) Z 40 := r40.off O2 (by omega)
      have rb2 : Below w.heap.size w w2 := rb.trans (O2.below rb.size (fun j e => by rw [e]; exact hitw))
      have C2 := HCC.out.below rb2
      obtain ⟨T, HT⟩ : ∃ T, Hid ((atV p.vs m.last).ts = T) := ⟨_, rfl⟩
      have hgt : ¬ T > start := by
        intro q
        refine HCL.out (List.any_eq_true.2 ⟨_, hmem, ?_⟩)
        have e : (atV (m.abs.page (k : Int)) m.last).ts = T := by rw [HPV.out, HT.out]
        exact decide_eq_true (show start < (atV (m.abs.page (k : Int)) m.last).ts by rw [e]; exact q)
      have HMS : Hid (w2.rangeLeft mb it < wr.rangeLeft mb it) := by rw [hrg2.left_eq, hrg.left_eq]; exact hlt
      obtain ⟨left2, HL2⟩ : ∃ left2 : Lit → Bool, Hid (left2 = fun z => left z && !z.sameKey (.int .u16 (k : Int))) := ⟨_, rfl⟩
      rw [← HL2.out] at hrg2
      clear hs2 hat0 hlk hlt hkey hv hmem hx hxw exs eyd hg2 O2 rx r40 rb hrg hwx HL2
      go_upto_region 8 with fail
      refine wp_region_held_drew (S := fun w' => MA w' F g m ∧ Row w' A0 #[.int .u32 start, .map (some mb)] 70 ∧ Row w' (A0 + 1) Z 40 ∧ w'.ranges Try.prog 33 wrR mb it ws.length (setD ws) left2 cnt2 ∧ Below w.heap.size w w') (by kernel_rfl) ⟨C2.below (below_drew _), rx2, r402, ranges_below hrg2 (below_drew _), rb2.drew⟩ fun hS => ?_
      refine wpAnyH_take (i := 0) (v := .pointer (some ⟨g, 0, none⟩)) rfl (by kernel_rfl) (by kernel_rfl) (by kernel_rfl) (fun _ _ _ h => h) (Or.inl ⟨by rfl, fun w _ => by rfl⟩) hS ?_
      try simp only [Act.put, List.getElem_toArray, List.getElem_cons_zero, List.getElem_cons_succ, List.setIfInBounds_toArray, List.set_cons_zero, List.set_cons_succ]
      refine wpAnyH_take (i := 1) (v := .int .u16 (k : Int)) rfl (by kernel_rfl) (by kernel_rfl) (by kernel_rfl) (fun _ _ _ h => h) (Or.inl ⟨by rfl, fun w _ => by rfl⟩) hS ?_
      try simp only [Act.put, List.getElem_toArray, List.getElem_cons_zero, List.getElem_cons_succ, List.setIfInBounds_toArray, List.set_cons_zero, List.set_cons_succ]
      refine wpAnyH_take (i := 2) (v := .pointer (some ⟨g, 0, none⟩)) rfl (by kernel_rfl) (by kernel_rfl) (by kernel_rfl) (fun _ _ _ h => h) (Or.inl ⟨by rfl, fun w _ => by rfl⟩) hS ?_
      try simp only [Act.put, List.getElem_toArray, List.getElem_cons_zero, List.getElem_cons_succ, List.setIfInBounds_toArray, List.set_cons_zero, List.set_cons_succ]
      refine wpAnyH_take (i := 3) (v := .pointer (some ⟨g, 0, none⟩)) rfl (by kernel_rfl) (by kernel_rfl) (by kernel_rfl) (fun _ _ _ h => h) (Or.inl ⟨by rfl, fun w _ => by go_simp⟩) hS ?_
      try simp only [Act.put, List.getElem_toArray, List.getElem_cons_zero, List.getElem_cons_succ, List.setIfInBounds_toArray, List.set_cons_zero, List.set_cons_succ]
      refine wpAnyH_take (i := 4) (v := .pointer (some ⟨g, 2, none⟩)) rfl (by kernel_rfl) (by kernel_rfl) (by kernel_rfl) (fun _ _ _ h => h) (Or.inl ⟨by rfl, fun w _ => by go_simp⟩) hS ?_
      try simp only [Act.put, List.getElem_toArray, List.getElem_cons_zero, List.getElem_cons_succ, List.setIfInBounds_toArray, List.set_cons_zero, List.set_cons_succ]
      refine wpAnyH_take (i := 5) (v := .int .u32 m.last) rfl (by kernel_rfl) (by kernel_rfl) (by kernel_rfl) (fun _ _ _ h => h) (Or.inl ⟨by rfl, fun w h => by have c := h.1.at_.c2; go_simp⟩) hS ?_
      try simp only [Act.put, List.getElem_toArray, List.getElem_cons_zero, List.getElem_cons_succ, List.setIfInBounds_toArray, List.set_cons_zero, List.set_cons_succ]
      refine wpAnyH_take (i := 8) (v := .pointer (some ⟨A0, 0, none⟩)) rfl (by kernel_rfl) (by kernel_rfl) (by kernel_rfl) (fun _ _ _ h => h) (Or.inl ⟨by rfl, fun w _ => by go_simp⟩) hS ?_
      try simp only [Act.put, List.getElem_toArray, List.getElem_cons_zero, List.getElem_cons_succ, List.setIfInBounds_toArray, List.set_cons_zero, List.set_cons_succ]
      refine wpAnyH_take (i := 9) (v := .int .u32 start) rfl (by kernel_rfl) (by kernel_rfl) (by kernel_rfl) (fun _ _ _ h => h) (Or.inl ⟨by rfl, fun w h => by have c := row_at h.2.1 0 _ rfl; go_simp⟩) hS ?_
      try simp only [Act.put, List.getElem_toArray, List.getElem_cons_zero, List.getElem_cons_succ, List.setIfInBounds_toArray, List.set_cons_zero, List.set_cons_succ]
      generalize w2.drew = W8 at hS ⊢
      have hat := at_in hS.1 k p hp m.last HL0.out
      obtain ⟨VA, HVA⟩ : ∃ VA, Hid ((atV p.vs m.last).arr = VA) := ⟨_, rfl⟩
      rw [HVA.out] at hat
      have hft : ∀ w, (Instr.field 44 (.agg VA) 0).run Try.prog w = .ok (.int .u32 T) w := fun w => by rw [← HVA.out, ← HT.out]; exact field44t w
      refine wpAnyH_ready (rs := [6]) (by kernel_rfl) (by simp) ?_
      refine AllReadyH.cons rfl (fun K hK => ?_) AllReadyH.nil
      go_simp
      go_at_call 16
      refine Calls.mono hat ?_
      rintro e wc ⟨rfl, hcb⟩
      refine hK.out _ _ ⟨hS.1.below hcb, hS.2.1.below hcb hS.2.1.lt, hS.2.2.1.below hcb hS.2.2.1.lt, ranges_below hS.2.2.2.1 hcb, hS.2.2.2.2.trans (hcb.mono hS.2.2.2.2.size)⟩ fun hS => ?_
      try simp only [Act.put, List.getElem_toArray, List.getElem_cons_zero, List.getElem_cons_succ, List.setIfInBounds_toArray, List.set_cons_zero, List.set_cons_succ]
      clear hcb hat
      refine wpAnyH_take (i := 7) (v := .int .u32 T) rfl (by kernel_rfl) (by kernel_rfl) (by kernel_rfl) (fun _ _ _ h => h) (Or.inl ⟨by rfl, fun w h => by have c := hft; go_simp⟩) hS ?_
      try simp only [Act.put, List.getElem_toArray, List.getElem_cons_zero, List.getElem_cons_succ, List.setIfInBounds_toArray, List.set_cons_zero, List.set_cons_succ]
      refine wpAnyH_take (i := 10) (v := .bool false) rfl (by kernel_rfl) (by kernel_rfl) (by kernel_rfl) (fun _ _ _ h => h) (Or.inl ⟨by rfl, fun w _ => by go_simp⟩) hS ?_
      try simp only [Act.put, List.getElem_toArray, List.getElem_cons_zero, List.getElem_cons_succ, List.setIfInBounds_toArray, List.set_cons_zero, List.set_cons_succ]
      refine wpAnyH_done (by kernel_rfl) ?_ _
      have HSS : Hid _ := hS
      have HLT : Hid (wc.rangeLeft mb it < wr.rangeLeft mb it) := by
        have := HMS.out
        rw [hrg2.left_eq] at this
        rw [hS.2.2.2.1.left_eq]; exact this
      clear hS
      go_wp2
      go_roundw
      case rel => exact ⟨left2, cnt2, HSS.out.2.2.2.1, HSS.out.2.1, HSS.out.2.2.1, HSS.out.2.2.2.2⟩
      case measure => exact HLT.out
end Go.Proofs.Ytpncmbkklkfmnaa
