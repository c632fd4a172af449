/-
  Proved here: what a transaction sees of a page.
-/
import Derived.Test.YtpncmbkklkfmnaaMat
namespace Go.Proofs.Ytpncmbkklkfmnaa
open Go.ChangeShapes Go.WideShapes Go.ChangeAt Go.RowKit
open Go.Deep Go.Maps
set_option linter.unusedVariables false
set_option linter.unusedSimpArgs false
set_option maxRecDepth 20000


/-- What a transaction sees of a page. -/
def seenV (ws : List (Int × List Int)) (start : Int) (vs : List Ver) (k : Int) : Ver := if hasP ws k = true then ⟨start, atP ws k⟩ else atV vs start
theorem WsOk.at_wr {n : Nat} {ws : List (Int × List Int)} (h : WsOk n ws) (k : Int) : Wr (atP ws k) := by
  cases hh : hasP ws k with
  | true =>
    obtain ⟨ys, hm⟩ := has_mem hh
    rw [(at_mem h.rising hm).1]
    exact (h.wr _ hm).1
  | false => rw [at_none hh]; exact zs_wr
theorem seenV_ok {n : Nat} {ws : List (Int × List Int)} (h : WsOk n ws) {last start : Int} {vs : List Ver} (hv : VsOk last vs) (h0 : 0 ≤ start) (h1 : start ≤ 4294967295) (k : Int) : (seenV ws start vs k).Ok := by
  unfold seenV
  split
  · exact ⟨h0, h1, h.at_wr k⟩
  · exact atV_ok hv h0
theorem wf_u16 {i : Int} (h : 0 ≤ i) (h' : i ≤ 65535) : (Lit.int .u16 i).wf = true := by
  have e : (Lit.int .u16 i).wf = (decide ((0 : Int) ≤ i) && decide (i ≤ 65535)) := rfl
  rw [e]; simp [h, h']
theorem wf_u64 {i : Int} (h : 0 ≤ i) (h' : i ≤ 18446744073709551615) : (Lit.int .u64 i).wf = true := by
  have e : (Lit.int .u64 i).wf = (decide ((0 : Int) ≤ i) && decide (i ≤ 18446744073709551615)) := rfl
  rw [e]; simp [h, h']
set_option maxHeartbeats 1000000 in
theorem seen_any {w : World} {F : Nat → Prop} {g : Nat} {m : M} (c : MA w F g m) (k : Nat) (p : Pg) (hp : m.ps[k]? = some p) (hk16 : k ≤ 65535) (start : Int) (h0 : 0 ≤ start) (h1 : start ≤ 4294967295) (mb : Nat) (ws : List (Int × List Int)) (hws : WsOk m.ps.length ws) (own : w.ownsMap Try.prog 33 wrR mb ws.length (setD ws)) :
    Calls Try.prog 28 #[.pointer (some ⟨g, 0, none⟩), txV start (some mb), .int .u16 k] w fun r w' => r = .returned (.agg (seenV ws start p.vs k).arr) ∧ Below w.heap.size w w' := by
  have hz44 := zero44
  have hz38 := zero38
  have HAT : Hid (∀ W, Below w.heap.size w W → Calls Try.prog 16 #[.pointer (some ⟨g, 0, none⟩), .int .u16 k, .int .u32 start] W fun r w' => r = .returned (.agg (atV p.vs start).arr) ∧ Below W.heap.size W w') := fun W hb => at_in (c.below hb) k p hp start h0
  have hok := seenV_ok hws (c.vsok hp) h0 h1 k
  have HA : Hid ((setD ws).atKey (.int .u16 k) (.held (zs 64)) = .held (atP ws k)) := setD_at ws k
  have HH : Hid (Maps.has (setD ws) (.int .u16 k) = hasP ws k) := setD_has ws k
  have HW : Hid (Wr (atP ws k)) := hws.at_wr k
  have hk : (Lit.int .u16 k).wf = true := wf_u16 (by omega) (by omega)
  clear c
  have HVA : Hid ((seenV ws start p.vs k).arr.size = 65) := Ver.arr_size hok
  have hone := (seenV ws start p.vs k).one
  clear hok
  obtain ⟨V, HV⟩ : ∃ V, Hid ((seenV ws start p.vs k).arr = V) := ⟨_, rfl⟩
  rw [HV.out] at HVA hone ⊢
  have ab : Below w.heap.size w (w.alloc (.cells #[.int .u32 start, .map (some mb)] 70)) := (Below.refl _ _).alloc (Nat.le_refl _) _
  have rx : Row (w.alloc (.cells #[.int .u32 start, .map (some mb)] 70)) w.heap.size #[.int .u32 start, .map (some mb)] 70 := Row.new _ _ _
  have own1 := ownsMap_off (F := fun _ => False) own (Off.of_below ab) (fun q => q)
  unfold txV
  go_enter Try.func28, Try.ntmps28
  have HZS : Hid (Ver.zero.arr.size = 65) := vz
  generalize Ver.zero.arr = Z at hz44 HZS
  go_upto_region 1 with fail
  have ab1 : Below w.heap.size w ((w.alloc (.cells #[.int .u32 start, .map (some mb)] 70)).alloc (.cells Z 44)) := ab.alloc ab.size _
  have r44 : Row ((w.alloc (.cells #[.int .u32 start, .map (some mb)] 70)).alloc (.cells Z 44)) (w.alloc (.cells #[.int .u32 start, .map (some mb)] 70)).heap.size Z 44 := Row.new _ _ _
  have rx1 := rx.alloc (.cells Z 44)
  have own2 := own1.alloc (.cells Z 44)
  have e1 : (w.alloc (.cells #[.int .u32 start, .map (some mb)] 70)).heap.size = w.heap.size + 1 := Array.size_push ..
  rw [e1] at r44
  clear own own1 rx ab e1
  generalize (w.alloc (.cells #[.int .u32 start, .map (some mb)] 70)).alloc (.cells Z 44) = W at ab1 r44 rx1 own2 ⊢
  obtain ⟨A0, HA0⟩ : ∃ A0, Hid (w.heap.size = A0) := ⟨_, rfl⟩
  rw [HA0.out] at r44 rx1 ⊢
  have x0 := row_at rx1 0 _ rfl
  have x1 := row_at rx1 1 _ rfl
  obtain ⟨ys, HY⟩ : ∃ ys, Hid (atP ws k = ys) := ⟨_, rfl⟩
  obtain ⟨b, HB⟩ : ∃ b, Hid (hasP ws k = b) := ⟨_, rfl⟩
  rw [HY.out] at HA HW
  rw [HB.out] at HH
  have rA : Row (W.alloc (.cells (bs (zs 64)) 38)) W.heap.size (bs (zs 64)) 38 := Row.new _ _ _
  have rB : Row ((W.alloc (.cells (bs (zs 64)) 38)).setRow W.heap.size (bs ys)) W.heap.size (bs ys) 38 := rA.set _
  have hl1 := r44.lt
  have hl0 := rx1.lt
  have r44b : Row ((W.alloc (.cells (bs (zs 64)) 38)).setRow W.heap.size (bs ys)) (A0 + 1) Z 44 := (r44.alloc _).other (by omega) _
  have rxb : Row ((W.alloc (.cells (bs (zs 64)) 38)).setRow W.heap.size (bs ys)) A0 #[.int .u32 start, .map (some mb)] 70 := (rx1.alloc _).other (by omega) _
  have ab2 : Below w.heap.size w ((W.alloc (.cells (bs (zs 64)) 38)).setRow W.heap.size (bs ys)) := below_setRow (ab1.alloc ab1.size _) ab1.size _
  have HWL : Hid (ys.length = 64) := HW.out.1
  have ts : Hid (1 = 1) := rfl
  go_upto_region 2 with (first
    | (at_lookup; refine wpList_lookup_own_ok _ rfl _ _ 68 rfl 33 38 lawK Try.underlying68 wrR (hz38 _) (.held (zs 64)) [] (wrR_mk zs_wr) mb _ _ rfl own2 _ _ rfl (keyOf_int_mk Try.underlying33 hk) ?_; intro v ps hv; rw [HA.out] at hv; obtain ⟨xs, _, hvx, hxy⟩ := wrR_inv hv; obtain rfl : ys = xs := (by injection hxy with q; injection q); subst hvx; clear hv hxy; rw [HH.out])
    | (have hh := ts; clear hh ts; refine store_cells rfl 38 (.tmp 7) (.tmp 14) rfl W.heap.size (bs ys) rfl rfl 38 _ rA 64 size38 (by rw [bs_size, zs_length]) (by rw [bs_size]; exact HWL.out) (bs_one ys) ?_))
  clear x0 x1 own2 r44 rx1 rA hz38 hz44 ab1
  generalize (W.alloc (.cells (bs (zs 64)) 38)).setRow W.heap.size (bs ys) = W1 at rB r44b rxb ab2 ⊢
  generalize W.heap.size = A2 at rB hl1 hl0 ⊢
  have x0 := row_at rxb 0 _ rfl
  cases b with
  | true =>
    have HS : Hid (seenV ws start p.vs k = ⟨start, ys⟩) := by show _ = _; unfold seenV; rw [HB.out, if_pos rfl, HY.out]
    have bu := built44_two start ys HWL.out
    rw [← HS.out, HV.out] at bu
    have r2 : Row (W1.setRow (A0 + 1) V) (A0 + 1) V 44 := r44b.set _
    have ab3 : Below w.heap.size w (W1.setRow (A0 + 1) V) := below_setRow ab2 (by rw [HA0.out]; exact Nat.le_succ _) _
    have tl : Hid (1 = 1) := rfl
    have tb : Hid (1 = 1) := rfl
    have ts : Hid (1 = 1) := rfl
    go_wp2_with (first
      | (have hh := tl; clear hh tl; refine load_cells rfl 38 (.tmp 7) rfl A2 rfl 38 (bs ys) rB 64 Try.underlying38 rfl size38 (by rw [bs_size]; exact HWL.out) ?_)
      | (have hh := tb; clear hh tb; refine build_cells rfl 44 #[(0, .tmp 18), (1, .tmp 19)] rfl _ rfl V bu ?_)
      | (have hh := ts; clear hh ts; refine store_cells rfl 44 (.tmp 6) (.tmp 20) rfl (A0 + 1) V rfl rfl 44 _ r44b 65 size44 HZS.out HVA.out hone ?_))
    refine bodyPost_ret (v := .agg V) ?_ rfl ⟨rfl, ab3⟩
    exact ret_cell (fn := Try.f28) rfl _ _ (A0 + 1) 44 V _ rfl r2 Try.underlying44 rfl (by rw [size44, HVA.out])
  | false =>
    have HS : Hid (seenV ws start p.vs k = atV p.vs start) := by show _ = _; unfold seenV; rw [HB.out, if_neg (by simp)]
    have hat := HAT.out W1 ab2
    rw [← HS.out, HV.out] at hat
    have ts : Hid (1 = 1) := rfl
    go_wp2_with (first
      | (go_at_call 16; refine hat.mono ?_; clear hat; rintro e wc ⟨he, hcb⟩; obtain rfl := he; have r1 := r44b.below hcb r44b.lt; have ab3 := ab2.trans (hcb.mono ab2.size))
      | (have hh := ts; clear hh ts; refine store_cells rfl 44 (.tmp 6) (.tmp 25) rfl (A0 + 1) V rfl rfl 44 _ r1 65 size44 HZS.out HVA.out hone ?_))
    have ab4 := below_setRow ab3 (g := A0 + 1) (by rw [HA0.out]; exact Nat.le_succ _) V
    refine bodyPost_ret (v := .agg V) ?_ rfl ⟨rfl, ab4⟩
    exact ret_cell (fn := Try.f28) rfl _ _ (A0 + 1) 44 V _ rfl (r1.set _) Try.underlying44 rfl (by rw [size44, HVA.out])
end Go.Proofs.Ytpncmbkklkfmnaa
