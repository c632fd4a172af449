/-
  Proved here: what write answers, and makes of a machine (many).
-/
import Derived.Test.YtpncmbkklkfmnaaMwr
namespace Go.Proofs.Ytpncmbkklkfmnaa
open Go.ChangeShapes Go.WideShapes Go.ChangeAt Go.RowKit
open Go.Deep Go.Maps
set_option linter.unusedVariables false
set_option linter.unusedSimpArgs false
set_option maxRecDepth 20000


set_option maxHeartbeats 2000000 in
theorem write_many {w : World} {F : Nat → Prop} {g : Nat} {m : M} (c : MA w F g m) (cl : Cal) (k o : Nat) (t : Tx) (ht : t ∈ m.L) (p : Pg) (hp : m.ps[k]? = some p) (ho : o ≤ 64) (hsz : cl.str.size ≤ 64 - o) (hf : full t.ws k = true) :
    Calls Try.prog 29 #[.pointer (some ⟨g, 0, none⟩), .agg #[.int .u32 t.start, .map (some t.mb)], .agg #[.int .u8 cl.kind, .int .u64 cl.txn, .int .u16 (k : Int), .int .i64 (o : Int), .string cl.str]] w fun r w' => r = .returned (.int .i64 10) ∧ Below w.heap.size w w' := by
  have hkl := (List.getElem?_eq_some_iff.1 hp).1
  have hn : m.ps.length ≤ 16 := by have := c.ok.n1; simpa [M.abs] using this
  obtain ⟨h0, h1, hws⟩ := c.txok ht
  have hz38 := zero38
  have HA : Hid ((setD t.ws).atKey (.int .u16 k) (.held (zs 64)) = .held (atP t.ws k)) := setD_at t.ws k
  have HH : Hid (Maps.has (setD t.ws) (.int .u16 k) = hasP t.ws k) := setD_has t.ws k
  have HW : Hid (Wr (atP t.ws k)) := hws.at_wr k
  have HSZ : Hid (Maps.size (setD t.ws) = t.ws.length) := setD_size t.ws
  have hk : (Lit.int .u16 k).wf = true := wf_u16 (by omega) (by omega)
  have HSEEN : Hid (∀ W, Below w.heap.size w W → Calls Try.prog 28 #[.pointer (some ⟨g, 0, none⟩), .agg #[.int .u32 t.start, .map (some t.mb)], .int .u16 k] W fun r w' => r = .returned (.agg (seenV t.ws t.start p.vs k).arr) ∧ Below W.heap.size W w') := fun W hb => seen_any (c.below hb) k p hp (by omega) t.start h0 h1 t.mb t.ws hws ((c.below hb).at_.wown t ht)
  have hok := seenV_ok hws (c.vsok hp) h0 h1 k
  have HF1 : Hid (∀ w, (Instr.field 44 (.agg (seenV t.ws t.start p.vs k).arr) 1).run Try.prog w = .ok (.agg (bs (seenV t.ws t.start p.vs k).body)) w) := fun w => field44b hok w
  have HBW : Hid (Wr (seenV t.ws t.start p.vs k).body) := hok.wr
  clear hok
  obtain ⟨SV, HSV⟩ : ∃ SV, Hid ((seenV t.ws t.start p.vs k).arr = SV) := ⟨_, rfl⟩
  obtain ⟨SB, HSB⟩ : ∃ SB, Hid ((seenV t.ws t.start p.vs k).body = SB) := ⟨_, rfl⟩
  rw [HSV.out] at HSEEN HF1
  rw [HSB.out] at HF1 HBW
  have HF : Hid _ := hf
  have ab : Below w.heap.size w (w.alloc (.cells #[.int .u32 t.start, .map (some t.mb)] 70)) := (Below.refl _ _).alloc (Nat.le_refl _) _
  have rx : Row (w.alloc (.cells #[.int .u32 t.start, .map (some t.mb)] 70)) w.heap.size #[.int .u32 t.start, .map (some t.mb)] 70 := Row.new _ _ _
  have e1 : (w.alloc (.cells #[.int .u32 t.start, .map (some t.mb)] 70)).heap.size = w.heap.size + 1 := Array.size_push ..
  have ab1 : Below w.heap.size w ((w.alloc (.cells #[.int .u32 t.start, .map (some t.mb)] 70)).alloc (.cells #[.int .u8 cl.kind, .int .u64 cl.txn, .int .u16 (k : Int), .int .i64 (o : Int), .string cl.str] 35)) := ab.alloc ab.size _
  have rc : Row ((w.alloc (.cells #[.int .u32 t.start, .map (some t.mb)] 70)).alloc (.cells #[.int .u8 cl.kind, .int .u64 cl.txn, .int .u16 (k : Int), .int .i64 (o : Int), .string cl.str] 35)) (w.alloc (.cells #[.int .u32 t.start, .map (some t.mb)] 70)).heap.size #[.int .u8 cl.kind, .int .u64 cl.txn, .int .u16 (k : Int), .int .i64 (o : Int), .string cl.str] 35 := Row.new _ _ _
  have rx1 := rx.alloc (.cells #[.int .u8 cl.kind, .int .u64 cl.txn, .int .u16 (k : Int), .int .i64 (o : Int), .string cl.str] 35)
  rw [e1] at rc
  have HCC : Hid (MA w F g m) := c
  obtain ⟨PP, HPP⟩ : ∃ PP : Ending → World → Prop, Hid (PP = fun r w' => r = .returned (.int .i64 10) ∧ Below w.heap.size w w') := ⟨_, rfl⟩
  rw [← HPP.out]
  clear c rx ab e1 hws hf
  go_enter Try.func29, Try.ntmps29
  go_upto_region 1 with fail
  generalize (w.alloc (.cells #[.int .u32 t.start, .map (some t.mb)] 70)).alloc (.cells #[.int .u8 cl.kind, .int .u64 cl.txn, .int .u16 (k : Int), .int .i64 (o : Int), .string cl.str] 35) = W at ab1 rc rx1 ⊢
  obtain ⟨A0, HA0⟩ : ∃ A0, Hid (w.heap.size = A0) := ⟨_, rfl⟩
  rw [HA0.out] at rc rx1 ⊢
  have own2 := (HCC.out.below ab1).at_.wown t ht
  have x1 := row_at rx1 1 _ rfl
  have y2 := row_at rc 2 _ rfl
  obtain ⟨ys, HY⟩ : ∃ ys, Hid (atP t.ws k = ys) := ⟨_, rfl⟩
  obtain ⟨b, HB⟩ : ∃ b, Hid (hasP t.ws k = b) := ⟨_, rfl⟩
  rw [HY.out] at HA HW
  rw [HB.out] at HH
  have rA : Row (W.alloc (.cells (bs (zs 64)) 38)) W.heap.size (bs (zs 64)) 38 := Row.new _ _ _
  have hl1 := rc.lt
  have hl0 := rx1.lt
  have rcb : Row ((W.alloc (.cells (bs (zs 64)) 38)).setRow W.heap.size (bs ys)) (A0 + 1) #[.int .u8 cl.kind, .int .u64 cl.txn, .int .u16 (k : Int), .int .i64 (o : Int), .string cl.str] 35 := (rc.alloc _).other (by omega) _
  have rxb : Row ((W.alloc (.cells (bs (zs 64)) 38)).setRow W.heap.size (bs ys)) A0 #[.int .u32 t.start, .map (some t.mb)] 70 := (rx1.alloc _).other (by omega) _
  have ab2 : Below w.heap.size w ((W.alloc (.cells (bs (zs 64)) 38)).setRow W.heap.size (bs ys)) := below_setRow (ab1.alloc ab1.size _) ab1.size _
  have HWL : Hid (ys.length = 64) := HW.out.1
  have ts : Hid (1 = 1) := rfl
  go_upto_region 2 with (first
    | (at_lookup; refine wpList_lookup_own_ok _ rfl _ _ 68 rfl 33 38 lawK Try.underlying68 wrR (hz38 _) (.held (zs 64)) [] (wrR_mk zs_wr) t.mb _ _ rfl own2 _ _ rfl (keyOf_int_mk Try.underlying33 hk) ?_; intro v ps hv; rw [HA.out] at hv; obtain ⟨xs, _, hvx, hxy⟩ := wrR_inv hv; obtain rfl : ys = xs := (by injection hxy with q; injection q); subst hvx; clear hv hxy; rw [HH.out])
    | (have hh := ts; clear hh ts; refine store_cells rfl 38 (.tmp 7) (.tmp 16) rfl W.heap.size (bs ys) rfl rfl 38 _ rA 64 size38 (by rw [bs_size, zs_length]) (by rw [bs_size]; exact HWL.out) (bs_one ys) ?_))
  clear x1 y2 own2 rc rx1 rA ab1 hl1 hl0
  generalize (W.alloc (.cells (bs (zs 64)) 38)).setRow W.heap.size (bs ys) = W1 at rcb rxb ab2 ⊢
  generalize W.heap.size = A2
  have x1 := row_at rxb 1 _ rfl
  have own3 := (HCC.out.below ab2).at_.wown t ht
  have hb : b = false ∧ (t.ws.length : Int) ≥ 4 := by
    have := HF.out
    unfold full at this
    rw [HB.out] at this
    simp at this
    exact ⟨this.1, by omega⟩
  obtain ⟨hb, hlen⟩ := hb
  subst hb
  go_wp2_with (at_len; refine len_own_g (by rfl) _ 68 rfl 33 38 Try.underlying68 _ t.mb _ _ rfl own3 ?_; rw [HSZ.out])
  rw [HPP.out]
  try go_ret
  exact ⟨rfl, ab2⟩
end Go.Proofs.Ytpncmbkklkfmnaa
