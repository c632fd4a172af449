/-
  Proved here: what Read, Pages and Write of a set answer, and make of it.
-/
import Derived.Test.YtmnbfcmamhinbabWsf
import Derived.Test.YtmnbfcmamhinbabLst
namespace Go.Proofs.Ytmnbfcmamhinbab.Ws
open Go.ChangeShapes Go.WideShapes Go.ChangeAt Go.RowKit
open Go.Deep Go.Maps
set_option linter.unusedVariables false
set_option linter.unusedSimpArgs false

def nums (s : ByteArray) : List Int := s.data.toList.map fun c => (c.toNat : Int)
theorem nums_length (s : ByteArray) : (nums s).length = s.size := by simp [nums]
theorem nums_bytes (s : ByteArray) : Bytes (nums s) := by
  intro y hy
  obtain ⟨c, _, rfl⟩ := List.mem_map.1 hy
  have := c.toNat_lt
  omega
theorem copy_text {P : Program} {ops : Array Oper} {rest : List Oper} {o : Oper} {a : Act} {w : World} {Q : Exit → Act → World → Prop} (hgd : o.guard = none) (d s : Operand) (dT sT : TypeId)
    (ho : o.op = .call { callee := .builtin .copy, args := #[d, s], argTypes := #[dT, sT] }) (elem : TypeId) (hu : P.underlying dT = some (.slice elem)) (hsz : (P.info? elem).map (·.size) = some 1)
    (g off dLen dCap : Nat) (hd : a.eval d = .slice (some ⟨g, off, none⟩) dLen dCap) (t : ByteArray) (hs : a.eval s = .string t)
    (cur : List Int) (ty : TypeId) (hg : Row w g (bs cur) ty) (hle : t.size ≤ dLen) (hfit : off + t.size ≤ cur.length)
    (h : wpList P ops Q rest (a.put o.dst (goInt t.size)) (w.setRow g (bs (splice cur off (nums t))))) : wpList P ops Q (o :: rest) a w := by
  refine wpList_plain hgd fun K hK => ?_
  have hl := nums_length t
  have hst := run_storeCells_at (P := P) g off ty (bs (nums t)).toList 0 (bs cur) w hg (by simp [bs_size, hl]; simpa [bs, hl] using hfit) (by intro v hv; have := bs_one (nums t); rw [Array.all_eq_true_iff_forall_mem] at this; exact this v (by simpa using hv))
  have e : ((bs cur).toList.take (off + 0) ++ (bs (nums t)).toList ++ (bs cur).toList.drop (off + 0 + (bs (nums t)).toList.length)).toArray = bs (splice cur off (nums t)) := by
    simp [bs, splice]
  rw [e] at hst
  have hmin : Nat.min t.size dLen = t.size := Nat.min_eq_left hle
  have hrun : (Builtin.copy_ #[dT, sT] o.type #[.slice (some ⟨g, off, none⟩) dLen dCap, .string t]).run P w = .ok (goInt t.size) (w.setRow g (bs (splice cur off (nums t)))) := by
    cases hq : P.info? elem with
    | none => simp [hq] at hsz
    | some i =>
      have hi : i.size = 1 := by simpa [hq] using hsz
      have e4 : List.take t.size (List.map (fun b => Value.int .u8 (b.toNat : Int)) t.data.toList) = (bs (nums t)).toList := by
        rw [List.take_of_length_le (by simp)]
        simp [bs, nums]
      simp [Builtin.copy_, run_underlying hu, Builtin.lenOf, Builtin.firstCells, sizeOf, typeInfo, hq, hi, hmin, e4, hst]
  unfold Oper.wp
  simp [execOp, ho, resolve, invoke, builtin, hd, hs, hrun, Result.andThen]
  exact hK _ _ h

theorem yields_cells {P : Program} {ops : Array Oper} {S : World → Prop} {o : Oper} {a : Act} (hw : Region.wanted o (yielded ops a.tmps) = true) (ty : TypeId) (x : Operand) (ho : o.op = .load ty x)
    (g : Nat) (hx : a.eval x = .pointer (some ⟨g, 0, none⟩)) (t : TypeId) (cs : Array Value) (hg : ∀ w, S w → Row w g cs t) (n : Nat) {d : TypeDesc}
    (hu : P.underlying ty = some d) (hd : (match d with | .struct _ | .array _ _ => true | _ => false) = true) (hi : (P.info? ty).map (·.size) = some n) (hn : cs.size = n) : YieldsIf P ops S o (.agg cs) a := by
  refine Or.inl ⟨hw, fun w hS => ?_⟩
  unfold execOp
  simp only [ho, hx, Instr.loadAt, Instr.sureAddr, Sem.run_bind, Sem.run_pure, Result.andThen_ok, run_loadVar_row w g t ty cs (0, 0) _ (hg w hS) hu hd (by rw [hi, hn])]

theorem range_bs {w : World} {g : Nat} {ys : List Int} {t : TypeId} (h : Row w g (bs ys) t) (o n : Nat) : w.rangeAt g o (bs ((ys.drop o).take n)).toList := by
  intro j v hv
  rw [cell_of_row w g _ _ _ _ h, bs_at]
  have e : (bs ((ys.drop o).take n)).toList = ((ys.drop o).take n).map (Value.int .u8) := by simp [bs]
  rw [e, List.getElem?_map, List.getElem?_take] at hv
  split at hv
  · rw [List.getElem?_drop] at hv
    exact hv
  · cases hv
theorem load_part {ops : Array Oper} {rest : List Oper} {o : Oper} {a : Act} {w : World} {Q : Exit → Act → World → Prop} (hgd : o.guard = none) (x : Operand) (ho : o.op = .load 42 x) (g of : Nat) (hx : a.eval x = .pointer (some ⟨g, of, none⟩)) (ys : List Int) (t : TypeId) (hr : Row w g (bs ys) t) (hl : of + 64 ≤ ys.length)
    (h : wpList Try.prog ops Q rest (a.put o.dst (.agg (bs ((ys.drop of).take 64)))) w) : wpList Try.prog ops Q (o :: rest) a w := by
  have e : (bs ((ys.drop of).take 64)).toList.length = 64 := by simp [bs]; omega
  exact wpList_load_mid hgd 42 x ho g of hx (bs ((ys.drop of).take 64)).toList _ (range_bs hr of 64) Try.underlying42 rfl (by rw [size42, e]) (by simpa using h)
/-- A page as it is; and as it came in. -/
def nowP (ys : List Int) : List Int := (ys.drop 64).take 64
def baseP (ys : List Int) : List Int := (ys.drop 0).take 64
set_option maxRecDepth 20000 in
set_option maxHeartbeats 1000000 in
theorem read_any {w : World} {s m : Nat} {L : List (Int × List Int)} (c : SAt w s m L) (k : Int) (hk : (Lit.int .u16 k).wf = true) :
    Calls Try.prog 18 #[.pointer (some ⟨s, 0, none⟩), .int .u16 k] w fun e w' => e = .returned (.tuple #[.agg (bs (nowP (atP L k))), .bool (hasP L k)]) ∧ Below w.heap.size w w' := by
  have HW : Hid (Wr (atP L k)) := c.at_wr k
  have hz := zero42
  have hz2 := zero73
  have ab : Below w.heap.size w (w.alloc (.cells (bs (zs 64)) 42)) := (Below.refl _ _).alloc (Nat.le_refl _) _
  have r0 : Row (w.alloc (.cells (bs (zs 64)) 42)) w.heap.size (bs (zs 64)) 42 := Row.new _ _ _
  have hf := find_any (c.below ab) k hk
  obtain ⟨ys, HY⟩ : ∃ ys, Hid (atP L k = ys) := ⟨_, rfl⟩
  rw [HY.out] at hf HW ⊢
  obtain ⟨b, HB⟩ : ∃ b, Hid (hasP L k = b) := ⟨_, rfl⟩
  rw [HB.out] at hf ⊢
  clear c
  obtain ⟨A0, HA0⟩ : ∃ A0, Hid (w.heap.size = A0) := ⟨_, rfl⟩
  have hwl := HW.out.1
  have ts : Hid (1 = 1) := rfl
  go_enter Try.func18, Try.ntmps18
  go_upto_region 2 with (first
    | (go_at_call 30; refine hf.mono ?_; clear hf; rintro e w1 ⟨he, b1⟩; obtain rfl := he; have r1 := r0.below b1 r0.lt; have rb1 := ab.trans (b1.mono ab.size); clear b1 r0 ab; have rA : Row (w1.alloc (.cells (bs (zs 128)) 73)) w1.heap.size (bs (zs 128)) 73 := Row.new _ _ _; have rB : Row ((w1.alloc (.cells (bs (zs 128)) 73)).setRow w1.heap.size (bs ys)) w1.heap.size (bs ys) 73 := rA.set _; have r2 : Row ((w1.alloc (.cells (bs (zs 128)) 73)).setRow w1.heap.size (bs ys)) w.heap.size (bs (zs 64)) 42 := (r1.alloc _).other (by have := r1.lt; omega) _; have b2 : Below w.heap.size w ((w1.alloc (.cells (bs (zs 128)) 73)).setRow w1.heap.size (bs ys)) := below_setRow (rb1.alloc rb1.size _) rb1.size _; clear r1 rb1)
    | (have hh := ts; clear hh ts; refine store_cells rfl 73 (.tmp 6) (.tmp 12) rfl w1.heap.size (bs ys) rfl rfl 73 _ rA 128 size73 (by rw [bs_size, zs_length]) (by rw [bs_size]; exact hwl) (bs_one ys) ?_))
  clear rA hz hz2
  generalize (w1.alloc (.cells (bs (zs 128)) 73)).setRow w1.heap.size (bs ys) = W1 at rB r2 b2 ⊢
  generalize w1.heap.size = A1 at rB ⊢
  rw [HA0.out] at r2 ⊢
  have r3 : Row (W1.setRow A0 (bs (nowP ys))) A0 (bs (nowP ys)) 42 := r2.set _
  have b3 : Below w.heap.size w (W1.setRow A0 (bs (nowP ys))) := below_setRow b2 (by rw [HA0.out]; exact Nat.le_refl _) _
  have HNL : Hid ((nowP ys).length = 64) := by show _ = _; unfold nowP; rw [List.length_take, List.length_drop]; omega
  have tl : Hid (1 = 1) := rfl
  have ts : Hid (1 = 1) := rfl
  go_wp2_with (first
    | (have hh := tl; clear hh tl; refine load_part rfl (.tmp 14) rfl A1 64 rfl ys 73 rB (by omega) ?_)
    | (have hh := ts; clear hh ts; refine store_cells rfl 42 (.tmp 4) (.tmp 15) rfl A0 (bs (nowP ys)) rfl rfl 42 _ r2 64 size42 (by rw [bs_size, zs_length]) (by rw [bs_size]; exact HNL.out) (bs_one _) ?_))
  generalize W1.setRow A0 (bs (nowP ys)) = W2 at r3 b3 ⊢
  refine bodyPost_ret (ret_cell2 rfl _ _ A0 42 (bs (nowP ys)) _ (.bool b) rfl rfl r3 Try.underlying42 rfl (by rw [size42, bs_size, HNL.out])) rfl ?_
  exact ⟨rfl, b3⟩
theorem hasP_mem (L : List (Int × List Int)) (x : Int) : hasP L x = true ↔ x ∈ L.map Prod.fst := by
  unfold hasP
  simp [List.any_eq_true]
theorem pages_any {w : World} {s m : Nat} {L : List (Int × List Int)} (c : SAt w s m L) : Calls Try.prog 22 #[.pointer (some ⟨s, 0, none⟩)] w fun e w' => ∃ a cap cur, e = .returned (.slice (some ⟨a, 0, none⟩) L.length cap) ∧ S2.UAt w' a cur (L.map Prod.fst) ∧ Below w.heap.size w w' ∧ w.heap.size ≤ a := by
  have hr := S2.rising_any c.own (L.map Prod.fst) (by rw [List.pairwise_map]; exact c.rising) (fun x => by rw [setD_has]; exact hasP_mem L x) (by rw [setD_size]; simp) (by have := c.small; simp; omega)
  have c3 := row_at c.row 0 _ rfl
  obtain ⟨PP, HPP⟩ : ∃ PP : Ending → World → Prop, Hid (PP = fun e w' => ∃ a cap cur, e = .returned (.slice (some ⟨a, 0, none⟩) L.length cap) ∧ S2.UAt w' a cur (L.map Prod.fst) ∧ Below w.heap.size w w' ∧ w.heap.size ≤ a) := ⟨_, rfl⟩
  have HQ : Hid (∀ e w', S2.Rose w (L.map Prod.fst) e w' → ∃ v, e = .returned v ∧ PP (.returned v) w') := fun e w' q => by
    obtain ⟨a, cap, cur, he, h1, h2, h3⟩ := q
    rw [List.length_map] at he
    exact ⟨_, he, by rw [HPP.out]; exact ⟨a, cap, cur, rfl, h2, h3, h1⟩⟩
  rw [← HPP.out]
  clear HPP
  go_enter Try.func22, Try.ntmps22
  go_wp2_with (go_at_call 34; refine hr.mono ?_; clear hr; intro e w2 hq; obtain ⟨v, he, hq2⟩ := HQ.out _ _ hq; obtain rfl := he; clear hq)
  try go_ret
  exact hq2
theorem step_update {H : Type} {P : Program} {ops : Array Oper} {o : Oper} {a : Act} {w : World} {K : Act → World → Prop} {Q : Exit → Act → World → Prop} {E : Prop} (hgd : o.guard = none) (m x v : Operand) (t : TypeId) (hop : o.op = Op.mapUpdate t m x v)
    (k e : TypeId) (KK : Keyed P k) (ht : P.underlying t = some (.map k e)) (R : Value → Option (DataW H × List MemPlace)) (b n : Nat) (D : DataW H)
    (hm : a.eval m = .map (some b)) (hown : w.ownsMap P k R b n D) (hn : n < maxLen) (key val : Value) (kl : Lit) (hx : a.eval x = key) (hv : a.eval v = val) (hkey : keyOf P k key = some kl)
    (d : DataW H) (ps : List MemPlace) (hval : R val = some (d, ps))
    (hK : ∀ w', w'.ownsMap P k R b (n + 1) (D.put kl d) → w.mapTurned w' b → K (a.put o.dst undef) w') :
    if Region.wanted o (yielded ops a.tmps) = true then Oper.wp P o a w K Q else E := by
  have hw : Region.wanted o (yielded ops a.tmps) = true := by simp [Region.wanted, hgd]
  rw [if_pos hw]
  obtain ⟨w', hrun, r1, r2⟩ := hown.store KK ht hn hkey hval
  unfold Oper.wp
  simp [execOp, hop, hm, hx, hv, hrun, Result.andThen]
  exact hK w' r1 r2
/-- Whether a writing's place is one. -/
def okW (off : Int) (t : ByteArray) : Prop := 0 ≤ off ∧ off ≤ 64 ∧ (t.size : Int) ≤ 64 - off
/-- What a page is behind a writing. -/
def wroteP (L : List (Int × List Int)) (k : Int) (bse : List Int) (off : Int) (t : ByteArray) : List Int :=
  splice (if hasP L k = true then atP L k else bse ++ bse) (64 + off.toNat) (nums t)
theorem write_bad {w : World} {s m : Nat} {L : List (Int × List Int)} (c : SAt w s m L) (k : Int) (bse : List Int) (off : Int) (t : ByteArray) (h : ¬ okW off t) (hl : bse.length = 64) (ht : t.size ≤ 9223372036854775807) (ho : -9223372036854775808 ≤ off) (ho' : off ≤ 9223372036854775807) :
    Calls Try.prog 16 #[.pointer (some ⟨s, 0, none⟩), .int .u16 k, .agg (bs bse), .int .i64 off, .string t] w fun e w' => e = .returned (.int .i64 1) ∧ Below w.heap.size w w' := by
  have ab : Below w.heap.size w (w.alloc (.cells (bs bse) 42)) := (Below.refl _ _).alloc (Nat.le_refl _) _
  clear c
  by_cases h1 : off < 0
  · go_enter Try.func16, Try.ntmps16
    go_wp2
    go_ret
    exact ⟨rfl, ab⟩
  · by_cases h2 : off > 64
    · go_enter Try.func16, Try.ntmps16
      go_wp2
      go_ret
      exact ⟨rfl, ab⟩
    · have hw : IntKind.i64.wrap (64 - off) = 64 - off := by rw [IntKind.wrap_i64]; omega
      have h3 : (t.size : Int) > 64 - off := by
        unfold okW at h
        omega
      go_enter Try.func16, Try.ntmps16
      go_wp2
      go_ret
      exact ⟨rfl, ab⟩

/-- What a Write that was taken leaves. -/
def Wrote (w : World) (s m : Nat) (L : List (Int × List Int)) (k : Int) (zz : List Int) (e : Ending) (w' : World) : Prop :=
  e = .returned (.int .i64 0) ∧ SAt w' s m (putP L k zz) ∧ Off (two s m) w w'
theorem splice_wr {ys : List Int} (h : Wr ys) {off : Nat} {t : ByteArray} (hl : 64 + off + t.size ≤ 128) : Wr (splice ys (64 + off) (nums t)) := by
  refine ⟨by rw [length_splice _ _ _ (by rw [nums_length, h.1]; exact hl), h.1], fun y hy => ?_⟩
  unfold splice at hy
  rcases List.mem_append.1 hy with q | q
  · exact h.2 y (List.mem_of_mem_take q)
  · rcases List.mem_append.1 q with q | q
    · exact nums_bytes t y q
    · exact h.2 y (List.mem_of_mem_drop q)
end Go.Proofs.Ytmnbfcmamhinbab.Ws
