/-
  Proved here: the program's set and the document's, side by side; what Delta tells of a page that wasn't written.
-/
import Derived.Test.YtmnbfcmamhinbabWrd
import Derived.Test.YtmnbfcmamhinbabDrm
namespace Go.Proofs.Ytmnbfcmamhinbab.Ws
open Go.ChangeShapes Go.WideShapes Go.ChangeAt Go.RowKit
open Go.Deep Go.Maps
set_option linter.unusedVariables false
set_option linter.unusedSimpArgs false
set_option maxRecDepth 20000

theorem nowP_splice (ys xs : List Int) (of : Nat) (h : ys.length = 128) (hl : of + xs.length ≤ 64) : nowP (splice ys (64 + of) xs) = splice (nowP ys) of xs := by
  have hn : (nowP ys).length = 64 := by unfold nowP; rw [List.length_take, List.length_drop, h]; omega
  apply List.ext_getElem?
  intro i
  rw [splice_at _ _ _ _ (by omega)]
  unfold nowP
  rw [List.getElem?_take, List.getElem?_drop, splice_at _ _ _ _ (by omega), List.getElem?_take, List.getElem?_drop]
  by_cases h1 : i < of
  · rw [if_pos h1, if_pos (by omega), if_pos (by omega), if_pos (by omega)]
  · rw [if_neg h1]
    by_cases h2 : i < of + xs.length
    · rw [if_pos h2, if_pos (by omega), if_neg (by omega), if_pos (by omega)]
      congr 1; omega
    · rw [if_neg h2]
      by_cases h3 : i < 64
      · rw [if_pos h3, if_neg (by omega), if_neg (by omega), if_pos h3]
      · rw [if_neg h3, if_neg h3]
theorem nowP_two (b : List Int) (h : b.length = 64) : nowP (b ++ b) = b := by
  unfold nowP
  rw [List.drop_append_of_le_length (by omega), List.drop_of_length_le (by omega), List.nil_append, List.take_of_length_le (by omega)]
theorem wrote_now {L : List (Int × List Int)} {o : Wo} (ho : o.Ok) (hk : okW o.off o.t) (hw : Wr (atP L o.pg)) : nowP (wroteP L o.pg o.b o.off o.t) = splice (if hasP L o.pg = true then nowP (atP L o.pg) else o.b) o.off.toNat (nums o.t) := by
  have h1 := hk.1
  have h2 := hk.2.2
  unfold wroteP
  rw [nowP_splice _ _ _ (by split; exact hw.1; rw [List.length_append, ho.2.1]) (by rw [nums_length]; omega)]
  split
  · rfl
  · rw [nowP_two _ ho.2.1]
/-- The two sets tell the same. -/
structure RelW (L : List (Int × List Int)) (os : List Wo) : Prop where
  has : ∀ p, hasP L p = hasW os p
  rd : ∀ p, hasP L p = true → rdW os p = (true, baseP (atP L p), nowP (atP L p))
  no : ∀ p, hasP L p = false → rdW os p = (false, zs 64, zs 64)
  cnt : cntN os os.length = L.length
  good : ∀ o ∈ os, okW o.off o.t
theorem RelW.nil : RelW [] [] := ⟨fun p => rfl, fun p h => by simp [hasP] at h, fun p _ => rfl, rfl, fun o ho => by cases ho⟩
theorem RelW.err {L : List (Int × List Int)} {os : List Wo} (h : RelW L os) (o : Wo) : wrE L o = wE os o := by
  unfold wrE wE
  rw [h.has, h.cnt]
theorem hasW_snoc (os : List Wo) (o : Wo) (p : Int) : hasW (os ++ [o]) p = (hasW os p || decide (o.pg = p)) := by
  unfold hasW; rw [List.any_append]; simp
theorem cntN_snoc (os : List Wo) (o : Wo) : cntN (os ++ [o]) (os ++ [o]).length = cntN os os.length + if hasW os o.pg = true then 0 else 1 := by
  have e : (os ++ [o]).length = os.length + 1 := by simp
  have e1 : newW (os ++ [o]) os.length = !hasW os o.pg := by
    unfold newW
    rw [List.getElem?_append_right (Nat.le_refl _), Nat.sub_self]
    simp
  have e2 : cntN (os ++ [o]) os.length = cntN os os.length := by
    unfold cntN
    congr 1
    apply List.filter_congr
    intro i hi
    have hi' := List.mem_range.1 hi
    unfold newW
    rw [List.getElem?_append_left hi', List.take_append_of_le_length (by omega)]
  rw [e, cntN_succ, e1, e2]
  cases hasW os o.pg <;> simp
theorem RelW.step {L : List (Int × List Int)} {os : List Wo} (h : RelW L os) (hr : L.Pairwise fun p q => p.1 < q.1) {o : Wo} (ho : o.Ok) (hw : Wr (atP L o.pg)) : RelW (wrL L o) (wL os o) := by
  unfold wrL wL
  rw [h.err]
  split
  · rename_i h0
    have hk : okW o.off o.t := wrE_ok (L := L) (by rw [h.err]; exact h0)
    refine ⟨fun p => ?_, fun p hp => ?_, fun p hp => ?_, ?_, fun x hx => ?_⟩
    · rw [hasW_snoc]
      by_cases q : p = o.pg
      · subst q; rw [(put_same hr _ _).2]; simp
      · rw [(put_other hr _ _ q).2, h.has, decide_eq_false (fun e => q e.symm), Bool.or_false]
    · rw [rdW_snoc]
      unfold rdS
      by_cases q : p = o.pg
      · subst q
        rw [if_pos rfl, (put_same hr _ _).1, wrote_base ho hw, wrote_now ho hk hw]
        cases hh : hasP L o.pg with
        | true => rw [h.rd _ hh]; try rfl
        | false => rw [h.no _ hh]; try rfl
      · rw [if_neg (fun e => q e.symm), (put_other hr _ _ q).1]
        rw [(put_other hr _ _ q).2] at hp
        exact h.rd p hp
    · rw [rdW_snoc]
      unfold rdS
      by_cases q : p = o.pg
      · subst q; rw [(put_same hr _ _).2] at hp; cases hp
      · rw [if_neg (fun e => q e.symm)]
        rw [(put_other hr _ _ q).2] at hp
        exact h.no p hp
    · rw [cntN_snoc, h.cnt, put_length hr, ← h.has]
      cases hasP L o.pg <;> simp
    · rcases List.mem_append.1 hx with q | q
      · exact h.good x q
      · simp at q; subst q; exact hk
  · exact h
theorem delS_zero : delS (zs 64) (zs 64) = ⟨#[]⟩ := by
  unfold delS
  rw [(Dl.make_empty (zs 64) (zs 64) (zs_length _) (zs_length _) (fun y hy => by rw [List.eq_of_mem_replicate hy]; omega)).2 rfl]
  rfl
set_option maxHeartbeats 1000000 in
theorem delta_no {w : World} {s m : Nat} {L : List (Int × List Int)} (c : SAt w s m L) (k : Int) (hk : (Lit.int .u16 k).wf = true) (hh : hasP L k = false) :
    Calls Try.prog 20 #[.pointer (some ⟨s, 0, none⟩), .int .u16 k] w fun e w' => e = .returned (.string ⟨#[]⟩) ∧ Below w.heap.size w w' := by
  have HW : Hid (Wr (atP L k)) := c.at_wr k
  have hz2 := zero73
  have hf := find_any c k hk
  rw [hh] at hf
  obtain ⟨ys, HY⟩ : ∃ ys, Hid (atP L k = ys) := ⟨_, rfl⟩
  rw [HY.out] at hf HW
  have hwl := HW.out.1
  have ts : Hid (1 = 1) := rfl
  go_enter Try.func20, Try.ntmps20
  go_wp2_with (first
    | (go_at_call 30; refine hf.mono ?_; clear hf; rintro e w1 ⟨he, b1⟩; obtain rfl := he; have rA : Row (w1.alloc (.cells (bs (zs 128)) 73)) w1.heap.size (bs (zs 128)) 73 := Row.new _ _ _; have b2 : Below w.heap.size w ((w1.alloc (.cells (bs (zs 128)) 73)).setRow w1.heap.size (bs ys)) := below_setRow (b1.alloc b1.size _) b1.size _)
    | (have hh := ts; clear hh ts; refine store_cells rfl 73 (.tmp 5) (.tmp 11) rfl w1.heap.size (bs ys) rfl rfl 73 _ rA 128 size73 (by rw [bs_size, zs_length]) (by rw [bs_size]; exact hwl) (bs_one ys) ?_))
  go_ret
  exact ⟨rfl, b2⟩
theorem zeroOf49 : (Try.prog.info? 49).map (·.zero) = some (some (.agg zW)) := by kernel_rfl
theorem places49 : placesOf Try.prog 49 = some [(0, 1), (1, 64), (65, 1), (66, 1)] := by kernel_rfl
theorem splice_atV {α : Type} (l m : List α) (o i : Nat) (h : o + m.length ≤ l.length) : (splice l o m)[i]? = if i < o then l[i]? else if i < o + m.length then m[i - o]? else l[i]? := by
  have el : (l.take o).length = o := by simp; omega
  unfold splice
  by_cases h1 : i < o
  · rw [if_pos h1, List.getElem?_append_left (by omega), List.getElem?_take, if_pos h1]
  · rw [if_neg h1, List.getElem?_append_right (by omega), el]
    by_cases h2 : i < o + m.length
    · rw [if_pos h2, List.getElem?_append_left (by omega)]
    · rw [if_neg h2, List.getElem?_append_right (by omega), List.getElem?_drop]
      congr 1; omega
theorem splice_lenV {α : Type} (l m : List α) (o : Nat) (h : o + m.length ≤ l.length) : (splice l o m).length = l.length := by
  unfold splice
  simp
  omega
theorem built49 (o : Wo) (ho : o.b.length = 64) : Try.prog.built 49 [(0, .int .u16 o.pg), (1, .agg (bs o.b)), (2, .int .i64 o.off), (3, .string o.t)] = some o.cells.toArray := by
  rw [built_struct zeroOf49 places49]
  have z : (Value.agg zW).cells = zW := rfl
  rw [z]
  have z0 : zW.toList.length = 67 := by rw [Array.length_toList]; exact zW_size
  generalize zW = ZZ at z0
  have l1 : (splice ZZ.toList 0 [Value.int .u16 o.pg]).length = 67 := by rw [splice_lenV _ _ _ (by show 0 + 1 ≤ _; omega), z0]
  have l2 : (splice (splice ZZ.toList 0 [Value.int .u16 o.pg]) 1 (o.b.map (Value.int .u8))).length = 67 := by rw [splice_lenV _ _ _ (by rw [List.length_map, ho, l1]; omega), l1]
  have l3 : (splice (splice (splice ZZ.toList 0 [Value.int .u16 o.pg]) 1 (o.b.map (Value.int .u8))) 65 [Value.int .i64 o.off]).length = 67 := by rw [splice_lenV _ _ _ (by show 65 + 1 ≤ _; omega), l2]
  have l4 : (splice (splice (splice (splice ZZ.toList 0 [Value.int .u16 o.pg]) 1 (o.b.map (Value.int .u8))) 65 [Value.int .i64 o.off]) 66 [Value.string o.t]).length = 67 := by rw [splice_lenV _ _ _ (by show 66 + 1 ≤ _; omega), l3]
  rw [fill_step _ _ 0 (.int .u16 o.pg) _ 0 1 rfl rfl (by rw [← Array.length_toList, z0]; omega)]
  rw [fill_step _ _ 1 (.agg (bs o.b)) _ 1 64 rfl (by show (bs o.b).size = 64; rw [bs_size, ho]) (by show 1 + 64 ≤ (splice ZZ.toList 0 [Value.int .u16 o.pg]).length; rw [l1]; omega)]
  rw [fill_step _ _ 2 (.int .i64 o.off) _ 65 1 rfl rfl (by show 65 + 1 ≤ (splice (splice ZZ.toList 0 [Value.int .u16 o.pg]) 1 (o.b.map (Value.int .u8))).length; rw [l2]; omega)]
  rw [fill_step _ _ 3 (.string o.t) _ 66 1 rfl rfl (by show 66 + 1 ≤ (splice (splice (splice ZZ.toList 0 [Value.int .u16 o.pg]) 1 (o.b.map (Value.int .u8))) 65 [Value.int .i64 o.off]).length; rw [l3]; omega)]
  unfold Instr.fill
  congr 1
  show (⟨splice (splice (splice (splice ZZ.toList 0 [Value.int .u16 o.pg]) 1 (o.b.map (Value.int .u8))) 65 [Value.int .i64 o.off]) 66 [Value.string o.t]⟩ : Array Value) = ⟨o.cells⟩
  congr 1
  apply List.ext_getElem?
  intro i
  by_cases h67 : i < 67
  · rw [splice_atV _ _ _ _ (by show 66 + 1 ≤ _; omega)]
    by_cases h66 : i < 66
    · rw [if_pos h66, splice_atV _ _ _ _ (by show 65 + 1 ≤ _; omega)]
      by_cases h65 : i < 65
      · rw [if_pos h65, splice_atV _ _ _ _ (by rw [List.length_map, ho, l1]; omega)]
        by_cases h1 : i < 1
        · rw [if_pos h1, splice_atV _ _ _ _ (by show 0 + 1 ≤ _; omega), if_neg (by omega), if_pos (by show i < 0 + 1; omega)]
          obtain rfl : i = 0 := by omega
          rfl
        · rw [if_neg h1, if_pos (by rw [List.length_map, ho]; omega)]
          obtain ⟨j, rfl⟩ : ∃ j, i = 1 + j := ⟨i - 1, by omega⟩
          rw [Nat.add_sub_cancel_left]
          have hj : j < (o.b.map (Value.int .u8)).length := by rw [List.length_map, ho]; omega
          rw [List.getElem?_eq_getElem hj]
          exact (o.c1 ho j _ (List.getElem?_eq_getElem hj)).symm
      · obtain rfl : i = 65 := by omega
        rw [if_neg (by omega), if_pos (by show 65 < 65 + 1; omega)]
        exact (o.c65 ho).symm
    · obtain rfl : i = 66 := by omega
      rw [if_neg (by omega), if_pos (by show 66 < 66 + 1; omega)]
      exact (o.c66 ho).symm
  · rw [List.getElem?_eq_none (by rw [l4]; omega), List.getElem?_eq_none (by rw [o.lenW ho]; omega)]
theorem yields_build {P : Program} {ops : Array Oper} {S : World → Prop} {o : Oper} {a : Act} (hw : Region.wanted o (yielded ops a.tmps) = true) (t : TypeId) (parts : Array (Nat × Operand)) (ho : o.op = .build t parts)
    (vs : List (Nat × Value)) (hv : (parts.toList.map fun (i, x) => (i, a.eval x)) = vs) (cs : Array Value) (hb : P.built t vs = some cs) : YieldsIf P ops S o (.agg cs) a := by
  refine Or.inl ⟨hw, fun w hS => ?_⟩
  have e : (parts.map fun (i, x) => (i, a.eval x)).toList = vs := by rw [← hv, Array.toList_map]
  unfold execOp
  simp only [ho, Sem.run_bind, run_build w t _ cs (by rw [e]; exact hb), Result.andThen_ok, Sem.run_pure]
end Go.Proofs.Ytmnbfcmamhinbab.Ws
