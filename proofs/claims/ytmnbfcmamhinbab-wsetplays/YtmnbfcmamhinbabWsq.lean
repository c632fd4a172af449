/-
  Proved here: Write in one contract; lists of bodies in memory of their own.
-/
import Derived.Test.YtmnbfcmamhinbabWso
import Derived.Maps.AppendAt
import Derived.Laws.AppendOwnNone
import Derived.Great.BuildSlice
namespace Go.Proofs.Ytmnbfcmamhinbab.Ws
open Go.ChangeShapes Go.WideShapes Go.ChangeAt Go.RowKit
open Go.Deep Go.Maps
set_option linter.unusedVariables false
set_option linter.unusedSimpArgs false
set_option maxRecDepth 20000

instance (off : Int) (t : ByteArray) : Decidable (okW off t) := by unfold okW; exact inferInstance
/-- Write's error. -/
def wrE (L : List (Int × List Int)) (o : Wo) : Int := if okW o.off o.t then (if hasP L o.pg = true ∨ L.length < 4 then 0 else 10) else 1
/-- The set behind a Write. -/
def wrL (L : List (Int × List Int)) (o : Wo) : List (Int × List Int) := if wrE L o = 0 then putP L o.pg (wroteP L o.pg o.b o.off o.t) else L
theorem write_any {w : World} {s m : Nat} {L : List (Int × List Int)} (c : SAt w s m L) (o : Wo) (ho : o.Ok) :
    Calls Try.prog 16 #[.pointer (some ⟨s, 0, none⟩), .int .u16 o.pg, .agg (bs o.b), .int .i64 o.off, .string o.t] w fun e w' => e = .returned (.int .i64 (wrE L o)) ∧ SAt w' s m (wrL L o) ∧ Off (two s m) w w' := by
  obtain ⟨h1, h2, h3, h4, h5⟩ := ho
  have hb := bounds_i64 h4
  by_cases hk : okW o.off o.t
  · obtain ⟨of, hof⟩ : ∃ of : Nat, o.off = of := ⟨o.off.toNat, by have := hk.1; omega⟩
    have hk1 := hk.2.1
    have hk2 := hk.2.2
    cases hh : hasP L o.pg with
    | true =>
      have e0 : wrE L o = 0 := by unfold wrE; rw [if_pos hk, if_pos (Or.inl hh)]
      have e1 : wrL L o = putP L o.pg (splice (atP L o.pg) (64 + of) (nums o.t)) := by unfold wrL wroteP; rw [if_pos e0, if_pos hh, hof]; rfl
      rw [e0, e1, hof]
      exact (write_has c o.pg h1 o.b of o.t (by omega) (by omega) h2 h3 hh).mono fun e w' h => h
    | false =>
      by_cases h4' : L.length < 4
      · have e0 : wrE L o = 0 := by unfold wrE; rw [if_pos hk, if_pos (Or.inr h4')]
        have e1 : wrL L o = putP L o.pg (splice (o.b ++ o.b) (64 + of) (nums o.t)) := by unfold wrL wroteP; rw [if_pos e0, if_neg (by rw [hh]; decide), hof]; rfl
        rw [e0, e1, hof]
        exact (write_new c o.pg h1 o.b of o.t (by omega) (by omega) h2 h3 hh h4').mono fun e w' h => h
      · have e0 : wrE L o = 10 := by unfold wrE; rw [if_pos hk, if_neg (by rw [hh]; simp; omega)]
        have e1 : wrL L o = L := by unfold wrL; rw [if_neg (by rw [e0]; decide)]
        rw [e0, e1]
        exact (write_many c o.pg h1 o.b o.off o.t hk h2 hh (by omega)).mono fun e w' h => ⟨h.1, c.below h.2, Off.of_below h.2⟩
  · have e0 : wrE L o = 1 := by unfold wrE; rw [if_neg hk]
    have e1 : wrL L o = L := by unfold wrL; rw [if_neg (by rw [e0]; decide)]
    rw [e0, e1]
    exact (write_bad c o.pg o.b o.off o.t hk h2 h5 hb.1 hb.2).mono fun e w' h => ⟨h.1, c.below h.2, Off.of_below h.2⟩
theorem nowP_getD (ys : List Int) (i : Nat) (h : i < 64) : (nowP ys).getD i 0 = ys.getD (64 + i) 0 := by
  unfold nowP
  simp only [List.getD, List.getElem?_take, if_pos h, List.getElem?_drop]
theorem wrote_getD {L : List (Int × List Int)} {o : Wo} (ho : o.Ok) (hk : okW o.off o.t) (hw : Wr (atP L o.pg)) (i : Nat) (hi : i < 64) :
    (nowP (wroteP L o.pg o.b o.off o.t)).getD i 0 = if o.off ≤ i ∧ (i : Int) - o.off < o.t.size then (nums o.t).getD ((i : Int) - o.off).toNat 0 else if hasP L o.pg = true then (nowP (atP L o.pg)).getD i 0 else o.b.getD i 0 := by
  obtain ⟨of, hof⟩ : ∃ of : Nat, o.off = of := ⟨o.off.toNat, by have := hk.1; omega⟩
  have hk1 := hk.2.1
  have hk2 := hk.2.2
  have hbl := ho.2.1
  have hlen : (if hasP L o.pg = true then atP L o.pg else o.b ++ o.b).length = 128 := by
    split
    · exact hw.1
    · rw [List.length_append, hbl]
  have hbase : (if hasP L o.pg = true then atP L o.pg else o.b ++ o.b).getD (64 + i) 0 = if hasP L o.pg = true then (nowP (atP L o.pg)).getD i 0 else o.b.getD i 0 := by
    split
    · rw [nowP_getD _ _ hi]
    · simp only [List.getD]
      rw [List.getElem?_append_right (by omega), hbl, Nat.add_sub_cancel_left]
  rw [nowP_getD _ _ hi]
  unfold wroteP
  generalize (if hasP L o.pg = true then atP L o.pg else o.b ++ o.b) = base at hlen hbase ⊢
  generalize (if hasP L o.pg = true then (nowP (atP L o.pg)).getD i 0 else o.b.getD i 0) = rhs at hbase ⊢
  rw [splice_getD _ _ _ _ (by rw [hlen, nums_length, hof]; simp only [Int.toNat_natCast]; omega), hof, nums_length]
  simp only [Int.toNat_natCast]
  by_cases h1 : i < of
  · rw [if_pos (by omega), if_neg (by omega), hbase]
  · rw [if_neg (by omega)]
    by_cases h2 : i - of < o.t.size
    · rw [if_pos (by omega), if_pos ⟨by omega, by omega⟩]
      congr 1; omega
    · rw [if_neg (by omega), if_neg (by omega), hbase]
theorem wrL_has {L : List (Int × List Int)} (h : L.Pairwise fun p q => p.1 < q.1) (o : Wo) (p : Int) (hp : hasP L p = true) : hasP (wrL L o) p = true ∧ (p ≠ o.pg → atP (wrL L o) p = atP L p) := by
  unfold wrL
  split
  · by_cases q : p = o.pg
    · subst q; exact ⟨(put_same h _ _).2, fun z => absurd rfl z⟩
    · have := put_other h o.pg (wroteP L o.pg o.b o.off o.t) q
      exact ⟨by rw [this.2]; exact hp, fun _ => this.1⟩
  · exact ⟨hp, fun _ => rfl⟩
theorem wrE_ok {L : List (Int × List Int)} {o : Wo} (h : wrE L o = 0) : okW o.off o.t := by
  unfold wrE at h
  split at h
  · assumption
  · cases h
/-- Bodies, one behind the other. -/
def flatB (bl : List (List Int)) : List Value := bl.flatMap fun b => b.map (Value.int .u8)
theorem flatB_append (a b : List (List Int)) : flatB (a ++ b) = flatB a ++ flatB b := by simp [flatB]
theorem flatB_length : ∀ {bl : List (List Int)}, (∀ b ∈ bl, b.length = 64) → (flatB bl).length = bl.length * 64
  | [], _ => rfl
  | b :: r, h => by
    have ih := flatB_length (bl := r) (fun c hc => h c (List.mem_cons_of_mem _ hc))
    show (b.map (Value.int .u8) ++ flatB r).length = _
    rw [List.length_append, List.length_map, ih, h b (List.mem_cons_self ..), List.length_cons]; omega
theorem flatB_at : ∀ {bl : List (List Int)} (hl : ∀ b ∈ bl, b.length = 64) (i j : Nat) (b : List Int), bl[i]? = some b → j < 64 → (flatB bl)[i * 64 + j]? = (b.map (Value.int .u8))[j]?
  | [], _, i, j, b, h, _ => by simp at h
  | c :: r, hl, 0, j, b, h, hj => by
    simp at h; subst h
    show (c.map (Value.int .u8) ++ flatB r)[0 * 64 + j]? = _
    rw [Nat.zero_mul, Nat.zero_add, List.getElem?_append_left (by rw [List.length_map, hl c (List.mem_cons_self ..)]; exact hj)]
  | c :: r, hl, i + 1, j, b, h, hj => by
    have hc := hl c (List.mem_cons_self ..)
    show (c.map (Value.int .u8) ++ flatB r)[(i + 1) * 64 + j]? = _
    rw [List.getElem?_append_right (by rw [List.length_map, hc]; omega), List.length_map, hc, show (i + 1) * 64 + j - 64 = i * 64 + j by omega]
    exact flatB_at (fun d hd => hl d (List.mem_cons_of_mem _ hd)) i j b (by simpa using h) hj
/-- A list of bodies in memory of its own. -/
def OwnB (w : World) (base : Nat) (v : Value) (bl : List (List Int)) : Prop := (∀ b ∈ bl, b.length = 64) ∧ w.ownsRow base 42 64 v bl.length (flatB bl)
theorem OwnB.empty (w : World) (base : Nat) : OwnB w base (.slice none 0 0) [] := ⟨fun b hb => (by cases hb), rfl, Or.inl ⟨rfl, rfl⟩⟩
theorem OwnB.off {F : Nat → Prop} {w w' : World} {base : Nat} {v : Value} {bl : List (List Int)} (h : OwnB w base v bl) (ho : Off F w w') (hF : ∀ g cs, Row w g cs 42 → ¬ F g) : OwnB w' base v bl := by
  obtain ⟨h0, h⟩ := h
  have hl := World.ownsRow.lt h
  obtain ⟨h1, h2⟩ := h
  refine ⟨h0, h1, ?_⟩
  rcases h2 with h2 | ⟨g, cap, cur, rfl, hb', hc, rest⟩
  · exact Or.inl h2
  · have := hl g (by simp [Value.ownBlock])
    exact Or.inr ⟨g, cap, cur, rfl, hb', (ho.block g this.2 (hF g cur hc)).trans hc, rest⟩
theorem OwnB.keep {w w' : World} {base : Nat} {v : Value} {bl : List (List Int)} (h : OwnB w base v bl) (hb : Below w.heap.size w w') : OwnB w' base v bl := h.off (F := fun _ => False) (Off.of_below hb) (fun _ _ _ q => q)
theorem OwnB.form {w : World} {base : Nat} {v : Value} {bl : List (List Int)} (h : OwnB w base v bl) : ∃ oa cap, v = .slice oa bl.length cap ∧ ∀ i b, bl[i]? = some b → ∃ g, oa = some ⟨g, 0, none⟩ ∧ ∀ j u, (b.map (Value.int .u8))[j]? = some u → w.cell? ((⟨g, i * 64, none⟩ : Addr).add j) = some u := by
  obtain ⟨h0, h⟩ := h
  have hc := fun g hg => World.ownsRow.cells h (g := g) hg
  rcases h.2 with ⟨rfl, h2⟩ | ⟨g, cap, cur, rfl, _⟩
  · refine ⟨Option.none, 0, by rw [h2], fun i b hb => ?_⟩
    rw [List.eq_nil_of_length_eq_zero h2] at hb; simp at hb
  · refine ⟨_, cap, rfl, fun i b hb => ⟨g, rfl, fun j u hj => ?_⟩⟩
    have hj64 : j < 64 := by have := (List.getElem?_eq_some_iff.1 hj).1; rw [List.length_map, h0 b (List.mem_of_getElem? hb)] at this; exact this
    have := hc g rfl (i * 64 + j) u (by rw [flatB_at h0 i j b hb hj64]; exact hj)
    rw [Addr.add_mid, Nat.zero_add] at this
    rw [Addr.add_mid]; exact this
theorem info42 : (Try.prog.info? 42).map (fun i => (i.zero, i.size, i.bytes)) = some (some (.agg (bs (zs 64))), 64, 64) := by kernel_rfl
theorem info_parts {P : Program} {t : TypeId} {z : Option Value} {n b : Nat} (h : (P.info? t).map (fun i => (i.zero, i.size, i.bytes)) = some (z, n, b)) : ∃ i, P.info? t = some i ∧ i.zero = z ∧ i.size = n ∧ i.bytes = b := by
  obtain ⟨i, hi, e⟩ := Option.map_eq_some_iff.1 h
  simp only [Prod.mk.injEq] at e
  exact ⟨i, hi, e.1, e.2.1, e.2.2⟩
theorem OwnB.snoc {w : World} {base : Nat} {v : Value} {bl : List (List Int)} (h : OwnB w base v bl) (ty : TypeId) (X : Nat) (b : List Int) (hb6 : b.length = 64) (hX : Row w X (bs b) 42) (hb : base ≤ w.heap.size) (hn : bl.length ≤ 1000) :
    ∃ v' w', (Builtin.append_ #[59, 59] ty #[v, .slice (some ⟨X, 0, Option.none⟩) 1 1]).run Try.prog w = .ok v' w' ∧ OwnB w' base v' (bl ++ [b]) ∧ w.grownBy w' v.ownBlock := by
  obtain ⟨h0, h⟩ := h
  obtain ⟨i, hi, hz, hs, hby⟩ := info_parts info42
  obtain ⟨v', w', hr, h2, h3, h4, h5⟩ := run_append_own_at (P := Try.prog) w base 59 ty 42 i _ 64 64 Try.underlying59 hi hz hs hby rfl (by decide) v bl.length (flatB bl) h ⟨X, 0, Option.none⟩ 1 1 (b.map (Value.int .u8)) (by rw [List.length_map, hb6]) (fun j u hj => by rw [Addr.add_mid, Nat.zero_add, cell_of_row w X j _ _ _ hX, ← hj]; unfold bs; rw [List.getElem?_toArray]) (fun u hu => by obtain ⟨x, _, rfl⟩ := List.mem_map.1 hu; rfl) (by unfold maxLen; omega) (by omega) hb
  refine ⟨v', w', hr, ⟨fun c hc => ?_, ?_⟩, h3⟩
  · rcases List.mem_append.1 hc with q | q
    · exact h0 c q
    · simp at q; subst q; exact hb6
  · rw [flatB_append, List.length_append]
    have e : flatB [b] = b.map (Value.int .u8) := by simp [flatB]
    rw [e]
    exact h2
theorem wpList_body_one {ops : Array Oper} {rest : List Oper} {o : Oper} {a : Act} {w : World} {Q : Exit → Act → World → Prop} (hg : o.guard = none) (x : Operand) (ho : o.op = .buildSlice 59 1 #[(0, x)]) (b : List Int) (hb : b.length = 64) (hx : a.eval x = .agg (bs b))
    (h : wpList Try.prog ops Q rest (a.put o.dst (.slice (some ⟨w.heap.size, 0, Option.none⟩) 1 1)) (w.alloc (.cells (bs b) 42))) : wpList Try.prog ops Q (o :: rest) a w := by
  obtain ⟨i, hi, hz, hs, _⟩ := info_parts info42
  refine wpList_buildSlice hg 59 42 1 _ ho (bs b) i _ Try.underlying59 hi hz (by rw [hs]; decide) (by rw [hs]; decide) ?_ h
  have e1 : (#[(0, x)].map fun (i, x) => (i, a.eval x)).toList = [(0, .agg (bs b))] := by simp [hx]
  rw [e1, fill_step _ _ 0 (.agg (bs b)) _ 0 64 (by simp [hs]) (by show (bs b).size = 64; rw [bs_size, hb]) (by simp [hs])]
  unfold Instr.fill
  congr 1
  show (⟨splice _ 0 (bs b).toList⟩ : Array Value) = bs b
  have e2 : (bs b).toList.length = 64 := by rw [Array.length_toList, bs_size, hb]
  unfold splice
  rw [List.take_zero, List.nil_append, e2, List.drop_of_length_le (by simp [hs]), List.append_nil]
theorem OwnB.lt {w : World} {base : Nat} {v : Value} {bl : List (List Int)} (h : OwnB w base v bl) : ∀ k, v.ownBlock = some k → base ≤ k := fun k hk => (World.ownsRow.lt h.2 k hk).1
end Go.Proofs.Ytmnbfcmamhinbab.Ws
