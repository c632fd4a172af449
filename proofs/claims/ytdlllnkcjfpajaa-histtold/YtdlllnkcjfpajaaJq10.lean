/-
  Proved here: gather.
-/
import Derived.Test.YtdlllnkcjfpajaaJq08
import Derived.Test.YtdlllnkcjfpajaaJq09
namespace Go.Proofs.Ytdlllnkcjfpajaa
open Go.ChangeShapes Go.WideShapes Go.ChangeAt Go.RowKit
set_option linter.unusedVariables false
set_option linter.unusedSimpArgs false
set_option maxRecDepth 20000
theorem size39 : (Try.prog.info? 39).map (·.size) = some 5 := Pa.size39
theorem sstable_nil (w : World) : Calls Try.prog 40 #[.slice none 0 0, .func (.func 41) #[] #[]] w fun e w' => e = .returned (.tuple #[]) ∧ w' = w := by
  have h1 : Calls Try.prog 68 #[.slice none 0 0, .int .i64 0, .int .i64 0, .func (.func 41) #[] #[]] w fun e w' => e = .returned (.tuple #[]) ∧ w' = w := by
    go_enter Try.func68, Try.ntmps68
    go_upto_region 1 with fail
    go_loopw [8] (fun a wr => a = .int .i64 1 ∧ wr = w) (fun _ _ => 0)
    case atStart => exact ⟨rfl, rfl⟩
    case round =>
      obtain ⟨rfl, hww⟩ := hrel
      subst hww
      go_wp2
      go_end0
      exact ⟨rfl, rfl⟩
  have h2 : Calls Try.prog 59 #[.slice none 0 0, .int .i64 0, .func (.func 41) #[] #[]] w fun e w' => e = .returned (.tuple #[]) ∧ w' = w := by
    go_enter Try.func59, Try.ntmps59
    go_upto_region 2 with fail
    go_loopw [7, 8] (fun a b wr => a = .int .i64 0 ∧ b = .int .i64 20 ∧ wr = w) (fun _ _ _ => 0)
    case atStart => exact ⟨rfl, rfl, rfl⟩
    case round =>
      obtain ⟨rfl, rfl, hww⟩ := hrel
      subst hww
      go_upto_region 7 with (go_at_call 68; refine h1.mono ?_; clear h1; rintro e w2 ⟨he, hww⟩; rw [hww]; clear hww w2; obtain rfl := he)
      go_loopw [6] (fun a wr2 => a = .int .i64 20 ∧ wr2 = wr) (fun _ _ => 0)
      case atStart => exact ⟨rfl, rfl⟩
      case round =>
        obtain ⟨rfl, hww⟩ := hrel
        subst hww
        go_wp2
        go_end0
        exact ⟨rfl, rfl⟩
  clear h1
  go_enter Try.func40, Try.ntmps40
  go_wp2_with (go_at_call 59; refine h2.mono ?_; clear h2; rintro e w2 ⟨he, hww⟩; rw [hww]; clear hww w2; obtain rfl := he)
  go_end0
  exact ⟨rfl, rfl⟩
theorem Pa.Own.off {F : Nat → Prop} {w w' : World} {base : Nat} {v : Value} {os : List Pa.O} (h : Pa.Own w base v os) (ho : Off F w w') (hF : ∀ b, v.ownBlock = some b → ¬ F b) : Pa.Own w' base v os := by
  have hl := World.ownsRow.lt h
  obtain ⟨h1, h2⟩ := h
  refine ⟨h1, ?_⟩
  rcases h2 with h2 | ⟨g, cap, cur, rfl, hb', hc, rest⟩
  · exact Or.inl h2
  · have := hl g (by simp [Value.ownBlock])
    exact Or.inr ⟨g, cap, cur, rfl, hb', (ho.block g this.2 (hF g (by simp [Value.ownBlock]))).trans hc, rest⟩
theorem Pa.Own.cellsOf {w : World} {base : Nat} {v : Value} {os : List Pa.O} (h : Pa.Own w base v os) : ∀ g, v.ownBlock = some g → ∃ cs, w.heap[g]? = some (.cells cs 39 (0, 0)) := fun g hg => by
  rcases h.2 with ⟨rfl, _⟩ | ⟨g', cap, cur, rfl, hb', hc, rest⟩
  · cases hg
  · simp [Value.ownBlock] at hg; subst hg; exact ⟨cur, hc⟩
theorem Pa.Own.snocL {w : World} {base : Nat} {v : Value} {os : List Pa.O} (h : Pa.Own w base v os) (ty : TypeId) (X : Nat) (p : Pa.O) (hX : Row w X p.arr 39) (hb : base ≤ w.heap.size) (hn : os.length ≤ 1000000) :
    ∃ v' w', (Builtin.append_ #[22, 22] ty #[v, .slice (some ⟨X, 0, none⟩) 1 1]).run Try.prog w = .ok v' w' ∧ Pa.Own w' base v' (os ++ [p]) ∧ w.grownBy w' v.ownBlock ∧ (v'.ownBlock = v.ownBlock ∨ v'.ownBlock = some w.heap.size) := by
  obtain ⟨i, hi, hz, hs, hby⟩ := Pa.info_parts Pa.info39
  obtain ⟨v', w', hr, h2, h3, h4, h5⟩ := run_append_own_at (P := Try.prog) w base 22 ty 39 i _ 5 64 Try.underlying22 hi hz hs hby rfl (by decide) v os.length (Pa.flat os) h ⟨X, 0, none⟩ 1 1 p.cells rfl (fun j u hj => by rw [Addr.add_mid, Nat.zero_add, cell_of_row w X j _ _ _ hX, ← hj]; show p.cells.toArray[j]? = _; rw [List.getElem?_toArray]) (by simp [Pa.O.cells, Value.oneCell']) (by unfold maxLen; omega) (by omega) hb
  refine ⟨v', w', hr, ?_, h3, h5⟩
  unfold Pa.Own
  rw [Pa.flat_append, List.length_append]
  exact h2
theorem splice_set {α : Type} (L : List α) (o : Nat) (x : α) (r : List α) (h : o < L.length) : splice (L.set o x) (o + 1) r = splice L o (x :: r) := by
  unfold splice
  have e1 : (L.set o x).take (o + 1) = L.take o ++ [x] := by
    rw [List.take_add_one, List.take_set_of_le (by omega)]
    simp [h]
  have e2 : (L.set o x).drop (o + 1 + r.length) = L.drop (o + (x :: r).length) := by
    rw [List.drop_set_of_lt (by omega)]
    simp; congr 1; omega
  rw [e1, e2]; simp
theorem fold_set : ∀ (l : List Value) (n off : Nat) (cs : Array Value), off + n + l.length ≤ cs.size → (l.zipIdx n).foldl (fun cs (p : Value × Nat) => cs.setIfInBounds (off + p.2) p.1) cs = (⟨splice cs.toList (off + n) l⟩ : Array Value)
  | [], n, off, cs, h => by simp [splice]
  | x :: r, n, off, cs, h => by
    rw [List.zipIdx_cons, List.foldl_cons, fold_set r (n + 1) off _ (by simp at h ⊢; omega)]
    congr 1
    simp only [Array.toList_setIfInBounds]
    have := splice_set cs.toList (off + n) x r (by simp at h ⊢; omega)
    rw [← this]; rfl
theorem fold_arr (v : Array Value) (off : Nat) (cs : Array Value) (h : off + v.size ≤ cs.size) : v.zipIdx.foldl (fun cs (p : Value × Nat) => cs.setIfInBounds (off + p.2) p.1) cs = (⟨splice cs.toList off v.toList⟩ : Array Value) := by
  rw [← Array.foldl_toList, Array.toList_zipIdx]
  exact fold_set v.toList 0 off cs (by simpa using h)
theorem fill_step (place : Nat → Option (Nat × Nat)) (cells : Array Value) (i : Nat) (v : Value) (rest : List (Nat × Value)) (off size : Nat) (hp : place i = some (off, size)) (h1 : v.cells.size = size) (h2 : off + size ≤ cells.size) :
    Instr.fill place cells ((i, v) :: rest) = Instr.fill place ⟨splice cells.toList off v.cells.toList⟩ rest := by
  have : ¬ (decide (v.cells.size ≠ size) || decide (off + v.cells.size > cells.size)) = true := by simp [h1]; omega
  rw [Instr.fill, hp]
  simp only []
  rw [if_neg this]
  have := fold_arr v.cells off cells (by omega)
  rw [← this]
theorem wp_past_one {o : Oper} {a : Act} {w : World} {K : Act → World → Prop} {Q : Exit → Act → World → Prop} (x : Operand) (ho : o.op = .buildSlice 22 1 #[(0, x)]) (p : Pa.O) (hx : a.eval x = .agg p.arr)
    (h : K (a.put o.dst (.slice (some ⟨w.heap.size, 0, none⟩) 1 1)) (w.alloc (.cells p.arr 39))) : Oper.wp Try.prog o a w K Q := by
  obtain ⟨i, hi, hz, hs, _⟩ := Pa.info_parts Pa.info39
  refine wp_buildSlice 22 39 1 _ ho p.arr i _ Try.underlying22 hi hz (by rw [hs]; decide) (by rw [hs]; decide) ?_ h
  have e1 : (#[(0, x)].map fun (i, x) => (i, a.eval x)).toList = [(0, .agg p.arr)] := by simp [hx]
  rw [e1, fill_step _ _ 0 (.agg p.arr) _ 0 5 (by simp [hs]) (by rfl) (by simp [hs])]
  unfold Instr.fill
  congr 1
  have hb : p.arr.size = 5 := rfl
  show (⟨splice _ 0 p.arr.toList⟩ : Array Value) = p.arr
  unfold splice
  rw [List.take_zero, List.nil_append, Array.length_toList, hb, List.drop_of_length_le (by simp [hs]), List.append_nil]
theorem filter_take {ps : List Hm} {j : Nat} {x : Hm} (h : ps[j]? = some x) : (ps.take (j + 1)).filter (fun h => h.p.dn) = (ps.take j).filter (fun h => h.p.dn) ++ (if x.p.dn then [x] else []) := by
  obtain ⟨hl, rfl⟩ := List.getElem?_eq_some_iff.1 h
  rw [List.take_succ_eq_append_getElem hl, List.filter_append]
  congr 1
  cases q : ps[j].p.dn <;> simp [q]
theorem SAt.of_own {w : World} {base b n cap : Nat} {hs : List Hm} (h : Pa.Own w base (.slice (some ⟨b, 0, none⟩) n cap) (hs.map Hm.o)) : SAt w b hs := by
  have hl := World.ownsRow.lt h b (by rfl)
  have hc := World.ownsRow.cells h (g := b) rfl
  refine ⟨hl.2, fun k o hk j v hj => ?_, fun k o hk => ?_⟩
  · have hj5 : j < 5 := (List.getElem?_eq_some_iff.1 hj).1
    have := hc (k * 5 + j) v (by rw [Pa.flat_at _ k j o.o (by rw [List.getElem?_map, hk]; rfl) hj5]; exact hj)
    rw [Addr.add_mid, Nat.zero_add] at this
    exact this
  · exact Pa.Own.there h k (by rw [List.length_map]; exact (List.getElem?_eq_some_iff.1 hk).1)
theorem SAt.olds {w : World} {b cap : Nat} {hs : List Hm} (h : SAt w b hs) : Pa.Olds w (.slice (some ⟨b, 0, none⟩) hs.length cap) (hs.map Hm.o) := by
  refine Or.inr ⟨⟨b, 0, none⟩, cap, by rw [List.length_map], fun j u hj => ?_⟩
  rw [Pa.flat_get] at hj
  cases hk : (hs.map Hm.o)[j / 5]? with
  | none => rw [hk] at hj; cases hj
  | some o =>
    rw [hk] at hj
    rw [List.getElem?_map] at hk
    cases hk2 : hs[j / 5]? with
    | none => rw [hk2] at hk; cases hk
    | some x =>
      rw [hk2] at hk; cases hk
      have := h.ats _ x hk2 (j % 5) u hj
      rw [Addr.add_mid, Nat.zero_add, show j = j / 5 * 5 + j % 5 by omega]
      exact this
theorem sort_own {w : World} {base : Nat} {lv : Value} {L : List Hm} (h : Pa.Own w base lv (L.map Hm.o)) (hn : L.length < 20) :
    Calls Try.prog 40 #[lv, .func (.func 41) #[] #[]] w fun e w' => e = .returned (.tuple #[]) ∧ ∃ hs : List Hm, hs.Perm L ∧ hs.Pairwise (fun a b => a.p.st ≤ b.p.st) ∧ Pa.Olds w' lv (hs.map Hm.o) ∧ Off (fun k => lv.ownBlock = some k) w w' := by
  by_cases hL : L = []
  · subst hL
    obtain ⟨oa, cap, rfl⟩ := h.form
    rcases h.2 with ⟨q, _⟩ | ⟨g, cap', cur, q, _, _, _, _, _⟩
    · rw [q]
      refine (sstable_nil w).mono ?_
      rintro e w' ⟨rfl, rfl⟩
      exact ⟨rfl, [], List.Perm.refl _, List.Pairwise.nil, Or.inl ⟨rfl, rfl⟩, Off.refl _ _⟩
    · have hs := SAt.of_own (hs := ([] : List Hm)) (by rw [q] at h; exact h)
      rw [q]
      refine (sstable_any (cap := cap') hs 0 rfl (by omega)).mono ?_
      rintro e w' ⟨rfl, ys, h1, h2, h3, h4⟩
      refine ⟨rfl, ys, h1, h2, ?_, h4.mono (fun j e => Or.inl (by rw [e]; rfl))⟩
      have e0 : ys = [] := List.perm_nil.1 h1
      subst e0
      exact h3.olds
  · obtain ⟨g, cap, rfl, hb⟩ := h.blk (by rw [List.length_map]; exact List.length_pos_iff.2 hL)
    rw [List.length_map] at h ⊢
    have hs := SAt.of_own h
    refine (sstable_any (cap := cap) hs L.length rfl hn).mono ?_
    rintro e w' ⟨rfl, ys, h1, h2, h3, h4⟩
    refine ⟨rfl, ys, h1, h2, ?_, h4.mono (fun j e => Or.inl (by rw [e]; rfl))⟩
    rw [← h1.length_eq]
    exact h3.olds
def Apart2 (hs : List Hm) : Prop := hs.Pairwise fun a b => ¬ (a.p.com = true ∧ b.p.com = true ∧ a.p.co = b.p.co)
theorem Apart2.perm {hs ks : List Hm} (h : Apart2 hs) (p : ks.Perm hs) : Apart2 ks := (p.pairwise_iff (fun {a b} q ⟨x, y, z⟩ => q ⟨y, x, z.symm⟩)).2 h
theorem Apart2.uni {hs : List Hm} (h : Apart2 hs) (hd : ∀ x ∈ hs, x.p.dn = true) : Uni hs := by
  intro i j v ⟨a, a1, a2, a3⟩ ⟨b, b1, b2, b3⟩
  have ca : a.p.com = true := by unfold Pt.com; rw [hd a (List.mem_of_getElem? a1)]; simp; exact List.length_pos_of_mem a2
  have cb : b.p.com = true := by unfold Pt.com; rw [hd b (List.mem_of_getElem? b1)]; simp; exact List.length_pos_of_mem b2
  obtain ⟨hi, e1⟩ := List.getElem?_eq_some_iff.1 a1
  obtain ⟨hj, e2⟩ := List.getElem?_eq_some_iff.1 b1
  rcases Nat.lt_trichotomy i j with q | q | q
  · exact absurd ⟨by rw [e1]; exact ca, by rw [e2]; exact cb, by rw [e1, e2, ← a3, b3]⟩ (List.pairwise_iff_getElem.1 h i j hi hj q)
  · exact q
  · exact absurd ⟨by rw [e2]; exact cb, by rw [e1]; exact ca, by rw [e1, e2, ← a3, b3]⟩ (List.pairwise_iff_getElem.1 h j i hj hi q)
theorem isHF_apart : ∀ (hs : List Hm) (T : List Int), isHF (hs.map Hm.p) T = true → Apart2 hs ∧ ∀ x ∈ hs, x.p.com = true → x.p.co ∉ T ∧ x.p.st < x.p.co
  | [], _, _ => ⟨List.Pairwise.nil, fun x hx => by cases hx⟩
  | a :: r, T, h => by
    rw [List.map_cons, isHF] at h
    by_cases hc : a.p.com = true
    · rw [if_pos hc] at h
      by_cases hq : (decide (a.p.co ∈ T) || decide (a.p.co ≤ a.p.st)) = true
      · rw [if_pos hq] at h; cases h
      · rw [if_neg hq] at h
        simp at hq
        obtain ⟨i1, i2⟩ := isHF_apart r _ h
        refine ⟨List.pairwise_cons.2 ⟨fun b hb ⟨_, cb, e⟩ => (i2 b hb cb).1 (by rw [e]; simp), i1⟩, fun x hx cx => ?_⟩
        rcases List.mem_cons.1 hx with rfl | hx
        · exact ⟨hq.1, by omega⟩
        · have := i2 x hx cx
          exact ⟨fun q => this.1 (by simp [q]), this.2⟩
    · rw [if_neg hc] at h
      obtain ⟨i1, i2⟩ := isHF_apart r _ h
      refine ⟨List.pairwise_cons.2 ⟨fun b hb ⟨ca, _⟩ => hc ca, i1⟩, fun x hx cx => ?_⟩
      rcases List.mem_cons.1 hx with rfl | hx
      · exact absurd cx hc
      · exact i2 x hx cx
def DepI (hs : List Hm) (s : Int × Int) : Prop := (∃ v j k, WrI hs j v ∧ NxI hs v k ∧ j ≠ k ∧ s = ((j : Int), (k : Int))) ∨ ∃ i h v, hs[i]? = some h ∧ v ∈ h.p.rs ∧ RdD hs i v s
def PasI (hs : List Hm) (s : Int × Int) : Prop := ∃ i h v, hs[i]? = some h ∧ v ∈ h.p.rs ∧ RdP hs i v s
def D2 (hs : List Hm) (left : Int × Int → Bool) (s : Int × Int) : Prop := ∃ v j k, WrI hs j v ∧ left v = false ∧ NxI hs v k ∧ j ≠ k ∧ s = ((j : Int), (k : Int))
theorem D2.step {hs : List Hm} (hu : Uni hs) {left : Int × Int → Bool} {v : Int × Int} {j : Nat} (hj : WrI hs j v) (s : Int × Int) : D2 hs (fun y => left y && !decide (y = v)) s ↔ (D2 hs left s ∨ ∃ k, NxI hs v k ∧ j ≠ k ∧ s = ((j : Int), (k : Int))) := by
  constructor
  · rintro ⟨v', j', k, a1, a2, a3, a4, a5⟩
    by_cases e : v' = v
    · subst e
      obtain rfl := hu _ _ _ a1 hj
      exact Or.inr ⟨k, a3, a4, a5⟩
    · exact Or.inl ⟨v', j', k, a1, by simpa [e] using a2, a3, a4, a5⟩
  · rintro (⟨v', j', k, a1, a2, a3, a4, a5⟩ | ⟨k, a3, a4, a5⟩)
    · exact ⟨v', j', k, a1, by simp [a2], a3, a4, a5⟩
    · exact ⟨v, j, k, hj, by simp, a3, a4, a5⟩
def UpR (hs : List Hm) (R : Nat → Int × Int → Prop) (i k : Nat) : Prop := ∃ i' h v, hs[i']? = some h ∧ ((i' < i ∧ v ∈ h.p.rs) ∨ (i' = i ∧ v ∈ h.p.rs.take k)) ∧ R i' v
theorem UpR.zero {hs : List Hm} {R : Nat → Int × Int → Prop} : ¬ UpR hs R 0 0 := fun ⟨i', h, v, _, q, _⟩ => by
  rcases q with ⟨q, _⟩ | ⟨_, q⟩
  · omega
  · simp at q
theorem UpR.step {hs : List Hm} {R : Nat → Int × Int → Prop} {i k : Nat} {h : Hm} {v : Int × Int} (he : hs[i]? = some h) (hv : h.p.rs[k]? = some v) : UpR hs R i (k + 1) ↔ (UpR hs R i k ∨ R i v) := by
  obtain ⟨hl, hvl⟩ := List.getElem?_eq_some_iff.1 hv
  have ht : h.p.rs.take (k + 1) = h.p.rs.take k ++ [v] := by rw [List.take_succ_eq_append_getElem hl, hvl]
  constructor
  · rintro ⟨i', h', v', a1, a2, a3⟩
    rcases a2 with a2 | ⟨rfl, a2⟩
    · exact Or.inl ⟨i', h', v', a1, Or.inl a2, a3⟩
    · rw [he] at a1; cases a1
      rw [ht] at a2
      rcases List.mem_append.1 a2 with a2 | a2
      · exact Or.inl ⟨_, _, v', he, Or.inr ⟨rfl, a2⟩, a3⟩
      · simp at a2; subst a2; exact Or.inr a3
  · rintro (⟨i', h', v', a1, a2, a3⟩ | a3)
    · rcases a2 with a2 | ⟨rfl, a2⟩
      · exact ⟨i', h', v', a1, Or.inl a2, a3⟩
      · rw [he] at a1; cases a1
        exact ⟨_, _, v', he, Or.inr ⟨rfl, by rw [ht]; exact List.mem_append_left _ a2⟩, a3⟩
    · exact ⟨i, h, v, he, Or.inr ⟨rfl, by rw [ht]; simp⟩, a3⟩
theorem UpR.next {hs : List Hm} {R : Nat → Int × Int → Prop} {i : Nat} {h : Hm} (he : hs[i]? = some h) : UpR hs R (i + 1) 0 ↔ UpR hs R i h.p.rs.length := by
  constructor
  · rintro ⟨i', h', v', a1, a2, a3⟩
    rcases a2 with ⟨a2, a4⟩ | ⟨_, a2⟩
    · by_cases e : i' = i
      · subst e; rw [he] at a1; cases a1
        exact ⟨_, _, v', he, Or.inr ⟨rfl, by rw [List.take_length]; exact a4⟩, a3⟩
      · exact ⟨i', h', v', a1, Or.inl ⟨by omega, a4⟩, a3⟩
    · simp at a2
  · rintro ⟨i', h', v', a1, a2, a3⟩
    rcases a2 with ⟨a2, a4⟩ | ⟨rfl, a2⟩
    · exact ⟨i', h', v', a1, Or.inl ⟨by omega, a4⟩, a3⟩
    · rw [he] at a1; cases a1
      rw [List.take_length] at a2
      exact ⟨_, _, v', he, Or.inl ⟨by omega, a2⟩, a3⟩
theorem UpR.all {hs : List Hm} {R : Nat → Int × Int → Prop} {n : Nat} (hn : hs.length ≤ n) : UpR hs R n 0 ↔ ∃ i h v, hs[i]? = some h ∧ v ∈ h.p.rs ∧ R i v := by
  constructor
  · rintro ⟨i', h', v', a1, a2, a3⟩
    rcases a2 with ⟨_, a4⟩ | ⟨_, a2⟩
    · exact ⟨i', h', v', a1, a4, a3⟩
    · simp at a2
  · rintro ⟨i', h', v', a1, a2, a3⟩
    exact ⟨i', h', v', a1, Or.inl ⟨by have := (List.getElem?_eq_some_iff.1 a1).1; omega, a2⟩, a3⟩
def D0 (hs : List Hm) (s : Int × Int) : Prop := ∃ v j k, WrI hs j v ∧ NxI hs v k ∧ j ≠ k ∧ s = ((j : Int), (k : Int))
def Gath (w : World) (ps : List Hm) (e : Ending) (w' : World) : Prop :=
  ∃ g mw mc md mp lv hs f nw nc F G nd np, e = .returned (.pointer (some ⟨g, 0, none⟩)) ∧ hs.Perm (ps.filter fun h => h.p.dn) ∧ HAt w' g mw mc md mp lv hs f nw nc F G ∧ SMp w' md nd (DepI hs) ∧ SMp w' mp np (PasI hs) ∧ Below w.heap.size w w' ∧ nd ≤ 100000000 ∧ np ≤ 100000000
theorem fresh_hist (w : World) : ∃ mw mc md mp g W, mw = w.heap.size ∧ mc = mw + 1 ∧ md = mc + 1 ∧ mp = md + 1 ∧ g = mp + 1 ∧
    W = (((((w.alloc (.map #[] 0)).alloc (.map #[] 0)).alloc (.map #[] 0)).alloc (.map #[] 0)).alloc (.cells #[.slice none 0 0, .map (some mw), .map (some mc), .map (some md), .map (some mp)] 96)) ∧
    Row W g #[.slice none 0 0, .map (some mw), .map (some mc), .map (some md), .map (some mp)] 96 ∧ KMap E46 W mw 0 (fun _ => none) ∧ KMap E44 W mc 0 (fun _ => none) ∧ SMp W md 0 (fun _ => False) ∧ SMp W mp 0 (fun _ => False) ∧ Below w.heap.size w W := by
  refine ⟨_, _, _, _, _, _, rfl, rfl, rfl, rfl, rfl, rfl, ?_, ?_, ?_, ?_, ?_, ?_⟩
  · have := Row.new ((((w.alloc (.map #[] 0)).alloc (.map #[] 0)).alloc (.map #[] 0)).alloc (.map #[] 0)) #[.slice none 0 0, .map (some w.heap.size), .map (some (w.heap.size + 1)), .map (some (w.heap.size + 1 + 1)), .map (some (w.heap.size + 1 + 1 + 1))] 96
    simpa using this
  · exact ((((KMap.made E46 w).below ((Below.refl _ _).alloc (Nat.le_refl _) _)).below ((Below.refl _ _).alloc (Nat.le_refl _) _)).below ((Below.refl _ _).alloc (Nat.le_refl _) _)).below ((Below.refl _ _).alloc (Nat.le_refl _) _)
  · have := (((KMap.made E44 (w.alloc (.map #[] 0))).below ((Below.refl _ _).alloc (Nat.le_refl _) (.map #[] 0))).below ((Below.refl _ _).alloc (Nat.le_refl _) (.map #[] 0))).below ((Below.refl _ _).alloc (Nat.le_refl _) (.cells #[.slice none 0 0, .map (some w.heap.size), .map (some (w.heap.size + 1)), .map (some (w.heap.size + 1 + 1)), .map (some (w.heap.size + 1 + 1 + 1))] 96))
    rw [show (w.alloc (.map #[] 0)).heap.size = w.heap.size + 1 by simp] at this
    exact this
  · have := ((SMp.made ((w.alloc (.map #[] 0)).alloc (.map #[] 0))).below ((Below.refl _ _).alloc (Nat.le_refl _) (.map #[] 0))).below ((Below.refl _ _).alloc (Nat.le_refl _) (.cells #[.slice none 0 0, .map (some w.heap.size), .map (some (w.heap.size + 1)), .map (some (w.heap.size + 1 + 1)), .map (some (w.heap.size + 1 + 1 + 1))] 96))
    rw [show ((w.alloc (.map #[] 0)).alloc (.map #[] 0)).heap.size = w.heap.size + 1 + 1 by simp] at this
    exact this
  · have := (SMp.made (((w.alloc (.map #[] 0)).alloc (.map #[] 0)).alloc (.map #[] 0))).below ((Below.refl _ _).alloc (Nat.le_refl _) (.cells #[.slice none 0 0, .map (some w.heap.size), .map (some (w.heap.size + 1)), .map (some (w.heap.size + 1 + 1)), .map (some (w.heap.size + 1 + 1 + 1))] 96))
    rw [show (((w.alloc (.map #[] 0)).alloc (.map #[] 0)).alloc (.map #[] 0)).heap.size = w.heap.size + 1 + 1 + 1 by simp] at this
    exact this
  · have b : ∀ W : World, Below w.heap.size w W → ∀ o, Below w.heap.size w (W.alloc o) := fun W h o => h.alloc h.size _
    exact b _ (b _ (b _ (b _ (b _ (Below.refl _ _) _) _) _) _) _
set_option maxHeartbeats 4000000 in
theorem gather_any {w : World} {v : Value} {ps : List Hm} (hh : Helds w v ps) (hn : ps.length ≤ 1000) (hf : (ps.filter fun h => h.p.dn).length ≤ 12) (hu : Apart2 ps) :
    Calls Try.prog 20 #[v] w fun e w' => Gath w ps e w' := by
  have hmm := @run_makeMap Try.prog
  have hz39 := Pa.zero39
  obtain ⟨oa, cap, rfl, hcs⟩ := hh.hold
  have HCS : Hid _ := hcs
  have HH : Hid _ := hh
  have HU : Hid _ := hu
  have HF : Hid _ := hf
  clear hcs hh hu hf
  have HPP : Hid (∀ g w', (∃ mw mc md mp lv hs f nw nc F G nd np, hs.Perm (ps.filter fun h => h.p.dn) ∧ HAt w' g mw mc md mp lv hs f nw nc F G ∧ SMp w' md nd (DepI hs) ∧ SMp w' mp np (PasI hs) ∧ Below w.heap.size w w' ∧ nd ≤ 100000000 ∧ np ≤ 100000000) → Gath w ps (.returned (.pointer (some ⟨g, 0, none⟩))) w') := fun g w' ⟨mw, mc, md, mp, lv, hs, f, nw, nc, F, G, nd, np, h⟩ => ⟨g, mw, mc, md, mp, lv, hs, f, nw, nc, F, G, nd, np, rfl, h⟩
  generalize Gath w ps = PP at HPP ⊢
  obtain ⟨n, HN⟩ : ∃ n, Hid (ps.length = n) := ⟨_, rfl⟩
  rw [HN.out] at hn HCS ⊢
  go_enter Try.func20, Try.ntmps20
  go_upto_region 3 with fail
  obtain ⟨mw, mc, md, mp, g, W, e1, e2, e3, e4, e5, eW, rg, M1, M2, M3, M4, B0⟩ := fresh_hist w
  have OW : (Pa.Own W w.heap.size (.slice none 0 0) (([] : List Hm).map Hm.o)) := World.ownsRow_nil _ _ _ _
  have HLE : Hid (w.heap.size ≤ mw ∧ mw < mc ∧ mc < md ∧ md < mp ∧ mp < g) := ⟨by omega, by omega, by omega, by omega, by omega⟩
  rw [← e1, ← e2, ← e3, ← e4, ← e5, ← eW]
  clear eW e5 e4 e3 e2 e1
  obtain ⟨B, HB⟩ : ∃ B, Hid (w.heap.size = B) := ⟨_, rfl⟩
  rw [HB.out] at OW
  go_loopw [22] (fun i wr => ∃ (j : Nat) (L : List Hm) (lv : Value), j ≤ n ∧ i = .int .i64 j ∧ Row wr g #[lv, .map (some mw), .map (some mc), .map (some md), .map (some mp)] 96 ∧ Pa.Own wr B lv (L.map Hm.o) ∧ L = (ps.take j).filter (fun h => h.p.dn) ∧ KMap E46 wr mw 0 (fun _ => none) ∧ KMap E44 wr mc 0 (fun _ => none) ∧ SMp wr md 0 (fun _ => False) ∧ SMp wr mp 0 (fun _ => False) ∧ Below w.heap.size w wr) (fun i _ => n - (intOf i).toNat)
  case atStart => exact ⟨0, [], _, by omega, rfl, rg, OW, rfl, M1, M2, M3, M4, B0⟩
  case round =>
    clear rg OW M1 M2 M3 M4 B0
    obtain ⟨j, L, lv, hj, rfl, rg, OW, hL, M1, M2, M3, M4, Bw⟩ := hrel
    by_cases hjn : j < n
    · have hjn' : (j : Int) < (n : Int) := by omega
      obtain ⟨a, x, rfl, he, hcell⟩ := HCS.out j hjn
      have hcw : ∀ q u, x.o.cells[q]? = some u → wr.cell? ((a.add (j * 5)).add q) = some u := fun q u hq => cell_keep (hcell q u hq) Bw
      have hL2 := filter_take he
      rw [← hL] at hL2
      have HL2 : Hid _ := hL2
      have HLL : Hid (L.length ≤ 1000) := by
        show _ ≤ _
        rw [hL]
        exact Nat.le_trans (List.length_filter_le _ _) (Nat.le_trans (List.length_take_le _ _) (by omega))
      clear hcell he hL hL2
      have tl : Hid (1 = 1) := rfl
      have q1 : Row (wr.alloc (.cells Pa.O.zero.arr 39)) wr.heap.size Pa.O.zero.arr 39 := Row.new _ _ _
      obtain ⟨k1, k2⟩ := copied wr x.o
      go_upto_region 5 with (first
        | (have hh := tl; clear hh tl; refine wpList_load_any rfl 39 (.tmp 24) rfl (a.add (j * 5)) rfl x.o.cells _ hcw Try.underlying39 rfl Pa.size39 ?_)
        | (refine store_cells rfl 39 (.tmp 5) (.tmp 25) rfl wr.heap.size x.o.arr rfl rfl 39 _ q1 5 Pa.size39 rfl rfl x.o.arr_one ?_))
      clear q1 hcw
      have OW5 := OW.keep k2
      have M15 := M1.below k2
      have M25 := M2.below k2
      have M35 := M3.below k2
      have M45 := M4.below k2
      have Bw5 := below_trans Bw k2
      have rg5 := rg.below k2 rg.lt
      have hOX : ∀ b, lv.ownBlock = some b → b ≠ wr.heap.size := fun b hb => by have := (World.ownsRow.lt OW b hb).2; omega
      generalize (wr.alloc (.cells Pa.O.zero.arr 39)).setRow wr.heap.size x.o.arr = w5 at k1 k2 OW5 M15 M25 M35 M45 Bw5 rg5 ⊢
      have k1 : Row w5 wr.heap.size #[.int .u32 x.p.st, .int .u32 x.p.co, .bool x.p.dn, .slice x.r.a x.r.n x.r.c, .slice x.w.a x.w.n x.w.c] 39 := k1
      have f2 : w5.cell? ⟨wr.heap.size, 2, none⟩ = some (.bool x.p.dn) := row_at k1 2 _ rfl
      generalize wr.heap.size = X at k1 hOX f2 ⊢
      clear OW M1 M2 M3 M4 Bw rg k2
      obtain ⟨D, HD⟩ : ∃ D, Hid (x.p.dn = D) := ⟨_, rfl⟩
      rw [HD.out] at f2
      cases D
      · have HL3 : Hid (L = (ps.take (j + 1)).filter (fun h => h.p.dn)) := by
          show _ = _
          rw [HL2.out, HD.out]; simp
        go_wp2
        go_roundw
        case rel => exact ⟨j + 1, L, lv, by omega, by go_num, rg5, OW5, HL3.out, M15, M25, M35, M45, Bw5⟩
        case measure => simp [intOf]; omega
      · have HL3 : Hid (L ++ [x] = (ps.take (j + 1)).filter (fun h => h.p.dn)) := by
          show _ = _
          rw [HL2.out, HD.out]; simp
        go_upto_region 6 with fail
        clear f2
        have rgX : Row w5.drew g #[lv, .map (some mw), .map (some mc), .map (some md), .map (some mp)] 96 := rg5
        refine wp_region_last (S := fun w' => Row w' g #[lv, .map (some mw), .map (some mc), .map (some md), .map (some mp)] 96 ∧ Row w' X #[.int .u32 x.p.st, .int .u32 x.p.co, .bool x.p.dn, .slice x.r.a x.r.n x.r.c, .slice x.w.a x.w.n x.w.c] 39) 10 (by kernel_rfl) ⟨rgX, k1⟩ fun hS => ?_
        refine wpAnyL_take (i := 0) (v := .pointer (some ⟨g, 0, none⟩)) rfl (by kernel_rfl) (by kernel_rfl) (by kernel_rfl) (by kernel_rfl) (fun _ _ _ h => h) (Or.inl ⟨by rfl, fun w _ => by go_simp⟩) hS ?_
        try simp only [Act.put, nz0, nz1, nz2, nz3, nz4, nz5]
        refine wpAnyL_take (i := 1) (v := .pointer (some ⟨g, 0, none⟩)) rfl (by kernel_rfl) (by kernel_rfl) (by kernel_rfl) (by kernel_rfl) (fun _ _ _ h => h) (Or.inl ⟨by rfl, fun w _ => by go_simp⟩) hS ?_
        try simp only [Act.put, nz0, nz1, nz2, nz3, nz4, nz5]
        refine wpAnyL_take (i := 2) (v := .pointer (some ⟨g, 0, none⟩)) rfl (by kernel_rfl) (by kernel_rfl) (by kernel_rfl) (by kernel_rfl) (fun _ _ _ h => h) (Or.inl ⟨by rfl, fun w _ => by go_simp⟩) hS ?_
        try simp only [Act.put, nz0, nz1, nz2, nz3, nz4, nz5]
        refine wpAnyL_take (i := 3) (v := .pointer (some ⟨g, 0, none⟩)) rfl (by kernel_rfl) (by kernel_rfl) (by kernel_rfl) (by kernel_rfl) (fun _ _ _ h => h) (Or.inl ⟨by rfl, fun w _ => by go_simp⟩) hS ?_
        try simp only [Act.put, nz0, nz1, nz2, nz3, nz4, nz5]
        refine wpAnyL_take (i := 4) (v := lv) rfl (by kernel_rfl) (by kernel_rfl) (by kernel_rfl) (by kernel_rfl) (fun _ _ _ h => h) (Or.inl ⟨by rfl, fun w h => by have c := row_at h.1 0 _ rfl; go_simp⟩) hS ?_
        try simp only [Act.put, nz0, nz1, nz2, nz3, nz4, nz5]
        refine wpAnyL_take (i := 5) (v := .agg #[.int .u32 x.p.st, .int .u32 x.p.co, .bool x.p.dn, .slice x.r.a x.r.n x.r.c, .slice x.w.a x.w.n x.w.c]) rfl (by kernel_rfl) (by kernel_rfl) (by kernel_rfl) (by kernel_rfl) (fun _ _ _ h => h) (yields_cells (by rfl) 39 (.tmp 5) rfl X rfl 39 #[.int .u32 x.p.st, .int .u32 x.p.co, .bool x.p.dn, .slice x.r.a x.r.n x.r.c, .slice x.w.a x.w.n x.w.c] (fun w h => h.2) 5 Try.underlying39 rfl size39 rfl) hS ?_
        try simp only [Act.put, nz0, nz1, nz2, nz3, nz4, nz5]
        refine wpAnyL_ready (rs := [6]) (by kernel_rfl) (by simp) ?_
        refine AllReadyL.cons rfl (fun K hK => step_of rfl (wp_past_one (.tmp 33) rfl x.o rfl ?_)) AllReadyL.nil
        have rZ : Row (w5.drew.alloc (.cells x.o.arr 39)) w5.drew.heap.size x.o.arr 39 := Row.new _ _ _
        have b6 : Below w5.heap.size w5 (w5.drew.alloc (.cells x.o.arr 39)) := (Below.refl _ _).drew.alloc (Nat.le_refl _) _
        have hS6 := (show Row (w5.drew.alloc (.cells x.o.arr 39)) g #[lv, .map (some mw), .map (some mc), .map (some md), .map (some mp)] 96 ∧ Row (w5.drew.alloc (.cells x.o.arr 39)) X #[.int .u32 x.p.st, .int .u32 x.p.co, .bool x.p.dn, .slice x.r.a x.r.n x.r.c, .slice x.w.a x.w.n x.w.c] 39 from ⟨rg5.below b6 rg5.lt, k1.below b6 k1.lt⟩)
        refine hK.out _ _ (fun _ => hS6) ?_
        try simp only [Act.put, nz0, nz1, nz2, nz3, nz4, nz5]
        have OW6 := OW5.keep b6
        have M16 := M15.below b6
        have M26 := M25.below b6
        have M36 := M35.below b6
        have M46 := M45.below b6
        have Bw6 := below_trans Bw5 b6
        generalize w5.drew.heap.size = Z at rZ ⊢
        generalize w5.drew.alloc (.cells x.o.arr 39) = w6 at rZ hS6 OW6 M16 M26 M36 M46 Bw6 ⊢
        clear hS b6 rgX k1 OW5 M15 M25 M35 M45 Bw5 rg5
        have HAP : Hid _ := fun ty => OW6.snocL ty Z x.o rZ (by rw [← HB.out]; exact Bw6.size) (by rw [List.length_map]; have := HLL.out; omega)
        have HCE : Hid _ := OW6.cellsOf
        have HBL : Hid _ := fun b hb => (World.ownsRow.lt OW6 b hb).1
        clear OW6 rZ
        refine wpAnyL_ready (rs := [7]) (by kernel_rfl) (by simp) ?_
        refine AllReadyL.cons rfl (fun K hK => step_of rfl (Pa.wp_copy (.tmp 32) (.tmp 34) 22 rfl _ _ rfl rfl (T := fun v' w' => Pa.Own w' B v' (L.map Hm.o ++ [x.o]) ∧ w6.grownBy w' lv.ownBlock ∧ (v'.ownBlock = lv.ownBlock ∨ v'.ownBlock = some w6.heap.size)) (fun ty => HAP.out ty) ?_)) AllReadyL.nil
        intro v7 w7 hT
        obtain ⟨OW7, hg7, hl7⟩ := hT
        have Ou : Off (fun k => lv.ownBlock = some k) w6 w7 := Off.of_grown hg7 (fun k e => e)
        have hnm : ∀ m, (∃ es cl, w6.heap[m]? = some (.map es cl)) → ¬ lv.ownBlock = some m := fun m ⟨es, cl, hm⟩ q => by obtain ⟨cs, hc⟩ := HCE.out m q; rw [hm] at hc; cases hc
        have hS7 := (show Row w7 g #[lv, .map (some mw), .map (some mc), .map (some md), .map (some mp)] 96 ∧ Row w7 X #[.int .u32 x.p.st, .int .u32 x.p.co, .bool x.p.dn, .slice x.r.a x.r.n x.r.c, .slice x.w.a x.w.n x.w.c] 39 from
          ⟨hS6.1.off Ou (fun e => by obtain ⟨cs, hc⟩ := HCE.out _ e; have := hS6.1; unfold Row at this; rw [this] at hc; cases hc), hS6.2.off Ou (fun e => hOX _ e rfl)⟩)
        have M17 := M16.off Ou (hnm _ M16.is)
        have M27 := M26.off Ou (hnm _ M26.is)
        have M37 := M36.off Ou (hnm _ M36.is)
        have M47 := M46.off Ou (hnm _ M46.is)
        have Bw7 : Below w.heap.size w w7 := below_off Bw6 Ou (fun k e => by rw [HB.out]; exact HBL.out k e)
        obtain ⟨oa7, cap7, rfl⟩ := OW7.form
        rw [List.length_append, List.length_map] at *
        clear HAP hS6 M16 M26 M36 M46 Bw6 hnm Ou hg7 hl7
        refine hK.out _ _ (fun _ => hS7) ?_
        try simp only [Act.put, nz0, nz1, nz2, nz3, nz4, nz5]
        refine wpAnyL_ready (rs := [8]) (by kernel_rfl) (by simp) ?_
        refine AllReadyL.cons rfl (fun K hK => ?_) AllReadyL.nil
        go_simp
        refine hK.out _ _ (fun _ => hS7) ?_
        try simp only [Act.put, nz0, nz1, nz2, nz3, nz4, nz5]
        refine wpAnyL_ready (rs := [9]) (by kernel_rfl) (by simp) ?_
        refine AllReadyL.cons rfl (fun K hK => ?_) AllReadyL.nil
        go_simp
        refine hK.out _ _ (fun _ => hS7) ?_
        try simp only [Act.put, nz0, nz1, nz2, nz3, nz4, nz5]
        have st1 := row_at hS7.1 0 _ rfl
        have fz1 := row_frozen hS7.1 0
        have hgn : ∀ b, (Value.slice oa7 (L.length + [x.o].length) cap7).ownBlock = some b → b ≠ g := fun b hb e => by
          obtain ⟨cs, hc⟩ := OW7.cellsOf b hb
          have := hS7.1
          unfold Row at this
          rw [e, this] at hc; cases hc
        have rg8 : Row (w7.setCell ⟨g, 0, none⟩ (.slice oa7 (L.length + [x.o].length) cap7)) g #[.slice oa7 (L.length + [x.o].length) cap7, .map (some mw), .map (some mc), .map (some md), .map (some mp)] 96 := row_set hS7.1 0 _
        have o8 : Off (· = g) w7 (w7.setCell ⟨g, 0, none⟩ (.slice oa7 (L.length + [x.o].length) cap7)) := Off.of_setCell _ _ _ rfl
        have OW8 := OW7.off o8 hgn
        have M18 := M17.off o8 (M17.ne_row hS7.1)
        have M28 := M27.off o8 (M27.ne_row hS7.1)
        have hgm : ∀ m, (∃ es cl, w7.heap[m]? = some (.map es cl)) → ¬ m = g := fun m ⟨es, cl, hm⟩ q => by have := hS7.1; unfold Row at this; rw [q, this] at hm; cases hm
        have M38 := M37.off o8 (hgm _ M37.is)
        have M48 := M47.off o8 (hgm _ M47.is)
        have Bw8 := below_off Bw7 o8 (fun k e => by rw [e]; have := HLE.out; omega)
        rw [show L.map Hm.o ++ [x.o] = (L ++ [x]).map Hm.o by simp] at OW8
        clear hgm hgn OW7 M17 M27 M37 M47 Bw7 hS7 HCE HBL hOX o8
        refine wpAnyL_ready (rs := [10]) (by kernel_rfl) (by simp) ?_
        refine AllReadyL.cons rfl (fun K hK => ?_) AllReadyL.nil
        go_simp
        refine hK.out _ _ (fun q => absurd rfl q) ?_
        try simp only [Act.put, nz0, nz1, nz2, nz3, nz4, nz5]
        refine wpAnyL_done (by kernel_rfl) ?_ _
        generalize (w7.setCell ⟨g, 0, none⟩ (.slice oa7 (L.length + [x.o].length) cap7)) = w8 at rg8 OW8 M18 M28 M38 M48 Bw8 ⊢
        clear st1 fz1
        go_wp2
        go_roundw
        case rel => exact ⟨j + 1, L ++ [x], _, by omega, by go_num, rg8, OW8, HL3.out, M18, M28, M38, M48, Bw8⟩
        case measure => simp [intOf]; omega
    · have hjn' : ¬ (j : Int) < (n : Int) := by omega
      have hLall : L = ps.filter (fun h => h.p.dn) := by rw [hL, List.take_of_length_le (by rw [HN.out]; omega)]
      have HLA : Hid _ := hLall
      have hL12 : L.length ≤ 12 := by rw [hLall]; exact HF.out
      have hsort := sort_own OW (by omega)
      have c0 := row_at rg 0 _ rfl
      have HCE : Hid _ := OW.cellsOf
      have HBL : Hid _ := fun b hb => (World.ownsRow.lt OW b hb).1
      have HK9 : Hid (∀ w9, Off (fun k => lv.ownBlock = some k) wr w9 → Row w9 g #[lv, .map (some mw), .map (some mc), .map (some md), .map (some mp)] 96 ∧ KMap E46 w9 mw 0 (fun _ => none) ∧ KMap E44 w9 mc 0 (fun _ => none) ∧ SMp w9 md 0 (fun _ => False) ∧ SMp w9 mp 0 (fun _ => False) ∧ Below w.heap.size w w9) := fun w9 o9 =>
        have hnm : ∀ m, (∃ es cl, wr.heap[m]? = some (.map es cl)) → ¬ lv.ownBlock = some m := fun m ⟨es, cl, hm⟩ q => by obtain ⟨cs, hc⟩ := HCE.out m q; rw [hm] at hc; cases hc
        ⟨rg.off o9 (fun q => by obtain ⟨cs, hc⟩ := HCE.out _ q; have := rg; unfold Row at this; rw [this] at hc; cases hc), M1.off o9 (hnm _ M1.is), M2.off o9 (hnm _ M2.is), M3.off o9 (hnm _ M3.is), M4.off o9 (hnm _ M4.is), below_off Bw o9 (fun k e => by rw [HB.out]; exact HBL.out k e)⟩
      clear rg OW M1 M2 M3 M4 Bw hL hLall
      go_upto_region 9 with (go_at_call 40; refine hsort.mono ?_; clear hsort; rintro e w9 ⟨he, hq⟩; obtain rfl := he; have HQ := show Hid _ from hq; clear hq)
      obtain ⟨hs, hp1, hp2, hp3, hp4⟩ := HQ.out
      obtain ⟨rg9, M19, M29, M39, M49, B9⟩ := HK9.out _ hp4
      have hmem : ∀ x ∈ hs, x ∈ ps ∧ x.p.dn = true := fun x hx => by
        have := hp1.mem_iff.1 hx
        rw [HLA.out] at this
        exact List.mem_filter.1 this
      have HH9 : Helds w9 lv hs := ⟨hp3, fun x hx => (HH.out.each x (hmem x hx).1).keep B9, fun x hx => HH.out.fit x (hmem x hx).1⟩
      have hperm : hs.Perm (ps.filter fun h => h.p.dn) := by rw [← HLA.out]; exact hp1
      have huni : Uni hs := Apart2.uni (Apart2.perm (hs := ps.filter fun h => h.p.dn) (List.Pairwise.sublist List.filter_sublist HU.out) hperm) (fun x hx => (hmem x hx).2)
      have h12 : hs.length ≤ 12 := by rw [hp1.length_eq]; exact hL12
      have hver := versions_any rg9 HH9 h12 huni M19 M29 (by have := HLE.out; omega)
      have HUN : Hid _ := huni
      have HP2 : Hid _ := hp2
      have HPM : Hid _ := hperm
      have H12 : Hid _ := h12
      have HK10 : Hid (∀ w10, Off (two mw mc) w9 w10 → Row w10 g #[lv, .map (some mw), .map (some mc), .map (some md), .map (some mp)] 96 ∧ Helds w10 lv hs ∧ SMp w10 md 0 (fun _ => False) ∧ SMp w10 mp 0 (fun _ => False) ∧ Below w.heap.size w w10) := fun w10 o10 =>
        have hB : ∀ b, two mw mc b → ∃ es cl, w9.heap[b]? = some (.map es cl) := fun b e => Or.elim e (fun e => by rw [e]; exact M19.is) (fun e => by rw [e]; exact M29.is)
        have hl := HLE.out
        ⟨rg9.off o10 (fun e => Or.elim e (fun e => M19.ne_row rg9 e.symm) (fun e => M29.ne_row rg9 e.symm)), HH9.maps hB o10, M39.off o10 (fun e => Or.elim e (fun e => by omega) (fun e => by omega)), M49.off o10 (fun e => Or.elim e (fun e => by omega) (fun e => by omega)), below_off B9 o10 (fun k e => Or.elim e (fun e => by omega) (fun e => by omega))⟩
      have HVER : Hid (∀ e w', e = Ending.returned (.tuple #[]) ∧ Versions w9 hs mw mc w' → e = .returned (.tuple #[]) ∧ ∃ nw f nc F G, KMap E46 w' mw nw f ∧ Fn hs f ∧ nw ≤ 2000000 ∧ VAt w' mc nc F G ∧ (∀ p, E44.ok p → (G p).Pairwise (· < ·) ∧ ∀ t, t ∈ G p ↔ ∃ j, WrI hs j (p, t)) ∧ Off (two mw mc) w9 w') := fun _ _ h => h
      clear hp1 hp2 hp3 hp4 rg9 M19 M29 M39 M49 B9 hmem HH9 hperm huni h12 HQ HK9 c0 hL12
      generalize hVV : Versions w9 hs mw mc = VV at hver HVER
      clear hVV
      go_upto_region 10 with (go_at_call 43; refine hver.mono ?_; clear hver; intro e w10 hq; have hq2 := HVER.out _ _ hq; clear hq; obtain ⟨he, hq3⟩ := hq2; obtain rfl := he; have HQ3 := show Hid _ from hq3; clear hq3)
      obtain ⟨nw, f, nc, F, G, v1, v2, v3, v4, v5, v6⟩ := HQ3.out
      obtain ⟨r10, L10, M310, M410, B10⟩ := HK10.out _ v6
      have hA : HAt w10 g mw mc md mp lv hs f nw nc F G := ⟨r10, L10, v1, v2, v4, v5, H12.out, HUN.out, HP2.out, v3⟩
      clear HQ3 HK10 HVER r10 L10 v1 v2 v3 v4 v5 v6
      have c1 : w10.cell? ⟨g, 1, none⟩ = some (.map (some mw)) := row_at hA.row 1 _ rfl
      obtain ⟨w0, cnt0, hrun0, R0, hcn0, gi, si⟩ := KMap.range Try.underlying92 hA.wr
      have Oi : Below w10.heap.size w10 w0 := by
        have o := Off.of_grown (F := fun _ => False) gi (fun k hk => by cases hk)
        exact ⟨o.os, o.tape, o.output, o.size, fun k hk => o.block k hk (fun q => q)⟩
      have A0 := hA.below Oi
      have M3' : SMp w0 md 0 (D2 hs (fun v => (f v).isSome)) := (M310.below Oi).congr (fun s => ⟨fun q => q.elim, fun ⟨v, j, k, a1, a2, _⟩ => by
        have a2' : (f v).isSome = false := a2
        rw [(hA.fn _ _).2 ⟨j, rfl, a1⟩] at a2'; cases a2'⟩)
      have M4' : SMp w0 mp 0 (fun _ => False) := M410.below Oi
      have B0' := below_trans B10 Oi
      have HFN : Hid _ := hA.fn
      have HFT : Hid _ := hA.list.fit
      have HSM : Hid _ := hA.small
      have HRL : Hid (w.heap.size ≤ w10.heap.size) := B10.size
      generalize hr : w10.heap.size = r at R0 hrun0 HRL ⊢
      go_upto_region 11 with fail
      clear hrun0 c1 gi si hA Oi M310 M410 B10 hr
      go_loopw [51] (fun _ wr => ∃ (left : Int × Int → Bool) (cnt nd : Nat), KRng E46 wr mw r nw f left cnt ∧ HAt wr g mw mc md mp lv hs f nw nc F G ∧ SMp wr md nd (D2 hs left) ∧ SMp wr mp 0 (fun _ => False) ∧ nd + cnt ≤ nw ∧ Below w.heap.size w wr) (fun _ wr => wr.rangeLeft mw r)
      case atStart => exact ⟨_, cnt0, 0, R0, A0, M3', M4', by omega, B0'⟩
      case round =>
        clear R0 A0 M3' M4' B0' hcn0
        obtain ⟨left, cnt, nd, Rk, hA, M3, M4, hnd, Bw⟩ := hrel
        have hle := Rk.left_eq
        rcases Rk.next with ⟨c0, hl0, hnx⟩ | ⟨y, vv, w2, cnt', hy, hlf, hfy, hnx, Rk', hlt, gk, sk', hen⟩
        · have M35 : SMp wr md nd (fun s => D0 hs s ∨ UpR hs (fun i v => RdD hs i v s) 0 0) := M3.congr (fun s => ⟨fun ⟨v, j, k, a1, _, a3⟩ => Or.inl ⟨v, j, k, a1, a3⟩, fun q => q.elim (fun ⟨v, j, k, a1, a3⟩ => ⟨v, j, k, a1, hl0 v (a1.ok HFT.out), a3⟩) (fun q => absurd q UpR.zero)⟩)
          have M45 : SMp wr mp 0 (fun s => UpR hs (fun i v => RdP hs i v s) 0 0) := M4.congr (fun s => ⟨fun q => q.elim, fun q => absurd q UpR.zero⟩)
          obtain ⟨oa2, cap2, hlv, hcs2⟩ := hA.list.hold
          clear hcs2
          subst hlv
          have c0 : wr.cell? ⟨g, 0, none⟩ = some (.slice oa2 hs.length cap2) := row_at hA.row 0 _ rfl
          obtain ⟨n2, HN2⟩ : ∃ n2, Hid (hs.length = n2) := ⟨_, rfl⟩
          have H122 : n2 ≤ 12 := by rw [← HN2.out]; exact H12.out
          rw [HN2.out] at hA c0
          have hndw : nd ≤ nw := by omega
          go_upto_region 17 with fail
          clear c0 M3 M4 hl0 hnx hle Rk hnd
          go_loopw [75] (fun i wr => ∃ (k nd np : Nat), k ≤ n2 ∧ i = .int .i64 k ∧ HAt wr g mw mc md mp (.slice oa2 n2 cap2) hs f nw nc F G ∧ SMp wr md nd (fun s => D0 hs s ∨ UpR hs (fun i v => RdD hs i v s) k 0) ∧ SMp wr mp np (fun s => UpR hs (fun i v => RdP hs i v s) k 0) ∧ nd ≤ nw + 1000 * k ∧ np ≤ 1000 * k ∧ Below w.heap.size w wr) (fun i _ => n2 - (intOf i).toNat)
          case atStart => exact ⟨0, nd, 0, by omega, rfl, hA, M35, M45, by omega, by omega, Bw⟩
          case round =>
            clear hA M35 M45 Bw hndw
            obtain ⟨i, nd, np, hi, rfl, hA, M3, M4, hnd, hnp, Bw⟩ := hrel
            by_cases hin : i < n2
            · have hin' : (i : Int) < (n2 : Int) := by omega
              obtain ⟨oa3, cap3, hlv, hcs3⟩ := hA.list.hold
              injection hlv with e1 e2 e3
              subst e1
              obtain ⟨a, x, rfl, he, hcw⟩ := hcs3 i (by rw [HN2.out]; exact hin)
              have h1 := hA.list.each x (List.mem_of_getElem? he)
              have hfit := hA.list.fit x (List.mem_of_getElem? he)
              clear hcs3 e2 e3
              obtain ⟨P, ⟨ra, rn, rc⟩, ⟨wa, wn, wc⟩⟩ := x
              have hrn : rn = P.rs.length := h1.rn
              have hfl := hfit.rl
              have HOK : Hid (∀ v ∈ P.rs, seenok v) := fun v hv => ⟨WalkArith.wf_u16 (hfit.rs v hv).1, WalkArith.wf_u32 (hfit.rs v hv).2⟩
              have HRN : Hid _ := hrn
              have HE : Hid _ := he
              have hrl : rn ≤ 1000 := by rw [hrn]; exact hfl
              have tl : Hid (1 = 1) := rfl
              have q1 : Row (wr.alloc (.cells Pa.O.zero.arr 39)) wr.heap.size Pa.O.zero.arr 39 := Row.new _ _ _
              obtain ⟨k1, k2⟩ := copied wr (⟨P.st, P.co, P.dn, ⟨ra, rn, rc⟩, ⟨wa, wn, wc⟩⟩ : Pa.O)
              clear hrn hfl hfit he
              go_upto_region 19 with (first
                | (have hh := tl; clear hh tl; refine wpList_load_any rfl 39 (.tmp 78) rfl (a.add (i * 5)) rfl (Pa.O.cells ⟨P.st, P.co, P.dn, ⟨ra, rn, rc⟩, ⟨wa, wn, wc⟩⟩) _ hcw Try.underlying39 rfl Pa.size39 ?_)
                | (refine store_cells rfl 39 (.tmp 11) (.tmp 79) rfl wr.heap.size (Pa.O.arr ⟨P.st, P.co, P.dn, ⟨ra, rn, rc⟩, ⟨wa, wn, wc⟩⟩) rfl rfl 39 _ q1 5 Pa.size39 rfl rfl (Pa.O.arr_one _) ?_))
              clear q1 hcw
              have hA5 := hA.below k2
              have M35 := M3.below k2
              have M45 := M4.below k2
              have Bw5 := below_trans Bw k2
              have H15 : Held1 _ _ := h1.keep k2
              generalize (wr.alloc (.cells Pa.O.zero.arr 39)).setRow wr.heap.size (Pa.O.arr ⟨P.st, P.co, P.dn, ⟨ra, rn, rc⟩, ⟨wa, wn, wc⟩⟩) = w5 at k1 k2 hA5 M35 M45 Bw5 H15 ⊢
              have k1 : Row w5 wr.heap.size #[.int .u32 P.st, .int .u32 P.co, .bool P.dn, .slice ra rn rc, .slice wa wn wc] 39 := k1
              have f3 : w5.cell? ⟨wr.heap.size, 3, none⟩ = some (.slice ra rn rc) := row_at k1 3 _ rfl
              generalize wr.heap.size = X at k1 f3 ⊢
              clear hA M3 M4 Bw k2 h1
              go_upto_region 20 with fail
              clear f3
              have HRL2 : Hid (rn ≤ 1000) := hrl
              have HND0 : Hid (nd ≤ nw + 1000 * i) := hnd
              have HNP0 : Hid (np ≤ 1000 * i) := hnp
              clear hrl hnd hnp
              go_loopw [83] (fun c wr => ∃ (k nd np : Nat), k ≤ rn ∧ c = .int .i64 k ∧ HAt wr g mw mc md mp (.slice (some a) n2 cap2) hs f nw nc F G ∧ SMp wr md nd (fun s => D0 hs s ∨ UpR hs (fun i v => RdD hs i v s) i k) ∧ SMp wr mp np (fun s => UpR hs (fun i v => RdP hs i v s) i k) ∧ nd ≤ nw + 1000 * i + k ∧ np ≤ 1000 * i + k ∧ Below w.heap.size w wr ∧ Held1 wr ⟨P, ⟨ra, rn, rc⟩, ⟨wa, wn, wc⟩⟩) (fun c _ => rn - (intOf c).toNat)
              case atStart => exact ⟨0, nd, np, by omega, rfl, hA5, M35, M45, HND0.out, HNP0.out, Bw5, H15⟩
              case round =>
                clear hA5 M35 M45 Bw5 H15 k1 HND0 HNP0
                obtain ⟨k, nd, np, hk, rfl, hA, M3, M4, hnd, hnp, Bw, h1⟩ := hrel
                by_cases hkn : k < rn
                · have hkn' : (k : Int) < (rn : Int) := by omega
                  obtain ⟨b, v, rfl, hv, hvc⟩ := h1.rat k hkn
                  have HV : Hid (P.rs[k]? = some v) := hv
                  have hvok := HOK.out v (List.mem_of_getElem? hv)
                  clear hv
                  go_upto_region 22 with (refine wpList_load_any rfl 46 (.tmp 85) rfl (b.add (k * 2)) rfl [.int .u16 v.1, .int .u32 v.2] _ hvc Try.underlying46 rfl Sn.size46 ?_)
                  have rX : Row (wr.alloc (.cells #[.int .u16 v.1, .int .u32 v.2] 46)) wr.heap.size #[.int .u16 v.1, .int .u32 v.2] 46 := Row.new _ _ _
                  have b3 : Below wr.heap.size wr (wr.alloc (.cells #[.int .u16 v.1, .int .u32 v.2] 46)) := (Below.refl _ _).alloc (Nat.le_refl _) _
                  have hA3 := hA.below b3
                  have M33 := M3.below b3
                  have M43 := M4.below b3
                  have Bw3 := below_trans Bw b3
                  have h13 := h1.keep b3
                  generalize wr.alloc (.cells #[.int .u16 v.1, .int .u32 v.2] 46) = w3 at rX hA3 M33 M43 Bw3 h13 ⊢
                  generalize wr.heap.size = Y at rX ⊢
                  clear b3 hA M3 M4 Bw h1 hvc
                  have hl := HLE.out
                  have hfr := findRead_any hA3 M33 M43 (by have := HRL2.out; have := HSM.out; omega) (by have := HRL2.out; omega) (by omega) (by omega) (by omega) (by omega) (by omega) i (by omega) v hvok
                  have HFR : Hid (∀ w', Rread w3 hs md mp nd np i v (fun s => D0 hs s ∨ UpR hs (fun i v => RdD hs i v s) i k) (fun s => UpR hs (fun i v => RdP hs i v s) i k) w' → HAt w' g mw mc md mp (.slice (some a) n2 cap2) hs f nw nc F G ∧ SMp w' md (nd + 1) (fun s => D0 hs s ∨ UpR hs (fun i v => RdD hs i v s) i (k + 1)) ∧ SMp w' mp (np + 1) (fun s => UpR hs (fun i v => RdP hs i v s) i (k + 1)) ∧ Below w.heap.size w w' ∧ Held1 w' ⟨P, ⟨some b, rn, rc⟩, ⟨wa, wn, wc⟩⟩) := fun w' ⟨q1, q2, q3⟩ =>
                    have hB : ∀ bb, two md mp bb → ∃ es cl, w3.heap[bb]? = some (.map es cl) := fun bb e => Or.elim e (fun e => by rw [e]; exact M33.is) (fun e => by rw [e]; exact M43.is)
                    ⟨hA3.maps q3 hB (fun e => Or.elim e (fun e => by omega) (fun e => by omega)) (fun e => Or.elim e (fun e => by omega) (fun e => by omega)),
                      q1.congr (fun s => by rw [UpR.step HE.out HV.out]; exact ⟨fun q => q.elim (fun q => q.elim Or.inl (fun q => Or.inr (Or.inl q))) (fun q => Or.inr (Or.inr q)), fun q => q.elim (fun q => Or.inl (Or.inl q)) (fun q => q.elim (fun q => Or.inl (Or.inr q)) Or.inr)⟩),
                      q2.congr (fun s => by rw [UpR.step HE.out HV.out]), below_off Bw3 q3 (fun j e => Or.elim e (fun e => by omega) (fun e => by omega)), h13.maps hB q3⟩
                  generalize hRR : Rread w3 hs md mp nd np i v (fun s => D0 hs s ∨ UpR hs (fun i v => RdD hs i v s) i k) (fun s => UpR hs (fun i v => RdP hs i v s) i k) = RR at hfr HFR
                  clear hRR hA3 M33 M43 Bw3 h13 hl hvok
                  have hr1000 := HRL2.out
                  go_wp2_with (first
                    | (refine wpList_load_any rfl 46 (.tmp 13) rfl ⟨Y, 0, none⟩ rfl [.int .u16 v.1, .int .u32 v.2] _ (rowv rX) Try.underlying46 rfl Sn.size46 ?_)
                    | (go_at_call 46; refine hfr.mono ?_; clear hfr; rintro e w4 ⟨he, hq⟩; obtain rfl := he; have HQ := HFR.out _ hq; clear hq))
                  go_roundw
                  case rel => exact ⟨k + 1, nd + 1, np + 1, by omega, by go_num, HQ.1, HQ.2.1, HQ.2.2.1, by omega, by omega, HQ.2.2.2.1, HQ.2.2.2.2⟩
                  case measure => simp [intOf]; omega
                · have hkn' : ¬ (k : Int) < (rn : Int) := by omega
                  obtain rfl : k = rn := by omega
                  have M35 := M3.congr (D' := fun s => D0 hs s ∨ UpR hs (fun i v => RdD hs i v s) (i + 1) 0) (fun s => by rw [UpR.next HE.out]; show _ ↔ D0 hs s ∨ UpR hs (fun i v => RdD hs i v s) i P.rs.length; rw [← HRN.out])
                  have M45 := M4.congr (D' := fun s => UpR hs (fun i v => RdP hs i v s) (i + 1) 0) (fun s => by rw [UpR.next HE.out]; show _ ↔ UpR hs (fun i v => RdP hs i v s) i P.rs.length; rw [← HRN.out])
                  have hr := HRL2.out
                  have hnd2 : Hid (nd ≤ nw + 1000 * (i + 1)) := by show _ ≤ _; omega
                  have hnp2 : Hid (np ≤ 1000 * (i + 1)) := by show _ ≤ _; omega
                  clear M3 M4 hr hnd hnp h1
                  go_wp2
                  go_roundw
                  case rel => exact ⟨i + 1, nd, np, by omega, by go_num, hA, M35, M45, hnd2.out, hnp2.out, Bw⟩
                  case measure => simp [intOf]; omega
            · have hin' : ¬ (i : Int) < (n2 : Int) := by omega
              obtain rfl : i = n2 := by omega
              have hfin := HPP.out g wr ⟨mw, mc, md, mp, _, hs, f, nw, nc, F, G, nd, np, HPM.out, hA, M3.congr (fun s => by rw [UpR.all (Nat.le_of_eq HN2.out)]; exact Iff.rfl), M4.congr (fun s => by rw [UpR.all (Nat.le_of_eq HN2.out)]; exact Iff.rfl), Bw, by have := HSM.out; omega, by have := HSM.out; omega⟩
              clear hA M3 M4 Bw
              go_wp2
              exact hfin
        · obtain ⟨p, ts⟩ := y
          obtain ⟨jj, rfl, hj⟩ := (HFN.out _ _).1 hfy
          replace hnx : ∀ ty, (Instr.next (.pointer (some ⟨r, 0, none⟩)) false ty).run Try.prog wr = .ok (.tuple #[.bool true, .agg #[.int .u16 p, .int .u32 ts], .int .i64 jj]) w2 := hnx
          replace hen : (Instr.entry (.pointer (some ⟨r, 0, none⟩))).run Try.prog w2 = .ok (.tuple #[.agg #[.int .u16 p, .int .u32 ts], .int .i64 jj]) w2 := hen
          obtain ⟨or1, hor1, hor2, hor3⟩ := Rk.range_is
          have Ork : Off (· = r) wr w2 := Off.of_grown gk (fun q hq => by cases hq; rfl)
          have hrm : ∀ m, (∃ es cl, wr.heap[m]? = some (.map es cl)) → ¬ m = r := fun m ⟨es, cl, hm⟩ q => by rw [q, hor1] at hm; exact hor3 _ _ (Option.some.inj hm)
          have hrc : ∀ cs t x, wr.heap[r]? = some (.cells cs t x) → False := fun cs t x h => by rw [hor1] at h; exact hor2 _ _ _ (Option.some.inj h)
          have hA2 : HAt w2 g mw mc md mp lv hs f nw nc F G := hA.rng Ork hrc (hrm _ hA.wr.is) (hrm _ hA.vt.1.is)
          have M32 := M3.off Ork (hrm _ M3.is)
          have M42 := M4.off Ork (hrm _ M4.is)
          have Bw2 := below_off Bw Ork (fun k e => by rw [e]; exact HRL.out)
          have HJ : Hid (WrI hs jj (p, ts)) := hj
          have HY : Hid _ := hy
          clear hrm hrc hor1 hor2 hor3 Ork hA M3 M4 Bw sk' gk Rk hfy hlf hj hy
          go_upto_region 13 with fail
          have rX : Row (w2.alloc (.cells #[.int .u16 p, .int .u32 ts] 46)) w2.heap.size #[.int .u16 p, .int .u32 ts] 46 := Row.new _ _ _
          have b3 : Below w2.heap.size w2 (w2.alloc (.cells #[.int .u16 p, .int .u32 ts] 46)) := (Below.refl _ _).alloc (Nat.le_refl _) _
          have hA3 := hA2.below b3
          have M33 := M32.below b3
          have M43 := M42.below b3
          have Bw3 := below_trans Bw2 b3
          have Rk3 := Rk'.off (Off.of_below (F := fun _ => False) b3) (fun q => q) (fun q => q)
          generalize w2.alloc (.cells #[.int .u16 p, .int .u32 ts] 46) = w3 at rX hA3 M33 M43 Bw3 Rk3 ⊢
          generalize w2.heap.size = X at rX ⊢
          clear b3 hA2 M32 M42 Bw2 Rk' hnx hen
          have hnxt := next_any hA3 (p, ts) HY.out
          have HNXT : Hid (∀ e w', Next hs (p, ts) w3 e w' → ∃ (j : Int) (b : Bool), e = .returned (.tuple #[.int .i64 j, .bool b]) ∧ Below w3.heap.size w3 w' ∧ (b = true → ∃ k : Nat, j = k ∧ NxI hs (p, ts) k) ∧ (b = false → ∀ k, ¬ NxI hs (p, ts) k)) := fun _ _ h => h
          generalize hNN : Next hs (p, ts) w3 = NN at hnxt HNXT
          clear hNN
          go_upto_region 14 with (first
            | (refine wpList_load_any rfl 46 (.tmp 6) rfl ⟨X, 0, none⟩ rfl [.int .u16 p, .int .u32 ts] _ (rowv (v := (p, ts)) rX) Try.underlying46 rfl Sn.size46 ?_)
            | (go_at_call 44; refine hnxt.mono ?_; clear hnxt; intro e w4 hq; obtain ⟨k, b, he, hb4, hk1, hk0⟩ := HNXT.out _ _ hq; obtain rfl := he; clear hq))
          have hA4 := hA3.below hb4
          have M34 := M33.below hb4
          have M44 := M43.below hb4
          have Bw4 := below_trans Bw3 hb4
          have Rk4 := Rk3.off (Off.of_below (F := fun _ => False) hb4) (fun q => q) (fun q => q)
          have HK0 : Hid _ := hk0
          clear hA3 M33 M43 Bw3 Rk3 hb4 rX HNXT hk0
          cases b
          · have M35 : SMp w4 md nd (D2 hs (fun y => left y && !decide (y = (p, ts)))) := M34.congr (fun s => by rw [D2.step HUN.out HJ.out]; exact ⟨Or.inl, fun q => q.elim id (fun ⟨k, q, _⟩ => absurd q (HK0.out rfl k))⟩)
            have hle4 := Rk4.left_eq
            clear M34 hk1
            go_wp2
            go_roundw
            case rel => exact ⟨_, cnt', nd, Rk4, hA4, M35, M44, by omega, Bw4⟩
            case measure => rw [hle4, hle]; exact hlt
          · obtain ⟨kk, rfl, hkk⟩ := hk1 rfl
            have HKK : Hid _ := hkk
            have hput := SMp.put M34 (by have := HSM.out; unfold maxLen; omega) jj kk (stepok_of (by have := WrI.lt HJ.out; have := H12.out; omega) (by have := NxI.lt hkk; have := H12.out; omega))
            have c3 : w4.cell? ⟨g, 3, none⟩ = some (.map (some md)) := row_at hA4.row 3 _ rfl
            have hmd := M34.is
            clear hkk M34
            go_wp2_with (go_at_call 45; refine hput.mono ?_; clear hput; rintro e w5 ⟨he, q5, o5⟩; obtain rfl := he)
            have hl := HLE.out
            have M35 : SMp w5 md (nd + 1) (D2 hs (fun y => left y && !decide (y = (p, ts)))) := q5.congr (fun s => by
              rw [D2.step HUN.out HJ.out]
              refine or_congr Iff.rfl ⟨fun ⟨a, b⟩ => ⟨kk, HKK.out, a, b⟩, fun ⟨k, a, b, c⟩ => ?_⟩
              obtain rfl := NxI.one HUN.out a HKK.out
              exact ⟨b, c⟩)
            have hA5 := hA4.maps o5 (fun b e => by rw [e]; exact hmd) (by omega) (by omega)
            have M45 := M44.off o5 (by omega)
            have Bw5 := below_off Bw4 o5 (fun k e => by rw [e]; omega)
            have Rk5 := Rk4.off o5 (by omega) (fun e => by obtain ⟨o1, ho1, _, ho3⟩ := Rk4.range_is; obtain ⟨es, cl, hm⟩ := hmd; rw [← e, ho1] at hm; exact ho3 _ _ (Option.some.inj hm))
            have hle5 := Rk5.left_eq
            clear hA4 M44 Bw4 Rk4 q5 o5 c3 hmd hl
            go_roundw
            case rel => exact ⟨_, cnt', nd + 1, Rk5, hA5, M35, M45, by omega, Bw5⟩
            case measure => rw [hle5, hle]; exact hlt
end Go.Proofs.Ytdlllnkcjfpajaa
