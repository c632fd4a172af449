/-
  Plain facts on the statements' arguments: a page's name and a payload, as values that came in; a log's room.
-/
import Derived.Test.YtihjapfgllokgabOpn
import Derived.Test.YtihjapfgllokgabFew
import Derived.Test.YtihjapfgllokgabFcv
import Derived.Test.YtihjapfgllokgabAwk
namespace Go.Proofs.Ytihjapfgllokgab
open Go.ChangeShapes Go.WideShapes Go.ChangeAt Go.RowKit
open Go.Deep
set_option linter.unusedVariables false
set_option linter.unusedSimpArgs false
set_option maxRecDepth 20000

section
variable {H : Type} {enc : TypeId × Value → H}
theorem open_payv {w : World} {base : Nat} {v : Value} {d : DataW H} {p : List MemPlace} (hv : Value.okWide Try.prog w .any base 26 v) (h : DataW.Trod enc Try.prog w 0 (fun _ => true) true 26 v d p) :
    ∃ ys : List Int, v = .agg (bs ys) ∧ ys.length = 224 ∧ Bytes ys := by
  simp only [Value.okWide, Try.underlying26] at hv
  obtain ⟨cs, rfl, hcs, _⟩ := hv
  obtain ⟨fuel, hf⟩ := h
  rw [cells26] at hcs
  obtain ⟨ys, he, hl, hb⟩ := open_list Try.underlying26 Try.underlying5 cells5 (by simpa [Value.cells] using hcs) hf
  refine ⟨ys, ?_, hl, hb⟩
  have he' : cs.toList = ys.map (Value.int .u8) := he
  rw [← Array.toArray_toList (xs := cs), he']; rfl
theorem open_pidv {w : World} {base : Nat} {v : Value} {d : DataW H} {p : List MemPlace} (hv : Value.okWide Try.prog w .any base 24 v) (h : DataW.Trod enc Try.prog w 0 (fun _ => true) true 24 v d p) :
    ∃ (u : Bool) (no : Int), v = .agg #[.bool u, .int .u16 no] ∧ 0 ≤ no ∧ no ≤ 65535 := by
  obtain ⟨cs, rfl, hsz⟩ := okWide_struct Try.underlying24 hv
  obtain ⟨fuel, hf⟩ := h
  have hf' : DataW.trod enc Try.prog w 0 (fun _ => true) true fuel 24 cs.toList = some (d, p) := hf
  have hc : ∃ (u : Bool) (no : Int), cs.toList = [.bool u, .int .u16 no] ∧ 0 ≤ no ∧ no ≤ 65535 := by
    generalize cs.toList = l at hf'
    cases fuel with
    | zero => simp [DataW.trod] at hf'
    | succ n =>
      unfold DataW.trod at hf'
      rw [Try.underlying24] at hf'
      simp only [cells24] at hf'
      by_cases hl : l.length = 2
      · match l, hl with
        | [c0, c1], _ =>
          simp [List.mapM_cons, cells4, cells22] at hf'
          cases t0 : DataW.trod enc Try.prog w 0 (fun _ => true) true n 4 [c0] with
          | none => simp [t0] at hf'
          | some x0 =>
          cases t1 : DataW.trod enc Try.prog w 0 (fun _ => true) true n 22 [c1] with
          | none => simp [t0, t1] at hf'
          | some x1 =>
          obtain ⟨k0, e0, _⟩ := DataW.trod_bool Try.underlying4 t0
          obtain ⟨k1, e1, _, u1⟩ := DataW.trod_int Try.underlying22 t1
          simp at e0 e1
          exact ⟨k0, k1, by rw [e0, e1], bounds_u16 u1⟩
      · simp [hl] at hf'
  obtain ⟨u, no, h1, h2⟩ := hc
  refine ⟨u, no, ?_, h2⟩
  show Value.agg cs = Value.agg [Value.bool u, .int .u16 no].toArray
  rw [← h1]
end
theorem OwnE.room {w : World} {base : Nat} {v : Value} {es : List En} (h : OwnE w base v es) : ∃ oa cap, v = .slice oa es.length cap ∧ es.length ≤ cap ∧ cap ≤ 9223372036854775807 := by
  rcases h.2 with ⟨rfl, h2⟩ | ⟨g, cap, cur, rfl, _, _, hle, hm, _⟩
  · exact ⟨none, 0, by rw [h2], by omega, by omega⟩
  · exact ⟨_, cap, rfl, hle, by unfold maxLen at hm; omega⟩
/-- The places of a struct's fields. -/
def placesOf (P : Program) (t : TypeId) : Option (List (Nat × Nat)) :=
  match P.underlying t with
  | some (.struct fields) => fields.toList.mapM (fun f => (P.info? f.type).map fun i => (f.offset, i.size))
  | _ => none
theorem built_struct {P : Program} {t : TypeId} {z : Value} {places : List (Nat × Nat)} (hi : (P.info? t).map (·.zero) = some (some z)) (hp : placesOf P t = some places) (parts : List (Nat × Value)) : P.built t parts = Instr.fill (places.toArray[·]?) z.cells parts := by
  unfold Program.built
  unfold placesOf at hp
  cases hq : P.info? t with
  | none => simp [hq] at hi
  | some it =>
    simp [hq] at hi
    split at hp
    · rename_i fields hu
      rw [hu]
      simp only [hi, hp]
    · cases hp
theorem splice_size {α : Type} (L : List α) (o : Nat) (r : List α) (h : o + r.length ≤ L.length) : (⟨splice L o r⟩ : Array α).size = L.length := by
  simp [splice]; omega
theorem zeroOf39 : (Try.prog.info? 39).map (·.zero) = some (some (.agg En.zero.arr)) := by kernel_rfl
theorem zeroOf37 : (Try.prog.info? 37).map (·.zero) = some (some (.agg R.zero.arr)) := by kernel_rfl
theorem places39 : placesOf Try.prog 39 = some [(0, 1), (1, 238)] := by kernel_rfl
theorem places37 : placesOf Try.prog 37 = some [(0, 1), (1, 2), (3, 224), (227, 1), (228, 2), (230, 1), (231, 1), (232, 6)] := by kernel_rfl
theorem built39 (l : Int) (r : R) (h : r.img.length = 224) : Try.prog.built 39 [(0, .int .u64 l), (1, .agg r.arr)] = some (En.arr ⟨l, r⟩) := by
  have hz : En.zero.arr.size = 239 := En.arr_size _ (zs_length _)
  have hr : r.arr.size = 238 := R.arr_size r h
  have hrc : r.cells.length = 238 := R.cells_length r h
  have hzc : R.zero.cells.length = 238 := R.cells_length _ (zs_length _)
  rw [built_struct zeroOf39 places39]
  have e0 : (Value.agg En.zero.arr).cells = En.zero.arr := rfl
  rw [e0, fill_step _ _ 0 (.int .u64 l) _ 0 1 rfl rfl (by omega), fill_step _ _ 1 (.agg r.arr) _ 1 238 rfl hr (by rw [splice_size _ _ _ (by show 0 + 1 ≤ En.zero.arr.toList.length; rw [Array.length_toList, hz]; omega), Array.length_toList, hz]; omega)]
  unfold Instr.fill
  congr 1
  unfold En.arr En.cells
  apply congrArg
  show splice (splice (.int .u64 0 :: R.zero.cells) 0 [.int .u64 l]) 1 r.cells = _
  simp [splice, hrc, hzc]
theorem imgR_len (u : Bool) (no : Int) (img : List Int) (h : img.length = 224) : (imgR u no img).img.length = 224 := h
theorem built37i (u : Bool) (no : Int) (img : List Int) (h : img.length = 224) : Try.prog.built 37 [(0, .int .u8 1), (1, .agg #[.bool u, .int .u16 no]), (2, .agg (bs img))] = some (imgR u no img).arr := by
  have hz : R.zero.arr.size = 238 := R.arr_size _ (zs_length _)
  have hzc : R.zero.cells.length = 238 := R.cells_length _ (zs_length _)
  have hzl : (zs 224).length = 224 := zs_length _
  have hs1 : (⟨splice R.zero.arr.toList 0 (Value.int .u8 1).cells.toList⟩ : Array Value).size = 238 := by rw [splice_size _ _ _ (by show 0 + 1 ≤ R.zero.arr.toList.length; rw [Array.length_toList, hz]; omega), Array.length_toList, hz]
  rw [built_struct zeroOf37 places37]
  have e0 : (Value.agg R.zero.arr).cells = R.zero.arr := rfl
  rw [e0, fill_step _ _ 0 (.int .u8 1) _ 0 1 rfl rfl (by omega), fill_step _ _ 1 (.agg #[.bool u, .int .u16 no]) _ 1 2 rfl rfl (by rw [hs1]; omega), fill_step _ _ 2 (.agg (bs img)) _ 3 224 rfl (by show (bs img).size = 224; rw [bs_size, h]) (by rw [splice_size _ _ _ (by show 1 + 2 ≤ (⟨splice R.zero.arr.toList 0 _⟩ : Array Value).size; rw [hs1]; omega)]; show 3 + 224 ≤ (⟨splice R.zero.arr.toList 0 _⟩ : Array Value).size; rw [hs1]; omega)]
  unfold Instr.fill
  congr 1
  unfold R.arr
  apply congrArg
  show splice (splice (splice (.int .u8 0 :: .bool false :: .int .u16 0 :: ((zs 224).map (Value.int .u8) ++ R.zero.tail)) 0 [.int .u8 1]) 1 [.bool u, .int .u16 no]) 3 (img.map (Value.int .u8)) = .int .u8 1 :: .bool u :: .int .u16 no :: (img.map (Value.int .u8) ++ R.zero.tail)
  have hd : List.drop 224 ((zs 224).map (Value.int .u8) ++ R.zero.tail) = R.zero.tail := by
    rw [List.drop_append, List.drop_of_length_le (by simp [hzl])]
    simp [hzl]
  generalize R.zero.tail = T at hd ⊢
  generalize (zs 224).map (Value.int .u8) = Z at hd ⊢
  simp [splice, h, Nat.add_comm]
  exact hd
theorem OwnE.one (w : World) (base X : Nat) (e : En) (h : e.r.img.length = 224) (hX : Row w X e.arr 39) (hb : base ≤ X) : OwnE w base (.slice (some ⟨X, 0, none⟩) 1 1) [e] := by
  refine ⟨by simp [flatE, En.cells_length e h], Or.inr ⟨X, 1, e.arr, rfl, hb, hX, Nat.le_refl _, by unfold maxLen; omega, by rw [e.arr_size h], ?_⟩⟩
  simp [flatE, En.arr]
  rw [List.take_of_length_le (by rw [En.cells_length e h]; exact Nat.le_refl _)]
theorem OwnE.grown {w w' : World} {base : Nat} {v : Value} {es : List En} {row : Option Nat} (h : OwnE w base v es) (hg : w.grownBy w' row) (hr : ∀ q, v.ownBlock = some q → row ≠ some q) : OwnE w' base v es := by
  have hl := World.ownsRow.lt h
  obtain ⟨h1, h2⟩ := h
  refine ⟨h1, ?_⟩
  rcases h2 with h2 | ⟨g, cap, cur, rfl, hb', hc, rest⟩
  · exact Or.inl h2
  · have := hl g (by simp [Value.ownBlock])
    exact Or.inr ⟨g, cap, cur, rfl, hb', (hg.block g this.2 (fun e => hr g (by simp [Value.ownBlock]) e.symm)).trans hc, rest⟩
theorem OwnE.more {w : World} {base : Nat} {v : Value} {es : List En} (h : OwnE w base v es) (ty : TypeId) (X m : Nat) (ps : List En) (hm : ps.length = m) (hp : ∀ x ∈ ps, x.r.img.length = 224) (hX : Row w X (flatE ps).toArray 39) (hb : base ≤ w.heap.size) (hn : es.length + m ≤ 1000000) :
    ∃ v' w', (Builtin.append_ #[27, 27] ty #[v, .slice (some ⟨X, 0, none⟩) m m]).run Try.prog w = .ok v' w' ∧ OwnE w' base v' (es ++ ps) ∧ w.grownBy w' v.ownBlock ∧ (v'.ownBlock = v.ownBlock ∨ v'.ownBlock = some w.heap.size) := by
  obtain ⟨i, hi, hz, hs, hby⟩ := info_parts info39
  have hfl : (flatE ps).length = m * 239 := by
    subst hm
    clear hX hn
    induction ps with
    | nil => rfl
    | cons a l ih =>
      have h1 := En.cells_length a (hp a (by simp))
      have h2 := ih (fun x hx => hp x (by simp [hx]))
      simp only [flatE, List.flatMap_cons, List.length_append, List.length_cons] at h2 ⊢
      omega
  obtain ⟨v', w', hr, h2, h3, h4, h5⟩ := run_append_own_at (P := Try.prog) w base 27 ty 39 i _ 239 304 Try.underlying27 hi hz hs hby (by rw [show (Value.agg En.zero.arr).cells = En.zero.arr from rfl]; exact En.arr_size _ (zs_length _)) (by decide) v es.length (flatE es) h ⟨X, 0, none⟩ m m (flatE ps) hfl (fun j u hj => by rw [Addr.add_mid, Nat.zero_add, cell_of_row w X j _ _ _ hX, ← hj, List.getElem?_toArray]) (fun u hu => flatE_one ps u hu) (by unfold maxLen; omega) (by omega) hb
  refine ⟨v', w', hr, ?_, h3, h5⟩
  unfold OwnE
  rw [flatE_append, List.length_append, hm]
  exact h2
theorem flatE_arr (e : En) : (flatE [e]).toArray = e.arr := by simp [flatE, En.arr]
theorem wpList_slice_two {ops : Array Oper} {rest : List Oper} {o : Oper} {a : Act} {w : World} {Q : Exit → Act → World → Prop} (hg : o.guard = none) (x y : Operand) (ho : o.op = .buildSlice 27 2 #[(0, x), (1, y)]) (e f : En) (hl : e.r.img.length = 224) (hl2 : f.r.img.length = 224) (hx : a.eval x = .agg e.arr) (hy : a.eval y = .agg f.arr)
    (h : wpList Try.prog ops Q rest (a.put o.dst (.slice (some ⟨w.heap.size, 0, none⟩) 2 2)) (w.alloc (.cells (flatE [e, f]).toArray 39))) : wpList Try.prog ops Q (o :: rest) a w := by
  obtain ⟨i, hi, hz, hs, _⟩ := info_parts info39
  have hc : e.arr.size = 239 := e.arr_size hl
  have hc2 : f.arr.size = 239 := f.arr_size hl2
  have hce : e.cells.length = 239 := En.cells_length e hl
  have hcf : f.cells.length = 239 := En.cells_length f hl2
  refine wpList_buildSlice hg 27 39 2 _ ho (flatE [e, f]).toArray i _ Try.underlying27 hi hz (by rw [hs]; decide) (by rw [hs]; decide) ?_ h
  have e1 : (#[(0, x), (1, y)].map fun (i, x) => (i, a.eval x)).toList = [(0, .agg e.arr), (1, .agg f.arr)] := by simp [hx, hy]
  rw [e1, fill_step _ _ 0 (.agg e.arr) _ 0 239 (by simp [hs]) hc (by simp [hs]), fill_step _ _ 1 (.agg f.arr) _ 239 239 (by simp [hs]) hc2 (by simp [splice, hs, Value.cells, En.arr, hce])]
  unfold Instr.fill
  congr 1
  show (⟨splice (splice _ 0 e.cells) 239 f.cells⟩ : Array Value) = ⟨flatE [e, f]⟩
  congr 1
  unfold splice flatE
  simp [hce, hcf, hs]
end Go.Proofs.Ytihjapfgllokgab
