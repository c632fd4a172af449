/-
  Proved here: delta.Check tells whether a text is a delta, delta.Apply lays its pieces into a body.
-/
import Derived.Test.YtdopghiconcjlabDPieces
namespace Go.Proofs.Ytdopghiconcjlab
open Go.ChangeShapes Go.WideShapes Go.ChangeAt Go.RowKit
set_option linter.unusedVariables false
set_option linter.unusedSimpArgs false

theorem nums_cells (t : ByteArray) : (t.extract 0 t.size).data.map (fun b => Value.int .u8 b.toNat) = bs (nums t) := by
  obtain ⟨⟨l⟩⟩ := t
  rw [ByteArray.extract_mk]
  simp [bs, nums, ByteArray.size]
theorem copy_text {P : Program} {ops : Array Oper} {rest : List Oper} {o : Oper} {a : Act} {w : World} {Q : Exit → Act → World → Prop} (hgd : o.guard = none) (d s : Operand) (dT sT : TypeId)
    (ho : o.op = .call { callee := .builtin .copy, args := #[d, s], argTypes := #[dT, sT] }) (elem : TypeId) (hu : P.underlying dT = some (.slice elem)) (hsz : (P.info? elem).map (·.size) = some 1)
    (g off dLen dCap : Nat) (hd : a.eval d = .slice (some ⟨g, off, none⟩) dLen dCap) (t : ByteArray) (hs : a.eval s = .string t)
    (cur : List Int) (ty : TypeId) (hg : Row w g (bs cur) ty) (hle : t.size ≤ dLen) (hfit : off + t.size ≤ cur.length)
    (h : wpList P ops Q rest (a.put o.dst (goInt t.size)) (w.setRow g (bs (splice cur off (nums t))))) : wpList P ops Q (o :: rest) a w := by
  refine wpList_plain hgd fun K hK => ?_
  have hl := nums_length t
  have hst := run_storeCells_at (P := P) g off ty (bs (nums t)).toList 0 (bs cur) w hg (by simp [bs_size, hl]; simpa [bs, hl] using hfit) (by intro v hv; have := bs_one (nums t); rw [Array.all_eq_true_iff_forall_mem] at this; exact this v (by simpa using hv))
  have e : ((bs cur).toList.take (off + 0) ++ (bs (nums t)).toList ++ (bs cur).toList.drop (off + 0 + (bs (nums t)).toList.length)).toArray = bs (splice cur off (nums t)) := by
    simp [bs, splice]
  rw [e] at hst
  have hmin : Nat.min t.size dLen = t.size := Nat.min_eq_left hle
  have hrun : (Builtin.copy_ #[dT, sT] o.type #[.slice (some ⟨g, off, none⟩) dLen dCap, .string t]).run P w = .ok (goInt t.size) (w.setRow g (bs (splice cur off (nums t)))) := by
    cases hq : P.info? elem with
    | none => simp [hq] at hsz
    | some i =>
      have hi : i.size = 1 := by simpa [hq] using hsz
      have e4 : List.take t.size (List.map (fun b => Value.int .u8 (b.toNat : Int)) t.data.toList) = (bs (nums t)).toList := by
        rw [List.take_of_length_le (by simp)]
        simp [bs, nums]
      simp [Builtin.copy_, run_underlying hu, Builtin.lenOf, Builtin.firstCells, sizeOf, typeInfo, hq, hi, hmin, e4, hst]
  unfold Oper.wp
  simp [execOp, ho, resolve, invoke, builtin, hd, hs, hrun, Result.andThen]
  exact hK _ _ h

theorem check1 (args : Array Value) (i s : Value) (w : World) : Calls Try.prog 26 (#[i, s] ++ #[]) w fun e w' => e = .returned (.tuple #[]) ∧ w' = w := by
  simp only [List.append_toArray, List.append_nil]
  go_enter Try.func26, Try.ntmps26
  go_wp2
  first
    | (go_end0; exact ⟨rfl, rfl⟩)
    | (refine bodyPost_ret (results_none rfl _ _ _) rfl ?_; exact ⟨rfl, rfl⟩)
theorem check_any (s : ByteArray) (hs : s.size ≤ maxLen) (w : World) :
    Calls Try.prog 21 #[.string s] w fun e w' => e = .returned (.bool (pieces s).isSome) ∧ Below w.heap.size w w' := by
  have hmf : ∀ (fn : Fn) (first cap : Array Value) (w : World), (Instr.makeFunc fn first cap).run Try.prog w = .ok (.func fn first cap) w := fun _ _ _ _ => rfl
  have HS : Hid (s.size ≤ maxLen) := hs
  clear hs
  go_enter Try.func21, Try.ntmps21
  go_wp2_with (go_at_call 25; refine (pieces_any 26 #[] ent23 (fun _ w' => Below w.heap.size w w') (fun done a t w' _ _ h => (check1 #[] _ _ w').mono fun e w'' he => ⟨he.1, by rw [he.2]; exact h⟩) (fun _ _ h => h.drew) s HS.out w (Below.refl _ _)).mono ?_; rintro e w1 ⟨rfl, done, hb, _⟩)
  go_ret
  exact ⟨rfl, hb⟩

/-- A body with pieces laid in. -/
def applyAll (b : List Int) (ps : List (Nat × List Int)) : List Int := ps.foldl (fun b p => splice b p.1 p.2) b
theorem applyAll_snoc (b : List Int) (ps : List (Nat × List Int)) (p : Nat × List Int) : applyAll b (ps ++ [p]) = splice (applyAll b ps) p.1 p.2 := by
  unfold applyAll; rw [List.foldl_append]; rfl
theorem slice23l (g a : Nat) (h : a < 64) (w : World) :
    (Instr.sliceAt 23 (.pointer (some ⟨g, 0, none⟩)) (some (.int .i64 (a : Int))) none none).run Try.prog w = .ok (.slice (some ⟨g, a, none⟩) (64 - a) (64 - a)) w := by
  rw [run_sliceAt_array_l (P := Try.prog) w 23 ⟨g, 0, none⟩ (by rw [len23, elem23]; exact Try.underlying23) .i64 (a : Int) (by omega) (by rw [len23]; omega)]
  rw [elem23, len23, Try.sizeOf5]
  simp only [Result.andThen_ok, slicedAt]
  have e1 : ((a : Int)).toNat = a := by omega
  rw [e1, if_neg (by omega), Addr.add_mid]
  congr 2
  simp
/-- Pieces that lie within a body. -/
def Fits (ps : List (Nat × List Int)) : Prop := ∀ p ∈ ps, p.1 + p.2.length ≤ 64
theorem applyAll_length (b : List Int) (hb : b.length = 64) : ∀ ps : List (Nat × List Int), Fits ps → (applyAll b ps).length = 64 := by
  intro ps
  induction ps generalizing b with
  | nil => intro _; exact hb
  | cons p ps ih =>
    intro h
    exact ih (splice b p.1 p.2) (by rw [length_splice _ _ _ (by have := h p (by simp); omega)]; exact hb) (fun q hq => h q (by simp [hq]))
theorem Fits.snoc {ps : List (Nat × List Int)} (h : Fits ps) (p : Nat × List Int) (hp : p.1 + p.2.length ≤ 64) : Fits (ps ++ [p]) := by
  intro q hq
  rcases List.mem_append.1 hq with hq | hq
  · exact h q hq
  · simp at hq; subst hq; exact hp

end Go.Proofs.Ytdopghiconcjlab
