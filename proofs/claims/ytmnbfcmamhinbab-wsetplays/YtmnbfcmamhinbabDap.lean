/-
  Proved here: delta.Check tells whether a text is a delta, delta.Apply lays its pieces into a body.
-/
import Derived.Test.YtmnbfcmamhinbabDpc
namespace Go.Proofs.Ytmnbfcmamhinbab.Dl
open Go.ChangeShapes Go.WideShapes Go.ChangeAt Go.RowKit
set_option linter.unusedVariables false
set_option linter.unusedSimpArgs false
set_option maxRecDepth 20000

theorem nums_cells (t : ByteArray) : (t.extract 0 t.size).data.map (fun b => Value.int .u8 b.toNat) = bs (nums t) := by
  obtain ⟨⟨l⟩⟩ := t
  rw [ByteArray.extract_mk]
  simp [bs, nums, ByteArray.size]
theorem copy_text {P : Program} {ops : Array Oper} {rest : List Oper} {o : Oper} {a : Act} {w : World} {Q : Exit → Act → World → Prop} (hgd : o.guard = none) (d s : Operand) (dT sT : TypeId)
    (ho : o.op = .call { callee := .builtin .copy, args := #[d, s], argTypes := #[dT, sT] }) (elem : TypeId) (hu : P.underlying dT = some (.slice elem)) (hsz : (P.info? elem).map (·.size) = some 1)
    (g off dLen dCap : Nat) (hd : a.eval d = .slice (some ⟨g, off, none⟩) dLen dCap) (t : ByteArray) (hs : a.eval s = .string t)
    (cur : List Int) (ty : TypeId) (hg : Row w g (bs cur) ty) (hle : t.size ≤ dLen) (hfit : off + t.size ≤ cur.length)
    (h : wpList P ops Q rest (a.put o.dst (goInt t.size)) (w.setRow g (bs (splice cur off (nums t))))) : wpList P ops Q (o :: rest) a w := by
  refine wpList_plain hgd fun K hK => ?_
  have hl := nums_length t
  have hst := run_storeCells_at (P := P) g off ty (bs (nums t)).toList 0 (bs cur) w hg (by simp [bs_size, hl]; simpa [bs, hl] using hfit) (by intro v hv; have := bs_one (nums t); rw [Array.all_eq_true_iff_forall_mem] at this; exact this v (by simpa using hv))
  have e : ((bs cur).toList.take (off + 0) ++ (bs (nums t)).toList ++ (bs cur).toList.drop (off + 0 + (bs (nums t)).toList.length)).toArray = bs (splice cur off (nums t)) := by
    simp [bs, splice]
  rw [e] at hst
  have hmin : Nat.min t.size dLen = t.size := Nat.min_eq_left hle
  have hrun : (Builtin.copy_ #[dT, sT] o.type #[.slice (some ⟨g, off, none⟩) dLen dCap, .string t]).run P w = .ok (goInt t.size) (w.setRow g (bs (splice cur off (nums t)))) := by
    cases hq : P.info? elem with
    | none => simp [hq] at hsz
    | some i =>
      have hi : i.size = 1 := by simpa [hq] using hsz
      have e4 : List.take t.size (List.map (fun b => Value.int .u8 (b.toNat : Int)) t.data.toList) = (bs (nums t)).toList := by
        rw [List.take_of_length_le (by simp)]
        simp [bs, nums]
      simp [Builtin.copy_, run_underlying hu, Builtin.lenOf, Builtin.firstCells, sizeOf, typeInfo, hq, hi, hmin, e4, hst]
  unfold Oper.wp
  simp [execOp, ho, resolve, invoke, builtin, hd, hs, hrun, Result.andThen]
  exact hK _ _ h

/-- A body with pieces laid in. -/
def applyAll (b : List Int) (ps : List (Nat × List Int)) : List Int := ps.foldl (fun b p => splice b p.1 p.2) b
theorem applyAll_snoc (b : List Int) (ps : List (Nat × List Int)) (p : Nat × List Int) : applyAll b (ps ++ [p]) = splice (applyAll b ps) p.1 p.2 := by
  unfold applyAll; rw [List.foldl_append]; rfl
theorem slice23l (g a : Nat) (h : a < 64) (w : World) :
    (Instr.sliceAt 42 (.pointer (some ⟨g, 0, none⟩)) (some (.int .i64 (a : Int))) none none).run Try.prog w = .ok (.slice (some ⟨g, a, none⟩) (64 - a) (64 - a)) w := by
  rw [run_sliceAt_array_l (P := Try.prog) w 42 ⟨g, 0, none⟩ (by rw [len23, elem23]; exact Try.underlying42) .i64 (a : Int) (by omega) (by rw [len23]; omega)]
  rw [elem23, len23, Try.sizeOf5]
  simp only [Result.andThen_ok, slicedAt]
  have e1 : ((a : Int)).toNat = a := by omega
  rw [e1, if_neg (by omega), Addr.add_mid]
  congr 2
  simp
theorem apply1 (g : Nat) (b : List Int) (hb : b.length = 64) (a : Nat) (t : ByteArray) (h0 : 0 < t.size) (h : a + t.size ≤ 64) (w : World) (r : Row w g (bs b) 42) :
    Calls Try.prog 36 (#[.int .i64 (a : Nat), .string t] ++ #[.pointer (some ⟨g, 0, none⟩)]) w fun e w' => e = .returned (.tuple #[]) ∧ Row w' g (bs (splice b a (nums t))) 42 ∧ Turned g w w' := by
  simp only [List.append_toArray, List.cons_append, List.nil_append]
  have hsl := slice23l g a (by omega)
  go_enter Try.func36, Try.ntmps36
  go_wp2_with (refine copy_text rfl (.tmp 6) (.tmp 7) 76 9 rfl 5 Try.underlying76 size5 g a (64 - a) (64 - a) rfl t rfl b 42 r (by omega) (by omega) ?_)
  first
    | (go_end0; exact ⟨rfl, r.set _, (Turned.refl _ _).setRow _⟩)
    | (refine bodyPost_ret (results_none rfl _ _ _) rfl ?_; exact ⟨rfl, r.set _, (Turned.refl _ _).setRow _⟩)

/-- Pieces that lie within a body. -/
def Fits (ps : List (Nat × List Int)) : Prop := ∀ p ∈ ps, p.1 + p.2.length ≤ 64
theorem applyAll_length (b : List Int) (hb : b.length = 64) : ∀ ps : List (Nat × List Int), Fits ps → (applyAll b ps).length = 64 := by
  intro ps
  induction ps generalizing b with
  | nil => intro _; exact hb
  | cons p ps ih =>
    intro h
    exact ih (splice b p.1 p.2) (by rw [length_splice _ _ _ (by have := h p (by simp); omega)]; exact hb) (fun q hq => h q (by simp [hq]))
theorem Fits.snoc {ps : List (Nat × List Int)} (h : Fits ps) (p : Nat × List Int) (hp : p.1 + p.2.length ≤ 64) : Fits (ps ++ [p]) := by
  intro q hq
  rcases List.mem_append.1 hq with hq | hq
  · exact h q hq
  · simp at hq; subst hq; exact hp

theorem built42 : (Try.prog.built 42 []) = some (bs (zs 64)) := by kernel_rfl
theorem ret_two {P : Program} {fn : Func} {p c : Tmp} {ty : TypeId} (h : fn.results = #[.cell p ty, .tmp c]) (tmps : Array Value) (w : World) (g : Nat) (t : TypeId) (cs : Array Value) (n : Nat) (e : TypeId) (y : Value)
    (hp : tmps.getD p undef = .pointer (some ⟨g, 0, none⟩)) (hc : tmps.getD c undef = y) (hg : Row w g cs t)
    (hu : P.underlying ty = some (.array n e)) (hi : (P.info? ty).map (·.size) = some n) (hn : cs.size = n) :
    (results fn tmps).run P w = .ok (.tuple #[.agg cs, y]) w := by
  have hp' : tmps[p]?.getD undef = .pointer (some ⟨g, 0, none⟩) := by simpa using hp
  have hc' : tmps[c]?.getD undef = y := by simpa using hc
  simp [results, h, hp', hc', asAddr, run_loadVar_row w g t ty cs (0, 0) _ hg hu rfl (by rw [hi, hn])]
/-- What Apply answers. -/
def applied (b : List Int) (s : ByteArray) : Value :=
  match pieces s with
  | some ps => .tuple #[.agg (bs (applyAll b ps)), .int .i64 0]
  | none => .tuple #[.agg (bs (zs 64)), .int .i64 2]
theorem apply_any (b : List Int) (hb : b.length = 64) (s : ByteArray) (hs : s.size ≤ maxLen) (w : World) :
    Calls Try.prog 25 #[.agg (bs b), .string s] w fun e w' => e = .returned (applied b s) ∧ Below w.heap.size w w' := by
  have hmf : ∀ (fn : Fn) (first cap : Array Value) (w : World), (Instr.makeFunc fn first cap).run Try.prog w = .ok (.func fn first cap) w := fun _ _ _ _ => rfl
  have HS : Hid (s.size ≤ maxLen) := hs
  clear hs
  have hz := zero42
  have a0 : Row ((w.alloc (.cells (bs b) 42)).alloc (.cells (bs (zs 64)) 42)) w.heap.size (bs b) 42 := (Row.new _ _ _).alloc _
  have a1 : Row ((w.alloc (.cells (bs b) 42)).alloc (.cells (bs (zs 64)) 42)) (w.heap.size + 1) (bs (zs 64)) 42 := by have := Row.new (w.alloc (.cells (bs b) 42)) (bs (zs 64)) 42; simpa using this
  have ab : Below w.heap.size w ((w.alloc (.cells (bs b) 42)).alloc (.cells (bs (zs 64)) 42)) := ((Below.refl _ _).alloc (Nat.le_refl _) _).alloc (by simp) _
  have hI0 : Fits [] ∧ Row ((w.alloc (.cells (bs b) 42)).alloc (.cells (bs (zs 64)) 42)) w.heap.size (bs (applyAll b [])) 42 ∧ Row ((w.alloc (.cells (bs b) 42)).alloc (.cells (bs (zs 64)) 42)) (w.heap.size + 1) (bs (zs 64)) 42 ∧ Below w.heap.size w ((w.alloc (.cells (bs b) 42)).alloc (.cells (bs (zs 64)) 42)) :=
    ⟨(fun p hp => nomatch hp), a0, a1, ab⟩
  have HI0 := show Hid _ from hI0
  clear a0 a1 ab hI0
  have hop : applied b s = match pieces s with
    | some ps => .tuple #[.agg (bs (applyAll b ps)), .int .i64 0]
    | none => .tuple #[.agg (bs (zs 64)), .int .i64 2] := rfl
  cases hp : pieces s with
  | none =>
    rw [hp] at hop
    have HO : Hid (applied b s = .tuple #[.agg (bs (zs 64)), .int .i64 2]) := hop
    have HP : Hid (pieces s = none) := hp
    clear hop hp
    go_enter Try.func25, Try.ntmps25
    go_wp2_with (first
      | (go_at_call 35; refine (pieces_any 36 #[.pointer (some ⟨w.heap.size, 0, none⟩)] ent21 (fun done w' => Fits done ∧ Row w' w.heap.size (bs (applyAll b done)) 42 ∧ Row w' (w.heap.size + 1) (bs (zs 64)) 42 ∧ Below w.heap.size w w')
          (fun done a t w' h0 h1 h => (apply1 w.heap.size (applyAll b done) (applyAll_length b hb done h.1) a t h0 h1 w' h.2.1).mono fun e w'' he => ⟨he.1, h.1.snoc _ (by rw [nums_length]; exact h1), by rw [applyAll_snoc]; exact he.2.1, (Row.turned h.2.2.1 he.2.2 (by omega)), h.2.2.2.trans (he.2.2.below (Nat.le_refl _))⟩)
          (fun _ _ h => ⟨h.1, h.2.1, h.2.2.1, h.2.2.2.drew⟩) s HS.out _ HI0.out).mono ?_; rw [HP.out]; rintro e w1 ⟨rfl, done, ⟨hf, r0, r1, rb⟩, hd⟩)
      | (refine build_none rfl 42 rfl (bs (zs 64)) built42 ?_)
      | (refine store_row rfl 42 (.tmp 4) (.tmp 12) rfl (w.heap.size + 1) (zs 64) rfl rfl 42 (bs (zs 64)) r1 64 size42 (by rw [bs_size, zs_length]) (zs_length _) ?_))
    refine bodyPost_ret (v := .tuple #[.agg (bs (zs 64)), .int .i64 2]) ?_ rfl ⟨by rw [HO.out], below_setRow rb (by omega) _⟩
    exact ret_two (fn := Try.f25) rfl _ _ (w.heap.size + 1) 42 (bs (zs 64)) 64 5 _ rfl rfl (r1.set _) Try.underlying42 size42 (by rw [bs_size, zs_length])
  | some ps =>
    rw [hp] at hop
    have HO : Hid (applied b s = .tuple #[.agg (bs (applyAll b ps)), .int .i64 0]) := hop
    have HP : Hid (pieces s = some ps) := hp
    clear hop hp
    go_enter Try.func25, Try.ntmps25
    go_wp2_with (first
      | (go_at_call 35; refine (pieces_any 36 #[.pointer (some ⟨w.heap.size, 0, none⟩)] ent21 (fun done w' => Fits done ∧ Row w' w.heap.size (bs (applyAll b done)) 42 ∧ Row w' (w.heap.size + 1) (bs (zs 64)) 42 ∧ Below w.heap.size w w')
          (fun done a t w' h0 h1 h => (apply1 w.heap.size (applyAll b done) (applyAll_length b hb done h.1) a t h0 h1 w' h.2.1).mono fun e w'' he => ⟨he.1, h.1.snoc _ (by rw [nums_length]; exact h1), by rw [applyAll_snoc]; exact he.2.1, (Row.turned h.2.2.1 he.2.2 (by omega)), h.2.2.2.trans (he.2.2.below (Nat.le_refl _))⟩)
          (fun _ _ h => ⟨h.1, h.2.1, h.2.2.1, h.2.2.2.drew⟩) s HS.out _ HI0.out).mono ?_; rw [HP.out]; rintro e w1 ⟨rfl, done, ⟨hf, r0, r1, rb⟩, hd⟩
         have hd := hd ps rfl
         subst hd
         have hAl := applyAll_length b hb done hf
         obtain ⟨A, HA⟩ : ∃ A, Hid (applyAll b done = A) := ⟨_, rfl⟩
         rw [HA.out] at r0 hAl)
      | (refine load_row rfl 42 (.tmp 2) rfl w.heap.size rfl 42 (bs A) r0 64 5 Try.underlying42 size42 (by rw [bs_size, hAl]) ?_)
      | (refine store_row rfl 42 (.tmp 4) (.tmp 13) rfl (w.heap.size + 1) A rfl rfl 42 (bs (zs 64)) r1 64 size42 (by rw [bs_size, zs_length]) hAl ?_))
    refine bodyPost_ret (v := .tuple #[.agg (bs A), .int .i64 0]) ?_ rfl ⟨by rw [HO.out, HA.out], below_setRow rb (by omega) _⟩
    exact ret_two (fn := Try.f25) rfl _ _ (w.heap.size + 1) 42 (bs A) 64 5 _ rfl rfl (r1.set _) Try.underlying42 size42 (by rw [bs_size, hAl])
end Go.Proofs.Ytmnbfcmamhinbab.Dl
