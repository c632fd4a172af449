/-
  Proved here: delta.Apply lays the pieces of a delta into a body (delta's texts, in apply's seat).
-/
import Derived.Test.YtihjapfgllokgabQMh
import Derived.Deep.MidRow
namespace Go.Proofs.Ytihjapfgllokgab
open Go.ChangeShapes Go.WideShapes Go.ChangeAt Go.RowKit
set_option linter.unusedVariables false
set_option linter.unusedSimpArgs false
set_option maxRecDepth 20000

/-- One block is turned, all others are as they were. -/
structure Turned (g : Nat) (w w' : World) : Prop where
  os : w'.os = w.os
  tape : w'.tape = w.tape
  output : w'.output = w.output
  size : w'.heap.size = w.heap.size
  other : ∀ k, k ≠ g → w'.heap[k]? = w.heap[k]?
theorem Turned.refl (g : Nat) (w : World) : Turned g w w := ⟨rfl, rfl, rfl, rfl, fun _ _ => rfl⟩
theorem Turned.trans {g : Nat} {a b c : World} (h : Turned g a b) (k : Turned g b c) : Turned g a c :=
  ⟨k.os.trans h.os, k.tape.trans h.tape, k.output.trans h.output, k.size.trans h.size, fun i hi => (k.other i hi).trans (h.other i hi)⟩
theorem Turned.setCell {g : Nat} {a w : World} (h : Turned g a w) (j : Nat) (v : Value) : Turned g a (w.setCell ⟨g, j, none⟩ v) :=
  h.trans ⟨rfl, rfl, rfl, by simp [World.setCell], fun k hk => Below.heap_setCell w _ v k hk⟩
theorem Turned.setRow {g : Nat} {a w : World} (h : Turned g a w) (cs : Array Value) : Turned g a (w.setRow g cs) :=
  h.trans ⟨rfl, rfl, rfl, by simp, fun k hk => setRow_other w g k cs hk⟩
theorem Turned.drew {g : Nat} {a w : World} (h : Turned g a w) : Turned g a w.drew := ⟨h.os, h.tape, h.output, h.size, h.other⟩
theorem Turned.below {g B : Nat} {a w : World} (h : Turned g a w) (hB : B ≤ g) : Below B a w :=
  ⟨h.os, h.tape, h.output, Nat.le_of_eq h.size.symm, fun k hk => h.other k (by omega)⟩
theorem Row.turned {g k : Nat} {w w' : World} {cs : Array Value} {t : TypeId} (h : Row w k cs t) (ht : Turned g w w') (hk : k ≠ g) : Row w' k cs t := by
  unfold Row at h ⊢; rw [ht.other k hk]; exact h


theorem len53 : Try.prog.arrayLen 53 = 64 := by kernel_rfl
theorem elem53 : Try.prog.elem 53 = 5 := by kernel_rfl

theorem nums_at (s : ByteArray) (i : Nat) (h : i < s.size) : (nums s).getD i 0 = ((s[i]'h).toNat : Int) := by
  have h' : i < s.data.toList.length := h
  simp only [nums, List.getD, List.getElem?_map]
  rw [List.getElem?_eq_getElem h']
  rfl
theorem nums_extract (s : ByteArray) (a b : Nat) (hb : b ≤ s.size) : nums (s.extract a b) = ((nums s).drop a).take (b - a) := by
  obtain ⟨⟨l⟩⟩ := s
  rw [ByteArray.extract_mk]
  simp [nums, List.map_take, List.map_drop]
/-- The pieces of a text from the least place nx on; none: it is no delta. -/
def parse : Nat → Nat → List Int → Option (List (Nat × List Int))
  | 0, _, _ => none
  | _ + 1, _, [] => some []
  | _ + 1, _, [_] => none
  | f + 1, nx, a :: n :: r => if a < nx ∨ n = 0 ∨ 64 < a + n ∨ (r.length : Int) < n then none else (parse f (a + n + 1).toNat (r.drop n.toNat)).map ((a.toNat, r.take n.toNat) :: ·)
theorem parse_cons2 (f nx : Nat) (a n : Int) (r : List Int) : parse (f + 1) nx (a :: n :: r) = if a < nx ∨ n = 0 ∨ 64 < a + n ∨ (r.length : Int) < n then none else (parse f (a + n + 1).toNat (r.drop n.toNat)).map ((a.toNat, r.take n.toNat) :: ·) := rfl
def pieces (s : ByteArray) : Option (List (Nat × List Int)) := parse (s.size + 1) 0 (nums s)

/-- Some pieces are handed over, and what is left is this text. -/
def Left (s0 : ByteArray) (nx : Nat) (s : ByteArray) (done : List (Nat × List Int)) : Prop := ∃ f, s.size < f ∧ pieces s0 = (parse f nx (nums s)).map (done ++ ·)
theorem Left.start (s : ByteArray) : Left s 0 s [] := ⟨s.size + 1, by omega, by unfold pieces; cases parse (s.size + 1) 0 (nums s) <;> simp⟩
theorem nums_cons2 (s : ByteArray) (h : 2 ≤ s.size) : nums s = (nums s).getD 0 0 :: (nums s).getD 1 0 :: (nums s).drop 2 := by
  have hl := nums_length s
  match hq : nums s with
  | [] => rw [hq] at hl; simp at hl; omega
  | [_] => rw [hq] at hl; simp at hl; omega
  | a :: n :: r => simp [List.getD]
theorem Left.bad1 {s0 s : ByteArray} {nx : Nat} {done : List (Nat × List Int)} (h : Left s0 nx s done) (hs : s.size = 1) : pieces s0 = none := by
  obtain ⟨f, hf, he⟩ := h
  have hl := nums_length s
  rw [he]
  match hq : nums s, f with
  | [], _ => rw [hq] at hl; simp at hl; omega
  | [_], 0 => omega
  | [_], f + 1 => simp [parse]
  | _ :: _ :: _, _ => rw [hq] at hl; simp at hl; omega
theorem Left.bad {s0 s : ByteArray} {nx : Nat} {done : List (Nat × List Int)} (h : Left s0 nx s done) (hs : 2 ≤ s.size) (a n : Int) (ha : (nums s).getD 0 0 = a) (hn : (nums s).getD 1 0 = n) (hb : a < nx ∨ n = 0 ∨ 64 < a + n ∨ (s.size : Int) - 2 < n) : pieces s0 = none := by
  obtain ⟨f, hf, he⟩ := h
  have hl := nums_length s
  cases f with
  | zero => omega
  | succ f =>
    rw [he, nums_cons2 s hs, ha, hn]
    have hr : ((nums s).drop 2).length = s.size - 2 := by rw [List.length_drop, hl]
    rw [parse_cons2, if_pos (by rw [hr]; omega)]; rfl
theorem Left.step {s0 s : ByteArray} {nx : Nat} {done : List (Nat × List Int)} (h : Left s0 nx s done) (hs : 2 ≤ s.size) (a n : Nat) (ha : (nums s).getD 0 0 = a) (hn : (nums s).getD 1 0 = n) (hb : ¬ (a < nx ∨ n = 0 ∨ 64 < a + n ∨ s.size < 2 + n)) :
    Left s0 (a + n + 1) (s.extract (2 + n) s.size) (done ++ [(a, nums (s.extract 2 (2 + n)))]) := by
  obtain ⟨f, hf, he⟩ := h
  have hl := nums_length s
  cases f with
  | zero => omega
  | succ f =>
    refine ⟨f, by rw [ByteArray.size_extract]; omega, ?_⟩
    rw [he, nums_cons2 s hs, ha, hn]
    have hr : ((nums s).drop 2).length = s.size - 2 := by rw [List.length_drop, hl]
    rw [parse_cons2, if_neg (by rw [hr]; omega)]
    have e1 : ((a : Int) + (n : Int) + 1).toNat = a + n + 1 := by omega
    rw [nums_extract s _ _ (Nat.le_refl _), nums_extract s _ _ (by omega)]
    have e2 : ((nums s).drop (2 + n)).take (s.size - (2 + n)) = ((nums s).drop 2).drop n := by
      rw [List.drop_drop, List.take_of_length_le (by rw [List.length_drop, hl]; omega)]
    have e3 : 2 + n - 2 = n := by omega
    rw [e1, e2, e3, show ((n : Int)).toNat = n by omega, show ((a : Int)).toNat = a by omega]
    cases parse f (a + n + 1) (((nums s).drop 2).drop n) <;> simp
theorem Left.stop {s0 s : ByteArray} {nx : Nat} {done : List (Nat × List Int)} (h : Left s0 nx s done) (hs : s.size = 0) : pieces s0 = some done := by
  obtain ⟨f, hf, he⟩ := h
  have hl := nums_length s
  have hq : nums s = [] := List.eq_nil_of_length_eq_zero (by omega)
  cases f with
  | zero => omega
  | succ f => rw [he, hq]; simp [parse]

def sizeStr : Value → Nat
  | .string s => s.size
  | _ => 0
theorem ent21 (args : Array Value) (w : World) : (callFunc 62 args).run Try.prog w = .ok (.enter 62 args) w := by
  simp [go_sem]
set_option maxHeartbeats 1000000 in
theorem pieces_any (c : FuncId) (cap : Array Value) (hent : ∀ args w, (callFunc c args).run Try.prog w = .ok (.enter c args) w) (Inv : List (Nat × List Int) → World → Prop)
    (hC : ∀ done a (t : ByteArray) w, 0 < t.size → a + t.size ≤ 64 → Inv done w → Calls Try.prog c (#[.int .i64 (a : Nat), .string t] ++ cap) w fun e w' => e = .returned (.tuple #[]) ∧ Inv (done ++ [(a, nums t)]) w')
    (hD : ∀ done w, Inv done w → Inv done w.drew) (s0 : ByteArray) (hs0 : s0.size ≤ maxLen) (w : World) (h0 : Inv [] w) :
    Calls Try.prog 61 #[.string s0, .func (.func c) #[] cap] w fun e w' => e = .returned (.bool (pieces s0).isSome) ∧ ∃ done, Inv done w' ∧ ∀ ps, pieces s0 = some ps → done = ps := by
  unfold maxLen at hs0
  go_enter Try.func61, Try.ntmps61
  go_wp2
  go_loopw [0, 5] (fun t i wr => ∃ (s : ByteArray) (nx : Nat) (done : List (Nat × List Int)), t = .string s ∧ i = .int .i64 nx ∧ s.size ≤ s0.size ∧ nx ≤ 65 ∧ Left s0 nx s done ∧ Inv done wr) (fun t _ _ => sizeStr t)
  case atStart => exact ⟨s0, 0, [], rfl, rfl, Nat.le_refl _, by omega, Left.start s0, h0⟩
  case round =>
    obtain ⟨s, nx, done, rfl, rfl, hss, hnx, hL, hI⟩ := hrel
    have hmx : s.size ≤ 9223372036854775807 := by omega
    by_cases hz : s.size = 0
    · have hp := hL.stop hz
      have HP : Hid (pieces s0 = some done) := hp
      clear hp hC
      have hz' : ¬ 0 < (s.size : Int) := by omega
      go_wp2
      go_ret
      exact ⟨by rw [HP.out]; rfl, done, hI, fun ps h => by rw [HP.out] at h; cases h; rfl⟩
    · have hz' : 0 < (s.size : Int) := by omega
      by_cases h2 : (s.size : Int) < 2
      · have HP : Hid (pieces s0 = none) := hL.bad1 (by omega)
        clear hC
        go_wp2
        go_ret
        exact ⟨by rw [HP.out]; rfl, done, hI, fun ps h => by rw [HP.out] at h; cases h⟩
      · have hs2 : 2 ≤ s.size := by omega
        have e0 := nums_at s 0 (by omega)
        have e1 := nums_at s 1 (by omega)
        obtain ⟨a, ha⟩ : ∃ a, (s[0]'(by omega)).toNat = a := ⟨_, rfl⟩
        obtain ⟨n, hn⟩ : ∃ n, (s[1]'(by omega)).toNat = n := ⟨_, rfl⟩
        have ha255 : a < 256 := by rw [← ha]; exact (s[0]'(by omega)).toNat_lt
        have hn255 : n < 256 := by rw [← hn]; exact (s[1]'(by omega)).toNat_lt
        rw [ha] at e0
        rw [hn] at e1
        have E0 : Hid ((nums s).getD 0 0 = (a : Int)) := e0
        have E1 : Hid ((nums s).getD 1 0 = (n : Int)) := e1
        clear e0 e1
        by_cases hb : a < nx ∨ n = 0 ∨ 64 < a + n ∨ s.size < 2 + n
        · have HP : Hid (pieces s0 = none) := hL.bad hs2 a n E0.out E1.out (by omega)
          clear hC
          have hID : Inv done wr.drew := hD _ _ hI
          by_cases b1 : (a : Int) < (nx : Int)
          · go_wp2
            go_region
            all_goals
              go_wp2
              go_ret
              exact ⟨by rw [HP.out]; rfl, done, hID, fun ps h => by rw [HP.out] at h; cases h⟩
          · by_cases b2 : n = 0
            · have b2' : ((n : Int) == 0) = true := by simp; exact b2
              go_wp2
              go_region
              all_goals
                go_wp2
                go_ret
                exact ⟨by rw [HP.out]; rfl, done, hID, fun ps h => by rw [HP.out] at h; cases h⟩
            · have b2' : ((n : Int) == 0) = false := by simp; exact b2
              by_cases b3 : 64 < (a : Int) + (n : Int)
              · go_wp2
                go_region
                all_goals
                  go_wp2
                  go_ret
                  exact ⟨by rw [HP.out]; rfl, done, hID, fun ps h => by rw [HP.out] at h; cases h⟩
              · have b4 : (s.size : Int) - 2 < (n : Int) := by omega
                go_wp2
                go_region
                all_goals
                  go_wp2
                  go_ret
                  exact ⟨by rw [HP.out]; rfl, done, hID, fun ps h => by rw [HP.out] at h; cases h⟩
        · have hL' := hL.step hs2 a n E0.out E1.out hb
          have b1 : ¬ (a : Int) < (nx : Int) := by omega
          have b2 : ((n : Int) == 0) = false := by simp; omega
          have b3 : ¬ 64 < (a : Int) + (n : Int) := by omega
          have b4 : ¬ (s.size : Int) - 2 < (n : Int) := by omega
          have hsz : (s.extract 2 (2 + n)).size = n := by rw [ByteArray.size_extract]; omega
          have hsz2 : (s.extract (2 + n) s.size).size = s.size - (2 + n) := by rw [ByteArray.size_extract]; omega
          have HC := show Hid _ from hC
          clear hC
          have hI' : Inv done wr.drew := hD _ _ hI
          go_wp2
          go_region
          all_goals
            go_wp2
            refine (HC.out done a _ _ (by rw [hsz]; omega) (by rw [hsz]; omega) hI').mono ?_
            rintro e w1 ⟨rfl, hI1⟩
            go_wp2
            go_roundw
            all_goals first
              | exact ⟨s.extract (2 + n) s.size, a + n + 1, _, rfl, by go_num, by rw [hsz2]; omega, by omega, hL', hI1⟩
              | (simp only [sizeStr]; rw [hsz2]; omega)

theorem nums_cells (t : ByteArray) : (t.extract 0 t.size).data.map (fun b => Value.int .u8 b.toNat) = bs (nums t) := by
  obtain ⟨⟨l⟩⟩ := t
  rw [ByteArray.extract_mk]
  simp [bs, nums, ByteArray.size]
theorem copy_textD {P : Program} {ops : Array Oper} {rest : List Oper} {o : Oper} {a : Act} {w : World} {Q : Exit → Act → World → Prop} (hgd : o.guard = none) (d s : Operand) (dT sT : TypeId)
    (ho : o.op = .call { callee := .builtin .copy, args := #[d, s], argTypes := #[dT, sT] }) (elem : TypeId) (hu : P.underlying dT = some (.slice elem)) (hsz : (P.info? elem).map (·.size) = some 1)
    (g off dLen dCap : Nat) (hd : a.eval d = .slice (some ⟨g, off, none⟩) dLen dCap) (t : ByteArray) (hs : a.eval s = .string t)
    (cur : List Int) (ty : TypeId) (hg : Row w g (bs cur) ty) (hle : t.size ≤ dLen) (hfit : off + t.size ≤ cur.length)
    (h : wpList P ops Q rest (a.put o.dst (goInt t.size)) (w.setRow g (bs (splice cur off (nums t))))) : wpList P ops Q (o :: rest) a w := by
  refine wpList_plain hgd fun K hK => ?_
  have hl := nums_length t
  have hst := run_storeCells_at (P := P) g off ty (bs (nums t)).toList 0 (bs cur) w hg (by simp [bs_size, hl]; simpa [bs, hl] using hfit) (by intro v hv; have := bs_one (nums t); rw [Array.all_eq_true_iff_forall_mem] at this; exact this v (by simpa using hv))
  have e : ((bs cur).toList.take (off + 0) ++ (bs (nums t)).toList ++ (bs cur).toList.drop (off + 0 + (bs (nums t)).toList.length)).toArray = bs (splice cur off (nums t)) := by
    simp [bs, splice]
  rw [e] at hst
  have hmin : Nat.min t.size dLen = t.size := Nat.min_eq_left hle
  have hrun : (Builtin.copy_ #[dT, sT] o.type #[.slice (some ⟨g, off, none⟩) dLen dCap, .string t]).run P w = .ok (goInt t.size) (w.setRow g (bs (splice cur off (nums t)))) := by
    cases hq : P.info? elem with
    | none => simp [hq] at hsz
    | some i =>
      have hi : i.size = 1 := by simpa [hq] using hsz
      have e4 : List.take t.size (List.map (fun b => Value.int .u8 (b.toNat : Int)) t.data.toList) = (bs (nums t)).toList := by
        rw [List.take_of_length_le (by simp)]
        simp [bs, nums]
      simp [Builtin.copy_, run_underlying hu, Builtin.lenOf, Builtin.firstCells, sizeOf, typeInfo, hq, hi, hmin, e4, hst]
  unfold Oper.wp
  simp [execOp, ho, resolve, invoke, builtin, hd, hs, hrun, Result.andThen]
  exact hK _ _ h

/-- A body with pieces laid in. -/
def applyAll (b : List Int) (ps : List (Nat × List Int)) : List Int := ps.foldl (fun b p => splice b p.1 p.2) b
theorem applyAll_snoc (b : List Int) (ps : List (Nat × List Int)) (p : Nat × List Int) : applyAll b (ps ++ [p]) = splice (applyAll b ps) p.1 p.2 := by
  unfold applyAll; rw [List.foldl_append]; rfl
theorem slice53l (g a : Nat) (h : a < 64) (w : World) :
    (Instr.sliceAt 53 (.pointer (some ⟨g, 0, none⟩)) (some (.int .i64 (a : Int))) none none).run Try.prog w = .ok (.slice (some ⟨g, a, none⟩) (64 - a) (64 - a)) w := by
  rw [run_sliceAt_array_l (P := Try.prog) w 53 ⟨g, 0, none⟩ (by rw [len53, elem53]; exact Try.underlying53) .i64 (a : Int) (by omega) (by rw [len53]; omega)]
  rw [elem53, len53, Try.sizeOf5]
  simp only [Result.andThen_ok, slicedAt]
  have e1 : ((a : Int)).toNat = a := by omega
  rw [e1, if_neg (by omega), Addr.add_mid]
  congr 2
  simp
theorem apply1 (g : Nat) (b : List Int) (hb : b.length = 64) (a : Nat) (t : ByteArray) (h0 : 0 < t.size) (h : a + t.size ≤ 64) (w : World) (r : Row w g (bs b) 53) :
    Calls Try.prog 62 (#[.int .i64 (a : Nat), .string t] ++ #[.pointer (some ⟨g, 0, none⟩)]) w fun e w' => e = .returned (.tuple #[]) ∧ Row w' g (bs (splice b a (nums t))) 53 ∧ Turned g w w' := by
  simp only [List.append_toArray, List.cons_append, List.nil_append]
  have hsl := slice53l g a (by omega)
  go_enter Try.func62, Try.ntmps62
  go_wp2_with (refine copy_textD rfl (.tmp 6) (.tmp 7) 69 9 rfl 5 Try.underlying69 size5 g a (64 - a) (64 - a) rfl t rfl b 53 r (by omega) (by omega) ?_)
  first
    | (go_end0; exact ⟨rfl, r.set _, (Turned.refl _ _).setRow _⟩)
    | (refine bodyPost_ret (results_none rfl _ _ _) rfl ?_; exact ⟨rfl, r.set _, (Turned.refl _ _).setRow _⟩)

/-- Pieces that lie within a body. -/
def Fits (ps : List (Nat × List Int)) : Prop := ∀ p ∈ ps, p.1 + p.2.length ≤ 64
theorem applyAll_length (b : List Int) (hb : b.length = 64) : ∀ ps : List (Nat × List Int), Fits ps → (applyAll b ps).length = 64 := by
  intro ps
  induction ps generalizing b with
  | nil => intro _; exact hb
  | cons p ps ih =>
    intro h
    exact ih (splice b p.1 p.2) (by rw [length_splice _ _ _ (by have := h p (by simp); omega)]; exact hb) (fun q hq => h q (by simp [hq]))
theorem Fits.snoc {ps : List (Nat × List Int)} (h : Fits ps) (p : Nat × List Int) (hp : p.1 + p.2.length ≤ 64) : Fits (ps ++ [p]) := by
  intro q hq
  rcases List.mem_append.1 hq with hq | hq
  · exact h q hq
  · simp at hq; subst hq; exact hp

theorem built53 : (Try.prog.built 53 []) = some (bs (zs 64)) := by kernel_rfl
theorem ret_two {P : Program} {fn : Func} {p c : Tmp} {ty : TypeId} (h : fn.results = #[.cell p ty, .tmp c]) (tmps : Array Value) (w : World) (g : Nat) (t : TypeId) (cs : Array Value) (n : Nat) (e : TypeId) (y : Value)
    (hp : tmps.getD p undef = .pointer (some ⟨g, 0, none⟩)) (hc : tmps.getD c undef = y) (hg : Row w g cs t)
    (hu : P.underlying ty = some (.array n e)) (hi : (P.info? ty).map (·.size) = some n) (hn : cs.size = n) :
    (results fn tmps).run P w = .ok (.tuple #[.agg cs, y]) w := by
  have hp' : tmps[p]?.getD undef = .pointer (some ⟨g, 0, none⟩) := by simpa using hp
  have hc' : tmps[c]?.getD undef = y := by simpa using hc
  simp [results, h, hp', hc', asAddr, run_loadVar_row w g t ty cs (0, 0) _ hg hu rfl (by rw [hi, hn])]
/-- What Apply answers. -/
def applied (b : List Int) (s : ByteArray) : Value :=
  match pieces s with
  | some ps => .tuple #[.agg (bs (applyAll b ps)), .int .i64 0]
  | none => .tuple #[.agg (bs (zs 64)), .int .i64 2]
theorem apply_any (b : List Int) (hb : b.length = 64) (s : ByteArray) (hs : s.size ≤ maxLen) (w : World) :
    Calls Try.prog 44 #[.agg (bs b), .string s] w fun e w' => e = .returned (applied b s) ∧ Below w.heap.size w w' := by
  have hmf : ∀ (fn : Fn) (first cap : Array Value) (w : World), (Instr.makeFunc fn first cap).run Try.prog w = .ok (.func fn first cap) w := fun _ _ _ _ => rfl
  have HS : Hid (s.size ≤ maxLen) := hs
  clear hs
  have hz := zero53
  have a0 : Row ((w.alloc (.cells (bs b) 53)).alloc (.cells (bs (zs 64)) 53)) w.heap.size (bs b) 53 := (Row.new _ _ _).alloc _
  have a1 : Row ((w.alloc (.cells (bs b) 53)).alloc (.cells (bs (zs 64)) 53)) (w.heap.size + 1) (bs (zs 64)) 53 := by have := Row.new (w.alloc (.cells (bs b) 53)) (bs (zs 64)) 53; simpa using this
  have ab : Below w.heap.size w ((w.alloc (.cells (bs b) 53)).alloc (.cells (bs (zs 64)) 53)) := ((Below.refl _ _).alloc (Nat.le_refl _) _).alloc (by simp) _
  have hI0 : Fits [] ∧ Row ((w.alloc (.cells (bs b) 53)).alloc (.cells (bs (zs 64)) 53)) w.heap.size (bs (applyAll b [])) 53 ∧ Row ((w.alloc (.cells (bs b) 53)).alloc (.cells (bs (zs 64)) 53)) (w.heap.size + 1) (bs (zs 64)) 53 ∧ Below w.heap.size w ((w.alloc (.cells (bs b) 53)).alloc (.cells (bs (zs 64)) 53)) :=
    ⟨(fun p hp => nomatch hp), a0, a1, ab⟩
  have HI0 := show Hid _ from hI0
  clear a0 a1 ab hI0
  have hop : applied b s = match pieces s with
    | some ps => .tuple #[.agg (bs (applyAll b ps)), .int .i64 0]
    | none => .tuple #[.agg (bs (zs 64)), .int .i64 2] := rfl
  cases hp : pieces s with
  | none =>
    rw [hp] at hop
    have HO : Hid (applied b s = .tuple #[.agg (bs (zs 64)), .int .i64 2]) := hop
    have HP : Hid (pieces s = none) := hp
    clear hop hp
    go_enter Try.func44, Try.ntmps44
    go_wp2_with (first
      | (go_at_call 61; refine (pieces_any 62 #[.pointer (some ⟨w.heap.size, 0, none⟩)] ent21 (fun done w' => Fits done ∧ Row w' w.heap.size (bs (applyAll b done)) 53 ∧ Row w' (w.heap.size + 1) (bs (zs 64)) 53 ∧ Below w.heap.size w w')
          (fun done a t w' h0 h1 h => (apply1 w.heap.size (applyAll b done) (applyAll_length b hb done h.1) a t h0 h1 w' h.2.1).mono fun e w'' he => ⟨he.1, h.1.snoc _ (by rw [nums_length]; exact h1), by rw [applyAll_snoc]; exact he.2.1, h.2.2.1.turned he.2.2 (by omega), h.2.2.2.trans (he.2.2.below (Nat.le_refl _))⟩)
          (fun _ _ h => ⟨h.1, h.2.1, h.2.2.1, h.2.2.2.drew⟩) s HS.out _ HI0.out).mono ?_; rw [HP.out]; rintro e w1 ⟨rfl, done, ⟨hf, r0, r1, rb⟩, hd⟩)
      | (refine build_none rfl 53 rfl (bs (zs 64)) built53 ?_)
      | (refine store_row rfl 53 (.tmp 4) (.tmp 12) rfl (w.heap.size + 1) (zs 64) rfl rfl 53 (bs (zs 64)) r1 64 size53 (by rw [bs_size, zs_length]) (zs_length _) ?_))
    refine bodyPost_ret (v := .tuple #[.agg (bs (zs 64)), .int .i64 2]) ?_ rfl ⟨by rw [HO.out], below_setRow rb (by omega) _⟩
    exact ret_two (fn := Try.f44) rfl _ _ (w.heap.size + 1) 53 (bs (zs 64)) 64 5 _ rfl rfl (r1.set _) Try.underlying53 size53 (by rw [bs_size, zs_length])
  | some ps =>
    rw [hp] at hop
    have HO : Hid (applied b s = .tuple #[.agg (bs (applyAll b ps)), .int .i64 0]) := hop
    have HP : Hid (pieces s = some ps) := hp
    clear hop hp
    go_enter Try.func44, Try.ntmps44
    go_wp2_with (first
      | (go_at_call 61; refine (pieces_any 62 #[.pointer (some ⟨w.heap.size, 0, none⟩)] ent21 (fun done w' => Fits done ∧ Row w' w.heap.size (bs (applyAll b done)) 53 ∧ Row w' (w.heap.size + 1) (bs (zs 64)) 53 ∧ Below w.heap.size w w')
          (fun done a t w' h0 h1 h => (apply1 w.heap.size (applyAll b done) (applyAll_length b hb done h.1) a t h0 h1 w' h.2.1).mono fun e w'' he => ⟨he.1, h.1.snoc _ (by rw [nums_length]; exact h1), by rw [applyAll_snoc]; exact he.2.1, h.2.2.1.turned he.2.2 (by omega), h.2.2.2.trans (he.2.2.below (Nat.le_refl _))⟩)
          (fun _ _ h => ⟨h.1, h.2.1, h.2.2.1, h.2.2.2.drew⟩) s HS.out _ HI0.out).mono ?_; rw [HP.out]; rintro e w1 ⟨rfl, done, ⟨hf, r0, r1, rb⟩, hd⟩
         have hd := hd ps rfl
         subst hd
         have hAl := applyAll_length b hb done hf
         obtain ⟨A, HA⟩ : ∃ A, Hid (applyAll b done = A) := ⟨_, rfl⟩
         rw [HA.out] at r0 hAl)
      | (refine load_row rfl 53 (.tmp 2) rfl w.heap.size rfl 53 (bs A) r0 64 5 Try.underlying53 size53 (by rw [bs_size, hAl]) ?_)
      | (refine store_row rfl 53 (.tmp 4) (.tmp 13) rfl (w.heap.size + 1) A rfl rfl 53 (bs (zs 64)) r1 64 size53 (by rw [bs_size, zs_length]) hAl ?_))
    refine bodyPost_ret (v := .tuple #[.agg (bs A), .int .i64 0]) ?_ rfl ⟨by rw [HO.out, HA.out], below_setRow rb (by omega) _⟩
    exact ret_two (fn := Try.f44) rfl _ _ (w.heap.size + 1) 53 (bs A) 64 5 _ rfl rfl (r1.set _) Try.underlying53 size53 (by rw [bs_size, hAl])
end Go.Proofs.Ytihjapfgllokgab
