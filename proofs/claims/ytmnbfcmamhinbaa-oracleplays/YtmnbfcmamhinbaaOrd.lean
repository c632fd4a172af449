/-
  Proved here: calls of an oracle that isn't there; the statements' fixed run; what a call that the statements make does; how their arguments came in.
-/
import Derived.Test.YtmnbfcmamhinbaaOrc
namespace Go.Proofs.Ytmnbfcmamhinbaa
open Go.ChangeShapes Go.WideShapes Go.ChangeAt Go.RowKit
open Go.Deep Go.Maps
set_option linter.unusedVariables false
set_option linter.unusedSimpArgs false

theorem begin_nil (w : World) :
    Calls Try.prog 14 #[.pointer none] w fun e w' => e = .returned (.tuple #[.int .u64 0, .int .u32 0, .int .i64 1]) ∧ w' = w := by
  go_enter Try.func14, Try.ntmps14
  go_wp2
  go_ret3
  exact ⟨rfl, rfl⟩
theorem next_nil (w : World) :
    Calls Try.prog 12 #[.pointer none] w fun e w' => e = .returned (.tuple #[.int .u32 0, .int .i64 1]) ∧ w' = w := by
  go_enter Try.func12, Try.ntmps12
  go_wp2
  go_ret2
  exact ⟨rfl, rfl⟩
theorem start_nil (w : World) (k : Int) :
    Calls Try.prog 13 #[.pointer none, .int .u64 k] w fun e w' => e = .returned (.tuple #[.int .u32 0, .bool false]) ∧ w' = w := by
  go_enter Try.func13, Try.ntmps13
  go_wp2
  go_ret2
  exact ⟨rfl, rfl⟩
theorem end_nil (w : World) (k : Int) :
    Calls Try.prog 16 #[.pointer none, .int .u64 k] w fun e w' => e = .returned (.int .i64 9) ∧ w' = w := by
  have hc := start_nil w k
  go_enter Try.func16, Try.ntmps16
  go_wp2_with (go_at_call 13; refine hc.mono ?_; clear hc; rintro e wb ⟨he, hww⟩; rw [hww]; clear hww wb; obtain rfl := he)
  go_ret
  exact ⟨rfl, rfl⟩
theorem publish_nil (w : World) (k : Int) :
    Calls Try.prog 17 #[.pointer none, .int .u32 k] w fun e w' => e = .returned (.int .i64 1) ∧ w' = w := by
  have hc := next_nil w
  go_enter Try.func17, Try.ntmps17
  go_wp2_with (go_at_call 12; refine hc.mono ?_; clear hc; rintro e wb ⟨he, hww⟩; rw [hww]; clear hww wb; obtain rfl := he)
  go_ret
  exact ⟨rfl, rfl⟩
theorem last_nil (w : World) :
    Calls Try.prog 18 #[.pointer none] w fun e w' => e = .returned (.int .u32 0) ∧ w' = w := by
  go_enter Try.func18, Try.ntmps18
  go_wp2
  go_ret
  exact ⟨rfl, rfl⟩
theorem horizon_nil (w : World) :
    Calls Try.prog 19 #[.pointer none] w fun e w' => e = .returned (.int .u32 0) ∧ w' = w := by
  go_enter Try.func19, Try.ntmps19
  go_wp2
  go_ret
  exact ⟨rfl, rfl⟩
theorem live_nil (w : World) :
    Calls Try.prog 22 #[.pointer none] w fun e w' => e = .returned (.slice none 0 0) ∧ w' = w := by
  go_enter Try.func22, Try.ntmps22
  go_wp2
  go_ret
  exact ⟨rfl, rfl⟩

theorem awake_any (w : World) : Calls Try.prog 10 #[] w fun e w' => e = .returned (.bool true) ∧ Below w.heap.size w w' := by
  have hnew := new_some 3 9 (by omega) (by omega) (by omega) w
  have HB : Hid (∀ w1 g m, OAt w1 g m 3 9 0 [] → Calls Try.prog 14 #[.pointer (some ⟨g, 0, none⟩)] w1 fun e w' => e = .returned (.tuple #[.int .u64 1, .int .u32 3, .int .i64 0]) ∧ OAt w' g m 3 9 1 [(1, 3)] ∧ Off (two g m) w1 w') := fun w1 g m c => begin_some c (by simp) (by omega)
  have HP : Hid (∀ w1 g m, OAt w1 g m 3 9 1 [(1, 3)] → Calls Try.prog 17 #[.pointer (some ⟨g, 0, none⟩), .int .u32 4] w1 fun e w' => e = .returned (.int .i64 0) ∧ OAt w' g m 4 9 1 [(1, 3)] ∧ Off (two g m) w1 w') := fun w1 g m c => publish_yes c 4 ⟨by omega, by omega⟩
  have HL : Hid (∀ w1 g m, OAt w1 g m 4 9 1 [(1, 3)] → Calls Try.prog 18 #[.pointer (some ⟨g, 0, none⟩)] w1 fun e w' => e = .returned (.int .u32 4) ∧ w' = w1) := fun w1 g m c => last_any c
  have HH : Hid (∀ w1 g m, OAt w1 g m 4 9 1 [(1, 3)] → Calls Try.prog 19 #[.pointer (some ⟨g, 0, none⟩)] w1 fun e w' => e = .returned (.int .u32 3) ∧ Below w1.heap.size w1 w') := fun w1 g m c => horizon_any c
  go_enter Try.func10, Try.ntmps10
  go_wp2_with (first
    | (go_at_call 9; refine hnew.mono ?_; clear hnew; rintro e w1 ⟨g, m, he, hg, hm, c1, b1⟩; obtain rfl := he; have HG : Hid (w.heap.size ≤ g) := hg; have HM : Hid (w.heap.size ≤ m) := hm; clear hg hm)
    | (go_at_call 14; refine (HB.out _ _ _ c1).mono ?_; rintro e w2 ⟨he, c2, o2⟩; obtain rfl := he; clear HB)
    | (go_at_call 17; refine (HP.out _ _ _ c2).mono ?_; rintro e w3 ⟨he, c3, o3⟩; obtain rfl := he; clear HP)
    | (go_at_call 18; refine (HL.out _ _ _ c3).mono ?_; rintro e wb ⟨he, hww⟩; rw [hww]; clear hww wb HL; obtain rfl := he)
    | (go_at_call 19; refine (HH.out _ _ _ c3).mono ?_; rintro e w4 ⟨he, b4⟩; obtain rfl := he; clear HH))
  go_ret
  have hF : ∀ k, two g m k → w.heap.size ≤ k := fun k hk => by
    rcases hk with rfl | rfl
    · exact HG.out
    · exact HM.out
  have B2 := b1.trans (o2.below b1.size hF)
  have B3 := B2.trans (o3.below B2.size hF)
  exact ⟨rfl, B3.trans (b4.mono B3.size)⟩
/-- What a call that the statements make does: the last timestamp, how many were begun, the live ones. -/
def doO (k n max : Int) (s : Int × Int × List (Int × Int)) : Int × Int × List (Int × Int) :=
  if k = 0 then (if s.2.2.length < 8 then (s.1, s.2.1 + 1, s.2.2 ++ [(s.2.1 + 1, s.1)]) else s)
  else if k = 1 then (s.1, s.2.1, endL s.2.2 n)
  else if k = 2 then (if ¬ s.1 = max ∧ n % 4294967296 = s.1 + 1 then (s.1 + 1, s.2) else s)
  else if k = 3 then (if s.1 = max then s else (s.1 + 1, s.2)) else s
def Done (w : World) (g m : Nat) (max : Int) (s : Int × Int × List (Int × Int)) (e : Ending) (w' : World) : Prop :=
  e = .returned (.tuple #[]) ∧ OAt w' g m s.1 max s.2.1 s.2.2 ∧ Off (two g m) w w'
theorem conv_u (n : Int) (h : 0 ≤ n) : IntKind.u32.wrap n = n % 4294967296 := by rw [IntKind.wrap_u32]
set_option maxHeartbeats 1000000 in
theorem do_any {w : World} {g m : Nat} {last max begun : Int} {L : List (Int × Int)} (c : OAt w g m last max begun L) (hbig : begun < 1000000000000) (k n : Int) (hn : (Lit.int .u64 n).wf = true) (hn0 : 0 ≤ n) :
    Calls Try.prog 23 #[.pointer (some ⟨g, 0, none⟩), .agg #[.int .i64 k, .int .u64 n]] w fun e w' => Done w g m max (doO k n max (last, begun, L)) e w' := by
  have r0 : Row (w.alloc (.cells #[.int .i64 k, .int .u64 n] 33)) w.heap.size #[.int .i64 k, .int .u64 n] 33 := Row.new _ _ _
  have b0 : Below w.heap.size w (w.alloc (.cells #[.int .i64 k, .int .u64 n] 33)) := (Below.refl _ _).alloc (Nat.le_refl _) _
  have k0 := row_at r0 0 (.int .i64 k) rfl
  have k1 := row_at r0 1 (.int .u64 n) rfl
  have c1 := c.below b0
  have OB : Off (two g m) w (w.alloc (.cells #[.int .i64 k, .int .u64 n] 33)) := Off.of_below b0
  have hcv := conv_u n hn0
  clear r0 b0
  have fin : ∀ s w', OAt w' g m s.1 max s.2.1 s.2.2 → Off (two g m) (w.alloc (.cells #[.int .i64 k, .int .u64 n] 33)) w' → doO k n max (last, begun, L) = s → Done w g m max (doO k n max (last, begun, L)) (.returned (.tuple #[])) w' := fun s w' h1 h2 h3 => by
    rw [h3]; exact ⟨rfl, h1, OB.trans h2 (fun j q => Or.inl q)⟩
  have HF : Hid _ := fin
  obtain ⟨PP, HPP⟩ : ∃ PP : Ending → World → Prop, Hid (PP = fun e w' => Done w g m max (doO k n max (last, begun, L)) e w') := ⟨_, rfl⟩
  have HF2 : Hid (∀ s w', OAt w' g m s.1 max s.2.1 s.2.2 → Off (two g m) (w.alloc (.cells #[.int .i64 k, .int .u64 n] 33)) w' → doO k n max (last, begun, L) = s → PP (.returned (.tuple #[])) w') := fun s w' h1 h2 h3 => by rw [HPP.out]; exact HF.out s w' h1 h2 h3
  rw [← HPP.out]
  clear HF fin OB HPP
  have END : ∀ w', PP (.returned (.tuple #[])) w' → PP (.returned (.tuple #[])) w' := fun _ h => h
  by_cases h0 : k = 0
  · subst h0
    by_cases hs : L.length < 8
    · have hb := begin_some c1 hs hbig
      go_enter Try.func23, Try.ntmps23
      go_wp2_with (go_at_call 14; refine hb.mono ?_; clear hb; rintro e w2 ⟨he, c2, o2⟩; obtain rfl := he)
      first | go_end0 | refine bodyPost_ret (results_none rfl _ _ _) rfl ?_
      exact HF2.out (last, begun + 1, L ++ [(begun + 1, last)]) _ c2 o2 (by simp [doO, hs])
    · have hb := begin_none c1 hs
      go_enter Try.func23, Try.ntmps23
      go_wp2_with (go_at_call 14; refine hb.mono ?_; clear hb; rintro e wb ⟨he, hww⟩; rw [hww]; clear hww wb; obtain rfl := he)
      first | go_end0 | refine bodyPost_ret (results_none rfl _ _ _) rfl ?_
      exact HF2.out (last, begun, L) _ c1 (Off.refl _ _) (by simp [doO, hs])
  by_cases h1 : k = 1
  · subst h1
    have hb := end_any c1 n hn
    go_enter Try.func23, Try.ntmps23
    go_wp2_with (go_at_call 16; refine hb.mono ?_; clear hb; rintro e w2 ⟨he, c2, o2⟩; obtain rfl := he)
    first | go_end0 | refine bodyPost_ret (results_none rfl _ _ _) rfl ?_
    exact HF2.out (last, begun, endL L n) _ c2 o2 (by simp [doO])
  by_cases h2 : k = 2
  · subst h2
    by_cases ho : okTs last max (n % 4294967296)
    · have hb := publish_yes c1 _ ho
      have HO : Hid _ := ho
      clear ho
      go_enter Try.func23, Try.ntmps23
      go_wp2_with (go_at_call 17; refine hb.mono ?_; clear hb; rintro e w2 ⟨he, c2, o2⟩; obtain rfl := he)
      first | go_end0 | refine bodyPost_ret (results_none rfl _ _ _) rfl ?_
      have ho1 := HO.out.1
      have ho2 := HO.out.2
      rw [ho2] at c2
      exact HF2.out (last + 1, begun, L) _ c2 o2 (by simp [doO, ho1, ho2])
    · have hb := publish_no c1 _ ho
      have HO : Hid _ := ho
      clear ho
      go_enter Try.func23, Try.ntmps23
      go_wp2_with (go_at_call 17; refine hb.mono ?_; clear hb; rintro e w2 ⟨he, b2⟩; obtain rfl := he)
      first | go_end0 | refine bodyPost_ret (results_none rfl _ _ _) rfl ?_
      exact HF2.out (last, begun, L) _ (c1.below b2) (Off.of_below b2) (by simp [doO]; exact fun q1 q2 => absurd ⟨q1, q2⟩ HO.out)
  by_cases h3 : k = 3
  · subst h3
    have hx := next_any c1
    by_cases hq : last = max
    · have e1 : nextV last max = 0 := if_pos hq
      have e2 : nextE last max = 8 := if_pos hq
      rw [e1, e2] at hx
      have e3 : doO 3 n max (last, begun, L) = (last, begun, L) := by simp [doO, hq]
      clear e1 e2 hq
      go_enter Try.func23, Try.ntmps23
      go_wp2_with (go_at_call 12; refine hx.mono ?_; clear hx; rintro e w2 ⟨he, b2⟩; obtain rfl := he)
      first | go_end0 | refine bodyPost_ret (results_none rfl _ _ _) rfl ?_
      exact HF2.out (last, begun, L) _ (c1.below b2) (Off.of_below b2) e3
    · have e1 : nextV last max = last + 1 := if_neg hq
      have e2 : nextE last max = 0 := if_neg hq
      rw [e1, e2] at hx
      have e3 : doO 3 n max (last, begun, L) = (last + 1, begun, L) := by simp [doO, hq]
      have HPB : Hid (∀ w', OAt w' g m last max begun L → Calls Try.prog 17 #[.pointer (some ⟨g, 0, none⟩), .int .u32 (last + 1)] w' fun e w2 => e = .returned (.int .i64 0) ∧ OAt w2 g m (last + 1) max begun L ∧ Off (two g m) w' w2) := fun w' c' => publish_yes c' _ ⟨hq, rfl⟩
      clear e1 e2 hq
      go_enter Try.func23, Try.ntmps23
      go_wp2_with (first
        | (go_at_call 12; refine hx.mono ?_; clear hx; rintro e w2 ⟨he, b2⟩; obtain rfl := he; have c2 := c1.below b2)
        | (go_at_call 17; refine (HPB.out _ c2).mono ?_; clear HPB; rintro e w3 ⟨he, c3, o3⟩; obtain rfl := he))
      first | go_end0 | refine bodyPost_ret (results_none rfl _ _ _) rfl ?_
      exact HF2.out (last + 1, begun, L) _ c3 ((Off.of_below b2).trans o3 (fun j q => Or.inl q)) e3
  go_enter Try.func23, Try.ntmps23
  go_wp2
  first | go_end0 | refine bodyPost_ret (results_none rfl _ _ _) rfl ?_
  exact HF2.out (last, begun, L) _ c1 (Off.refl _ _) (by simp [doO, h0, h1, h2, h3])
theorem laidOut : laidOutB Try.prog = true := by kernel_rfl
theorem size33 : (Try.prog.info? 33).map (·.size) = some 2 := by kernel_rfl
theorem zero33 (w : World) : (zeroValue 33).run Try.prog w = .ok (.agg #[.int .i64 0, .int .u64 0]) w := (zero_of_info (P := Try.prog) (t := 33) (v := .agg #[.int .i64 0, .int .u64 0]) (n := 2) (by kernel_rfl)).1 w
/-- A call, as it came in. -/
structure Call where
  k : Int
  n : Int
def Call.cells (c : Call) : List Value := [.int .i64 c.k, .int .u64 c.n]
def Call.Ok (c : Call) : Prop := (Lit.int .u64 c.n).wf = true
/-- A list of calls, as it came in. -/
def Script (w : World) (v : Value) (cs : List Call) : Prop :=
  ∃ oa cap, v = .slice oa cs.length cap ∧ cs.length ≤ 140737488355328 ∧ ∀ i, i < cs.length → ∃ a c, oa = some a ∧ cs[i]? = some c ∧ c.Ok ∧ ∀ j u, c.cells[j]? = some u → w.cell? ((a.add (i * 2)).add j) = some u
theorem cells33 : Try.prog.cellsOf 33 = 2 := by kernel_rfl
theorem cells3 : Try.prog.cellsOf 3 = 1 := by kernel_rfl
theorem cells31 : Try.prog.cellsOf 31 = 1 := by kernel_rfl
theorem bytes33 : Try.prog.bytesOf 33 = 16 := by kernel_rfl
section
variable {H : Type} {enc : TypeId × Value → H}
set_option maxRecDepth 100000 in
theorem open_call {w : World} {fuel : Nat} {cs : List Value} {x : DataW H × List MemPlace} (h : DataW.trod enc Try.prog w 0 (fun _ => true) true fuel 33 cs = some x) : ∃ c : Call, cs = c.cells ∧ c.Ok := by
  cases fuel with
  | zero => simp [DataW.trod] at h
  | succ n =>
    unfold DataW.trod at h
    rw [Try.underlying33] at h
    simp only [cells33] at h
    by_cases hl : cs.length = 2
    · match cs, hl with
      | [c0, c1], _ =>
        simp [List.mapM_cons, cells3, cells31] at h
        cases t0 : DataW.trod enc Try.prog w 0 (fun _ => true) true n 3 [c0] with
        | none => simp [t0] at h
        | some x0 =>
        cases t1 : DataW.trod enc Try.prog w 0 (fun _ => true) true n 31 [c1] with
        | none => simp [t0, t1] at h
        | some x1 =>
        obtain ⟨k0, e0, _, w0⟩ := DataW.trod_int Try.underlying3 t0
        obtain ⟨k1, e1, _, w1⟩ := DataW.trod_int Try.underlying31 t1
        simp at e0 e1
        exact ⟨⟨k0, k1⟩, by simp [Call.cells, e0, e1], w1⟩
    · simp [hl] at h
set_option maxRecDepth 100000 in
theorem open_calls {w : World} {base : Nat} {v : Value} {d : DataW H} {p : List MemPlace} (hv : Value.okWide Try.prog w .any base 23 v) (h : DataW.Trod enc Try.prog w 0 (fun _ => true) true 23 v d p) (hs : (d.weights Try.prog 23).all (· ≤ reachBytes) = true) :
    ∃ cs : List Call, Script w v cs := by
  obtain ⟨fuel, hf⟩ := h
  obtain ⟨av, lv, cv, rfl⟩ := okWide_slice Try.underlying23 hv
  rcases open_slice Try.underlying23 hf with ⟨q, _⟩ | ⟨a, len, cap, m, n, D, Pl, q, _, hle, _, hm, hx, hel⟩
  · refine ⟨[], none, 0, ?_, by simp, fun i hi => by simp at hi⟩
    simpa [Value.cells] using q
  · have q' : Value.slice av lv cv = .slice (some a) len cap := by simpa [Value.cells] using q
    rw [q']
    simp only [if_true] at hm
    subst hm
    simp only [Prod.mk.injEq] at hx
    obtain ⟨rfl, _⟩ := hx
    have hs' : ∀ x ∈ (DataW.slice ((List.range len).map D) ((List.range (m - len)).map fun j => D (len + j))).weights Try.prog 23, x ≤ reachBytes := fun x hx => by
      have := List.all_eq_true.1 hs x hx
      simpa using this
    have hlen : len ≤ 140737488355328 := by
      have := hs' _ (by simp only [DataW.weights, Try.underlying23]; exact List.mem_cons_self ..)
      rw [bytes33] at this
      simp at this
      unfold reachBytes at this
      omega
    have hc : ∀ i, ∃ c : Call, c.Ok ∧ (i < len → ∀ j u, c.cells[j]? = some u → w.cell? ((a.add (i * 2)).add j) = some u) := fun i => by
      by_cases hi : i < len
      · obtain ⟨cs', h1, h2⟩ := hel i (by omega)
        rw [cells33] at h1
        obtain ⟨c, rfl, hok⟩ := open_call h2
        obtain ⟨_, hl5, hcell⟩ := World.cells?_some h1
        refine ⟨c, hok, fun _ j u hj => ?_⟩
        have hj5 : j < 2 := by
          have := (List.getElem?_eq_some_iff.1 hj).1
          omega
        rw [hcell j hj5]; exact hj
      · exact ⟨⟨0, 0⟩, by show (Lit.int .u64 0).wf = true; rfl, fun q => absurd q hi⟩
    obtain ⟨f, hf'⟩ := Classical.axiomOfChoice hc
    refine ⟨(List.range len).map f, some a, m, by simp, by simpa using hlen, fun i hi => ?_⟩
    have hi' : i < len := by simpa using hi
    refine ⟨a, f i, rfl, by simp [hi'], (hf' i).1, (hf' i).2 hi'⟩
end
theorem wf_u {n : Int} (h : (Lit.int .u64 n).wf = true) : 0 ≤ n ∧ n ≤ 18446744073709551615 := by
  have e : (Lit.int .u64 n).wf = (decide ((0 : Int) ≤ n) && decide (n ≤ 18446744073709551615)) := rfl
  rw [e] at h
  simpa using h
theorem wf_u4 {n : Int} (h : (Lit.int .u32 n).wf = true) : 0 ≤ n ∧ n ≤ 4294967295 := by
  have e : (Lit.int .u32 n).wf = (decide ((0 : Int) ≤ n) && decide (n ≤ 4294967295)) := rfl
  rw [e] at h
  simpa using h
theorem wf_u1 {n : Int} (h : (Lit.int .u8 n).wf = true) : 0 ≤ n ∧ n ≤ 255 := by
  have e : (Lit.int .u8 n).wf = (decide ((0 : Int) ≤ n) && decide (n ≤ 255)) := rfl
  rw [e] at h
  simpa using h
end Go.Proofs.Ytmnbfcmamhinbaa
