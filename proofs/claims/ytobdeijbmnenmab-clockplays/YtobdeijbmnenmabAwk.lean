/-
  Proved here: the statements' fixed run, and how their arguments came in.
-/
import Derived.Test.YtobdeijbmnenmabDo
namespace Go.Proofs.Ytobdeijbmnenmab
open Go.ChangeShapes Go.WideShapes Go.ChangeAt Go.RowKit
open Go.Deep
set_option linter.unusedVariables false
set_option linter.unusedSimpArgs false

def f0 : Fr := ⟨0, false, false, 0⟩
def f1 : Fr := ⟨1, false, false, 0⟩
theorem vict_one : Vict [f0, f1] 0 true [f1, f0] := Or.inr (Or.inl ⟨by simp [f0, f1, Fr.cf], ⟨f0, by simp, rfl⟩, Vic.hit f0 [f1] ⟨rfl, rfl⟩, rfl⟩)
theorem vict_two : Vict [f1, f0] 1 true [f0, f1] := Or.inr (Or.inl ⟨by simp [f0, f1, Fr.cf], ⟨f0, by simp, rfl⟩, Vic.hit f1 [f0] ⟨rfl, rfl⟩, rfl⟩)
theorem awake_any (w : World) : Calls Try.prog 9 #[] w fun e w' => e = .returned (.bool true) ∧ Below w.heap.size w w' := by
  have hnew := new_some 2 (by omega) (by omega) w
  have HV1 : Hid (∀ w1 g a, CAt w1 g a (newF 2) 0 0 → Calls Try.prog 16 #[.pointer (some ⟨g, 0, none⟩)] w1 fun e w' => e = .returned (.tuple #[.int .i64 0, .bool true]) ∧ ∃ fs' h', CAt w' g a fs' h' 0 ∧ ring fs' h' = [f1, f0] ∧ Off (two g a) w1 w') := fun w1 g a c => by
    refine (victim_any c).mono ?_
    rintro e w' ⟨v, ok, fs', h', rfl, h1, h2, h3, h4⟩
    obtain ⟨rfl, rfl, q⟩ := Vict.det vict_one (show Vict [f0, f1] v ok (ring fs' h') from h1)
    exact ⟨rfl, fs', h', h3, q.symm, h4⟩
  have HV2 : Hid (∀ w1 g a fs h, CAt w1 g a fs h 0 → ring fs h = [f1, f0] → Calls Try.prog 16 #[.pointer (some ⟨g, 0, none⟩)] w1 fun e w' => e = .returned (.tuple #[.int .i64 1, .bool true]) ∧ Off (two g a) w1 w') := fun w1 g a fs h c hr => by
    refine (victim_any c).mono ?_
    rintro e w' ⟨v, ok, fs', h', rfl, h1, h2, h3, h4⟩
    rw [hr] at h1
    obtain ⟨rfl, rfl, q⟩ := Vict.det vict_two h1
    exact ⟨rfl, h4⟩
  have t1 : Hid (1 = 1) := rfl
  go_enter Try.func9, Try.ntmps9
  go_wp2_with (first
    | (go_at_call 8; refine hnew.mono ?_; rintro e w1 ⟨g, a, he, hg, ha, c1, b1⟩; obtain rfl := he; have HG : Hid (w.heap.size ≤ g) := hg; have HA : Hid (w.heap.size ≤ a) := ha; clear hg ha)
    | (have hh := t1; clear hh t1; go_at_call 16; refine (HV1.out _ _ _ c1).mono ?_; rintro e w2 ⟨he, fs2, h2, c2, hr2, o2⟩; obtain rfl := he; have H2 : Hid _ := hr2; clear hr2)
    | (go_at_call 16; refine (HV2.out _ _ _ _ _ c2 H2.out).mono ?_; rintro e w3 ⟨he, o3⟩; obtain rfl := he))
  go_ret
  have hF : ∀ k, two g a k → w.heap.size ≤ k := fun k hk => by
    rcases hk with rfl | rfl
    · exact HG.out
    · exact HA.out
  have b2 := b1.trans (o2.below b1.size hF)
  exact ⟨rfl, b2.trans (o3.below b2.size hF)⟩
theorem laidOut : laidOutB Try.prog = true := by kernel_rfl
theorem range_op {w : World} {g : Nat} {v0 v1 v2 : Value} {t : TypeId} (h : Row w g #[v0, v1, v2] t) : w.rangeAt g 0 [v0, v1, v2] := by
  intro j v hv
  rw [cell_of_row w g _ _ _ _ h, Nat.zero_add]
  simpa using hv
theorem size29 : (Try.prog.info? 29).map (·.size) = some 3 := by kernel_rfl
theorem zero29 (w : World) : (zeroValue 29).run Try.prog w = .ok (.agg #[.int .i64 0, .int .i64 0, .bool false]) w := (zero_of_info (P := Try.prog) (t := 29) (v := .agg #[.int .i64 0, .int .i64 0, .bool false]) (n := 3) (by kernel_rfl)).1 w
/-- A call, as it came in. -/
structure Call where
  k : Int
  i : Int
  b : Bool
def Call.cells (c : Call) : List Value := [.int .i64 c.k, .int .i64 c.i, .bool c.b]
/-- A list of calls, as it came in. -/
def Script (w : World) (v : Value) (cs : List Call) : Prop :=
  ∃ oa cap, v = .slice oa cs.length cap ∧ cs.length ≤ 140737488355328 ∧ ∀ i, i < cs.length → ∃ a c, oa = some a ∧ cs[i]? = some c ∧ ∀ j u, c.cells[j]? = some u → w.cell? ((a.add (i * 3)).add j) = some u
theorem cells29 : Try.prog.cellsOf 29 = 3 := by kernel_rfl
theorem cells3 : Try.prog.cellsOf 3 = 1 := by kernel_rfl
theorem cells4 : Try.prog.cellsOf 4 = 1 := by kernel_rfl
theorem bytes29 : Try.prog.bytesOf 29 = 24 := by kernel_rfl
section
variable {H : Type} {enc : TypeId × Value → H}
theorem open_call {w : World} {fuel : Nat} {cs : List Value} {x : DataW H × List MemPlace} (h : DataW.trod enc Try.prog w 0 (fun _ => true) true fuel 29 cs = some x) : ∃ c : Call, cs = c.cells := by
  cases fuel with
  | zero => simp [DataW.trod] at h
  | succ n =>
    unfold DataW.trod at h
    rw [Try.underlying29] at h
    simp only [cells29] at h
    by_cases hl : cs.length = 3
    · match cs, hl with
      | [c0, c1, c2], _ =>
        simp [List.mapM_cons, cells3, cells4] at h
        cases t0 : DataW.trod enc Try.prog w 0 (fun _ => true) true n 3 [c0] with
        | none => simp [t0] at h
        | some x0 =>
        cases t1 : DataW.trod enc Try.prog w 0 (fun _ => true) true n 3 [c1] with
        | none => simp [t0, t1] at h
        | some x1 =>
        cases t2 : DataW.trod enc Try.prog w 0 (fun _ => true) true n 4 [c2] with
        | none => simp [t0, t1, t2] at h
        | some x2 =>
        obtain ⟨k0, e0, _, w0⟩ := DataW.trod_int Try.underlying3 t0
        obtain ⟨k1, e1, _, w1⟩ := DataW.trod_int Try.underlying3 t1
        obtain ⟨k2, e2, _⟩ := DataW.trod_bool Try.underlying4 t2
        simp at e0 e1 e2
        exact ⟨⟨k0, k1, k2⟩, by simp [Call.cells, e0, e1, e2]⟩
    · simp [hl] at h
theorem open_callv {w : World} {base : Nat} {v : Value} {d : DataW H} {p : List MemPlace} (hv : Value.okWide Try.prog w .any base 29 v) (h : DataW.Trod enc Try.prog w 0 (fun _ => true) true 29 v d p) (hs : (d.weights Try.prog 29).all (· ≤ reachBytes) = true) :
    ∃ c : Call, v = .agg c.cells.toArray ∧ True := by
  obtain ⟨cs, rfl, hsz⟩ := okWide_struct Try.underlying29 hv
  obtain ⟨fuel, hf⟩ := h
  obtain ⟨c, hc⟩ := open_call hf
  refine ⟨c, ?_, trivial⟩
  have hc' : cs.toList = c.cells := hc
  rw [← hc']
theorem open_calls {w : World} {base : Nat} {v : Value} {d : DataW H} {p : List MemPlace} (hv : Value.okWide Try.prog w .any base 22 v) (h : DataW.Trod enc Try.prog w 0 (fun _ => true) true 22 v d p) (hs : (d.weights Try.prog 22).all (· ≤ reachBytes) = true) :
    ∃ cs : List Call, Script w v cs := by
  obtain ⟨fuel, hf⟩ := h
  obtain ⟨av, lv, cv, rfl⟩ := okWide_slice Try.underlying22 hv
  rcases open_slice Try.underlying22 hf with ⟨q, _⟩ | ⟨a, len, cap, m, n, D, Pl, q, _, hle, _, hm, hx, hel⟩
  · refine ⟨[], none, 0, ?_, by simp, fun i hi => by simp at hi⟩
    simpa [Value.cells] using q
  · have q' : Value.slice av lv cv = .slice (some a) len cap := by simpa [Value.cells] using q
    rw [q']
    simp only [if_true] at hm
    subst hm
    simp only [Prod.mk.injEq] at hx
    obtain ⟨rfl, _⟩ := hx
    have hs' : ∀ x ∈ (DataW.slice ((List.range len).map D) ((List.range (m - len)).map fun j => D (len + j))).weights Try.prog 22, x ≤ reachBytes := fun x hx => by
      have := List.all_eq_true.1 hs x hx
      simpa using this
    have hlen : len ≤ 140737488355328 := by
      have := hs' _ (by simp only [DataW.weights, Try.underlying22]; exact List.mem_cons_self ..)
      rw [bytes29] at this
      simp at this
      unfold reachBytes at this
      omega
    have hc : ∀ i, ∃ c : Call, i < len → ∀ j u, c.cells[j]? = some u → w.cell? ((a.add (i * 3)).add j) = some u := fun i => by
      by_cases hi : i < len
      · obtain ⟨cs', h1, h2⟩ := hel i (by omega)
        rw [cells29] at h1
        obtain ⟨c, rfl⟩ := open_call h2
        obtain ⟨_, hl5, hcell⟩ := World.cells?_some h1
        refine ⟨c, fun _ j u hj => ?_⟩
        have hj5 : j < 3 := by
          have := (List.getElem?_eq_some_iff.1 hj).1
          omega
        rw [hcell j hj5]; exact hj
      · exact ⟨⟨0, 0, false⟩, fun q => absurd q hi⟩
    obtain ⟨f, hf'⟩ := Classical.axiomOfChoice hc
    refine ⟨(List.range len).map f, some a, m, by simp, by simpa using hlen, fun i hi => ?_⟩
    have hi' : i < len := by simpa using hi
    refine ⟨a, f i, rfl, by simp [hi'], hf' i hi'⟩
end
end Go.Proofs.Ytobdeijbmnenmab
