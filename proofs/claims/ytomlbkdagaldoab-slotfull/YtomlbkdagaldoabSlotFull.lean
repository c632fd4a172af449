/-
  Proved: for every list of bytes and every byte the Go function varvelaw07.SlotFull returns true and leaves its arguments as they were; no condition.
-/
import Derived.Test.YtomlbkdagaldoabFu
import Derived.ChangeSlices
namespace Go.Proofs.Ytomlbkdagaldoab.slotFull
open Go.ChangeShapes Go.WideShapes Go.ChangeAt Go.RowKit
open Go.Deep
set_option linter.unusedVariables false
set_option linter.unusedSimpArgs false

theorem own : ownKnob Try.prog.godebug = none := by kernel_rfl

def Bys (w : World) (v : Value) (l : List Nat) : Prop :=
  ((v = .slice none 0 0 ∧ l = []) ∨ ∃ a cap, v = .slice (some a) l.length cap ∧ ∀ (j y : Nat), l[j]? = some y → w.cell? (a.add j) = some (.int .u8 (y : Int))) ∧ (∀ y ∈ l, y < 256) ∧ l.length ≤ 140737488355328
theorem bytes5 : Try.prog.bytesOf 5 = 1 := by kernel_rfl
section
variable {H : Type} {enc : TypeId × Value → H}
theorem open_u8s {w : World} {base : Nat} {v : Value} {d : DataW H} {p : List MemPlace} (hv : Value.okWide Try.prog w .any base 50 v) (h : DataW.Trod enc Try.prog w 0 (fun _ => true) true 50 v d p) (hs : (d.weights Try.prog 50).all (· ≤ reachBytes) = true) :
    ∃ l : List Nat, Bys w v l := by
  obtain ⟨fuel, hf⟩ := h
  obtain ⟨av, lv, cv, rfl⟩ := okWide_slice Try.underlying50 hv
  rcases open_ints Try.underlying50 Try.underlying5 cells5 hf with ⟨q, _⟩ | ⟨a, len, cap, zs, q, _, hle, _, hzl, hx, hc, hw⟩
  · have q' : Value.slice av lv cv = .slice none 0 0 := by simpa [Value.cells] using q
    exact ⟨[], Or.inl ⟨q', rfl⟩, fun z hz => (by cases hz), by simp⟩
  · have q' : Value.slice av lv cv = .slice (some a) len cap := by simpa [Value.cells] using q
    rw [q']
    simp at hzl
    have hlz : (zs.take len).length = len := by simp; omega
    have hwz : ∀ z ∈ zs, 0 ≤ z ∧ z ≤ 255 := fun z hz => bounds_u8 (hw z hz)
    refine ⟨(zs.take len).map Int.toNat, Or.inr ⟨a, cap, by rw [List.length_map, hlz], fun j u hj => ?_⟩, fun y hy => ?_, ?_⟩
    · rw [List.getElem?_map, List.getElem?_take] at hj
      by_cases hjl : j < len
      · rw [if_pos hjl, List.getElem?_eq_getElem (by omega)] at hj
        simp at hj
        have := hwz zs[j] (List.getElem_mem _)
        rw [hc j (by omega), ← hj]
        simp [List.getD, show j < zs.length by omega]
        omega
      · rw [if_neg hjl] at hj; simp at hj
    · obtain ⟨z, hz, rfl⟩ := List.mem_map.1 hy
      have := hwz z (List.mem_of_mem_take hz)
      omega
    · simp only [Prod.mk.injEq] at hx
      rw [hx.1] at hs
      simp [DataW.weights, Try.underlying50, bytes5, lits] at hs
      have := hs.1
      unfold reachBytes at this
      rw [List.length_map, hlz]
      omega
end
theorem walk (w : World) (v : Value) (l : List Nat) (out : Int) (h : Bys w v l) (wf : (Lit.int .u8 out).wf = true) :
    Calls Try.prog 6 #[v, .int .u8 out] w fun e w' => e = .returned (.bool true) ∧ Below w.heap.size w w' := by
  obtain ⟨h0, h255⟩ := bounds_u8 wf
  obtain ⟨o, rfl⟩ : ∃ o : Nat, out = (o : Int) := ⟨out.toNat, by omega⟩
  obtain ⟨hc, hy, hl⟩ := h
  rcases hc with ⟨rfl, e⟩ | ⟨a, cap, rfl, h3⟩
  · exact fullWalk w none 0 0 o (by omega) (by omega) (fun i hi => absurd hi (by omega))
  · exact fullWalk w (some a) l.length cap o (by omega) hl (fun i hi => ⟨a, l[i], rfl, hy _ (List.getElem_mem _), h3 i _ (by simp [hi])⟩)

set_option maxRecDepth 100000 in
theorem lifted (os : Os) (started : os.Started) (H : Type) (enc : TypeId × Value → H) :
    ReturnsInHanded {} Try.checked os 6 .any (Rows.slotFullSpec.pre6 enc Try.prog Try.f6 Rows.slotFullRow.domain false) (Rows.slotFullSpec.post enc Try.prog Try.f6 false true false false) := by
  refine returnsInHanded_of_change_sized (C := Try.checked) own started (by kernel_rfl) Try.func6
    (ChangeSpec.witness6 (enc := enc) (C := Try.checked) false ⟨#[], #[.slice none 0 0, .int .u8 0], []⟩ 8 (by kernel_rfl) (by kernel_rfl) (by kernel_rfl) (by kernel_rfl)) ?_
  intro W base args ds gs before hval0 hW hcnd hsz0 _
  have hval : ∀ (j : Nat) t v, Try.f6.params[j]? = some t → args[j]? = some v → Value.okWide Try.prog W .any base t v := hval0
  have hW' := hW
  obtain ⟨p, q, hA0, hV, rfl, hfz, hnd⟩ := hW
  have hA : DataW.TrodAll enc Try.prog W 0 (fun _ => true) true Try.f6.params.toList args.toList ds p := hA0
  have hsz : (DataW.weightsEach Try.prog (Try.f6.params.toList ++ []) (ds ++ gs)).all (· ≤ reachBytes) = true := hsz0
  rw [Try.params6] at hA hval hsz
  obtain ⟨v0, vs0, d0, ds0, p0, q0, hargs, rfl, rfl, h0, r0⟩ := trodAll_cons hA
  obtain ⟨v1, vs1, d1, ds1, p1, q1, rfl, rfl, rfl, h1, r1⟩ := trodAll_cons r0
  obtain ⟨rfl, rfl, rfl⟩ := trodAll_nil r1
  obtain rfl : args = #[v0, v1] := by cases args; simp_all
  obtain ⟨rfl, rfl⟩ := trodVars_none hV
  simp only [List.append_nil] at hsz
  have hlt : ∀ x ∈ (p0 ++ (p1 ++ [])), x.block < W.heap.size := fun x hx => hW'.lt x (by simpa using hx)
  have hw0 : (d0.weights Try.prog 50).all (· ≤ reachBytes) = true := List.all_eq_true.2 fun m hm => List.all_eq_true.1 hsz m (by simp [DataW.weightsEach, hm])
  have hw1 : (d1.weights Try.prog 5).all (· ≤ reachBytes) = true := List.all_eq_true.2 fun m hm => List.all_eq_true.1 hsz m (by simp [DataW.weightsEach, hm])
  have k0 := h0
  have k1 := h1
  obtain ⟨a0, w0⟩ := open_u8s (hval 0 50 v0 rfl rfl) h0 hw0
  obtain ⟨a1, rfl, rfl, rfl, w1⟩ := open_int Try.underlying5 (hval 1 5 v1 rfl rfl) h1
  clear hA0 hval0
  simp only [List.append_nil] at hW'
  refine (walk W v0 a0 a1 w0 w1).mono fun e W' ⟨he, hg⟩ => ?_
  subst he
  exact ⟨_, rfl, ⟨_, _, _, [], (p0 ++ ([] ++ [])), [], hW', (trodAll_cons_mk (shut_bool Try.underlying4 _) trodAll_mk0), (trodAll_cons_mk (Below.trod laid (by kernel_rfl) (of_decide_eq_true (by kernel_rfl)) k0 hg (fun x hx => hlt x (by simp [hx]))) (trodAll_cons_mk (Below.trod laid (by kernel_rfl) (of_decide_eq_true (by kernel_rfl)) k1 hg (fun x hx => (nomatch hx))) trodAll_mk0)), rfl,
    hg.frame _, fun h => by cases h⟩⟩

theorem over : Rows.slotFullRow.holds Try.pinned (OpenSpec.ofChange Rows.slotFullSpec) :=
  OpenClaim.holds_of_wide 6 Try.f6 rfl rfl rfl rfl rfl rfl rfl ⟨rfl, rfl, rfl, rfl, rfl⟩ rfl rfl rfl rfl rfl (by kernel_rfl) Try.func6 (by kernel_rfl)
    (of_decide_eq_true (by kernel_rfl)) (by unfold Func.isWrapper; first | (rw [if_pos (by decide +kernel)]; kernel_rfl) | (rw [if_neg (by decide +kernel)]; exact ⟨rfl, rfl⟩))
    (fun os started H enc _ => lifted os started H enc)

/-- The statement. -/
theorem proved : Rows.SlotFullSaid :=
  over
#print axioms proved
end Go.Proofs.Ytomlbkdagaldoab.slotFull
