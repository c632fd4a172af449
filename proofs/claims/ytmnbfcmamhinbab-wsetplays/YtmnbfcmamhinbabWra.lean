/-
  Proved here: how the document's set lies in memory, and what its Has tells.
-/
import Derived.Test.YtmnbfcmamhinbabWdl
import Derived.Test.YtmnbfcmamhinbabWsp
namespace Go.Proofs.Ytmnbfcmamhinbab.Ws
open Go.ChangeShapes Go.WideShapes Go.ChangeAt Go.RowKit
open Go.Deep Go.Maps
set_option linter.unusedVariables false
set_option linter.unusedSimpArgs false
set_option maxRecDepth 20000

def zW : Array Value := (Wo.cells ⟨0, zs 64, 0, ByteArray.empty⟩).toArray
theorem zW_size : zW.size = 67 := by decide
theorem zero49 (w : World) : (zeroValue 49).run Try.prog w = .ok (.agg zW) w := (zero_of_info (P := Try.prog) (t := 49) (v := .agg zW) (n := 67) (by kernel_rfl)).1 w
theorem size49 : (Try.prog.info? 49).map (·.size) = some 67 := by kernel_rfl
theorem info49 : (Try.prog.info? 49).map (fun i => (i.zero, i.size, i.bytes)) = some (some (.agg zW), 67, 96) := by kernel_rfl
theorem Wo.lenW (o : Wo) (ho : o.b.length = 64) : o.cells.length = 67 := by unfold Wo.cells; simp [ho]
theorem Wo.oneL (o : Wo) : ∀ u ∈ o.cells, u.oneCell' = true := fun u hu => by
  unfold Wo.cells at hu
  rcases List.mem_cons.1 hu with rfl | hu
  · rfl
  · rcases List.mem_append.1 hu with h | h
    · obtain ⟨x, _, rfl⟩ := List.mem_map.1 h; rfl
    · simp at h; rcases h with rfl | rfl <;> rfl
theorem Wo.oneW (o : Wo) : o.cells.toArray.all (·.oneCell') = true := by
  rw [Array.all_eq_true_iff_forall_mem]
  intro u hu
  exact o.oneL u (by simpa using hu)
/-- Writings, one behind the other. -/
def flatW (os : List Wo) : List Value := os.flatMap Wo.cells
theorem flatW_append (a b : List Wo) : flatW (a ++ b) = flatW a ++ flatW b := by simp [flatW]
theorem flatW_at : ∀ {os : List Wo} (hl : ∀ o ∈ os, o.b.length = 64) (i j : Nat) (o : Wo), os[i]? = some o → j < 67 → (flatW os)[i * 67 + j]? = o.cells[j]?
  | [], _, i, j, b, h, _ => by simp at h
  | c :: r, hl, 0, j, b, h, hj => by
    simp at h; subst h
    show (c.cells ++ flatW r)[0 * 67 + j]? = _
    rw [Nat.zero_mul, Nat.zero_add, List.getElem?_append_left (by rw [c.lenW (hl c (List.mem_cons_self ..))]; exact hj)]
  | c :: r, hl, i + 1, j, b, h, hj => by
    have hc := c.lenW (hl c (List.mem_cons_self ..))
    show (c.cells ++ flatW r)[(i + 1) * 67 + j]? = _
    rw [List.getElem?_append_right (by rw [hc]; omega), hc, show (i + 1) * 67 + j - 67 = i * 67 + j by omega]
    exact flatW_at (fun d hd => hl d (List.mem_cons_of_mem _ hd)) i j b (by simpa using h) hj
/-- A list of writings in memory of its own. -/
def OwnW (w : World) (base : Nat) (v : Value) (os : List Wo) : Prop := (∀ o ∈ os, o.b.length = 64) ∧ w.ownsRow base 49 67 v os.length (flatW os)
theorem OwnW.empty (w : World) (base : Nat) : OwnW w base (.slice none 0 0) [] := ⟨fun b hb => (by cases hb), rfl, Or.inl ⟨rfl, rfl⟩⟩
theorem OwnW.off {F : Nat → Prop} {w w' : World} {base : Nat} {v : Value} {os : List Wo} (h : OwnW w base v os) (ho : Off F w w') (hF : ∀ g cs, Row w g cs 49 → ¬ F g) : OwnW w' base v os := by
  obtain ⟨h0, h⟩ := h
  have hl := World.ownsRow.lt h
  obtain ⟨h1, h2⟩ := h
  refine ⟨h0, h1, ?_⟩
  rcases h2 with h2 | ⟨g, cap, cur, rfl, hb', hc, rest⟩
  · exact Or.inl h2
  · have := hl g (by simp [Value.ownBlock])
    exact Or.inr ⟨g, cap, cur, rfl, hb', (ho.block g this.2 (hF g cur hc)).trans hc, rest⟩
theorem OwnW.keep {w w' : World} {base : Nat} {v : Value} {os : List Wo} (h : OwnW w base v os) (hb : Below w.heap.size w w') : OwnW w' base v os := h.off (F := fun _ => False) (Off.of_below hb) (fun _ _ _ q => q)
theorem OwnW.form {w : World} {base : Nat} {v : Value} {os : List Wo} (h : OwnW w base v os) : ∃ oa cap, v = .slice oa os.length cap ∧ ∀ i o, os[i]? = some o → ∃ g, oa = some ⟨g, 0, none⟩ ∧ ∀ j u, o.cells[j]? = some u → w.cell? ((⟨g, i * 67, none⟩ : Addr).add j) = some u := by
  obtain ⟨h0, h⟩ := h
  have hc := fun g hg => World.ownsRow.cells h (g := g) hg
  rcases h.2 with ⟨rfl, h2⟩ | ⟨g, cap, cur, rfl, _⟩
  · refine ⟨Option.none, 0, by rw [h2], fun i b hb => ?_⟩
    rw [List.eq_nil_of_length_eq_zero h2] at hb; simp at hb
  · refine ⟨_, cap, rfl, fun i b hb => ⟨g, rfl, fun j u hj => ?_⟩⟩
    have hj64 : j < 67 := by have := (List.getElem?_eq_some_iff.1 hj).1; rw [b.lenW (h0 b (List.mem_of_getElem? hb))] at this; exact this
    have := hc g rfl (i * 67 + j) u (by rw [flatW_at h0 i j b hb hj64]; exact hj)
    rw [Addr.add_mid, Nat.zero_add] at this
    rw [Addr.add_mid]; exact this
theorem OwnW.lt {w : World} {base : Nat} {v : Value} {os : List Wo} (h : OwnW w base v os) : ∀ k, v.ownBlock = some k → base ≤ k := fun k hk => (World.ownsRow.lt h.2 k hk).1
theorem OwnW.row {w : World} {base : Nat} {v : Value} {os : List Wo} (h : OwnW w base v os) : ∀ k, v.ownBlock = some k → ∃ cs, Row w k cs 49 := fun k hk => by
  rcases h.2.2 with ⟨rfl, h2⟩ | ⟨g, cap, cur, rfl, hb', hc, rest⟩
  · simp [Value.ownBlock] at hk
  · simp [Value.ownBlock] at hk; subst hk; exact ⟨cur, hc⟩
theorem OwnW.snoc {w : World} {base : Nat} {v : Value} {os : List Wo} (h : OwnW w base v os) (ty : TypeId) (X : Nat) (o : Wo) (ho : o.b.length = 64) (hX : Row w X o.cells.toArray 49) (hb : base ≤ w.heap.size) (hn : os.length ≤ 1000) :
    ∃ v' w', (Builtin.append_ #[37, 37] ty #[v, .slice (some ⟨X, 0, Option.none⟩) 1 1]).run Try.prog w = .ok v' w' ∧ OwnW w' base v' (os ++ [o]) ∧ w.grownBy w' v.ownBlock := by
  obtain ⟨h0, h⟩ := h
  obtain ⟨i, hi, hz, hs, hby⟩ := info_parts info49
  obtain ⟨v', w', hr, h2, h3, h4, h5⟩ := run_append_own_at (P := Try.prog) w base 37 ty 49 i _ 67 96 Try.underlying37 hi hz hs hby zW_size (by decide) v os.length (flatW os) h ⟨X, 0, Option.none⟩ 1 1 o.cells (by rw [o.lenW ho]) (fun j u hj => by rw [Addr.add_mid, Nat.zero_add, cell_of_row w X j _ _ _ hX, ← hj, List.getElem?_toArray]) (fun u hu => o.oneL u hu) (by unfold maxLen; omega) (by omega) hb
  refine ⟨v', w', hr, ⟨fun c hc => ?_, ?_⟩, h3⟩
  · rcases List.mem_append.1 hc with q | q
    · exact h0 c q
    · simp at q; subst q; exact ho
  · rw [flatW_append, List.length_append]
    have e : flatW [o] = o.cells := by simp [flatW]
    rw [e]
    exact h2
theorem wpList_wo_one {ops : Array Oper} {rest : List Oper} {o : Oper} {a : Act} {w : World} {Q : Exit → Act → World → Prop} (hg : o.guard = none) (x : Operand) (ho : o.op = .buildSlice 37 1 #[(0, x)]) (b : List Value) (hb : b.length = 67) (hx : a.eval x = .agg b.toArray)
    (h : wpList Try.prog ops Q rest (a.put o.dst (.slice (some ⟨w.heap.size, 0, Option.none⟩) 1 1)) (w.alloc (.cells b.toArray 49))) : wpList Try.prog ops Q (o :: rest) a w := by
  obtain ⟨i, hi, hz, hs, _⟩ := info_parts info49
  refine wpList_buildSlice hg 37 49 1 _ ho b.toArray i _ Try.underlying37 hi hz (by rw [hs]; decide) (by rw [hs]; decide) ?_ h
  have e1 : (#[(0, x)].map fun (i, x) => (i, a.eval x)).toList = [(0, .agg b.toArray)] := by simp [hx]
  rw [e1, fill_step _ _ 0 (.agg b.toArray) _ 0 67 (by simp [hs]) (by show b.toArray.size = 67; rw [List.size_toArray, hb]) (by simp [hs])]
  unfold Instr.fill
  congr 1
  show (⟨splice _ 0 b⟩ : Array Value) = b.toArray
  unfold splice
  rw [List.take_zero, List.nil_append, hb, List.drop_of_length_le (by simp [hs]), List.append_nil]
/-- The document's set in memory. -/
structure DAt (w : World) (r base : Nat) (v : Value) (os : List Wo) : Prop where
  row : Row w r #[v] 39
  own : OwnW w base v os
  ok : ∀ o ∈ os, o.Ok
  few : os.length ≤ 100
theorem DAt.off {F : Nat → Prop} {w w' : World} {r base : Nat} {v : Value} {os : List Wo} (d : DAt w r base v os) (ho : Off F w w') (hr : ¬ F r) (hF : ∀ g cs, Row w g cs 49 → ¬ F g) : DAt w' r base v os := { d with row := d.row.off ho hr, own := d.own.off ho hF }
theorem DAt.below {w w' : World} {r base : Nat} {v : Value} {os : List Wo} (d : DAt w r base v os) (hb : Below w.heap.size w w') : DAt w' r base v os := d.off (F := fun _ => False) (Off.of_below hb) (fun q => q) (fun _ _ _ q => q)
/-- Whether a page was written. -/
def hasW (os : List Wo) (p : Int) : Bool := os.any fun o => decide (o.pg = p)
theorem hasW_false {os : List Wo} {p : Int} (h : ∀ (i : Nat) (o : Wo), os[i]? = some o → ¬ o.pg = p) : hasW os p = false := by
  unfold hasW
  rw [List.any_eq_false]
  intro o ho
  obtain ⟨i, hi, e⟩ := List.getElem_of_mem ho
  simpa using h i o (by rw [← e]; simp)
theorem hasW_true {os : List Wo} {p : Int} {i : Nat} {o : Wo} (h : os[i]? = some o) (e : o.pg = p) : hasW os p = true := List.any_eq_true.2 ⟨o, List.mem_of_getElem? h, by simpa using e⟩
set_option maxHeartbeats 1000000 in
theorem whas_any {w : World} {r base : Nat} {v : Value} {os : List Wo} (d : DAt w r base v os) (p : Int) :
    Calls Try.prog 31 #[.pointer (some ⟨r, 0, none⟩), .int .u16 p] w fun e w' => e = .returned (.bool (hasW os p)) ∧ Below w.heap.size w w' := by
  obtain ⟨oa, cap, rfl, hc⟩ := d.own.form
  have HC : Hid _ := hc
  have HOK : Hid (∀ o ∈ os, o.Ok) := d.ok
  have hfew := d.few
  have c0 := row_at d.row 0 _ rfl
  obtain ⟨n, HN⟩ : ∃ n, Hid (os.length = n) := ⟨_, rfl⟩
  rw [HN.out] at c0 hfew
  have hz := zero49
  obtain ⟨ZA, HZA⟩ : ∃ ZA, Hid (zW = ZA) := ⟨_, rfl⟩
  have HZS : Hid (ZA.size = 67) := by show _ = _; rw [← HZA.out]; exact zW_size
  rw [HZA.out] at hz
  clear hc d
  go_enter Try.func31, Try.ntmps31
  go_wp2
  go_loopw [12] (fun d wr => ∃ k : Nat, d = .int .i64 k ∧ k ≤ n ∧ Below w.heap.size w wr ∧ Hid (∀ (i : Nat) (o : Wo), i < k → os[i]? = some o → ¬ o.pg = p)) (fun d _ => n - (intOf d).toNat)
  case atStart => exact ⟨0, rfl, by omega, Below.refl _ _, fun i o hi => absurd hi (by omega)⟩
  case round =>
    obtain ⟨k, rfl, hk, rb, HNO⟩ := hrel
    by_cases hkn : k < n
    · have hkn' : (k : Int) < (n : Int) := by omega
      obtain ⟨x, hx⟩ : ∃ x, os[k]? = some x := ⟨os[k]'(by rw [HN.out]; exact hkn), List.getElem?_eq_getElem (by rw [HN.out]; exact hkn)⟩
      obtain ⟨g, rfl, hcell⟩ := HC.out k x hx
      have HO : Hid x.Ok := HOK.out x (List.mem_of_getElem? hx)
      have hcw : ∀ j u, x.cells[j]? = some u → wr.cell? ((⟨g, k * 67, none⟩ : Addr).add j) = some u := fun j u hj => cell_keep (hcell j u hj) rb
      have HXL : Hid (x.cells.length = 67) := x.lenW HO.out.2.1
      have HX1 : Hid (x.cells.toArray.all (·.oneCell') = true) := x.oneW
      have hc0 := x.c0
      obtain ⟨XL, HXA⟩ : ∃ XL, Hid (x.cells = XL) := ⟨_, rfl⟩
      rw [HXA.out] at hcw HXL HX1 hc0
      clear hcell
      have z0 : Row (wr.alloc (.cells ZA 49)) wr.heap.size ZA 49 := Row.new _ _ _
      have rO := z0.set XL.toArray
      have d0 : ((wr.alloc (.cells ZA 49)).setRow wr.heap.size XL.toArray).cell? ⟨wr.heap.size, 0, none⟩ = some (.int .u16 x.pg) := row_at rO 0 _ (by rw [List.getElem?_toArray]; exact hc0)
      have b1 : Below wr.heap.size wr ((wr.alloc (.cells ZA 49)).setRow wr.heap.size XL.toArray) := below_setRow ((Below.refl _ _).alloc (Nat.le_refl _) _) (Nat.le_refl _) _
      have b2 := rb.trans (b1.mono rb.size)
      clear hc0
      have ts : Hid (1 = 1) := rfl
      have tl : Hid (1 = 1) := rfl
      by_cases hp : x.pg = p
      · have hT : hasW os p = true := hasW_true hx hp
        rw [hp] at d0
        go_wp2_with (first
          | (have hh := tl; clear hh tl; refine wpList_load_any rfl 49 (.tmp 14) rfl ⟨g, k * 67, none⟩ rfl XL _ hcw Try.underlying49 rfl (by rw [size49, HXL.out]) ?_)
          | (have hh := ts; clear hh ts; refine store_cells rfl 49 (.tmp 6) (.tmp 15) rfl wr.heap.size XL.toArray rfl rfl 49 _ z0 67 size49 HZS.out (by rw [List.size_toArray]; exact HXL.out) HX1.out ?_))
        go_ret
        exact ⟨by first | rfl | (rw [hT]; rfl), b2⟩
      · have hp' : ¬ x.pg = p := hp
        go_wp2_with (first
          | (have hh := tl; clear hh tl; refine wpList_load_any rfl 49 (.tmp 14) rfl ⟨g, k * 67, none⟩ rfl XL _ hcw Try.underlying49 rfl (by rw [size49, HXL.out]) ?_)
          | (have hh := ts; clear hh ts; refine store_cells rfl 49 (.tmp 6) (.tmp 15) rfl wr.heap.size XL.toArray rfl rfl 49 _ z0 67 size49 HZS.out (by rw [List.size_toArray]; exact HXL.out) HX1.out ?_))
        go_roundw
        case rel => exact ⟨k + 1, by go_num, by omega, b2, fun i o hi ho => by
          by_cases z : i = k
          · subst z; rw [hx] at ho; simp at ho; subst ho; exact hp
          · exact HNO.out i o (by omega) ho⟩
        case measure => simp [intOf]; omega
    · have e : k = n := by omega
      subst e
      have hkn' : ¬ (k : Int) < (k : Int) := by omega
      have hF : hasW os p = false := hasW_false (fun i o hi => HNO.out i o (by have := (List.getElem?_eq_some_iff.1 hi).1; have := HN.out; omega) hi)
      go_wp2
      go_ret
      exact ⟨by first | rfl | (rw [hF]; rfl), rb⟩
end Go.Proofs.Ytmnbfcmamhinbab.Ws
