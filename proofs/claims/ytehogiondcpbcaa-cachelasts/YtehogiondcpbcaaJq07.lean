/-
  A clock as the document tells it, and as it lies in memory; what its small calls do. Proved here: what clock.Clear does. Proved here: what clock.New makes, and which frame clock.Victim gives up. Proved here: which frame clock.Victim gives up.
-/
import Derived.Test.YtehogiondcpbcaaJq06
namespace Go.Proofs.Ytehogiondcpbcaa.Cl
open Go.ChangeShapes Go.WideShapes Go.ChangeAt Go.RowKit
set_option linter.unusedVariables false
set_option linter.unusedSimpArgs false
set_option maxRecDepth 20000
def fcell (x : Fr) : List Value := [.bool x.seen, .bool x.cold, .int .i64 x.pins]
def fcells (fs : List Fr) : List Value := fs.flatMap fcell
theorem fcells_cons (x : Fr) (fs : List Fr) : fcells (x :: fs) = fcell x ++ fcells fs := rfl
theorem fcells_length (fs : List Fr) : (fcells fs).length = fs.length * 3 := by
  induction fs with
  | nil => rfl
  | cons x r ih => rw [fcells_cons, List.length_append, ih]; simp [fcell]; omega
theorem fcells_at {fs : List Fr} {i : Nat} {x : Fr} (h : fs[i]? = some x) (j : Nat) (hj : j < 3) : (fcells fs)[i * 3 + j]? = (fcell x)[j]? := by
  induction fs generalizing i with
  | nil => simp at h
  | cons y r ih =>
    rw [fcells_cons]
    cases i with
    | zero =>
      simp at h
      subst h
      rw [List.getElem?_append_left (by simp [fcell]; omega)]
      simp
    | succ k =>
      rw [List.getElem?_append_right (by simp [fcell]; omega)]
      rw [show (k + 1) * 3 + j - (fcell y).length = k * 3 + j by simp [fcell]; omega]
      exact ih (by simpa using h)
theorem fcells_set {fs : List Fr} {i : Nat} {x y : Fr} (h : fs[i]? = some x) (j : Nat) (hj : j < 3) (v : Value) (e : (fcell x).set j v = fcell y) : (fcells fs).set (i * 3 + j) v = fcells (fs.set i y) := by
  induction fs generalizing i with
  | nil => simp at h
  | cons z r ih =>
    rw [fcells_cons]
    cases i with
    | zero =>
      simp at h
      subst h
      rw [List.set_append_left _ _ (by simp [fcell]; omega), List.set_cons_zero, fcells_cons, ← e]
      simp
    | succ k =>
      rw [List.set_append_right _ _ (by simp [fcell]; omega)]
      rw [show (k + 1) * 3 + j - (fcell z).length = k * 3 + j by simp [fcell]; omega]
      rw [List.set_cons_succ, fcells_cons, ih (by simpa using h)]
structure CAt (w : World) (g a : Nat) (fs : List Fr) (h : Nat) (M : Int) : Prop where
  row : Row w g #[.slice (some ⟨a, 0, none⟩) fs.length fs.length, .int .i64 h] 161
  arr : Row w a (fcells fs).toArray 158
  ne : g ≠ a
  hand : h < fs.length
  small : fs.length ≤ 64
  nos : ∀ (j : Nat) (x : Fr), fs[j]? = some x → x.no = j
  pins : ∀ x ∈ fs, 0 ≤ x.pins ∧ x.pins ≤ M
  big : M < 1000000000000
def two (g a : Nat) (k : Nat) : Prop := k = g ∨ k = a
theorem CAt.at {w : World} {g a : Nat} {fs : List Fr} {h : Nat} {M : Int} (c : CAt w g a fs h M) {i : Nat} {x : Fr} (hx : fs[i]? = some x) (j : Nat) (hj : j < 3) (v : Value) (hv : (fcell x)[j]? = some v) : w.cell? ⟨a, i * 3 + j, none⟩ = some v := by
  refine row_at c.arr _ _ ?_
  have := fcells_at hx j hj
  rw [hv] at this
  simpa using this
theorem CAt.off {F : Nat → Prop} {w w' : World} {g a : Nat} {fs : List Fr} {h : Nat} {M : Int} (c : CAt w g a fs h M) (ho : Off F w w') (hF : ∀ k, two g a k → ¬ F k) : CAt w' g a fs h M :=
  { c with row := c.row.off ho (hF _ (Or.inl rfl)), arr := c.arr.off ho (hF _ (Or.inr rfl)) }
theorem CAt.below {w w' : World} {g a : Nat} {fs : List Fr} {h : Nat} {M : Int} (c : CAt w g a fs h M) (hb : Below w.heap.size w w') : CAt w' g a fs h M :=
  c.off (F := fun _ => False) (Off.of_below hb) fun _ _ q => q
theorem CAt.lt {w : World} {g a : Nat} {fs : List Fr} {h : Nat} {M : Int} (c : CAt w g a fs h M) {k : Nat} (hk : two g a k) : k < w.heap.size := by
  rcases hk with rfl | rfl
  · exact c.row.lt
  · exact c.arr.lt
theorem CAt.turn {w : World} {g a : Nat} {fs : List Fr} {h : Nat} {M M' : Int} (c : CAt w g a fs h M) {i : Nat} {x y : Fr} (hx : fs[i]? = some x) (j : Nat) (hj : j < 3) (v : Value) (e : (fcell x).set j v = fcell y) (hn : y.no = x.no) (hM : M ≤ M') (hb : M' < 1000000000000) (hp : 0 ≤ y.pins ∧ y.pins ≤ M') :
    CAt (w.setCell ⟨a, i * 3 + j, none⟩ v) g a (fs.set i y) h M' where
  row := by rw [List.length_set]; exact row_setCell_other c.row c.ne _ _
  arr := by
    have := row_set c.arr (i * 3 + j) v
    rw [List.setIfInBounds_toArray, fcells_set hx j hj v e] at this
    exact this
  ne := c.ne
  hand := by rw [List.length_set]; exact c.hand
  small := by rw [List.length_set]; exact c.small
  nos := fun k z hz => by
    rw [List.getElem?_set] at hz
    split at hz
    · rename_i q
      subst q
      split at hz
      · simp at hz
        subst hz
        rw [hn]; exact c.nos _ _ hx
      · simp at hz
    · exact c.nos _ _ hz
  pins := fun z hz => by
    rcases List.mem_or_eq_of_mem_set hz with q | q
    · have := c.pins z q; omega
    · rw [q]; exact hp
  big := hb
theorem CAt.setHand {w : World} {g a : Nat} {fs : List Fr} {h : Nat} {M : Int} (c : CAt w g a fs h M) (h' : Nat) (hh : h' < fs.length) : CAt (w.setCell ⟨g, 1, none⟩ (.int .i64 h')) g a fs h' M :=
  { c with
    row := row_set c.row 1 _
    arr := row_setCell_other c.arr (fun e => c.ne e.symm) _ _
    hand := hh }
theorem CAt.ex {w : World} {g a : Nat} {fs : List Fr} {h : Nat} {M : Int} (c : CAt w g a fs h M) {i : Nat} (hi : i < fs.length) : ∃ x, fs[i]? = some x := ⟨fs[i], List.getElem?_eq_getElem hi⟩
theorem has_any {w : World} {g a : Nat} {fs : List Fr} {h : Nat} {M : Int} (c : CAt w g a fs h M) (i : Int) :
    Calls Try.prog 80 #[.pointer (some ⟨g, 0, none⟩), .int .i64 i] w fun e w' => e = .returned (.bool (decide (0 ≤ i ∧ i < fs.length))) ∧ w' = w := by
  have c0 := row_at c.row 0 _ rfl
  by_cases h0 : 0 ≤ i
  · have e : decide (0 ≤ i ∧ i < (fs.length : Int)) = decide (i < (fs.length : Int)) := by simp [h0]
    rw [e]
    go_enter Try.func80, Try.ntmps80
    go_wp2
    go_ret
    exact ⟨rfl, rfl⟩
  · have e : decide (0 ≤ i ∧ i < (fs.length : Int)) = false := by simp [h0]
    rw [e]
    go_enter Try.func80, Try.ntmps80
    go_wp2
    go_ret
    exact ⟨rfl, rfl⟩
theorem touch_in {w : World} {g a : Nat} {fs : List Fr} {h : Nat} {M : Int} (c : CAt w g a fs h M) (i : Nat) (x : Fr) (hx : fs[i]? = some x) :
    Calls Try.prog 47 #[.pointer (some ⟨g, 0, none⟩), .int .i64 i] w fun e w' => e = .returned (.tuple #[]) ∧ CAt w' g a (fs.set i { x with seen := true }) h (M) ∧ Off (two g a) w w' := by
  have hi := (List.getElem?_eq_some_iff.1 hx).1
  have c0 := row_at c.row 0 _ rfl
  have hh := has_any c i
  rw [decide_eq_true (⟨by omega, by omega⟩)] at hh
  have c1 := c.at hx 0 (by omega) _ rfl
  have c2 := c.at hx 1 (by omega) _ rfl
  have c3 := c.at hx 2 (by omega) _ rfl
  have f1 := row_frozen c.arr (i * 3 + 0)
  have hpb := c.pins x (List.mem_of_getElem? hx)
  have hbg := c.big
  have hn := c.turn (M' := M) (y := { x with seen := true }) hx 0 (by omega) (.bool true) rfl rfl (by omega) (c.big) (c.pins x (List.mem_of_getElem? hx))
  have ho := Off.of_setCell (F := two g a) w ⟨a, i * 3 + 0, none⟩ (.bool true) (Or.inr rfl)
  clear hpb hbg
  simp only [Nat.add_zero] at c1 f1 hn ho
  go_enter Try.func47, Try.ntmps47
  go_wp2_with (go_at_call 80; refine hh.mono ?_; rintro e w' ⟨rfl, rfl⟩)
  first
    | (go_end0; exact ⟨rfl, hn, ho⟩)
    | (refine bodyPost_ret (results_none rfl _ _ _) rfl ?_; exact ⟨rfl, hn, ho⟩)
theorem cold_in {w : World} {g a : Nat} {fs : List Fr} {h : Nat} {M : Int} (c : CAt w g a fs h M) (i : Nat) (x : Fr) (hx : fs[i]? = some x) (b : Bool) :
    Calls Try.prog 69 #[.pointer (some ⟨g, 0, none⟩), .int .i64 i, .bool b] w fun e w' => e = .returned (.tuple #[]) ∧ CAt w' g a (fs.set i { x with cold := b }) h (M) ∧ Off (two g a) w w' := by
  have hi := (List.getElem?_eq_some_iff.1 hx).1
  have c0 := row_at c.row 0 _ rfl
  have hh := has_any c i
  rw [decide_eq_true (⟨by omega, by omega⟩)] at hh
  have c1 := c.at hx 0 (by omega) _ rfl
  have c2 := c.at hx 1 (by omega) _ rfl
  have c3 := c.at hx 2 (by omega) _ rfl
  have f1 := row_frozen c.arr (i * 3 + 1)
  have hpb := c.pins x (List.mem_of_getElem? hx)
  have hbg := c.big
  have hn := c.turn (M' := M) (y := { x with cold := b }) hx 1 (by omega) (.bool b) rfl rfl (by omega) (c.big) (c.pins x (List.mem_of_getElem? hx))
  have ho := Off.of_setCell (F := two g a) w ⟨a, i * 3 + 1, none⟩ (.bool b) (Or.inr rfl)
  clear hpb hbg
  go_enter Try.func69, Try.ntmps69
  go_wp2_with (go_at_call 80; refine hh.mono ?_; rintro e w' ⟨rfl, rfl⟩)
  first
    | (go_end0; exact ⟨rfl, hn, ho⟩)
    | (refine bodyPost_ret (results_none rfl _ _ _) rfl ?_; exact ⟨rfl, hn, ho⟩)
theorem pin_in {w : World} {g a : Nat} {fs : List Fr} {h : Nat} {M : Int} (c : CAt w g a fs h M) (i : Nat) (x : Fr) (hx : fs[i]? = some x) (hM : M + 1 < 1000000000000) :
    Calls Try.prog 48 #[.pointer (some ⟨g, 0, none⟩), .int .i64 i] w fun e w' => e = .returned (.tuple #[]) ∧ CAt w' g a (fs.set i { x with pins := x.pins + 1 }) h (M + 1) ∧ Off (two g a) w w' := by
  have hi := (List.getElem?_eq_some_iff.1 hx).1
  have c0 := row_at c.row 0 _ rfl
  have hh := has_any c i
  rw [decide_eq_true (⟨by omega, by omega⟩)] at hh
  have c1 := c.at hx 0 (by omega) _ rfl
  have c2 := c.at hx 1 (by omega) _ rfl
  have c3 := c.at hx 2 (by omega) _ rfl
  have f1 := row_frozen c.arr (i * 3 + 2)
  have hpb := c.pins x (List.mem_of_getElem? hx)
  have hbg := c.big
  have hw : IntKind.i64.wrap (x.pins + 1) = x.pins + 1 := by rw [IntKind.wrap_i64]; omega
  have hn := c.turn (M' := M + 1) (y := { x with pins := x.pins + 1 }) hx 2 (by omega) (.int .i64 (x.pins + 1)) rfl rfl (by omega) (hM) (by show 0 ≤ x.pins + 1 ∧ x.pins + 1 ≤ M + 1; omega)
  have ho := Off.of_setCell (F := two g a) w ⟨a, i * 3 + 2, none⟩ (.int .i64 (x.pins + 1)) (Or.inr rfl)
  clear hpb hbg
  go_enter Try.func48, Try.ntmps48
  go_wp2_with (go_at_call 80; refine hh.mono ?_; rintro e w' ⟨rfl, rfl⟩)
  first
    | (go_end0; exact ⟨rfl, hn, ho⟩)
    | (refine bodyPost_ret (results_none rfl _ _ _) rfl ?_; exact ⟨rfl, hn, ho⟩)
theorem unpin_zero (v : Value) (i : Int) (w : World) (hh : Calls Try.prog 58 #[v, .int .i64 i] w fun e w' => e = .returned (.int .i64 0) ∧ w' = w) :
    Calls Try.prog 57 #[v, .int .i64 i] w fun e w' => e = .returned (.bool false) ∧ w' = w := by
  go_enter Try.func57, Try.ntmps57
  go_wp2_with (go_at_call 58; refine hh.mono ?_; rintro e w' ⟨rfl, rfl⟩)
  go_ret
  exact ⟨rfl, rfl⟩
theorem pins_in {w : World} {g a : Nat} {fs : List Fr} {h : Nat} {M : Int} (c : CAt w g a fs h M) (i : Nat) (x : Fr) (hx : fs[i]? = some x) :
    Calls Try.prog 58 #[.pointer (some ⟨g, 0, none⟩), .int .i64 i] w fun e w' => e = .returned (.int .i64 x.pins) ∧ w' = w := by
  have hi := (List.getElem?_eq_some_iff.1 hx).1
  have c0 := row_at c.row 0 _ rfl
  have hh := has_any c i
  rw [decide_eq_true (⟨by omega, by omega⟩)] at hh
  have c3 := c.at hx 2 (by omega) _ rfl
  go_enter Try.func58, Try.ntmps58
  go_wp2_with (go_at_call 80; refine hh.mono ?_; rintro e w' ⟨rfl, rfl⟩)
  go_ret
  exact ⟨rfl, rfl⟩
theorem unpin_in {w : World} {g a : Nat} {fs : List Fr} {h : Nat} {M : Int} (c : CAt w g a fs h M) (i : Nat) (x : Fr) (hx : fs[i]? = some x) (h0 : ¬ x.pins = 0) :
    Calls Try.prog 57 #[.pointer (some ⟨g, 0, none⟩), .int .i64 i] w fun e w' => e = .returned (.bool true) ∧ CAt w' g a (fs.set i { x with pins := x.pins - 1 }) h M ∧ Off (two g a) w w' := by
  have hi := (List.getElem?_eq_some_iff.1 hx).1
  have c0 := row_at c.row 0 _ rfl
  have hh := pins_in c i x hx
  have c3 := c.at hx 2 (by omega) _ rfl
  have f1 := row_frozen c.arr (i * 3 + 2)
  have hpb := c.pins x (List.mem_of_getElem? hx)
  have hbg := c.big
  have hw : IntKind.i64.wrap (x.pins - 1) = x.pins - 1 := by rw [IntKind.wrap_i64]; omega
  have hn := c.turn (M' := M) (y := { x with pins := x.pins - 1 }) hx 2 (by omega) (.int .i64 (x.pins - 1)) rfl rfl (by omega) c.big (by show 0 ≤ x.pins - 1 ∧ x.pins - 1 ≤ M; omega)
  have ho := Off.of_setCell (F := two g a) w ⟨a, i * 3 + 2, none⟩ (.int .i64 (x.pins - 1)) (Or.inr rfl)
  clear hpb hbg
  go_enter Try.func57, Try.ntmps57
  go_wp2_with (go_at_call 58; refine hh.mono ?_; rintro e w' ⟨rfl, rfl⟩)
  go_ret
  exact ⟨rfl, hn, ho⟩
theorem behind_any {w : World} {g a : Nat} {fs : List Fr} {h : Nat} {M : Int} (c : CAt w g a fs h M) (i : Nat) (hi : i < fs.length) :
    Calls Try.prog 106 #[.pointer (some ⟨g, 0, none⟩), .int .i64 i] w fun e w' => e = .returned (.int .i64 (nxt fs.length i)) ∧ w' = w := by
  have c0 := row_at c.row 0 _ rfl
  have hs := c.small
  have hl : (0 : Int) < fs.length := by omega
  have hw : IntKind.i64.wrap ((i : Int) + 1) = (i : Int) + 1 := by rw [IntKind.wrap_i64]; omega
  have hm : ((i : Int) + 1).tmod (fs.length : Int) = (nxt fs.length i : Nat) := by
    rw [Int.tmod_eq_emod_of_nonneg (by omega)]
    unfold nxt
    push_cast
    rfl
  have hw2 : IntKind.i64.wrap ((nxt fs.length i : Nat) : Int) = (nxt fs.length i : Nat) := by
    have : nxt fs.length i < fs.length := Nat.mod_lt _ (by omega)
    rw [IntKind.wrap_i64]; omega
  go_enter Try.func106, Try.ntmps106
  go_wp2
  go_ret
  exact ⟨rfl, rfl⟩
theorem used_any {w : World} {g a : Nat} {fs : List Fr} {h : Nat} {M : Int} (c : CAt w g a fs h M) (i : Nat) (x : Fr) (hx : fs[i]? = some x) :
    Calls Try.prog 107 #[.pointer (some ⟨g, 0, none⟩), .int .i64 i] w fun e w' => e = .returned (.bool x.seen) ∧ CAt w' g a (fs.set i { x with seen := false }) h M ∧ Off (two g a) w w' := by
  have hi := (List.getElem?_eq_some_iff.1 hx).1
  have c0 := row_at c.row 0 _ rfl
  have c1 := c.at hx 0 (by omega) _ rfl
  have f1 := row_frozen c.arr (i * 3 + 0)
  have hn := c.turn (M' := M) (y := { x with seen := false }) hx 0 (by omega) (.bool false) rfl rfl (by omega) c.big (c.pins x (List.mem_of_getElem? hx))
  have ho := Off.of_setCell (F := two g a) w ⟨a, i * 3 + 0, none⟩ (.bool false) (Or.inr rfl)
  simp only [Nat.add_zero] at c1 f1 hn ho
  go_enter Try.func107, Try.ntmps107
  go_wp2
  go_ret
  exact ⟨rfl, hn, ho⟩
end Go.Proofs.Ytehogiondcpbcaa.Cl
namespace Go.Proofs.Ytehogiondcpbcaa.Cl
open Go.ChangeShapes Go.WideShapes Go.ChangeAt Go.RowKit
set_option linter.unusedVariables false
set_option linter.unusedSimpArgs false
set_option maxRecDepth 20000
theorem step_of {P : Program} {ops : Array Oper} {o : Oper} {a : Act} {w : World} {K : Act → World → Prop} {Q : Exit → Act → World → Prop} {E : Prop} (hgd : o.guard = none) (h : Oper.wp P o a w K Q) :
    if Region.wanted o (yielded ops a.tmps) = true then Oper.wp P o a w K Q else E := by
  rw [if_pos (by simp [Region.wanted, hgd])]; exact h
theorem built158 (z : Int) : (Try.prog.built 158 [(2, .int .i64 z)]) = some #[.bool false, .bool false, .int .i64 z] := by kernel_rfl
theorem size158 : (Try.prog.info? 158).map (·.size) = some 3 := by kernel_rfl
theorem CAt.drew {w : World} {g a : Nat} {fs : List Fr} {h : Nat} {M : Int} (c : CAt w g a fs h M) : CAt w.drew g a fs h M := c.below (Below.refl _ _).drew
theorem CAt.there {w : World} {g a : Nat} {fs : List Fr} {h : Nat} {M : Int} (c : CAt w g a fs h M) {i : Nat} {x : Fr} (hx : fs[i]? = some x) : w.there a (i * 3) 3 := fun j hj => by
  have hl : (fcell x)[j]? = some ((fcell x)[j]'(by simpa [fcell] using hj)) := List.getElem?_eq_getElem _
  exact ⟨by rw [c.at hx j hj _ hl]; rfl, row_frozen c.arr _⟩
set_option maxHeartbeats 1000000 in
theorem clear_in {w : World} {g a : Nat} {fs : List Fr} {h : Nat} {M : Int} (c : CAt w g a fs h M) (i : Nat) (x : Fr) (hx : fs[i]? = some x) :
    Calls Try.prog 79 #[.pointer (some ⟨g, 0, none⟩), .int .i64 i] w fun e w' => e = .returned (.tuple #[]) ∧ CAt w' g a (fs.set i { x with seen := false, cold := false }) h M ∧ Off (two g a) w w' := by
  have hi := (List.getElem?_eq_some_iff.1 hx).1
  have hi' : (i : Int) < fs.length := by omega
  have hh := has_any c i
  rw [decide_eq_true (⟨by omega, by omega⟩)] at hh
  go_enter Try.func79, Try.ntmps79
  go_upto_region 1 with (go_at_call 80; refine hh.mono ?_; rintro e wa ⟨he, hww⟩; rw [hww]; clear hww wa; obtain rfl := he)
  have cd := c.drew
  refine wp_region_held_drew (S := fun w' => Row w' g #[.slice (some ⟨a, 0, none⟩) fs.length fs.length, .int .i64 h] 161 ∧ w'.cell? ⟨a, i * 3 + 2, none⟩ = some (.int .i64 x.pins)) (by kernel_rfl) ⟨cd.row, cd.at hx 2 (by omega) _ rfl⟩ fun hS => ?_
  refine tkI (i := 0) (v := .pointer (some ⟨g, 0, none⟩)) rfl (Or.inl ⟨by rfl, fun w _ => by rfl⟩) hS ?_
  try simp only [Act.put, nz]
  refine tkI (i := 1) (v := .pointer (some ⟨g, 0, none⟩)) rfl (Or.inl ⟨by rfl, fun w _ => by go_simp⟩) hS ?_
  try simp only [Act.put, nz]
  refine tkI (i := 2) (v := .pointer (some ⟨g, 0, none⟩)) rfl (Or.inl ⟨by rfl, fun w _ => by go_simp⟩) hS ?_
  try simp only [Act.put, nz]
  refine tkI (i := 3) (v := .slice (some ⟨a, 0, none⟩) fs.length fs.length) rfl (Or.inl ⟨by rfl, fun w h => by have c := row_at h.1 0 _ rfl; go_simp⟩) hS ?_
  try simp only [Act.put, nz]
  refine tkI (i := 4) (v := .int .i64 (i : Nat)) rfl (Or.inl ⟨by rfl, fun w _ => by rfl⟩) hS ?_
  try simp only [Act.put, nz]
  refine tkI (i := 5) (v := .pointer (some ⟨g, 0, none⟩)) rfl (Or.inl ⟨by rfl, fun w _ => by rfl⟩) hS ?_
  try simp only [Act.put, nz]
  refine tkI (i := 6) (v := .pointer (some ⟨g, 0, none⟩)) rfl (Or.inl ⟨by rfl, fun w _ => by go_simp⟩) hS ?_
  try simp only [Act.put, nz]
  refine tkI (i := 7) (v := .pointer (some ⟨g, 0, none⟩)) rfl (Or.inl ⟨by rfl, fun w _ => by go_simp⟩) hS ?_
  try simp only [Act.put, nz]
  refine tkI (i := 8) (v := .slice (some ⟨a, 0, none⟩) fs.length fs.length) rfl (Or.inl ⟨by rfl, fun w h => by have c := row_at h.1 0 _ rfl; go_simp⟩) hS ?_
  try simp only [Act.put, nz]
  refine tkI (i := 9) (v := .int .i64 (i : Nat)) rfl (Or.inl ⟨by rfl, fun w _ => by rfl⟩) hS ?_
  try simp only [Act.put, nz]
  refine tkI (i := 10) (v := .pointer (some ⟨a, i * 3, none⟩)) rfl (Or.inl ⟨by rfl, fun w _ => by go_simp⟩) hS ?_
  try simp only [Act.put, nz]
  refine tkI (i := 11) (v := .pointer (some ⟨a, i * 3 + 2, none⟩)) rfl (Or.inl ⟨by rfl, fun w _ => by go_simp⟩) hS ?_
  try simp only [Act.put, nz]
  refine tkI (i := 12) (v := .int .i64 x.pins) rfl (Or.inl ⟨by rfl, fun w h => by have c := h.2; go_simp⟩) hS ?_
  try simp only [Act.put, nz]
  refine tkI (i := 13) (v := .agg #[.bool false, .bool false, .int .i64 x.pins]) rfl (yields_build (by rfl) 158 #[(2, .tmp 19)] rfl [(2, .int .i64 x.pins)] (by rfl) _ (built158 _)) hS ?_
  try simp only [Act.put, nz]
  refine tkI (i := 14) (v := .pointer (some ⟨a, i * 3, none⟩)) rfl (Or.inl ⟨by rfl, fun w _ => by go_simp⟩) hS ?_
  try simp only [Act.put, nz]
  refine wpAnyH_ready (rs := [15]) (by kernel_rfl) (by simp) ?_
  have hp := c.pins x (List.mem_of_getElem? hx)
  have t1 := cd.turn (M' := M) (y := { x with seen := false }) hx 0 (by omega) (.bool false) rfl rfl (by omega) c.big hp
  have t2 := t1.turn (M' := M) (i := i) (x := { x with seen := false }) (y := { x with seen := false, cold := false }) (by simp [hi]) 1 (by omega) (.bool false) rfl rfl (by omega) c.big hp
  have t3 := t2.turn (M' := M) (i := i) (x := { x with seen := false, cold := false }) (y := { x with seen := false, cold := false }) (by simp [hi]) 2 (by omega) (.int .i64 x.pins) rfl rfl (by omega) c.big hp
  rw [List.set_set, List.set_set] at t3
  have o3 : Off (two g a) w (((w.drew.setCell ⟨a, i * 3, none⟩ (.bool false)).setCell ⟨a, i * 3 + 1, none⟩ (.bool false)).setCell ⟨a, i * 3 + 2, none⟩ (.int .i64 x.pins)) :=
    (((Off.refl (two g a) w).drew.trans (Off.of_setCell (F := two g a) _ _ _ (Or.inr rfl)) (fun _ q => Or.inl q)).trans (Off.of_setCell (F := two g a) _ _ _ (Or.inr rfl)) (fun _ q => Or.inl q)).trans (Off.of_setCell (F := two g a) _ _ _ (Or.inr rfl)) (fun _ q => Or.inl q)
  refine AllReadyH.cons rfl (fun K hK => step_of rfl (wp_store_mid 158 (.tmp 21) (.tmp 20) rfl a (i * 3) #[.bool false, .bool false, .int .i64 x.pins] rfl rfl (cd.there hx) size158 (by simp [Value.oneCell']) (hK.out _ _ ⟨by have := t3.row; rwa [List.length_set] at this, t3.at (x := { x with seen := false, cold := false }) (by simp [hi]) 2 (by omega) _ rfl⟩ fun hS => ?_))) AllReadyH.nil
  try simp only [Act.put, nz]
  refine wpAnyH_done (by kernel_rfl) ?_ _
  go_wp2
  first
    | (go_end0; exact ⟨rfl, t3, o3⟩)
    | (refine bodyPost_ret (results_none rfl _ _ _) rfl ?_; exact ⟨rfl, t3, o3⟩)
end Go.Proofs.Ytehogiondcpbcaa.Cl
namespace Go.Proofs.Ytehogiondcpbcaa.Cl
open Go.ChangeShapes Go.WideShapes Go.ChangeAt Go.RowKit
set_option linter.unusedVariables false
set_option linter.unusedSimpArgs false
set_option maxRecDepth 20000
def newF (n : Nat) : List Fr := (List.range n).map fun j => ⟨j, false, false, 0⟩
theorem newF_length (n : Nat) : (newF n).length = n := by simp [newF]
theorem info158 : (Try.prog.info? 158).map (fun i => (i.zero, i.size, i.bytes)) = some (some (.agg #[.bool false, .bool false, .int .i64 0]), 3, 16) := by kernel_rfl
theorem made_fcells (n : Nat) : (madeCells #[.bool false, .bool false, .int .i64 0] (n * 3)).toList = fcells (newF n) := by
  apply List.ext_getElem?
  intro m
  by_cases hm : m < n * 3
  · have e : m = m / 3 * 3 + m % 3 := by omega
    have hx : (newF n)[m / 3]? = some ⟨m / 3, false, false, 0⟩ := by unfold newF; rw [List.getElem?_map, List.getElem?_range (by omega)]; rfl
    have h2 := fcells_at hx (m % 3) (by omega)
    rw [← e] at h2
    rw [h2]
    have h3 : m % 3 = 0 ∨ m % 3 = 1 ∨ m % 3 = 2 := by omega
    simp [madeCells, hm]
    rcases h3 with h3 | h3 | h3 <;> rw [h3] <;> rfl
  · rw [List.getElem?_eq_none (by simp [madeCells]; omega), List.getElem?_eq_none (by rw [fcells_length, newF_length]; omega)]
def Newed (w : World) (n : Nat) (e : Ending) (w' : World) : Prop := ∃ g a, e = .returned (.pointer (some ⟨g, 0, none⟩)) ∧ w.heap.size ≤ g ∧ w.heap.size ≤ a ∧ CAt w' g a (newF n) 0 0 ∧ Below w.heap.size w w'
theorem new_some (n : Nat) (h1 : 1 ≤ n) (h2 : n ≤ 64) (w : World) : Calls Try.prog 63 #[.int .i64 n] w fun e w' => Newed w n e w' := by
  obtain ⟨i, hi, hz, hs, hb⟩ := info_parts info158
  have k1 : ¬ (n : Int) < 1 := by omega
  have k2 : ¬ (n : Int) > 64 := by omega
  go_enter Try.func63, Try.ntmps63
  go_wp2_with (at_make; refine wpList_make_full w rfl (.tmp 9) (.tmp 9) 159 rfl w.heap.size 158 i _ 3 Try.underlying159 hi hz hs .i64 .i64 n n n rfl rfl rfl rfl (by rw [hb]; omega) (by unfold maxLen; omega) (Nat.le_refl _) ?_; intro w1 own1 gr1)
  go_ret
  have hlt := own1.lt _ rfl
  have hsz := hlt.2
  have hrow : Row w1 w.heap.size (fcells (newF n)).toArray 158 := by
    rcases own1.2 with ⟨q, _⟩ | ⟨g, cap, cur, q, _, hr, hc1, hc2, hc3, hc4⟩
    · cases q
    · simp only [Value.slice.injEq, Option.some.injEq, Addr.mk.injEq] at q
      obtain ⟨⟨rfl, _⟩, _, rfl⟩ := q
      have e : cur.toList = fcells (newF n) := by
        rw [← made_fcells, ← List.take_of_length_le (l := cur.toList) (i := n * 3) (by rw [Array.length_toList, hc3]; omega), hc4]
        rfl
      unfold Row
      rw [hr, ← e]
  have b1 : Below w.heap.size w w1 := ⟨gr1.os, gr1.tape, gr1.output, gr1.size, fun k hk => gr1.block k hk (by simp)⟩
  refine ⟨w1.heap.size, w.heap.size, rfl, gr1.size, Nat.le_refl _, ?_, b1.alloc b1.size _⟩
  have hl := newF_length n
  exact { row := by rw [hl]; exact Row.new _ _ _, arr := hrow.alloc _, ne := by omega, hand := by omega, small := by omega,
          nos := fun j x hx => by
            unfold newF at hx
            rw [List.getElem?_map] at hx
            by_cases hj : j < n
            · rw [List.getElem?_range hj] at hx; simp at hx; rw [← hx]
            · rw [List.getElem?_eq_none (by simp; omega)] at hx; simp at hx
          pins := fun x hx => by
            unfold newF at hx
            obtain ⟨j, _, rfl⟩ := List.mem_map.1 hx
            exact ⟨Int.le_refl _, Int.le_refl _⟩
          big := by decide }
theorem zero158 (w : World) : (zeroValue 158).run Try.prog w = .ok (.agg #[.bool false, .bool false, .int .i64 0]) w := (zero_of_info (P := Try.prog) (t := 158) (v := .agg #[.bool false, .bool false, .int .i64 0]) (n := 3) (by kernel_rfl)).1 w
theorem CAt.range {w : World} {g a : Nat} {fs : List Fr} {h : Nat} {M : Int} (c : CAt w g a fs h M) {i : Nat} {x : Fr} (hx : fs[i]? = some x) : w.rangeAt a (i * 3) [.bool x.seen, .bool x.cold, .int .i64 x.pins] := fun j v hv => by
  have hj : j < 3 := (List.getElem?_eq_some_iff.1 hv).1
  exact c.at hx j hj v hv
theorem loose_any {w : World} {g a : Nat} {fs : List Fr} {h : Nat} {M : Int} (c : CAt w g a fs h M) :
    Calls Try.prog 104 #[.pointer (some ⟨g, 0, none⟩)] w fun e w' => e = .returned (.bool (fs.any fun y => decide (y.pins = 0))) ∧ Below w.heap.size w w' := by
  have c0 := row_at c.row 0 _ rfl
  have hz := zero158
  obtain ⟨B, HB⟩ : ∃ B, Hid ((fs.any fun y => decide (y.pins = 0)) = B) := ⟨_, rfl⟩
  rw [HB.out]
  have HT : Hid (∀ y ∈ fs, y.pins = 0 → B = true) := fun y hy h0 => by rw [← HB.out]; exact List.any_eq_true.2 ⟨y, hy, by simpa using h0⟩
  have HN : Hid ((∀ y ∈ fs, ¬ y.pins = 0) → B = false) := fun hn => by rw [← HB.out]; exact List.any_eq_false.2 fun y hy => by simpa using hn y hy
  obtain ⟨n, Hn⟩ : ∃ n, Hid (fs.length = n) := ⟨_, rfl⟩
  have hsm := c.small
  rw [Hn.out] at c0 hsm
  go_enter Try.func104, Try.ntmps104
  go_wp2
  go_loopw [10] (fun i wr => ∃ k : Nat, i = .int .i64 k ∧ k ≤ n ∧ Hid (∀ j, j < k → ∀ y, fs[j]? = some y → ¬ y.pins = 0) ∧ CAt wr g a fs h M ∧ Below w.heap.size w wr) (fun i _ => n - (intOf i).toNat)
  case atStart => exact ⟨0, rfl, by omega, fun j hj => by omega, c, Below.refl _ _⟩
  case round =>
    clear c0
    obtain ⟨k, rfl, hk, HK, D, rb⟩ := hrel
    by_cases hkn : k < n
    · have hkn' : (k : Int) < n := by omega
      obtain ⟨⟨no, sn, cd, p⟩, hx⟩ := D.ex (i := k) (by rw [Hn.out]; exact hkn)
      by_cases hp : p = 0
      · subst hp
        have rg : wr.rangeAt a (k * 3) [.bool sn, .bool cd, .int .i64 0] := D.range hx
        have HX : Hid (fs[k]? = some ⟨no, sn, cd, 0⟩) := hx
        have z0 : Row (wr.alloc (.cells #[.bool false, .bool false, .int .i64 0] 158)) wr.heap.size #[.bool false, .bool false, .int .i64 0] 158 := Row.new _ _ _
        have r2 : Row ((wr.alloc (.cells #[.bool false, .bool false, .int .i64 0] 158)).setRow wr.heap.size #[.bool sn, .bool cd, .int .i64 0]) wr.heap.size #[.bool sn, .bool cd, .int .i64 0] 158 := z0.set _
        have c2 := row_at r2 2 (.int .i64 0) rfl
        have b2 : Below wr.heap.size wr ((wr.alloc (.cells #[.bool false, .bool false, .int .i64 0] 158)).setRow wr.heap.size #[.bool sn, .bool cd, .int .i64 0]) := below_setRow ((Below.refl _ _).alloc (Nat.le_refl _) _) (Nat.le_refl _) _
        have D2 := D.below b2
        have rb2 := rb.trans (b2.mono rb.size)
        have tl : Hid (1 = 1) := rfl
        have ts : Hid (1 = 1) := rfl
        clear hx
        have hb : Hid (B = true) := HT.out _ (List.mem_of_getElem? HX.out) rfl
        go_wp2_with (first
          | (have hh := tl; clear hh tl; refine wpList_load_mid rfl 158 (.tmp 12) rfl a (k * 3) rfl [.bool sn, .bool cd, .int .i64 0] _ rg Try.underlying158 rfl size158 ?_)
          | (have hh := ts; clear hh ts; refine store_cells rfl 158 (.tmp 4) (.tmp 13) rfl wr.heap.size #[.bool sn, .bool cd, .int .i64 0] rfl rfl 158 _ z0 3 size158 rfl rfl (by simp [Value.oneCell']) ?_))
        go_ret
        exact ⟨by rw [hb.out]; rfl, rb2⟩
      · have rg : wr.rangeAt a (k * 3) [.bool sn, .bool cd, .int .i64 p] := D.range hx
        have HX : Hid (fs[k]? = some ⟨no, sn, cd, p⟩) := hx
        have z0 : Row (wr.alloc (.cells #[.bool false, .bool false, .int .i64 0] 158)) wr.heap.size #[.bool false, .bool false, .int .i64 0] 158 := Row.new _ _ _
        have r2 : Row ((wr.alloc (.cells #[.bool false, .bool false, .int .i64 0] 158)).setRow wr.heap.size #[.bool sn, .bool cd, .int .i64 p]) wr.heap.size #[.bool sn, .bool cd, .int .i64 p] 158 := z0.set _
        have c2 := row_at r2 2 (.int .i64 p) rfl
        have b2 : Below wr.heap.size wr ((wr.alloc (.cells #[.bool false, .bool false, .int .i64 0] 158)).setRow wr.heap.size #[.bool sn, .bool cd, .int .i64 p]) := below_setRow ((Below.refl _ _).alloc (Nat.le_refl _) _) (Nat.le_refl _) _
        have D2 := D.below b2
        have rb2 := rb.trans (b2.mono rb.size)
        have tl : Hid (1 = 1) := rfl
        have ts : Hid (1 = 1) := rfl
        clear hx
        go_wp2_with (first
          | (have hh := tl; clear hh tl; refine wpList_load_mid rfl 158 (.tmp 12) rfl a (k * 3) rfl [.bool sn, .bool cd, .int .i64 p] _ rg Try.underlying158 rfl size158 ?_)
          | (have hh := ts; clear hh ts; refine store_cells rfl 158 (.tmp 4) (.tmp 13) rfl wr.heap.size #[.bool sn, .bool cd, .int .i64 p] rfl rfl 158 _ z0 3 size158 rfl rfl (by simp [Value.oneCell']) ?_))
        go_roundw
        case rel =>
          refine ⟨k + 1, by go_num, by omega, fun j hj y hy => ?_, D2, rb2⟩
          by_cases q : j = k
          · subst q; have := HX.out; rw [hy] at this; cases this; exact hp
          · exact HK.out j (by omega) y hy
        case measure => simp [intOf]; omega
    · have hkn' : ¬ (k : Int) < n := by omega
      have hb : Hid (B = false) := HN.out fun y hy => by
        obtain ⟨j, hj, rfl⟩ := List.getElem_of_mem hy
        exact HK.out j (by rw [Hn.out] at hj; omega) _ (List.getElem?_eq_getElem hj)
      go_wp2
      go_ret
      exact ⟨by rw [hb.out]; rfl, rb⟩
end Go.Proofs.Ytehogiondcpbcaa.Cl
namespace Go.Proofs.Ytehogiondcpbcaa.Cl
open Go.ChangeShapes Go.WideShapes Go.ChangeAt Go.RowKit
set_option linter.unusedVariables false
set_option linter.unusedSimpArgs false
set_option maxRecDepth 20000
theorem nxt_mod (n h k : Nat) : (h + (k + 1)) % n = nxt n ((h + k) % n) := by
  unfold nxt
  rw [Nat.mod_add_mod, Nat.add_assoc]
theorem nxt_lt {n : Nat} (h : 0 < n) (k : Nat) : nxt n k < n := Nat.mod_lt _ h
def Colded (w : World) (fs : List Fr) (h : Nat) (e : Ending) (w' : World) : Prop :=
  Below w.heap.size w w' ∧ ((∃ k x, k < fs.length ∧ fs[(h + k) % fs.length]? = some x ∧ x.cf = true ∧ (∀ i, i < k → ∀ y, fs[(h + i) % fs.length]? = some y → y.cf = false) ∧ e = .returned (.tuple #[.int .i64 ((h + k) % fs.length : Nat), .bool true])) ∨ ((∀ y ∈ fs, y.cf = false) ∧ e = .returned (.tuple #[.int .i64 0, .bool false])))
theorem all_round {fs : List Fr} {h : Nat} (hh : h < fs.length) (hn : ∀ i, i < fs.length → ∀ y, fs[(h + i) % fs.length]? = some y → y.cf = false) : ∀ y ∈ fs, y.cf = false := fun y hy => by
  obtain ⟨j, hj, rfl⟩ := List.getElem_of_mem hy
  by_cases q : h ≤ j
  · refine hn (j - h) (by omega) _ ?_
    rw [show h + (j - h) = j by omega, Nat.mod_eq_of_lt hj, List.getElem?_eq_getElem hj]
  · refine hn (j + fs.length - h) (by omega) _ ?_
    rw [show h + (j + fs.length - h) = j + fs.length by omega, Nat.add_mod_right, Nat.mod_eq_of_lt hj, List.getElem?_eq_getElem hj]
theorem coldest_any {w : World} {g a : Nat} {fs : List Fr} {h : Nat} {M : Int} (c : CAt w g a fs h M) :
    Calls Try.prog 105 #[.pointer (some ⟨g, 0, none⟩)] w fun e w' => Colded w fs h e w' := by
  have c0 := row_at c.row 0 _ rfl
  have c1 := row_at c.row 1 _ rfl
  have hz := zero158
  obtain ⟨PP, HP⟩ : ∃ P : Ending → World → Prop, Hid (P = fun e w' => Colded w fs h e w') := ⟨_, rfl⟩
  rw [show (fun e w' => Colded w fs h e w') = PP from HP.out.symm]
  obtain ⟨n, Hn⟩ : ∃ n, Hid (fs.length = n) := ⟨_, rfl⟩
  have hsm := c.small
  have hhn := c.hand
  have HT : Hid (∀ k x w', k < n → fs[(h + k) % n]? = some x → x.cf = true → (∀ i, i < k → ∀ y, fs[(h + i) % n]? = some y → y.cf = false) → Below w.heap.size w w' → PP (.returned (.tuple #[.int .i64 ((h + k) % n : Nat), .bool true])) w') := fun k x w' h1 h2 h3 h4 h5 => by
    rw [HP.out]; rw [← Hn.out] at h1 h2 h4 ⊢; exact ⟨h5, Or.inl ⟨k, x, h1, h2, h3, h4, rfl⟩⟩
  have HN : Hid (∀ w', (∀ i, i < n → ∀ y, fs[(h + i) % n]? = some y → y.cf = false) → Below w.heap.size w w' → PP (.returned (.tuple #[.int .i64 0, .bool false])) w') := fun w' h4 h5 => by
    rw [HP.out]; rw [← Hn.out] at h4; exact ⟨h5, Or.inr ⟨all_round hhn h4, rfl⟩⟩
  rw [Hn.out] at c0 hsm hhn
  clear HP
  go_enter Try.func105, Try.ntmps105
  go_wp2
  go_loopw [4, 15] (fun s i wr => ∃ k j : Nat, j = (h + k) % n ∧ s = .int .i64 j ∧ i = .int .i64 k ∧ k ≤ n ∧ Hid (∀ i, i < k → ∀ y, fs[(h + i) % n]? = some y → y.cf = false) ∧ CAt wr g a fs h M ∧ Below w.heap.size w wr) (fun _ i _ => n - (intOf i).toNat)
  case atStart => exact ⟨0, h, by rw [Nat.add_zero, Nat.mod_eq_of_lt hhn], rfl, rfl, by omega, fun i hi => by omega, c, Below.refl _ _⟩
  case round =>
    clear c0 c1
    obtain ⟨k, j, hj, rfl, rfl, hk, HK, D, rb⟩ := hrel
    have Hj : Hid (j = (h + k) % n) := hj
    have c0 := row_at D.row 0 _ rfl
    rw [Hn.out] at c0
    by_cases hkn : k < n
    · have hkn' : (k : Int) < n := by omega
      have hjn : j < n := by rw [hj]; exact Nat.mod_lt _ (by omega)
      have hjn' : (j : Int) < n := by omega
      clear hj
      obtain ⟨⟨no, sn, cd, p⟩, hx⟩ := D.ex (i := j) (by rw [Hn.out]; exact hjn)
      cases cd with
      | false =>
        have rg : wr.rangeAt a (j * 3) [.bool sn, .bool false, .int .i64 p] := D.range hx
        have HX : Hid (fs[j]? = some ⟨no, sn, false, p⟩) := hx
        have z0 : Row (wr.alloc (.cells #[.bool false, .bool false, .int .i64 0] 158)) wr.heap.size #[.bool false, .bool false, .int .i64 0] 158 := Row.new _ _ _
        have r2 : Row ((wr.alloc (.cells #[.bool false, .bool false, .int .i64 0] 158)).setRow wr.heap.size #[.bool sn, .bool false, .int .i64 p]) wr.heap.size #[.bool sn, .bool false, .int .i64 p] 158 := z0.set _
        have c1 := row_at r2 1 (.bool false) rfl
        have c2 := row_at r2 2 (.int .i64 p) rfl
        have b2 : Below wr.heap.size wr ((wr.alloc (.cells #[.bool false, .bool false, .int .i64 0] 158)).setRow wr.heap.size #[.bool sn, .bool false, .int .i64 p]) := below_setRow ((Below.refl _ _).alloc (Nat.le_refl _) _) (Nat.le_refl _) _
        have D2 := D.below b2
        have rb2 := rb.trans (b2.mono rb.size)
        have hbh := behind_any D2 j (by rw [Hn.out]; exact hjn)
        rw [Hn.out] at hbh
        have tl : Hid (1 = 1) := rfl
        have ts : Hid (1 = 1) := rfl
        clear hx
        go_wp2_with (first
          | (have hh := tl; clear hh tl; refine wpList_load_mid rfl 158 (.tmp 22) rfl a (j * 3) rfl [.bool sn, .bool false, .int .i64 p] _ rg Try.underlying158 rfl size158 ?_)
          | (have hh := ts; clear hh ts; refine store_cells rfl 158 (.tmp 5) (.tmp 23) rfl wr.heap.size #[.bool sn, .bool false, .int .i64 p] rfl rfl 158 _ z0 3 size158 rfl rfl (by simp [Value.oneCell']) ?_)
          | (go_at_call 106; refine hbh.mono ?_; rintro e wb ⟨he, hww⟩; rw [hww]; clear hww wb; obtain rfl := he))
        go_roundw
        case rel =>
          refine ⟨k + 1, nxt n j, by rw [Hj.out]; exact (nxt_mod n h k).symm, rfl, by go_num, by omega, fun i hi y hy => ?_, D2, rb2⟩
          by_cases q : i = k
          · subst q; rw [← Hj.out, HX.out] at hy; cases hy; rfl
          · exact HK.out i (by omega) y hy
        case measure => simp [intOf]; omega
      | true =>
        by_cases hp : p = 0
        · subst hp
          have rg : wr.rangeAt a (j * 3) [.bool sn, .bool true, .int .i64 0] := D.range hx
          have HX : Hid (fs[j]? = some ⟨no, sn, true, 0⟩) := hx
          have z0 : Row (wr.alloc (.cells #[.bool false, .bool false, .int .i64 0] 158)) wr.heap.size #[.bool false, .bool false, .int .i64 0] 158 := Row.new _ _ _
          have r2 : Row ((wr.alloc (.cells #[.bool false, .bool false, .int .i64 0] 158)).setRow wr.heap.size #[.bool sn, .bool true, .int .i64 0]) wr.heap.size #[.bool sn, .bool true, .int .i64 0] 158 := z0.set _
          have c1 := row_at r2 1 (.bool true) rfl
          have c2 := row_at r2 2 (.int .i64 0) rfl
          have b2 : Below wr.heap.size wr ((wr.alloc (.cells #[.bool false, .bool false, .int .i64 0] 158)).setRow wr.heap.size #[.bool sn, .bool true, .int .i64 0]) := below_setRow ((Below.refl _ _).alloc (Nat.le_refl _) _) (Nat.le_refl _) _
          have D2 := D.below b2
          have rb2 := rb.trans (b2.mono rb.size)
          have hbh := behind_any D2 j (by rw [Hn.out]; exact hjn)
          rw [Hn.out] at hbh
          have tl : Hid (1 = 1) := rfl
          have ts : Hid (1 = 1) := rfl
          clear hx
          go_wp2_with (first
            | (have hh := tl; clear hh tl; refine wpList_load_mid rfl 158 (.tmp 22) rfl a (j * 3) rfl [.bool sn, .bool true, .int .i64 0] _ rg Try.underlying158 rfl size158 ?_)
            | (have hh := ts; clear hh ts; refine store_cells rfl 158 (.tmp 5) (.tmp 23) rfl wr.heap.size #[.bool sn, .bool true, .int .i64 0] rfl rfl 158 _ z0 3 size158 rfl rfl (by simp [Value.oneCell']) ?_)
            | (go_at_call 106; refine hbh.mono ?_; rintro e wb ⟨he, hww⟩; rw [hww]; clear hww wb; obtain rfl := he))
          have hr := HT.out k _ _ hkn (by rw [← Hj.out]; exact HX.out) (by rfl) HK.out rb2
          rw [← Hj.out] at hr
          try go_ret2
          exact hr
        · have rg : wr.rangeAt a (j * 3) [.bool sn, .bool true, .int .i64 p] := D.range hx
          have HX : Hid (fs[j]? = some ⟨no, sn, true, p⟩) := hx
          have z0 : Row (wr.alloc (.cells #[.bool false, .bool false, .int .i64 0] 158)) wr.heap.size #[.bool false, .bool false, .int .i64 0] 158 := Row.new _ _ _
          have r2 : Row ((wr.alloc (.cells #[.bool false, .bool false, .int .i64 0] 158)).setRow wr.heap.size #[.bool sn, .bool true, .int .i64 p]) wr.heap.size #[.bool sn, .bool true, .int .i64 p] 158 := z0.set _
          have c1 := row_at r2 1 (.bool true) rfl
          have c2 := row_at r2 2 (.int .i64 p) rfl
          have b2 : Below wr.heap.size wr ((wr.alloc (.cells #[.bool false, .bool false, .int .i64 0] 158)).setRow wr.heap.size #[.bool sn, .bool true, .int .i64 p]) := below_setRow ((Below.refl _ _).alloc (Nat.le_refl _) _) (Nat.le_refl _) _
          have D2 := D.below b2
          have rb2 := rb.trans (b2.mono rb.size)
          have hbh := behind_any D2 j (by rw [Hn.out]; exact hjn)
          rw [Hn.out] at hbh
          have tl : Hid (1 = 1) := rfl
          have ts : Hid (1 = 1) := rfl
          clear hx
          go_wp2_with (first
            | (have hh := tl; clear hh tl; refine wpList_load_mid rfl 158 (.tmp 22) rfl a (j * 3) rfl [.bool sn, .bool true, .int .i64 p] _ rg Try.underlying158 rfl size158 ?_)
            | (have hh := ts; clear hh ts; refine store_cells rfl 158 (.tmp 5) (.tmp 23) rfl wr.heap.size #[.bool sn, .bool true, .int .i64 p] rfl rfl 158 _ z0 3 size158 rfl rfl (by simp [Value.oneCell']) ?_)
            | (go_at_call 106; refine hbh.mono ?_; rintro e wb ⟨he, hww⟩; rw [hww]; clear hww wb; obtain rfl := he))
          go_roundw
          case rel =>
            refine ⟨k + 1, nxt n j, by rw [Hj.out]; exact (nxt_mod n h k).symm, rfl, by go_num, by omega, fun i hi y hy => ?_, D2, rb2⟩
            by_cases q : i = k
            · subst q; rw [← Hj.out, HX.out] at hy; cases hy; simp [Fr.cf, hp]
            · exact HK.out i (by omega) y hy
          case measure => simp [intOf]; omega
    · have hkn' : ¬ (k : Int) < n := by omega
      have hr := HN.out wr (fun i hi => HK.out i (by omega)) rb
      go_wp2
      try go_ret2
      exact hr
end Go.Proofs.Ytehogiondcpbcaa.Cl
