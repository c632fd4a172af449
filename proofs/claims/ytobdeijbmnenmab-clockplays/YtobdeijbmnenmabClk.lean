/-
  A clock as the document tells it, and as it lies in memory; what its small calls do.
-/
import Derived.Test.YtobdeijbmnenmabFrm
namespace Go.Proofs.Ytobdeijbmnenmab
open Go.ChangeShapes Go.WideShapes Go.ChangeAt Go.RowKit
set_option linter.unusedVariables false
set_option linter.unusedSimpArgs false

def fcell (x : Fr) : List Value := [.bool x.seen, .bool x.cold, .int .i64 x.pins]
def fcells (fs : List Fr) : List Value := fs.flatMap fcell
theorem fcells_cons (x : Fr) (fs : List Fr) : fcells (x :: fs) = fcell x ++ fcells fs := rfl
theorem fcells_length (fs : List Fr) : (fcells fs).length = fs.length * 3 := by
  induction fs with
  | nil => rfl
  | cons x r ih => rw [fcells_cons, List.length_append, ih]; simp [fcell]; omega
theorem fcells_at {fs : List Fr} {i : Nat} {x : Fr} (h : fs[i]? = some x) (j : Nat) (hj : j < 3) : (fcells fs)[i * 3 + j]? = (fcell x)[j]? := by
  induction fs generalizing i with
  | nil => simp at h
  | cons y r ih =>
    rw [fcells_cons]
    cases i with
    | zero =>
      simp at h
      subst h
      rw [List.getElem?_append_left (by simp [fcell]; omega)]
      simp
    | succ k =>
      rw [List.getElem?_append_right (by simp [fcell]; omega)]
      rw [show (k + 1) * 3 + j - (fcell y).length = k * 3 + j by simp [fcell]; omega]
      exact ih (by simpa using h)
theorem fcells_set {fs : List Fr} {i : Nat} {x y : Fr} (h : fs[i]? = some x) (j : Nat) (hj : j < 3) (v : Value) (e : (fcell x).set j v = fcell y) : (fcells fs).set (i * 3 + j) v = fcells (fs.set i y) := by
  induction fs generalizing i with
  | nil => simp at h
  | cons z r ih =>
    rw [fcells_cons]
    cases i with
    | zero =>
      simp at h
      subst h
      rw [List.set_append_left _ _ (by simp [fcell]; omega), List.set_cons_zero, fcells_cons, ← e]
      simp
    | succ k =>
      rw [List.set_append_right _ _ (by simp [fcell]; omega)]
      rw [show (k + 1) * 3 + j - (fcell z).length = k * 3 + j by simp [fcell]; omega]
      rw [List.set_cons_succ, fcells_cons, ih (by simpa using h)]
/-- A clock in memory. -/
structure CAt (w : World) (g a : Nat) (fs : List Fr) (h : Nat) (M : Int) : Prop where
  row : Row w g #[.slice (some ⟨a, 0, none⟩) fs.length fs.length, .int .i64 h] 46
  arr : Row w a (fcells fs).toArray 53
  ne : g ≠ a
  hand : h < fs.length
  small : fs.length ≤ 64
  nos : ∀ (j : Nat) (x : Fr), fs[j]? = some x → x.no = j
  pins : ∀ x ∈ fs, 0 ≤ x.pins ∧ x.pins ≤ M
  big : M < 1000000000000
/-- The two blocks of a clock. -/
def two (g a : Nat) (k : Nat) : Prop := k = g ∨ k = a
theorem CAt.at {w : World} {g a : Nat} {fs : List Fr} {h : Nat} {M : Int} (c : CAt w g a fs h M) {i : Nat} {x : Fr} (hx : fs[i]? = some x) (j : Nat) (hj : j < 3) (v : Value) (hv : (fcell x)[j]? = some v) : w.cell? ⟨a, i * 3 + j, none⟩ = some v := by
  refine row_at c.arr _ _ ?_
  have := fcells_at hx j hj
  rw [hv] at this
  simpa using this
theorem CAt.off {F : Nat → Prop} {w w' : World} {g a : Nat} {fs : List Fr} {h : Nat} {M : Int} (c : CAt w g a fs h M) (ho : Off F w w') (hF : ∀ k, two g a k → ¬ F k) : CAt w' g a fs h M :=
  { c with row := c.row.off ho (hF _ (Or.inl rfl)), arr := c.arr.off ho (hF _ (Or.inr rfl)) }
theorem CAt.below {w w' : World} {g a : Nat} {fs : List Fr} {h : Nat} {M : Int} (c : CAt w g a fs h M) (hb : Below w.heap.size w w') : CAt w' g a fs h M :=
  c.off (F := fun _ => False) (Off.of_below hb) fun _ _ q => q
theorem CAt.lt {w : World} {g a : Nat} {fs : List Fr} {h : Nat} {M : Int} (c : CAt w g a fs h M) {k : Nat} (hk : two g a k) : k < w.heap.size := by
  rcases hk with rfl | rfl
  · exact c.row.lt
  · exact c.arr.lt
/-- One cell of a frame is turned. -/
theorem CAt.turn {w : World} {g a : Nat} {fs : List Fr} {h : Nat} {M M' : Int} (c : CAt w g a fs h M) {i : Nat} {x y : Fr} (hx : fs[i]? = some x) (j : Nat) (hj : j < 3) (v : Value) (e : (fcell x).set j v = fcell y) (hn : y.no = x.no) (hM : M ≤ M') (hb : M' < 1000000000000) (hp : 0 ≤ y.pins ∧ y.pins ≤ M') :
    CAt (w.setCell ⟨a, i * 3 + j, none⟩ v) g a (fs.set i y) h M' where
  row := by rw [List.length_set]; exact row_setCell_other c.row c.ne _ _
  arr := by
    have := row_set c.arr (i * 3 + j) v
    rw [List.setIfInBounds_toArray, fcells_set hx j hj v e] at this
    exact this
  ne := c.ne
  hand := by rw [List.length_set]; exact c.hand
  small := by rw [List.length_set]; exact c.small
  nos := fun k z hz => by
    rw [List.getElem?_set] at hz
    split at hz
    · rename_i q
      subst q
      split at hz
      · simp at hz
        subst hz
        rw [hn]; exact c.nos _ _ hx
      · simp at hz
    · exact c.nos _ _ hz
  pins := fun z hz => by
    rcases List.mem_or_eq_of_mem_set hz with q | q
    · have := c.pins z q; omega
    · rw [q]; exact hp
  big := hb
theorem CAt.setHand {w : World} {g a : Nat} {fs : List Fr} {h : Nat} {M : Int} (c : CAt w g a fs h M) (h' : Nat) (hh : h' < fs.length) : CAt (w.setCell ⟨g, 1, none⟩ (.int .i64 h')) g a fs h' M :=
  { c with
    row := row_set c.row 1 _
    arr := row_setCell_other c.arr (fun e => c.ne e.symm) _ _
    hand := hh }
theorem CAt.ex {w : World} {g a : Nat} {fs : List Fr} {h : Nat} {M : Int} (c : CAt w g a fs h M) {i : Nat} (hi : i < fs.length) : ∃ x, fs[i]? = some x := ⟨fs[i], List.getElem?_eq_getElem hi⟩

theorem has_any {w : World} {g a : Nat} {fs : List Fr} {h : Nat} {M : Int} (c : CAt w g a fs h M) (i : Int) :
    Calls Try.prog 22 #[.pointer (some ⟨g, 0, none⟩), .int .i64 i] w fun e w' => e = .returned (.bool (decide (0 ≤ i ∧ i < fs.length))) ∧ w' = w := by
  have c0 := row_at c.row 0 _ rfl
  by_cases h0 : 0 ≤ i
  · have e : decide (0 ≤ i ∧ i < (fs.length : Int)) = decide (i < (fs.length : Int)) := by simp [h0]
    rw [e]
    go_enter Try.func22, Try.ntmps22
    go_wp2
    go_ret
    exact ⟨rfl, rfl⟩
  · have e : decide (0 ≤ i ∧ i < (fs.length : Int)) = false := by simp [h0]
    rw [e]
    go_enter Try.func22, Try.ntmps22
    go_wp2
    go_ret
    exact ⟨rfl, rfl⟩
theorem touch_in {w : World} {g a : Nat} {fs : List Fr} {h : Nat} {M : Int} (c : CAt w g a fs h M) (i : Nat) (x : Fr) (hx : fs[i]? = some x) :
    Calls Try.prog 17 #[.pointer (some ⟨g, 0, none⟩), .int .i64 i] w fun e w' => e = .returned (.tuple #[]) ∧ CAt w' g a (fs.set i { x with seen := true }) h (M) ∧ Off (two g a) w w' := by
  have hi := (List.getElem?_eq_some_iff.1 hx).1
  have c0 := row_at c.row 0 _ rfl
  have hh := has_any c i
  rw [decide_eq_true (⟨by omega, by omega⟩)] at hh
  have c1 := c.at hx 0 (by omega) _ rfl
  have c2 := c.at hx 1 (by omega) _ rfl
  have c3 := c.at hx 2 (by omega) _ rfl
  have f1 := row_frozen c.arr (i * 3 + 0)
  have hpb := c.pins x (List.mem_of_getElem? hx)
  have hbg := c.big
  have hn := c.turn (M' := M) (y := { x with seen := true }) hx 0 (by omega) (.bool true) rfl rfl (by omega) (c.big) (c.pins x (List.mem_of_getElem? hx))
  have ho := Off.of_setCell (F := two g a) w ⟨a, i * 3 + 0, none⟩ (.bool true) (Or.inr rfl)
  clear hpb hbg
  simp only [Nat.add_zero] at c1 f1 hn ho
  go_enter Try.func17, Try.ntmps17
  go_wp2_with (go_at_call 22; refine hh.mono ?_; rintro e w' ⟨rfl, rfl⟩)
  first
    | (go_end0; exact ⟨rfl, hn, ho⟩)
    | (refine bodyPost_ret (results_none rfl _ _ _) rfl ?_; exact ⟨rfl, hn, ho⟩)
theorem cold_in {w : World} {g a : Nat} {fs : List Fr} {h : Nat} {M : Int} (c : CAt w g a fs h M) (i : Nat) (x : Fr) (hx : fs[i]? = some x) (b : Bool) :
    Calls Try.prog 15 #[.pointer (some ⟨g, 0, none⟩), .int .i64 i, .bool b] w fun e w' => e = .returned (.tuple #[]) ∧ CAt w' g a (fs.set i { x with cold := b }) h (M) ∧ Off (two g a) w w' := by
  have hi := (List.getElem?_eq_some_iff.1 hx).1
  have c0 := row_at c.row 0 _ rfl
  have hh := has_any c i
  rw [decide_eq_true (⟨by omega, by omega⟩)] at hh
  have c1 := c.at hx 0 (by omega) _ rfl
  have c2 := c.at hx 1 (by omega) _ rfl
  have c3 := c.at hx 2 (by omega) _ rfl
  have f1 := row_frozen c.arr (i * 3 + 1)
  have hpb := c.pins x (List.mem_of_getElem? hx)
  have hbg := c.big
  have hn := c.turn (M' := M) (y := { x with cold := b }) hx 1 (by omega) (.bool b) rfl rfl (by omega) (c.big) (c.pins x (List.mem_of_getElem? hx))
  have ho := Off.of_setCell (F := two g a) w ⟨a, i * 3 + 1, none⟩ (.bool b) (Or.inr rfl)
  clear hpb hbg
  go_enter Try.func15, Try.ntmps15
  go_wp2_with (go_at_call 22; refine hh.mono ?_; rintro e w' ⟨rfl, rfl⟩)
  first
    | (go_end0; exact ⟨rfl, hn, ho⟩)
    | (refine bodyPost_ret (results_none rfl _ _ _) rfl ?_; exact ⟨rfl, hn, ho⟩)
theorem pin_in {w : World} {g a : Nat} {fs : List Fr} {h : Nat} {M : Int} (c : CAt w g a fs h M) (i : Nat) (x : Fr) (hx : fs[i]? = some x) (hM : M + 1 < 1000000000000) :
    Calls Try.prog 18 #[.pointer (some ⟨g, 0, none⟩), .int .i64 i] w fun e w' => e = .returned (.tuple #[]) ∧ CAt w' g a (fs.set i { x with pins := x.pins + 1 }) h (M + 1) ∧ Off (two g a) w w' := by
  have hi := (List.getElem?_eq_some_iff.1 hx).1
  have c0 := row_at c.row 0 _ rfl
  have hh := has_any c i
  rw [decide_eq_true (⟨by omega, by omega⟩)] at hh
  have c1 := c.at hx 0 (by omega) _ rfl
  have c2 := c.at hx 1 (by omega) _ rfl
  have c3 := c.at hx 2 (by omega) _ rfl
  have f1 := row_frozen c.arr (i * 3 + 2)
  have hpb := c.pins x (List.mem_of_getElem? hx)
  have hbg := c.big
  have hw : IntKind.i64.wrap (x.pins + 1) = x.pins + 1 := by rw [IntKind.wrap_i64]; omega
  have hn := c.turn (M' := M + 1) (y := { x with pins := x.pins + 1 }) hx 2 (by omega) (.int .i64 (x.pins + 1)) rfl rfl (by omega) (hM) (by show 0 ≤ x.pins + 1 ∧ x.pins + 1 ≤ M + 1; omega)
  have ho := Off.of_setCell (F := two g a) w ⟨a, i * 3 + 2, none⟩ (.int .i64 (x.pins + 1)) (Or.inr rfl)
  clear hpb hbg
  go_enter Try.func18, Try.ntmps18
  go_wp2_with (go_at_call 22; refine hh.mono ?_; rintro e w' ⟨rfl, rfl⟩)
  first
    | (go_end0; exact ⟨rfl, hn, ho⟩)
    | (refine bodyPost_ret (results_none rfl _ _ _) rfl ?_; exact ⟨rfl, hn, ho⟩)
theorem touch_out (v : Value) (i : Int) (w : World) (hh : Calls Try.prog 22 #[v, .int .i64 i] w fun e w' => e = .returned (.bool false) ∧ w' = w) :
    Calls Try.prog 17 #[v, .int .i64 i] w fun e w' => e = .returned (.tuple #[]) ∧ w' = w := by
  go_enter Try.func17, Try.ntmps17
  go_wp2_with (go_at_call 22; refine hh.mono ?_; rintro e w' ⟨rfl, rfl⟩)
  first
    | (go_end0; exact ⟨rfl, rfl⟩)
    | (refine bodyPost_ret (results_none rfl _ _ _) rfl ?_; exact ⟨rfl, rfl⟩)
theorem cold_out (v : Value) (i : Int) (w : World) (b : Bool) (hh : Calls Try.prog 22 #[v, .int .i64 i] w fun e w' => e = .returned (.bool false) ∧ w' = w) :
    Calls Try.prog 15 #[v, .int .i64 i, .bool b] w fun e w' => e = .returned (.tuple #[]) ∧ w' = w := by
  go_enter Try.func15, Try.ntmps15
  go_wp2_with (go_at_call 22; refine hh.mono ?_; rintro e w' ⟨rfl, rfl⟩)
  first
    | (go_end0; exact ⟨rfl, rfl⟩)
    | (refine bodyPost_ret (results_none rfl _ _ _) rfl ?_; exact ⟨rfl, rfl⟩)
theorem pin_out (v : Value) (i : Int) (w : World) (hh : Calls Try.prog 22 #[v, .int .i64 i] w fun e w' => e = .returned (.bool false) ∧ w' = w) :
    Calls Try.prog 18 #[v, .int .i64 i] w fun e w' => e = .returned (.tuple #[]) ∧ w' = w := by
  go_enter Try.func18, Try.ntmps18
  go_wp2_with (go_at_call 22; refine hh.mono ?_; rintro e w' ⟨rfl, rfl⟩)
  first
    | (go_end0; exact ⟨rfl, rfl⟩)
    | (refine bodyPost_ret (results_none rfl _ _ _) rfl ?_; exact ⟨rfl, rfl⟩)
theorem clear_out (v : Value) (i : Int) (w : World) (hh : Calls Try.prog 22 #[v, .int .i64 i] w fun e w' => e = .returned (.bool false) ∧ w' = w) :
    Calls Try.prog 20 #[v, .int .i64 i] w fun e w' => e = .returned (.tuple #[]) ∧ w' = w := by
  go_enter Try.func20, Try.ntmps20
  go_wp2_with (go_at_call 22; refine hh.mono ?_; rintro e w' ⟨rfl, rfl⟩)
  first
    | (go_end0; exact ⟨rfl, rfl⟩)
    | (refine bodyPost_ret (results_none rfl _ _ _) rfl ?_; exact ⟨rfl, rfl⟩)
theorem pins_out (v : Value) (i : Int) (w : World) (hh : Calls Try.prog 22 #[v, .int .i64 i] w fun e w' => e = .returned (.bool false) ∧ w' = w) :
    Calls Try.prog 14 #[v, .int .i64 i] w fun e w' => e = .returned (.int .i64 0) ∧ w' = w := by
  go_enter Try.func14, Try.ntmps14
  go_wp2_with (go_at_call 22; refine hh.mono ?_; rintro e w' ⟨rfl, rfl⟩)
  go_ret
  exact ⟨rfl, rfl⟩
theorem unpin_zero (v : Value) (i : Int) (w : World) (hh : Calls Try.prog 14 #[v, .int .i64 i] w fun e w' => e = .returned (.int .i64 0) ∧ w' = w) :
    Calls Try.prog 19 #[v, .int .i64 i] w fun e w' => e = .returned (.bool false) ∧ w' = w := by
  go_enter Try.func19, Try.ntmps19
  go_wp2_with (go_at_call 14; refine hh.mono ?_; rintro e w' ⟨rfl, rfl⟩)
  go_ret
  exact ⟨rfl, rfl⟩
theorem pins_in {w : World} {g a : Nat} {fs : List Fr} {h : Nat} {M : Int} (c : CAt w g a fs h M) (i : Nat) (x : Fr) (hx : fs[i]? = some x) :
    Calls Try.prog 14 #[.pointer (some ⟨g, 0, none⟩), .int .i64 i] w fun e w' => e = .returned (.int .i64 x.pins) ∧ w' = w := by
  have hi := (List.getElem?_eq_some_iff.1 hx).1
  have c0 := row_at c.row 0 _ rfl
  have hh := has_any c i
  rw [decide_eq_true (⟨by omega, by omega⟩)] at hh
  have c3 := c.at hx 2 (by omega) _ rfl
  go_enter Try.func14, Try.ntmps14
  go_wp2_with (go_at_call 22; refine hh.mono ?_; rintro e w' ⟨rfl, rfl⟩)
  go_ret
  exact ⟨rfl, rfl⟩
theorem unpin_in {w : World} {g a : Nat} {fs : List Fr} {h : Nat} {M : Int} (c : CAt w g a fs h M) (i : Nat) (x : Fr) (hx : fs[i]? = some x) (h0 : ¬ x.pins = 0) :
    Calls Try.prog 19 #[.pointer (some ⟨g, 0, none⟩), .int .i64 i] w fun e w' => e = .returned (.bool true) ∧ CAt w' g a (fs.set i { x with pins := x.pins - 1 }) h M ∧ Off (two g a) w w' := by
  have hi := (List.getElem?_eq_some_iff.1 hx).1
  have c0 := row_at c.row 0 _ rfl
  have hh := pins_in c i x hx
  have c3 := c.at hx 2 (by omega) _ rfl
  have f1 := row_frozen c.arr (i * 3 + 2)
  have hpb := c.pins x (List.mem_of_getElem? hx)
  have hbg := c.big
  have hw : IntKind.i64.wrap (x.pins - 1) = x.pins - 1 := by rw [IntKind.wrap_i64]; omega
  have hn := c.turn (M' := M) (y := { x with pins := x.pins - 1 }) hx 2 (by omega) (.int .i64 (x.pins - 1)) rfl rfl (by omega) c.big (by show 0 ≤ x.pins - 1 ∧ x.pins - 1 ≤ M; omega)
  have ho := Off.of_setCell (F := two g a) w ⟨a, i * 3 + 2, none⟩ (.int .i64 (x.pins - 1)) (Or.inr rfl)
  clear hpb hbg
  go_enter Try.func19, Try.ntmps19
  go_wp2_with (go_at_call 14; refine hh.mono ?_; rintro e w' ⟨rfl, rfl⟩)
  go_ret
  exact ⟨rfl, hn, ho⟩
theorem behind_any {w : World} {g a : Nat} {fs : List Fr} {h : Nat} {M : Int} (c : CAt w g a fs h M) (i : Nat) (hi : i < fs.length) :
    Calls Try.prog 25 #[.pointer (some ⟨g, 0, none⟩), .int .i64 i] w fun e w' => e = .returned (.int .i64 (nxt fs.length i)) ∧ w' = w := by
  have c0 := row_at c.row 0 _ rfl
  have hs := c.small
  have hl : (0 : Int) < fs.length := by omega
  have hw : IntKind.i64.wrap ((i : Int) + 1) = (i : Int) + 1 := by rw [IntKind.wrap_i64]; omega
  have hm : ((i : Int) + 1).tmod (fs.length : Int) = (nxt fs.length i : Nat) := by
    rw [Int.tmod_eq_emod_of_nonneg (by omega)]
    unfold nxt
    push_cast
    rfl
  have hw2 : IntKind.i64.wrap ((nxt fs.length i : Nat) : Int) = (nxt fs.length i : Nat) := by
    have : nxt fs.length i < fs.length := Nat.mod_lt _ (by omega)
    rw [IntKind.wrap_i64]; omega
  go_enter Try.func25, Try.ntmps25
  go_wp2
  go_ret
  exact ⟨rfl, rfl⟩
theorem used_any {w : World} {g a : Nat} {fs : List Fr} {h : Nat} {M : Int} (c : CAt w g a fs h M) (i : Nat) (x : Fr) (hx : fs[i]? = some x) :
    Calls Try.prog 26 #[.pointer (some ⟨g, 0, none⟩), .int .i64 i] w fun e w' => e = .returned (.bool x.seen) ∧ CAt w' g a (fs.set i { x with seen := false }) h M ∧ Off (two g a) w w' := by
  have hi := (List.getElem?_eq_some_iff.1 hx).1
  have c0 := row_at c.row 0 _ rfl
  have c1 := c.at hx 0 (by omega) _ rfl
  have f1 := row_frozen c.arr (i * 3 + 0)
  have hn := c.turn (M' := M) (y := { x with seen := false }) hx 0 (by omega) (.bool false) rfl rfl (by omega) c.big (c.pins x (List.mem_of_getElem? hx))
  have ho := Off.of_setCell (F := two g a) w ⟨a, i * 3 + 0, none⟩ (.bool false) (Or.inr rfl)
  simp only [Nat.add_zero] at c1 f1 hn ho
  go_enter Try.func26, Try.ntmps26
  go_wp2
  go_ret
  exact ⟨rfl, hn, ho⟩
end Go.Proofs.Ytobdeijbmnenmab
