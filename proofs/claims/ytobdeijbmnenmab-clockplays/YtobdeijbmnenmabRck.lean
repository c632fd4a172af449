/-
  The document's clock as it lies in memory: its frames in the order in which the hand comes to them; which one has a number; a new one.
-/
import Derived.Test.YtobdeijbmnenmabFai
import Derived.Great.BuildSlice
namespace Go.Proofs.Ytobdeijbmnenmab
open Go.ChangeShapes Go.WideShapes Go.ChangeAt Go.RowKit
open Go.Deep
set_option linter.unusedVariables false
set_option linter.unusedSimpArgs false

def rcell (x : Fr) : List Value := [.int .i64 x.no, .bool x.seen, .bool x.cold, .int .i64 x.pins]
def rcells (fs : List Fr) : List Value := fs.flatMap rcell
theorem rcells_cons (x : Fr) (fs : List Fr) : rcells (x :: fs) = rcell x ++ rcells fs := rfl
theorem rcells_append (A B : List Fr) : rcells (A ++ B) = rcells A ++ rcells B := List.flatMap_append ..
theorem rcells_length (fs : List Fr) : (rcells fs).length = fs.length * 4 := by
  induction fs with
  | nil => rfl
  | cons x r ih => rw [rcells_cons, List.length_append, ih]; simp [rcell]; omega
theorem rcells_at {fs : List Fr} {i : Nat} {x : Fr} (h : fs[i]? = some x) (j : Nat) (hj : j < 4) : (rcells fs)[i * 4 + j]? = (rcell x)[j]? := by
  induction fs generalizing i with
  | nil => simp at h
  | cons y r ih =>
    rw [rcells_cons]
    cases i with
    | zero =>
      simp at h
      subst h
      rw [List.getElem?_append_left (by simp [rcell]; omega)]
      simp
    | succ k =>
      rw [List.getElem?_append_right (by simp [rcell]; omega)]
      rw [show (k + 1) * 4 + j - (rcell y).length = k * 4 + j by simp [rcell]; omega]
      exact ih (by simpa using h)
theorem rcells_set {fs : List Fr} {i : Nat} {x y : Fr} (h : fs[i]? = some x) (j : Nat) (hj : j < 4) (v : Value) (e : (rcell x).set j v = rcell y) : (rcells fs).set (i * 4 + j) v = rcells (fs.set i y) := by
  induction fs generalizing i with
  | nil => simp at h
  | cons z r ih =>
    rw [rcells_cons]
    cases i with
    | zero =>
      simp at h
      subst h
      rw [List.set_append_left _ _ (by simp [rcell]; omega), List.set_cons_zero, rcells_cons, ← e]
      simp
    | succ k =>
      rw [List.set_append_right _ _ (by simp [rcell]; omega)]
      rw [show (k + 1) * 4 + j - (rcell z).length = k * 4 + j by simp [rcell]; omega]
      rw [List.set_cons_succ, rcells_cons, ih (by simpa using h)]
theorem rcells_one (L : List Fr) : ∀ u ∈ rcells L, u.oneCell' = true := fun u hu => by
  unfold rcells at hu
  obtain ⟨x, _, hx⟩ := List.mem_flatMap.1 hu
  simp [rcell] at hx
  rcases hx with rfl | rfl | rfl | rfl <;> rfl
/-- The document's clock in memory. -/
structure RAt (w : World) (r b cap : Nat) (cur : Array Value) (L : List Fr) (R0 : Nat) : Prop where
  row : Row w r #[.slice (some ⟨b, 0, none⟩) L.length cap] 49
  arr : Row w b cur 36
  size : cur.size = cap * 4
  le : L.length ≤ cap
  capM : cap ≤ maxLen
  take : cur.toList.take (L.length * 4) = rcells L
  ne : r ≠ b
  lor : R0 ≤ r
  lob : R0 ≤ b
  pos : 0 < L.length
  small : L.length ≤ 64
theorem RAt.cell {w : World} {r b cap : Nat} {cur : Array Value} {L : List Fr} {R0 : Nat} (c : RAt w r b cap cur L R0) {i : Nat} {x : Fr} (hx : L[i]? = some x) (j : Nat) (hj : j < 4) (v : Value) (hv : (rcell x)[j]? = some v) : w.cell? ⟨b, i * 4 + j, none⟩ = some v := by
  refine row_at c.arr _ _ ?_
  have h1 := rcells_at hx j hj
  have hi := (List.getElem?_eq_some_iff.1 hx).1
  rw [hv, ← c.take, List.getElem?_take, if_pos (by omega)] at h1
  simpa using h1
theorem RAt.off {F : Nat → Prop} {w w' : World} {r b cap : Nat} {cur : Array Value} {L : List Fr} {R0 : Nat} (c : RAt w r b cap cur L R0) (ho : Off F w w') (hF : ∀ k, F k → k < R0) : RAt w' r b cap cur L R0 :=
  { c with row := c.row.off ho (fun q => by have := hF _ q; have := c.lor; omega), arr := c.arr.off ho (fun q => by have := hF _ q; have := c.lob; omega) }
theorem RAt.below {w w' : World} {r b cap : Nat} {cur : Array Value} {L : List Fr} {R0 : Nat} (c : RAt w r b cap cur L R0) (hb : Below w.heap.size w w') : RAt w' r b cap cur L R0 :=
  c.off (F := fun _ => False) (Off.of_below hb) fun _ q => q.elim
theorem RAt.ex {w : World} {r b cap : Nat} {cur : Array Value} {L : List Fr} {R0 : Nat} (c : RAt w r b cap cur L R0) {i : Nat} (hi : i < L.length) : ∃ x, L[i]? = some x := ⟨L[i], List.getElem?_eq_getElem hi⟩
/-- One cell of a frame is turned. -/
theorem RAt.turn {w : World} {r b cap : Nat} {cur : Array Value} {L : List Fr} {R0 : Nat} (c : RAt w r b cap cur L R0) {i : Nat} {x y : Fr} (hx : L[i]? = some x) (j : Nat) (hj : j < 4) (v : Value) (e : (rcell x).set j v = rcell y) :
    RAt (w.setCell ⟨b, i * 4 + j, none⟩ v) r b cap (cur.setIfInBounds (i * 4 + j) v) (L.set i y) R0 where
  row := by rw [List.length_set]; exact row_setCell_other c.row c.ne _ _
  arr := row_set c.arr _ _
  size := by rw [Array.size_setIfInBounds]; exact c.size
  le := by rw [List.length_set]; exact c.le
  capM := c.capM
  take := by
    have hi := (List.getElem?_eq_some_iff.1 hx).1
    rw [List.length_set, ← rcells_set hx j hj v e, ← c.take, Array.toList_setIfInBounds, List.take_set]
  ne := c.ne
  lor := c.lor
  lob := c.lob
  pos := by rw [List.length_set]; exact c.pos
  small := by rw [List.length_set]; exact c.small
theorem RAt.owns {w : World} {r b cap : Nat} {cur : Array Value} {L : List Fr} {R0 : Nat} (c : RAt w r b cap cur L R0) : w.ownsRow R0 36 4 (.slice (some ⟨b, 0, none⟩) L.length cap) L.length (rcells L) :=
  ⟨rcells_length L, Or.inr ⟨b, cap, cur, rfl, c.lob, c.arr, c.le, c.capM, c.size, c.take⟩⟩
theorem RAt.of_owns {w : World} {r base R0 : Nat} {v : Value} {L : List Fr} (hr : Row w r #[v] 49) (ho : w.ownsRow base 36 4 v L.length (rcells L)) (h0 : 0 < L.length) (h64 : L.length ≤ 64) (hR : R0 ≤ r) (hB : R0 ≤ base) (hne : v.ownBlock ≠ some r) : ∃ b cap cur, RAt w r b cap cur L R0 ∧ v.ownBlock = some b := by
  rcases ho.2 with ⟨_, q⟩ | ⟨b, cap, cur, rfl, hb, hrow, h1, h2, h3, h4⟩
  · omega
  · exact ⟨b, cap, cur, ⟨hr, hrow, h3, h1, h2, h4, fun e => hne (by simp [Value.ownBlock, e]), hR, Nat.le_trans hB hb, h0, h64⟩, rfl⟩

theorem at_some {w : World} {r b cap : Nat} {cur : Array Value} {L : List Fr} {R0 : Nat} (c : RAt w r b cap cur L R0) (k : Nat) (x : Fr) (hx : L[k]? = some x) (hk : ∀ j y, j < k → L[j]? = some y → y.no ≠ x.no) :
    Calls Try.prog 12 #[.pointer (some ⟨r, 0, none⟩), .int .i64 x.no] w fun e w' => e = .returned (.pointer (some ⟨b, k * 4, none⟩)) ∧ w' = w := by
  have c0 := row_at c.row 0 _ rfl
  have hkl := (List.getElem?_eq_some_iff.1 hx).1
  obtain ⟨n, Hn⟩ : ∃ n, Hid (L.length = n) := ⟨_, rfl⟩
  have hsm := c.small
  simp only [List.getElem_toArray, List.getElem_cons_zero] at c0
  rw [Hn.out] at c0 hsm hkl
  have HX : Hid (L[k]? = some x) := hx
  have HK : Hid _ := hk
  obtain ⟨no, sn, cd, p⟩ := x
  clear hx hk
  go_enter Try.func12, Try.ntmps12
  go_wp2
  go_loop [11] (fun i => ∃ j : Nat, i = .int .i64 j ∧ j ≤ k) (fun i => k - (intOf i).toNat)
  case atStart => exact ⟨0, rfl, by omega⟩
  case round =>
    obtain ⟨j, rfl, hj⟩ := hrel
    have hjn : (j : Int) < n := by omega
    by_cases hjk : j = k
    · subst hjk
      have cj := c.cell HX.out 0 (by omega) _ rfl
      simp only [Nat.add_zero] at cj
      go_wp2
      go_ret
      exact ⟨rfl, rfl⟩
    · obtain ⟨⟨no', sn', cd', p'⟩, hy⟩ := c.ex (i := j) (by rw [Hn.out]; omega)
      have cj := c.cell hy 0 (by omega) _ rfl
      simp only [Nat.add_zero] at cj
      have hne := HK.out j _ (by omega) hy
      simp only at hne cj
      have hne' : ¬ (no' : Int) = (no : Int) := fun e => hne (by exact_mod_cast e)
      clear hy hne
      go_wp2
      go_round
      case rel => exact ⟨j + 1, by go_num, by omega⟩
      case measure => simp [intOf]; omega
theorem at_none {w : World} {r b cap : Nat} {cur : Array Value} {L : List Fr} {R0 : Nat} (c : RAt w r b cap cur L R0) (i : Int) (hi : ∀ y ∈ L, ¬ (y.no : Int) = i) :
    Calls Try.prog 12 #[.pointer (some ⟨r, 0, none⟩), .int .i64 i] w fun e w' => e = .returned (.pointer none) ∧ w' = w := by
  have c0 := row_at c.row 0 _ rfl
  obtain ⟨n, Hn⟩ : ∃ n, Hid (L.length = n) := ⟨_, rfl⟩
  have hsm := c.small
  simp only [List.getElem_toArray, List.getElem_cons_zero] at c0
  rw [Hn.out] at c0 hsm
  have HI : Hid _ := hi
  clear hi
  go_enter Try.func12, Try.ntmps12
  go_wp2
  go_loop [11] (fun i => ∃ j : Nat, i = .int .i64 j ∧ j ≤ n) (fun i => n - (intOf i).toNat)
  case atStart => exact ⟨0, rfl, by omega⟩
  case round =>
    obtain ⟨j, rfl, hj⟩ := hrel
    by_cases hjn : j < n
    · have hjn' : (j : Int) < n := by omega
      obtain ⟨⟨no', sn', cd', p'⟩, hy⟩ := c.ex (i := j) (by rw [Hn.out]; omega)
      have cj := c.cell hy 0 (by omega) _ rfl
      simp only [Nat.add_zero] at cj
      have hne := HI.out _ (List.mem_of_getElem? hy)
      simp only at hne cj
      clear hy
      go_wp2
      go_round
      case rel => exact ⟨j + 1, by go_num, by omega⟩
      case measure => simp [intOf]; omega
    · have hjn' : ¬ (j : Int) < n := by omega
      go_wp2
      go_ret
      exact ⟨rfl, rfl⟩
theorem own_form {w : World} {base : Nat} {e : TypeId} {s : Nat} {v : Value} {n : Nat} {xs : List Value} (h : w.ownsRow base e s v n xs) : ∃ oa cap, v = .slice oa n cap := by
  rcases h.2 with ⟨rfl, rfl⟩ | ⟨g, cap, cur, rfl, _⟩
  · exact ⟨none, 0, rfl⟩
  · exact ⟨_, cap, rfl⟩
theorem info36 : (Try.prog.info? 36).map (fun i => (i.zero, i.size, i.bytes)) = some (some (.agg #[.int .i64 0, .bool false, .bool false, .int .i64 0]), 4, 24) := by kernel_rfl
theorem size36 : (Try.prog.info? 36).map (·.size) = some 4 := by kernel_rfl
def RNewed (w : World) (n : Nat) (e : Ending) (w' : World) : Prop := ∃ r b cap cur, e = .returned (.pointer (some ⟨r, 0, none⟩)) ∧ RAt w' r b cap cur (newF n) w.heap.size ∧ Below w.heap.size w w'
theorem newF_succ (n : Nat) : newF (n + 1) = newF n ++ [⟨n, false, false, 0⟩] := by unfold newF; rw [List.range_succ, List.map_append]; rfl
theorem rnew_any (n : Nat) (h1 : 1 ≤ n) (h2 : n ≤ 64) (w : World) : Calls Try.prog 10 #[.int .i64 n] w fun e w' => RNewed w n e w' := by
  obtain ⟨ti, hti, htz, hts, htb⟩ := info_parts info36
  have HTI : Hid _ := And.intro hti (And.intro htz (And.intro hts htb))
  clear hti htz hts htb
  have r0 : Row (w.alloc (.cells #[.slice none 0 0] 49)) w.heap.size #[.slice none 0 0] 49 := Row.new _ _ _
  have b0 : Below w.heap.size w (w.alloc (.cells #[.slice none 0 0] 49)) := (Below.refl _ _).alloc (Nat.le_refl _) _
  go_enter Try.func10, Try.ntmps10
  go_wp2
  go_loopw [4] (fun i wr => ∃ (k : Nat) (v : Value), i = .int .i64 k ∧ k ≤ n ∧ Row wr w.heap.size #[v] 49 ∧ Hid (wr.ownsRow (w.heap.size + 1) 36 4 v k (rcells (newF k))) ∧ Below w.heap.size w wr ∧ Hid (w.heap.size + 1 ≤ wr.heap.size)) (fun i _ => n - (intOf i).toNat)
  case atStart => exact ⟨0, _, rfl, by omega, r0, World.ownsRow_nil _ _ _ _, b0, by show _ ≤ _; simp⟩
  case round =>
    clear r0 b0
    obtain ⟨k, v, rfl, hk, RR, HO, rb, HS⟩ := hrel
    by_cases hkn : k < n
    · have hkn' : (k : Int) < n := by omega
      have c0 : wr.cell? ⟨w.heap.size, 0, none⟩ = some v := row_at RR 0 _ rfl
      obtain ⟨ti1, ti2, ti3, ti4⟩ := HTI.out
      have hrow : Row (wr.alloc (.cells #[.int .i64 k, .bool false, .bool false, .int .i64 0] 36)) wr.heap.size #[.int .i64 k, .bool false, .bool false, .int .i64 0] 36 := Row.new _ _ _
      have ab : Below wr.heap.size wr (wr.alloc (.cells #[.int .i64 k, .bool false, .bool false, .int .i64 0] 36)) := (Below.refl _ _).alloc (Nat.le_refl _) _
      have own3 : (wr.alloc (.cells #[.int .i64 k, .bool false, .bool false, .int .i64 0] 36)).ownsRow (w.heap.size + 1) 36 4 v k (rcells (newF k)) := ownsRow_off HO.out (Off.of_below (F := fun _ => False) ab) (fun _ q => q.elim)
      have HO3 : Hid _ := own3
      have RR3 := RR.below ab RR.lt
      clear own3
      go_wp2_with (first
        | (at_builtin; refine wpList_append_own_at _ rfl (.tmp 16) (.tmp 19) 47 rfl (w.heap.size + 1) 36 ti _ 4 24 Try.underlying47 ti1 ti2 ti3 ti4 rfl (by decide) v k (rcells (newF k)) rfl HO3.out ⟨wr.heap.size, 0, none⟩ 1 1 [.int .i64 k, .bool false, .bool false, .int .i64 0] rfl rfl (fun j u hj => by rw [Addr.add_mid, Nat.zero_add]; exact row_at hrow j u (by simpa using hj)) (fun u hu => by simp at hu; rcases hu with rfl | rfl | rfl | rfl <;> rfl) (by unfold maxLen; omega) (by omega) (by simp; have := HS.out; omega) ?_; intro v' w3 own' gr' hn1 hn2; obtain ⟨oa', cap', hv'⟩ := own_form own'; subst hv'
           have RR4 : Row w3 w.heap.size #[v] 49 := by
             have hl := RR3.lt
             have hb := gr'.block w.heap.size hl (fun e => by have := (World.ownsRow.lt HO3.out _ e.symm).1; omega)
             exact (hb.trans RR3 : _)
           have f4 := row_frozen RR4 0
           have c4 : w3.cell? ⟨w.heap.size, 0, none⟩ = some v := row_at RR4 0 _ rfl))
      have RR5 := row_set RR4 0 (.slice oa' (k + 1) cap')
      go_roundw
      case rel =>
        have gs := gr'.size
        have hs0 := HS.out
        simp at gs
        refine ⟨k + 1, .slice oa' (k + 1) cap', by go_num, by omega, RR5, ?_, ?_, ?_⟩
        · have e : rcells (newF k) ++ [.int .i64 k, .bool false, .bool false, .int .i64 0] = rcells (newF (k + 1)) := by rw [newF_succ, rcells_append]; rfl
          rw [e] at own'
          refine ownsRow_off own' (Off.of_setCell (F := (· = w.heap.size)) _ _ _ rfl) (fun q e => by omega)
        · have g1 : Off (fun q => w.heap.size ≤ q) wr w3 := ⟨gr'.os, gr'.tape, gr'.output, by omega, fun q hq hn => (gr'.block q (by simp; omega) (fun e => hn (by have := (World.ownsRow.lt HO3.out _ e.symm).1; omega))).trans (Below.heap_alloc _ _ _ hq)⟩
          have g2 := g1.trans (Off.of_setCell (F := fun q => w.heap.size ≤ q) w3 ⟨w.heap.size, 0, none⟩ (.slice oa' (k + 1) cap') (Nat.le_refl _)) (fun _ q => Or.inl q)
          exact rb.trans (g2.below rb.size (fun _ q => q))
        · show _ ≤ _
          have : (w3.setCell ⟨w.heap.size, 0, none⟩ (.slice oa' (k + 1) cap')).heap.size = w3.heap.size := by simp [World.setCell]
          omega
      case measure => simp [intOf]; omega
    · have hkn' : ¬ (k : Int) < n := by omega
      have ek : k = n := by omega
      subst ek
      have HPP : Hid (RNewed w k (.returned (.pointer (some ⟨w.heap.size, 0, none⟩))) wr) := by
        have hne : v.ownBlock ≠ some w.heap.size := fun e => by have := (World.ownsRow.lt HO.out _ e).1; omega
        obtain ⟨b, cap, cur, R, _⟩ := RAt.of_owns (r := w.heap.size) (R0 := w.heap.size) (L := newF k) RR (by rw [newF_length]; exact HO.out) (by rw [newF_length]; omega) (by rw [newF_length]; omega) (Nat.le_refl _) (by omega) hne
        exact ⟨_, b, cap, cur, rfl, R, rb⟩
      clear RR HO
      go_wp2
      go_ret
      exact HPP.out
end Go.Proofs.Ytobdeijbmnenmab
