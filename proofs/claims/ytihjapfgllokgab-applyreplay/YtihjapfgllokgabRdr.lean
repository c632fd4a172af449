/-
  Proved here: the methods of page.reader: number, ref and bytes take what stands at the reader's place, and it goes on.
-/
import Derived.Test.YtihjapfgllokgabText
namespace Go.Proofs.Ytihjapfgllokgab
open Go.ChangeShapes Go.WideShapes Go.ChangeAt Go.RowKit
set_option linter.unusedVariables false
set_option linter.unusedSimpArgs false
set_option maxRecDepth 20000

/-- Nothing but some blocks, and new ones, has turned. -/
structure Off (F : Nat → Prop) (w w' : World) : Prop where
  os : w'.os = w.os
  tape : w'.tape = w.tape
  output : w'.output = w.output
  size : w.heap.size ≤ w'.heap.size
  block : ∀ k, k < w.heap.size → ¬ F k → w'.heap[k]? = w.heap[k]?
theorem Off.refl (F : Nat → Prop) (w : World) : Off F w w := ⟨rfl, rfl, rfl, Nat.le_refl _, fun _ _ _ => rfl⟩
theorem Off.trans {F F' : Nat → Prop} {a b c : World} (h : Off F a b) (k : Off F' b c) (hF : ∀ j, F' j → F j ∨ a.heap.size ≤ j) : Off F a c :=
  ⟨k.os.trans h.os, k.tape.trans h.tape, k.output.trans h.output, Nat.le_trans h.size k.size, fun i hi hn => (k.block i (Nat.lt_of_lt_of_le hi h.size) (fun q => by
    rcases hF i q with q | q
    · exact hn q
    · omega)).trans (h.block i hi hn)⟩
theorem Off.mono {F F' : Nat → Prop} {a b : World} (h : Off F a b) (hF : ∀ j, F j → F' j ∨ a.heap.size ≤ j) : Off F' a b :=
  ⟨h.os, h.tape, h.output, h.size, fun i hi hn => h.block i hi (fun q => by
    rcases hF i q with q | q
    · exact hn q
    · omega)⟩
theorem Off.of_below {F : Nat → Prop} {a b : World} (h : Below a.heap.size a b) : Off F a b := ⟨h.os, h.tape, h.output, h.size, fun i hi _ => h.block i hi⟩
theorem Off.of_grown {F : Nat → Prop} {a b : World} {row : Option Nat} (h : a.grownBy b row) (hF : ∀ k, row = some k → F k) : Off F a b :=
  ⟨h.os, h.tape, h.output, h.size, fun i hi hn => h.block i hi (fun q => hn (hF i q.symm))⟩
theorem Off.of_setCell {F : Nat → Prop} (w : World) (p : Addr) (v : Value) (hF : F p.block) : Off F w (w.setCell p v) :=
  ⟨rfl, rfl, rfl, by simp [World.setCell], fun k _ hk => Below.heap_setCell _ _ _ _ (fun q => hk (q ▸ hF))⟩
theorem Off.of_setRow {F : Nat → Prop} (w : World) (g : Nat) (cs : Array Value) (hF : F g) : Off F w (w.setRow g cs) :=
  ⟨rfl, rfl, rfl, by simp [World.setRow], fun k _ hk => setRow_other w g k cs (fun q => hk (q ▸ hF))⟩
theorem Off.drew {F : Nat → Prop} {a b : World} (h : Off F a b) : Off F a b.drew := ⟨h.os, h.tape, h.output, h.size, h.block⟩
theorem Off.below {F : Nat → Prop} {a b : World} (h : Off F a b) {B : Nat} (hB : B ≤ a.heap.size) (hF : ∀ k, F k → B ≤ k) : Below B a b :=
  ⟨h.os, h.tape, h.output, h.size, fun k hk => h.block k (by omega) (fun q => by have := hF k q; omega)⟩
theorem Row.off {F : Nat → Prop} {w w' : World} {g : Nat} {cs : Array Value} {t : TypeId} (h : Row w g cs t) (ho : Off F w w') (hg : ¬ F g) : Row w' g cs t := by
  have hl := h.lt
  unfold Row at h ⊢; rw [ho.block g hl hg]; exact h

/-- The number of n bytes at a place, 0 where they aren't there. -/
def getN (s : ByteArray) (a n : Nat) : Int := if a + n ≤ s.size then num s a n else 0
theorem getN_fits (s : ByteArray) (a n : Nat) : 0 ≤ getN s a n ∧ getN s a n < 2 ^ (8 * n) := by
  unfold getN
  split
  · exact num_fits s a n
  · exact ⟨by omega, Int.pow_pos (by decide)⟩
theorem get_all (s : ByteArray) (a n : Nat) (hs : s.size ≤ maxLen) (hn : n ≤ 8) (ha : a ≤ 1000000000) (w : World) :
    Calls Try.prog 22 #[.string s, .int .i64 a, .int .i64 n] w fun e w' => e = .returned (.tuple #[.int .u64 (getN s a n), .bool (decide (a + n ≤ s.size))]) ∧ w' = w := by
  unfold getN
  by_cases h : a + n ≤ s.size
  · rw [if_pos h, decide_eq_true h]; exact get_any s a n w hs hn h
  · rw [if_neg h, decide_eq_false h]; exact get_none s a n w hs (by omega) (by omega)

set_option maxHeartbeats 1000000 in
theorem number_any (g : Nat) (s : ByteArray) (a n : Nat) (w : World) (hr : Row w g #[.string s, .int .i64 a] 75) (hs : s.size ≤ maxLen) (hn : n ≤ 8) (ha : a ≤ 1000000) :
    Calls Try.prog 28 #[.pointer (some ⟨g, 0, none⟩), .int .i64 n] w fun e w' => e = .returned (.int .u64 (getN s a n)) ∧ Row w' g #[.string s, .int .i64 (a + n : Nat)] 75 ∧ Off (· = g) w w' := by
  obtain ⟨v, HV⟩ : ∃ v, Hid (getN s a n = v) := ⟨_, rfl⟩
  obtain ⟨b, HB⟩ : ∃ b, Hid (decide (a + n ≤ s.size) = b) := ⟨_, rfl⟩
  have HG : Hid _ := get_all s a n hs hn (by omega)
  rw [HV.out, HB.out] at HG
  rw [HV.out]
  have hr1 : Row w.drew g #[.string s, .int .i64 a] 75 := hr
  have c0 := row_at hr1 0 _ rfl
  have c1 := row_at hr1 1 _ rfl
  have f1 := row_frozen hr1 1
  have ew : IntKind.i64.wrap ((a : Int) + n) = ((a + n : Nat) : Int) := by rw [IntKind.wrap_i64]; omega
  have r2 : Row (w.drew.setCell ⟨g, 1, none⟩ (.int .i64 ((a + n : Nat) : Int))) g #[.string s, .int .i64 ((a + n : Nat) : Int)] 75 := row_set hr1 1 _
  have o2 : Off (· = g) w (w.drew.setCell ⟨g, 1, none⟩ (.int .i64 ((a + n : Nat) : Int))) := (Off.refl _ w).drew.trans (Off.of_setCell (F := (· = g)) _ _ _ rfl) (fun j hj => Or.inl hj)
  go_enter Try.func28, Try.ntmps28
  go_upto_region 1 with fail
  refine wp_region_held_drew (S := fun w' => w' = w.drew) (by kernel_rfl) rfl fun hS => ?_
  refine wpAnyH_take (i := 0) (v := .pointer (some ⟨g, 0, none⟩)) rfl (by kernel_rfl) (by kernel_rfl) (by kernel_rfl) (fun _ _ _ h => h) (Or.inl ⟨by rfl, fun w _ => by go_simp⟩) hS ?_
  try simp only [Act.put, List.getElem_toArray, List.getElem_cons_zero, List.getElem_cons_succ, List.setIfInBounds_toArray, List.set_cons_zero, List.set_cons_succ]
  refine wpAnyH_take (i := 1) (v := .pointer (some ⟨g, 0, none⟩)) rfl (by kernel_rfl) (by kernel_rfl) (by kernel_rfl) (fun _ _ _ h => h) (Or.inl ⟨by rfl, fun w _ => by go_simp⟩) hS ?_
  try simp only [Act.put, List.getElem_toArray, List.getElem_cons_zero, List.getElem_cons_succ, List.setIfInBounds_toArray, List.set_cons_zero, List.set_cons_succ]
  refine wpAnyH_take (i := 2) (v := .pointer (some ⟨g, 0, none⟩)) rfl (by kernel_rfl) (by kernel_rfl) (by kernel_rfl) (fun _ _ _ h => h) (Or.inl ⟨by rfl, fun w _ => by go_simp⟩) hS ?_
  try simp only [Act.put, List.getElem_toArray, List.getElem_cons_zero, List.getElem_cons_succ, List.setIfInBounds_toArray, List.set_cons_zero, List.set_cons_succ]
  refine wpAnyH_take (i := 3) (v := .string s) rfl (by kernel_rfl) (by kernel_rfl) (by kernel_rfl) (fun _ _ _ h => h) (Or.inl ⟨by rfl, fun w h => by subst h; go_simp⟩) hS ?_
  try simp only [Act.put, List.getElem_toArray, List.getElem_cons_zero, List.getElem_cons_succ, List.setIfInBounds_toArray, List.set_cons_zero, List.set_cons_succ]
  refine wpAnyH_take (i := 4) (v := .pointer (some ⟨g, 0, none⟩)) rfl (by kernel_rfl) (by kernel_rfl) (by kernel_rfl) (fun _ _ _ h => h) (Or.inl ⟨by rfl, fun w _ => by go_simp⟩) hS ?_
  try simp only [Act.put, List.getElem_toArray, List.getElem_cons_zero, List.getElem_cons_succ, List.setIfInBounds_toArray, List.set_cons_zero, List.set_cons_succ]
  refine wpAnyH_take (i := 5) (v := .pointer (some ⟨g, 0, none⟩)) rfl (by kernel_rfl) (by kernel_rfl) (by kernel_rfl) (fun _ _ _ h => h) (Or.inl ⟨by rfl, fun w _ => by go_simp⟩) hS ?_
  try simp only [Act.put, List.getElem_toArray, List.getElem_cons_zero, List.getElem_cons_succ, List.setIfInBounds_toArray, List.set_cons_zero, List.set_cons_succ]
  refine wpAnyH_take (i := 6) (v := .pointer (some ⟨g, 1, none⟩)) rfl (by kernel_rfl) (by kernel_rfl) (by kernel_rfl) (fun _ _ _ h => h) (Or.inl ⟨by rfl, fun w _ => by go_simp⟩) hS ?_
  try simp only [Act.put, List.getElem_toArray, List.getElem_cons_zero, List.getElem_cons_succ, List.setIfInBounds_toArray, List.set_cons_zero, List.set_cons_succ]
  refine wpAnyH_take (i := 7) (v := .int .i64 a) rfl (by kernel_rfl) (by kernel_rfl) (by kernel_rfl) (fun _ _ _ h => h) (Or.inl ⟨by rfl, fun w h => by subst h; go_simp⟩) hS ?_
  try simp only [Act.put, List.getElem_toArray, List.getElem_cons_zero, List.getElem_cons_succ, List.setIfInBounds_toArray, List.set_cons_zero, List.set_cons_succ]
  refine wpAnyH_take (i := 8) (v := .int .i64 n) rfl (by kernel_rfl) (by kernel_rfl) (by kernel_rfl) (fun _ _ _ h => h) (Or.inl ⟨by rfl, fun w _ => by go_simp⟩) hS ?_
  try simp only [Act.put, List.getElem_toArray, List.getElem_cons_zero, List.getElem_cons_succ, List.setIfInBounds_toArray, List.set_cons_zero, List.set_cons_succ]
  refine wpAnyH_ready (rs := [9]) (by kernel_rfl) (by simp) ?_
  refine AllReadyH.cons rfl (fun K hK => ?_) AllReadyH.nil
  go_simp
  go_at_call 22
  refine (HG.out _).mono ?_
  rintro e wc ⟨rfl, rfl⟩
  refine hK.out _ _ (hS) fun hS => ?_
  try simp only [Act.put, List.getElem_toArray, List.getElem_cons_zero, List.getElem_cons_succ, List.setIfInBounds_toArray, List.set_cons_zero, List.set_cons_succ]
  refine wpAnyH_take (i := 10) (v := .tuple #[.int .u64 v, .bool b]) rfl (by kernel_rfl) (by kernel_rfl) (by kernel_rfl) (fun _ _ _ h => h) (Or.inl ⟨by rfl, fun w _ => by go_simp⟩) hS ?_
  try simp only [Act.put, List.getElem_toArray, List.getElem_cons_zero, List.getElem_cons_succ, List.setIfInBounds_toArray, List.set_cons_zero, List.set_cons_succ]
  refine wpAnyH_take (i := 11) (v := .int .u64 v) rfl (by kernel_rfl) (by kernel_rfl) (by kernel_rfl) (fun _ _ _ h => h) (Or.inl ⟨by rfl, fun w _ => by go_simp⟩) hS ?_
  try simp only [Act.put, List.getElem_toArray, List.getElem_cons_zero, List.getElem_cons_succ, List.setIfInBounds_toArray, List.set_cons_zero, List.set_cons_succ]
  refine wpAnyH_take (i := 12) (v := .bool b) rfl (by kernel_rfl) (by kernel_rfl) (by kernel_rfl) (fun _ _ _ h => h) (Or.inl ⟨by rfl, fun w _ => by go_simp⟩) hS ?_
  try simp only [Act.put, List.getElem_toArray, List.getElem_cons_zero, List.getElem_cons_succ, List.setIfInBounds_toArray, List.set_cons_zero, List.set_cons_succ]
  refine wpAnyH_take (i := 13) (v := .int .u64 v) rfl (by kernel_rfl) (by kernel_rfl) (by kernel_rfl) (fun _ _ _ h => h) (Or.inl ⟨by rfl, fun w _ => by go_simp⟩) hS ?_
  try simp only [Act.put, List.getElem_toArray, List.getElem_cons_zero, List.getElem_cons_succ, List.setIfInBounds_toArray, List.set_cons_zero, List.set_cons_succ]
  refine wpAnyH_take (i := 14) (v := .bool b) rfl (by kernel_rfl) (by kernel_rfl) (by kernel_rfl) (fun _ _ _ h => h) (Or.inl ⟨by rfl, fun w _ => by go_simp⟩) hS ?_
  try simp only [Act.put, List.getElem_toArray, List.getElem_cons_zero, List.getElem_cons_succ, List.setIfInBounds_toArray, List.set_cons_zero, List.set_cons_succ]
  refine wpAnyH_done (by kernel_rfl) ?_ _
  clear hS
  go_wp2
  go_ret
  exact ⟨rfl, r2, o2⟩

theorem size75 : (Try.prog.info? 75).map (·.size) = some 2 := by kernel_rfl
theorem size33 : (Try.prog.info? 33).map (·.size) = some 2 := by kernel_rfl
theorem zero33 (w : World) : (zeroValue 33).run Try.prog w = .ok (.agg #[.int .u16 0, .int .u8 0]) w := (zero_of_info (P := Try.prog) (t := 33) (v := .agg #[.int .u16 0, .int .u8 0]) (n := 2) (by kernel_rfl)).1 w
set_option maxHeartbeats 1000000 in
theorem rref_any (g : Nat) (s : ByteArray) (a : Nat) (w : World) (hr : Row w g #[.string s, .int .i64 a] 75) (hs : s.size ≤ maxLen) (ha : a ≤ 500000) :
    Calls Try.prog 29 #[.pointer (some ⟨g, 0, none⟩)] w fun e w' => e = .returned (.agg #[.int .u16 (getN s a 2), .int .u8 (getN s (a + 2) 1)]) ∧ Row w' g #[.string s, .int .i64 (a + 3 : Nat)] 75 ∧ Off (· = g) w w' := by
  have f1 := getN_fits s a 2
  have f2 := getN_fits s (a + 2) 1
  have HN1 : Hid _ := fun w h => number_any g s a 2 w h hs (by decide) (by omega)
  have HN2 : Hid _ := fun w h => number_any g s (a + 2) 1 w h hs (by decide) (by omega)
  obtain ⟨v1, HV1⟩ : ∃ v, Hid (getN s a 2 = v) := ⟨_, rfl⟩
  obtain ⟨v2, HV2⟩ : ∃ v, Hid (getN s (a + 2) 1 = v) := ⟨_, rfl⟩
  rw [HV1.out] at f1 HN1 ⊢
  rw [HV2.out] at f2 HN2 ⊢
  have e1 : IntKind.u16.wrap v1 = v1 := by rw [IntKind.wrap_u16]; omega
  have e2 : IntKind.u8.wrap v2 = v2 := by rw [IntKind.wrap_u8]; omega
  have e1' : v1 % 65536 = v1 := by omega
  have e2' : v2 % 256 = v2 := by omega
  have hg := hr.lt
  have hz := zero33
  have r0 := hr.alloc (.cells #[.int .u16 0, .int .u8 0] 33)
  have q0 : Row (w.alloc (.cells #[.int .u16 0, .int .u8 0] 33)) w.heap.size #[.int .u16 0, .int .u8 0] 33 := Row.new _ _ _
  have o0 : Off (· = g) w (w.alloc (.cells #[.int .u16 0, .int .u8 0] 33)) := Off.of_below ((Below.refl _ _).alloc (Nat.le_refl _) _)
  go_enter Try.func29, Try.ntmps29
  go_wp2_with (first
    | (go_at_call 28; refine (HN1.out _ r0).mono ?_; clear HN1; rintro e w1 ⟨rfl, r1, o1⟩)
    | (go_at_call 28; refine (HN2.out _ r1).mono ?_; clear HN2; rintro e w2 ⟨rfl, r2, o2⟩
       have q2 : Row w2 w.heap.size #[.int .u16 0, .int .u8 0] 33 := (q0.off o1 (by omega)).off o2 (by omega))
    | (refine store_cells rfl 33 (.tmp 2) (.tmp 11) rfl w.heap.size #[.int .u16 v1, .int .u8 v2] rfl rfl 33 _ q2 2 size33 rfl rfl (by simp [Value.oneCell']) ?_))
  have o5 : Off (· = g) w (w2.setRow w.heap.size #[.int .u16 v1, .int .u8 v2]) := ((o0.trans o1 (fun j h => Or.inl h)).trans o2 (fun j h => Or.inl h)).trans (Off.of_setRow (F := (· = w.heap.size)) _ _ _ rfl) (fun j h => Or.inr (by omega))
  refine bodyPost_ret (v := .agg #[.int .u16 v1, .int .u8 v2]) ?_ rfl ⟨rfl, r2.other (by omega) _, o5⟩
  exact ret_cell (fn := Try.f29) rfl _ _ w.heap.size 33 #[.int .u16 v1, .int .u8 v2] _ rfl (q2.set _) Try.underlying33 rfl size33

theorem extract_tx (l : List Int) (a b : Nat) : (strOfNums l).extract a b = strOfNums ((l.take b).drop a) := by
  have e : ((strOfNums l).extract a b).data.toList = (strOfNums ((l.take b).drop a)).data.toList := by
    rw [strOfNums_data]
    cases h : strOfNums l with | mk d =>
    rw [ByteArray.extract_mk]
    have hd : d.toList = l.map fun n => UInt8.ofNat n.toNat := by rw [← strOfNums_data, h]
    simp [hd, List.map_drop, List.map_take, List.extract_eq_take_drop, List.drop_take]
  cases h1 : (strOfNums l).extract a b with | mk x =>
  cases h2 : strOfNums ((l.take b).drop a) with | mk y =>
  rw [h1, h2] at e
  have : x = y := by rw [← Array.toArray_toList (xs := x), ← Array.toArray_toList (xs := y)]; exact congrArg _ e
  rw [this]
theorem cut_is (l : List Int) (a n : Nat) : (l.take (min (a + n) l.length)).drop (min a l.length) = (l.drop a).take n := by
  by_cases h : a ≤ l.length
  · rw [Nat.min_eq_left h]
    by_cases h2 : a + n ≤ l.length
    · rw [Nat.min_eq_left h2, List.drop_take]; congr 1; omega
    · rw [Nat.min_eq_right (by omega), List.take_length, List.take_of_length_le (by simp; omega)]
  · rw [Nat.min_eq_right (by omega), Nat.min_eq_right (by omega), List.take_length, List.drop_length, List.drop_of_length_le (by omega), List.take_nil]

set_option maxHeartbeats 1000000 in
theorem bytes_any (g : Nat) (l : List Int) (a n : Nat) (w : World) (hr : Row w g #[.string (strOfNums l), .int .i64 a] 75) (hs : l.length ≤ 1000) (hn : n ≤ 1000) (ha : a ≤ 500000) :
    Calls Try.prog 30 #[.pointer (some ⟨g, 0, none⟩), .int .i64 n] w fun e w' => e = .returned (.string (strOfNums ((l.drop a).take n))) ∧ Row w' g #[.string (strOfNums l), .int .i64 (a + n : Nat)] 75 ∧ Off (· = g) w w' := by
  have HX : Hid ((strOfNums l).extract (min a l.length) (min (a + n) l.length) = strOfNums ((l.drop a).take n)) := by show _ = _; rw [extract_tx, cut_is]
  have hz : (strOfNums l).size = l.length := strOfNums_size l
  obtain ⟨N, HN⟩ : ∃ N, Hid (l.length = N) := ⟨_, rfl⟩
  rw [HN.out] at HX hz hs
  obtain ⟨f, HF⟩ : ∃ f, Hid (min a N = f) := ⟨_, rfl⟩
  obtain ⟨t, HT⟩ : ∃ f, Hid (min (a + n) N = f) := ⟨_, rfl⟩
  rw [HF.out, HT.out] at HX
  have emin1 : Hid ((if N < a then (N : Int) else (a : Int)) = f) := by show _ = _; rw [← HF.out]; split <;> omega
  have emin2 : Hid ((if (N : Int) < (a : Int) + n then (N : Int) else (a : Int) + n) = t) := by show _ = _; rw [← HT.out]; split <;> omega
  have hft : f ≤ t := by rw [← HF.out, ← HT.out]; omega
  have htN : t ≤ N := by rw [← HT.out]; omega
  obtain ⟨S, HSS⟩ : ∃ S, Hid (strOfNums l = S) := ⟨_, rfl⟩
  rw [HSS.out] at HX hz hr ⊢
  have hr1 : Row w.drew g #[.string S, .int .i64 a] 75 := hr
  have c0 := row_at hr1 0 _ rfl
  have c1 := row_at hr1 1 _ rfl
  have f1 := row_frozen hr1 1
  have ew : IntKind.i64.wrap ((a : Int) + n) = ((a + n : Nat) : Int) := by rw [IntKind.wrap_i64]; omega
  have r2 : Row (w.drew.setCell ⟨g, 1, none⟩ (.int .i64 ((a + n : Nat) : Int))) g #[.string S, .int .i64 ((a + n : Nat) : Int)] 75 := row_set hr1 1 _
  have o2 : Off (· = g) w (w.drew.setCell ⟨g, 1, none⟩ (.int .i64 ((a + n : Nat) : Int))) := (Off.refl _ w).drew.trans (Off.of_setCell (F := (· = g)) _ _ _ rfl) (fun j hj => Or.inl hj)
  go_enter Try.func30, Try.ntmps30
  go_upto_region 1 with fail
  refine wp_region_held_drew (S := fun w' => w' = w.drew) (by kernel_rfl) rfl fun hS => ?_
  refine wpAnyH_take (i := 0) (v := .pointer (some ⟨g, 0, none⟩)) rfl (by kernel_rfl) (by kernel_rfl) (by kernel_rfl) (fun _ _ _ h => h) (Or.inl ⟨by rfl, fun w _ => by go_simp⟩) hS ?_
  try simp only [Act.put, List.getElem_toArray, List.getElem_cons_zero, List.getElem_cons_succ, List.setIfInBounds_toArray, List.set_cons_zero, List.set_cons_succ]
  refine wpAnyH_take (i := 1) (v := .pointer (some ⟨g, 0, none⟩)) rfl (by kernel_rfl) (by kernel_rfl) (by kernel_rfl) (fun _ _ _ h => h) (Or.inl ⟨by rfl, fun w _ => by go_simp⟩) hS ?_
  try simp only [Act.put, List.getElem_toArray, List.getElem_cons_zero, List.getElem_cons_succ, List.setIfInBounds_toArray, List.set_cons_zero, List.set_cons_succ]
  refine wpAnyH_take (i := 2) (v := .pointer (some ⟨g, 1, none⟩)) rfl (by kernel_rfl) (by kernel_rfl) (by kernel_rfl) (fun _ _ _ h => h) (Or.inl ⟨by rfl, fun w _ => by go_simp⟩) hS ?_
  try simp only [Act.put, List.getElem_toArray, List.getElem_cons_zero, List.getElem_cons_succ, List.setIfInBounds_toArray, List.set_cons_zero, List.set_cons_succ]
  refine wpAnyH_take (i := 3) (v := .int .i64 a) rfl (by kernel_rfl) (by kernel_rfl) (by kernel_rfl) (fun _ _ _ h => h) (Or.inl ⟨by rfl, fun w h => by subst h; go_simp⟩) hS ?_
  try simp only [Act.put, List.getElem_toArray, List.getElem_cons_zero, List.getElem_cons_succ, List.setIfInBounds_toArray, List.set_cons_zero, List.set_cons_succ]
  refine wpAnyH_take (i := 4) (v := .pointer (some ⟨g, 0, none⟩)) rfl (by kernel_rfl) (by kernel_rfl) (by kernel_rfl) (fun _ _ _ h => h) (Or.inl ⟨by rfl, fun w _ => by go_simp⟩) hS ?_
  try simp only [Act.put, List.getElem_toArray, List.getElem_cons_zero, List.getElem_cons_succ, List.setIfInBounds_toArray, List.set_cons_zero, List.set_cons_succ]
  refine wpAnyH_take (i := 5) (v := .pointer (some ⟨g, 0, none⟩)) rfl (by kernel_rfl) (by kernel_rfl) (by kernel_rfl) (fun _ _ _ h => h) (Or.inl ⟨by rfl, fun w _ => by go_simp⟩) hS ?_
  try simp only [Act.put, List.getElem_toArray, List.getElem_cons_zero, List.getElem_cons_succ, List.setIfInBounds_toArray, List.set_cons_zero, List.set_cons_succ]
  refine wpAnyH_take (i := 6) (v := .pointer (some ⟨g, 0, none⟩)) rfl (by kernel_rfl) (by kernel_rfl) (by kernel_rfl) (fun _ _ _ h => h) (Or.inl ⟨by rfl, fun w _ => by go_simp⟩) hS ?_
  try simp only [Act.put, List.getElem_toArray, List.getElem_cons_zero, List.getElem_cons_succ, List.setIfInBounds_toArray, List.set_cons_zero, List.set_cons_succ]
  refine wpAnyH_take (i := 7) (v := .string S) rfl (by kernel_rfl) (by kernel_rfl) (by kernel_rfl) (fun _ _ _ h => h) (Or.inl ⟨by rfl, fun w h => by subst h; go_simp⟩) hS ?_
  try simp only [Act.put, List.getElem_toArray, List.getElem_cons_zero, List.getElem_cons_succ, List.setIfInBounds_toArray, List.set_cons_zero, List.set_cons_succ]
  refine wpAnyH_take (i := 8) (v := .int .i64 N) rfl (by kernel_rfl) (by kernel_rfl) (by kernel_rfl) (fun _ _ _ h => h) (Or.inl ⟨by rfl, fun w _ => by go_simp⟩) hS ?_
  try simp only [Act.put, List.getElem_toArray, List.getElem_cons_zero, List.getElem_cons_succ, List.setIfInBounds_toArray, List.set_cons_zero, List.set_cons_succ]
  refine wpAnyH_take (i := 9) (v := .int .i64 f) rfl (by kernel_rfl) (by kernel_rfl) (by kernel_rfl) (fun _ _ _ h => h) (Or.inl ⟨by rfl, fun w _ => by go_simp; exact emin1.out⟩) hS ?_
  try simp only [Act.put, List.getElem_toArray, List.getElem_cons_zero, List.getElem_cons_succ, List.setIfInBounds_toArray, List.set_cons_zero, List.set_cons_succ]
  refine wpAnyH_take (i := 10) (v := .int .i64 f) rfl (by kernel_rfl) (by kernel_rfl) (by kernel_rfl) (fun _ _ _ h => h) (Or.inl ⟨by rfl, fun w _ => by go_simp⟩) hS ?_
  try simp only [Act.put, List.getElem_toArray, List.getElem_cons_zero, List.getElem_cons_succ, List.setIfInBounds_toArray, List.set_cons_zero, List.set_cons_succ]
  refine wpAnyH_done (by kernel_rfl) ?_ _
  clear hS
  go_upto_region 3 with fail
  clear c0 c1 f1 hr1 hr
  have r2 : Row (w.setCell ⟨g, 1, none⟩ (.int .i64 ((a : Int) + n))).drew g #[.string S, .int .i64 ((a + n : Nat) : Int)] 75 := r2
  have o2 : Off (· = g) w (w.setCell ⟨g, 1, none⟩ (.int .i64 ((a : Int) + n))).drew := o2
  generalize (w.setCell ⟨g, 1, none⟩ (.int .i64 ((a : Int) + n))).drew = w2 at r2 o2 ⊢
  have r3 : Row w2.drew g #[.string S, .int .i64 ((a + n : Nat) : Int)] 75 := r2
  have o3 : Off (· = g) w w2.drew := o2.drew
  clear r2 o2
  have c0 := row_at r3 0 _ rfl
  have c1 := row_at r3 1 _ rfl
  refine wp_region_held_drew (S := fun w' => w' = w2.drew) (by kernel_rfl) rfl fun hS => ?_
  refine wpAnyH_take (i := 0) (v := .pointer (some ⟨g, 0, none⟩)) rfl (by kernel_rfl) (by kernel_rfl) (by kernel_rfl) (fun _ _ _ h => h) (Or.inl ⟨by rfl, fun w _ => by go_simp⟩) hS ?_
  try simp only [Act.put, List.getElem_toArray, List.getElem_cons_zero, List.getElem_cons_succ, List.setIfInBounds_toArray, List.set_cons_zero, List.set_cons_succ]
  refine wpAnyH_take (i := 1) (v := .pointer (some ⟨g, 0, none⟩)) rfl (by kernel_rfl) (by kernel_rfl) (by kernel_rfl) (fun _ _ _ h => h) (Or.inl ⟨by rfl, fun w _ => by go_simp⟩) hS ?_
  try simp only [Act.put, List.getElem_toArray, List.getElem_cons_zero, List.getElem_cons_succ, List.setIfInBounds_toArray, List.set_cons_zero, List.set_cons_succ]
  refine wpAnyH_take (i := 2) (v := .pointer (some ⟨g, 0, none⟩)) rfl (by kernel_rfl) (by kernel_rfl) (by kernel_rfl) (fun _ _ _ h => h) (Or.inl ⟨by rfl, fun w _ => by go_simp⟩) hS ?_
  try simp only [Act.put, List.getElem_toArray, List.getElem_cons_zero, List.getElem_cons_succ, List.setIfInBounds_toArray, List.set_cons_zero, List.set_cons_succ]
  refine wpAnyH_take (i := 3) (v := .string S) rfl (by kernel_rfl) (by kernel_rfl) (by kernel_rfl) (fun _ _ _ h => h) (Or.inl ⟨by rfl, fun w h => by subst h; go_simp⟩) hS ?_
  try simp only [Act.put, List.getElem_toArray, List.getElem_cons_zero, List.getElem_cons_succ, List.setIfInBounds_toArray, List.set_cons_zero, List.set_cons_succ]
  refine wpAnyH_take (i := 4) (v := .int .i64 f) rfl (by kernel_rfl) (by kernel_rfl) (by kernel_rfl) (fun _ _ _ h => h) (Or.inl ⟨by rfl, fun w _ => by go_simp⟩) hS ?_
  try simp only [Act.put, List.getElem_toArray, List.getElem_cons_zero, List.getElem_cons_succ, List.setIfInBounds_toArray, List.set_cons_zero, List.set_cons_succ]
  refine wpAnyH_take (i := 5) (v := .pointer (some ⟨g, 0, none⟩)) rfl (by kernel_rfl) (by kernel_rfl) (by kernel_rfl) (fun _ _ _ h => h) (Or.inl ⟨by rfl, fun w _ => by go_simp⟩) hS ?_
  try simp only [Act.put, List.getElem_toArray, List.getElem_cons_zero, List.getElem_cons_succ, List.setIfInBounds_toArray, List.set_cons_zero, List.set_cons_succ]
  refine wpAnyH_take (i := 6) (v := .pointer (some ⟨g, 0, none⟩)) rfl (by kernel_rfl) (by kernel_rfl) (by kernel_rfl) (fun _ _ _ h => h) (Or.inl ⟨by rfl, fun w _ => by go_simp⟩) hS ?_
  try simp only [Act.put, List.getElem_toArray, List.getElem_cons_zero, List.getElem_cons_succ, List.setIfInBounds_toArray, List.set_cons_zero, List.set_cons_succ]
  refine wpAnyH_take (i := 7) (v := .pointer (some ⟨g, 1, none⟩)) rfl (by kernel_rfl) (by kernel_rfl) (by kernel_rfl) (fun _ _ _ h => h) (Or.inl ⟨by rfl, fun w _ => by go_simp⟩) hS ?_
  try simp only [Act.put, List.getElem_toArray, List.getElem_cons_zero, List.getElem_cons_succ, List.setIfInBounds_toArray, List.set_cons_zero, List.set_cons_succ]
  refine wpAnyH_take (i := 8) (v := .int .i64 ((a + n : Nat) : Int)) rfl (by kernel_rfl) (by kernel_rfl) (by kernel_rfl) (fun _ _ _ h => h) (Or.inl ⟨by rfl, fun w h => by subst h; go_simp⟩) hS ?_
  try simp only [Act.put, List.getElem_toArray, List.getElem_cons_zero, List.getElem_cons_succ, List.setIfInBounds_toArray, List.set_cons_zero, List.set_cons_succ]
  refine wpAnyH_take (i := 9) (v := .pointer (some ⟨g, 0, none⟩)) rfl (by kernel_rfl) (by kernel_rfl) (by kernel_rfl) (fun _ _ _ h => h) (Or.inl ⟨by rfl, fun w _ => by go_simp⟩) hS ?_
  try simp only [Act.put, List.getElem_toArray, List.getElem_cons_zero, List.getElem_cons_succ, List.setIfInBounds_toArray, List.set_cons_zero, List.set_cons_succ]
  refine wpAnyH_take (i := 10) (v := .pointer (some ⟨g, 0, none⟩)) rfl (by kernel_rfl) (by kernel_rfl) (by kernel_rfl) (fun _ _ _ h => h) (Or.inl ⟨by rfl, fun w _ => by go_simp⟩) hS ?_
  try simp only [Act.put, List.getElem_toArray, List.getElem_cons_zero, List.getElem_cons_succ, List.setIfInBounds_toArray, List.set_cons_zero, List.set_cons_succ]
  refine wpAnyH_take (i := 11) (v := .pointer (some ⟨g, 0, none⟩)) rfl (by kernel_rfl) (by kernel_rfl) (by kernel_rfl) (fun _ _ _ h => h) (Or.inl ⟨by rfl, fun w _ => by go_simp⟩) hS ?_
  try simp only [Act.put, List.getElem_toArray, List.getElem_cons_zero, List.getElem_cons_succ, List.setIfInBounds_toArray, List.set_cons_zero, List.set_cons_succ]
  refine wpAnyH_take (i := 12) (v := .string S) rfl (by kernel_rfl) (by kernel_rfl) (by kernel_rfl) (fun _ _ _ h => h) (Or.inl ⟨by rfl, fun w h => by subst h; go_simp⟩) hS ?_
  try simp only [Act.put, List.getElem_toArray, List.getElem_cons_zero, List.getElem_cons_succ, List.setIfInBounds_toArray, List.set_cons_zero, List.set_cons_succ]
  refine wpAnyH_take (i := 13) (v := .int .i64 N) rfl (by kernel_rfl) (by kernel_rfl) (by kernel_rfl) (fun _ _ _ h => h) (Or.inl ⟨by rfl, fun w _ => by go_simp⟩) hS ?_
  try simp only [Act.put, List.getElem_toArray, List.getElem_cons_zero, List.getElem_cons_succ, List.setIfInBounds_toArray, List.set_cons_zero, List.set_cons_succ]
  refine wpAnyH_take (i := 14) (v := .int .i64 t) rfl (by kernel_rfl) (by kernel_rfl) (by kernel_rfl) (fun _ _ _ h => h) (Or.inl ⟨by rfl, fun w _ => by go_simp; exact emin2.out⟩) hS ?_
  try simp only [Act.put, List.getElem_toArray, List.getElem_cons_zero, List.getElem_cons_succ, List.setIfInBounds_toArray, List.set_cons_zero, List.set_cons_succ]
  refine wpAnyH_take (i := 15) (v := .string (strOfNums ((l.drop a).take n))) rfl (by kernel_rfl) (by kernel_rfl) (by kernel_rfl) (fun _ _ _ h => h) (Or.inl ⟨by rfl, fun w _ => by go_simp; exact HX.out⟩) hS ?_
  try simp only [Act.put, List.getElem_toArray, List.getElem_cons_zero, List.getElem_cons_succ, List.setIfInBounds_toArray, List.set_cons_zero, List.set_cons_succ]
  refine wpAnyH_take (i := 16) (v := .string (strOfNums ((l.drop a).take n))) rfl (by kernel_rfl) (by kernel_rfl) (by kernel_rfl) (fun _ _ _ h => h) (Or.inl ⟨by rfl, fun w _ => by go_simp⟩) hS ?_
  try simp only [Act.put, List.getElem_toArray, List.getElem_cons_zero, List.getElem_cons_succ, List.setIfInBounds_toArray, List.set_cons_zero, List.set_cons_succ]
  refine wpAnyH_done (by kernel_rfl) ?_ _
  clear hS
  go_wp2
  go_ret
  exact ⟨rfl, r3, o3⟩
end Go.Proofs.Ytihjapfgllokgab
