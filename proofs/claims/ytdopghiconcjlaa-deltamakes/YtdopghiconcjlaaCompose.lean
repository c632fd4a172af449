/-
  Proved here: delta.Compose of two texts is the text of the places that their pieces have, with the bytes that stand there last.
-/
import Derived.Test.YtdopghiconcjlaaAwake
namespace Go.Proofs.Ytdopghiconcjlaa
open Go.ChangeShapes Go.WideShapes Go.ChangeAt Go.RowKit
set_option linter.unusedVariables false
set_option linter.unusedSimpArgs false

/-- The places that pieces have, beside some. -/
def hasAll (H : List Bool) (ps : List (Nat × List Int)) : List Bool := ps.foldl (fun H p => addP H p.1 p.2.length) H
theorem hasAll_snoc (H : List Bool) (ps : List (Nat × List Int)) (p : Nat × List Int) : hasAll H (ps ++ [p]) = addP (hasAll H ps) p.1 p.2.length := by
  unfold hasAll; rw [List.foldl_append]; rfl
theorem hasAll_length (H : List Bool) (hl : H.length = 64) : ∀ ps : List (Nat × List Int), (hasAll H ps).length = 64 := by
  intro ps
  induction ps generalizing H with
  | nil => exact hl
  | cons p ps ih => exact ih (addP H p.1 p.2.length) (addP_length _ _ _)
theorem fs_length : fs.length = 64 := by simp [fs]

theorem compose1 (g h : Nat) (hgh : g ≠ h) (b : List Int) (hb : b.length = 64) (H : List Bool) (hl : H.length = 64) (a : Nat) (t : ByteArray) (h0 : 0 < t.size) (hs : a + t.size ≤ 64) (w : World) (r : Row w g (bs b) 23) (q : Row w h (bl H) 43) (B : Nat) (hB : B ≤ g) (hB' : B ≤ h) :
    Calls Try.prog 24 (#[.int .i64 (a : Nat), .string t] ++ #[.pointer (some ⟨g, 0, none⟩), .pointer (some ⟨h, 0, none⟩)]) w fun e w' => e = .returned (.tuple #[]) ∧ Row w' g (bs (splice b a (nums t))) 23 ∧ Row w' h (bl (addP H a t.size)) 43 ∧ Below B w w' := by
  simp only [List.append_toArray, List.cons_append, List.nil_append]
  have hsl := slice23l g a (by omega)
  have hmx : t.size ≤ 64 := by omega
  go_enter Try.func24, Try.ntmps24
  go_wp2_with (first
    | (refine copy_text rfl (.tmp 7) (.tmp 8) 48 9 rfl 5 Try.underlying48 size5 g a (64 - a) (64 - a) rfl t rfl b 23 r (by omega) (by omega) ?_
       have r1 := r.set (bs (splice b a (nums t)))
       have q1 := q.other (Ne.symm hgh) (bs (splice b a (nums t)))
       have b1 := below_setRow (Below.refl B w) hB (bs (splice b a (nums t)))
       generalize w.setRow g (bs (splice b a (nums t))) = w1 at r1 q1 b1 ⊢
       clear r q)
    | (go_at_call 17; refine (add_any h H hl a t.size hs _ q1).mono ?_; rintro e w2 ⟨rfl, q2, qt⟩
       have r2 := r1.turned qt hgh
       have b2 := b1.trans (qt.below hB')
       clear r1 q1 b1 qt))
  first
    | (go_end0; exact ⟨rfl, r2, q2, b2⟩)
    | (refine bodyPost_ret (results_none rfl _ _ _) rfl ?_; exact ⟨rfl, r2, q2, b2⟩)

/-- What Compose answers. -/
def composed (d e : ByteArray) : Value :=
  match pieces d, pieces e with
  | some p, some q => .tuple #[.string (strOfNums (tell (applyAll (zs 64) (p ++ q)) (hasAll fs (p ++ q)))), .int .i64 0]
  | _, _ => .tuple #[.string ⟨#[]⟩, .int .i64 2]
def CInv (w : World) (pre done : List (Nat × List Int)) (w' : World) : Prop :=
  Fits (pre ++ done) ∧ Row w' w.heap.size (bs (applyAll (zs 64) (pre ++ done))) 23 ∧ Row w' (w.heap.size + 1) (bl (hasAll fs (pre ++ done))) 43 ∧ Below w.heap.size w w'
theorem CInv.call (w : World) (pre : List (Nat × List Int)) : ∀ done a (t : ByteArray) w', 0 < t.size → a + t.size ≤ 64 → CInv w pre done w' →
    Calls Try.prog 24 (#[.int .i64 (a : Nat), .string t] ++ #[.pointer (some ⟨w.heap.size, 0, none⟩), .pointer (some ⟨w.heap.size + 1, 0, none⟩)]) w' fun e w'' => e = .returned (.tuple #[]) ∧ CInv w pre (done ++ [(a, nums t)]) w'' := by
  intro done a t w' h0 h1 h
  refine (compose1 w.heap.size (w.heap.size + 1) (by omega) (applyAll (zs 64) (pre ++ done)) (applyAll_length _ (zs_length _) _ h.1) (hasAll fs (pre ++ done)) (hasAll_length fs fs_length _) a t h0 h1 w' h.2.1 h.2.2.1 w.heap.size (Nat.le_refl _) (by omega)).mono ?_
  rintro e w'' ⟨he, r, q, hb⟩
  refine ⟨he, ?_⟩
  have e1 : pre ++ (done ++ [(a, nums t)]) = (pre ++ done) ++ [(a, nums t)] := by simp
  unfold CInv
  rw [e1, applyAll_snoc, hasAll_snoc]
  refine ⟨h.1.snoc _ (by show a + (nums t).length ≤ 64; rw [nums_length]; exact h1), r, ?_, h.2.2.2.trans hb⟩
  show Row w'' (w.heap.size + 1) (bl (addP (hasAll fs (pre ++ done)) a (nums t).length)) 43
  rw [nums_length]; exact q
theorem CInv.drew (w : World) (pre : List (Nat × List Int)) : ∀ done w', CInv w pre done w' → CInv w pre done w'.drew :=
  fun done w' h => ⟨h.1, h.2.1, h.2.2.1, h.2.2.2.drew⟩

theorem compose_any (d e : ByteArray) (hd : d.size ≤ maxLen) (he : e.size ≤ maxLen) (w : World) :
    Calls Try.prog 15 #[.string d, .string e] w fun x w' => x = .returned (composed d e) ∧ Below w.heap.size w w' := by
  have hmf : ∀ (fn : Fn) (first cap : Array Value) (w : World), (Instr.makeFunc fn first cap).run Try.prog w = .ok (.func fn first cap) w := fun _ _ _ _ => rfl
  have HD : Hid (d.size ≤ maxLen) := hd
  have HE : Hid (e.size ≤ maxLen) := he
  clear hd he
  have hz := zero23
  have hz' := zero43
  have HI : Hid (CInv w [] [] ((w.alloc (.cells (bs (zs 64)) 23)).alloc (.cells (bl fs) 43))) := by
    refine ⟨(fun p hp => nomatch hp), (Row.new _ _ _).alloc _, ?_, ((Below.refl _ _).alloc (Nat.le_refl _) _).alloc (by simp) _⟩
    have := Row.new (w.alloc (.cells (bs (zs 64)) 23)) (bl fs) 43; simpa [hasAll] using this
  cases hp : pieces d with
  | none =>
    have HO : Hid (composed d e = .tuple #[.string ⟨#[]⟩, .int .i64 2]) := by show _ = _; unfold composed; rw [hp]
    have HP : Hid (pieces d = none) := hp
    clear hp
    go_enter Try.func15, Try.ntmps15
    go_wp2_with (go_at_call 20; refine (pieces_any 24 #[.pointer (some ⟨w.heap.size, 0, none⟩), .pointer (some ⟨w.heap.size + 1, 0, none⟩)] ent24 (CInv w []) (CInv.call w []) (CInv.drew w []) d HD.out _ HI.out).mono ?_; rw [HP.out]; rintro x w1 ⟨rfl, done, hI, _⟩)
    go_ret2
    exact ⟨by rw [HO.out]; rfl, hI.2.2.2⟩
  | some p =>
    have HP : Hid (pieces d = some p) := hp
    cases hq : pieces e with
    | none =>
      have HO : Hid (composed d e = .tuple #[.string ⟨#[]⟩, .int .i64 2]) := by show _ = _; unfold composed; rw [hp, hq]
      have HQ : Hid (pieces e = none) := hq
      clear hp hq
      go_enter Try.func15, Try.ntmps15
      go_wp2_with (first
        | (go_at_call 20; refine (pieces_any 24 #[.pointer (some ⟨w.heap.size, 0, none⟩), .pointer (some ⟨w.heap.size + 1, 0, none⟩)] ent24 (CInv w []) (CInv.call w []) (CInv.drew w []) d HD.out _ HI.out).mono ?_; rw [HP.out]; rintro x w1 ⟨rfl, done, hI, hd⟩
           have hd := hd p rfl
           subst hd
           have HJ : Hid (CInv w done [] w1) := by show CInv w done [] w1; unfold CInv at hI ⊢; simpa using hI
           clear hI HI)
        | (go_at_call 20; refine (pieces_any 24 #[.pointer (some ⟨w.heap.size, 0, none⟩), .pointer (some ⟨w.heap.size + 1, 0, none⟩)] ent24 (CInv w done) (CInv.call w done) (CInv.drew w done) e HE.out _ HJ.out).mono ?_; rw [HQ.out]; rintro x w2 ⟨rfl, done2, hI2, _⟩))
      go_ret2
      exact ⟨by rw [HO.out]; rfl, hI2.2.2.2⟩
    | some q =>
      have HO : Hid (composed d e = .tuple #[.string (strOfNums (tell (applyAll (zs 64) (p ++ q)) (hasAll fs (p ++ q)))), .int .i64 0]) := by show _ = _; unfold composed; rw [hp, hq]
      have HQ : Hid (pieces e = some q) := hq
      clear hp hq
      go_enter Try.func15, Try.ntmps15
      go_wp2_with (first
        | (go_at_call 20; refine (pieces_any 24 #[.pointer (some ⟨w.heap.size, 0, none⟩), .pointer (some ⟨w.heap.size + 1, 0, none⟩)] ent24 (CInv w []) (CInv.call w []) (CInv.drew w []) d HD.out _ HI.out).mono ?_; rw [HP.out]; rintro x w1 ⟨rfl, done, hI, hd⟩
           have hd := hd p rfl
           subst hd
           have HJ : Hid (CInv w done [] w1) := by show CInv w done [] w1; unfold CInv at hI ⊢; simpa using hI
           clear hI HI)
        | (go_at_call 20; refine (pieces_any 24 #[.pointer (some ⟨w.heap.size, 0, none⟩), .pointer (some ⟨w.heap.size + 1, 0, none⟩)] ent24 (CInv w done) (CInv.call w done) (CInv.drew w done) e HE.out _ HJ.out).mono ?_; rw [HQ.out]; rintro x w2 ⟨rfl, done2, hI2, hd2⟩
           have hd2 := hd2 q rfl
           subst hd2
           obtain ⟨hf, r0, r1, rb⟩ := hI2
           have hAl := applyAll_length (zs 64) (zs_length _) _ hf
           have hHl := hasAll_length fs fs_length (done ++ done2)
           obtain ⟨A, HA⟩ : ∃ A, Hid (applyAll (zs 64) (done ++ done2) = A) := ⟨_, rfl⟩
           obtain ⟨H, HH⟩ : ∃ H, Hid (hasAll fs (done ++ done2) = H) := ⟨_, rfl⟩
           rw [HA.out] at r0 hAl
           rw [HH.out] at r1 hHl
           have HO2 := HO.out
           rw [HA.out, HH.out] at HO2
           have HO3 := show Hid _ from HO2
           clear HO2 HJ)
        | (refine load_row rfl 23 (.tmp 6) rfl w.heap.size rfl 23 (bs A) r0 64 5 Try.underlying23 size23 (by rw [bs_size, hAl]) ?_)
        | (refine load_row rfl 43 (.tmp 7) rfl (w.heap.size + 1) rfl 43 (bl H) r1 64 4 Try.underlying43 size43 (by rw [bl_size, hHl]) ?_)
        | (go_at_call 18; refine (tell_any A hAl H hHl _).mono ?_; rintro x w3 ⟨rfl, h3⟩))
      go_ret2
      exact ⟨by rw [HO3.out]; rfl, rb.trans (h3.mono (Nat.le_of_lt r0.lt))⟩
end Go.Proofs.Ytdopghiconcjlaa
