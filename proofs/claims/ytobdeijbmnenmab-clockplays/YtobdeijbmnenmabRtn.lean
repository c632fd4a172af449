/-
  Proved here: how the document's clock is turned.
-/
import Derived.Test.YtobdeijbmnenmabLst
namespace Go.Proofs.Ytobdeijbmnenmab
open Go.ChangeShapes Go.WideShapes Go.ChangeAt Go.RowKit
open Go.Deep
set_option linter.unusedVariables false
set_option linter.unusedSimpArgs false

theorem wp_copy {T : Value → World → Prop} {w : World} {o : Oper} {a : Act} {K : Act → World → Prop} {Q : Exit → Act → World → Prop} (s x : Operand) (t : TypeId)
    (ho : o.op = .call { callee := .builtin .append, args := #[s, x], argTypes := #[t, t] }) (sv v : Value) (hs : a.eval s = sv) (hx : a.eval x = v)
    (hr : ∀ ty, ∃ v' w', (Builtin.append_ #[t, t] ty #[sv, v]).run Try.prog w = .ok v' w' ∧ T v' w')
    (h : ∀ v' w', T v' w' → K (a.put o.dst v') w') : Oper.wp Try.prog o a w K Q := by
  obtain ⟨v', w', hrun, hT⟩ := hr o.type
  unfold Oper.wp
  simp [execOp, ho, resolve, invoke, builtin, hs, hx, hrun, Result.andThen]
  exact h v' w' hT
theorem RAt.offs {F : Nat → Prop} {w w' : World} {r b cap : Nat} {cur : Array Value} {L : List Fr} {R0 : Nat} (c : RAt w r b cap cur L R0) (ho : Off F w w') (hF : ∀ k, two r b k → ¬ F k) : RAt w' r b cap cur L R0 :=
  { c with row := c.row.off ho (hF _ (Or.inl rfl)), arr := c.arr.off ho (hF _ (Or.inr rfl)) }
def RTurned (w : World) (r R0 : Nat) (L : List Fr) (e : Ending) (w' : World) : Prop := e = .returned (.tuple #[]) ∧ ∃ b' cap' cur', RAt w' r b' cap' cur' L R0 ∧ Off (fun j => j = r) w w'
set_option maxHeartbeats 2000000 in
set_option maxRecDepth 20000 in
theorem turn_any {w : World} {r b cap : Nat} {cur : Array Value} {L : List Fr} {R0 : Nat} (c : RAt w r b cap cur L R0) (k : Nat) (hk : k ≤ L.length) :
    Calls Try.prog 21 #[.pointer (some ⟨r, 0, none⟩), .int .i64 k] w fun e w' => RTurned w r R0 (L.drop k ++ L.take k) e w' := by
  obtain ⟨ti, hti, htz, hts, htb⟩ := info_parts info36
  have HTI : Hid _ := And.intro hti (And.intro htz (And.intro hts htb))
  clear hti htz hts htb
  have hk64 : k ≤ 64 := Nat.le_trans hk c.small
  have hR0w : R0 ≤ w.heap.size := Nat.le_trans c.lor (Nat.le_of_lt c.row.lt)
  have HR0 : Hid _ := hR0w
  clear hR0w
  go_enter Try.func21, Try.ntmps21
  go_wp2_with fail
  go_loopw [4] (fun i wr => ∃ (q b' cap' : Nat) (cur' : Array Value), i = .int .i64 q ∧ q ≤ k ∧ RAt wr r b' cap' cur' (L.drop q ++ L.take q) R0 ∧ Off (fun j => j = r) w wr) (fun i _ => k - (intOf i).toNat)
  case atStart => exact ⟨0, b, cap, cur, rfl, by omega, by rw [List.drop_zero, List.take_zero, List.append_nil]; exact c, Off.refl _ _⟩
  case round =>
    clear c
    obtain ⟨q, b, cap, cur, rfl, hq, C, ro⟩ := hrel
    by_cases hqk : q < k
    · have hqk' : (q : Int) < k := by omega
      have hqL : q < L.length := by omega
      have hrot : L.drop q ++ L.take q = L[q] :: (L.drop (q + 1) ++ L.take q) := by rw [List.drop_eq_getElem_cons hqL]; rfl
      have hnext : (L.drop (q + 1) ++ L.take q) ++ [L[q]] = L.drop (q + 1) ++ L.take (q + 1) := by rw [List.append_assoc, List.take_add_one, List.getElem?_eq_getElem hqL]; rfl
      rw [hrot] at C
      have HNX : Hid ((L.drop (q + 1) ++ L.take q) ++ [L[q]] = L.drop (q + 1) ++ L.take (q + 1)) := hnext
      obtain ⟨x, HX⟩ : ∃ x, Hid (L[q]'hqL = x) := ⟨L[q]'hqL, show L[q]'hqL = L[q]'hqL from rfl⟩
      obtain ⟨T, HT⟩ : ∃ T, Hid (L.drop (q + 1) ++ L.take q = T) := ⟨_, rfl⟩
      rw [HX.out, HT.out] at C HNX
      clear hrot hnext
      obtain ⟨n, Hn⟩ : ∃ n, Hid ((x :: T).length = n) := ⟨_, rfl⟩
      have hn1 : 1 ≤ n := by rw [← Hn.out]; exact C.pos
      have hn1' : (1 : Int) ≤ (n : Int) := by omega
      have hn0 : ¬ n = 0 := by omega
      have hn0' : (0 : Int) < (n : Int) := by omega
      have hn64 : n ≤ 64 := by rw [← Hn.out]; exact C.small
      have hle : n ≤ cap := by rw [← Hn.out]; exact C.le
      have hcm : cap ≤ 9223372036854775807 := by have := C.capM; unfold maxLen at this; omega
      obtain ⟨A, HA⟩ : ∃ A : Addr, Hid ((if cap = 1 then some (⟨b, 0, none⟩ : Addr) else some ⟨b, 4, none⟩) = some A) := by
        by_cases e : cap = 1
        · exact ⟨⟨b, 0, none⟩, by show _ = _; rw [if_pos e]⟩
        · exact ⟨⟨b, 4, none⟩, by show _ = _; rw [if_neg e]⟩
      have HTL : Hid ((rcells T).length = (n - 1) * 4) := by show _ = _; rw [rcells_length, ← Hn.out]; simp
      have HLD : Hid (∀ w', RAt w' r b cap cur (x :: T) R0 ∧ Off (fun j => j = r) wr w' → w'.cell? ⟨r, 0, none⟩ = some (.slice (some ⟨b, 0, none⟩) n cap)) := fun w' h => by rw [← Hn.out]; exact row_at h.1.row 0 _ rfl
      have HRG : Hid (∀ w', RAt w' r b cap cur (x :: T) R0 ∧ Off (fun j => j = r) wr w' → w'.rangeAt b 0 [.int .i64 x.no, .bool x.seen, .bool x.cold, .int .i64 x.pins]) := fun w' h j v hv => by
        have := h.1.cell (i := 0) (x := x) rfl j (List.getElem?_eq_some_iff.1 hv).1 v hv
        simpa using this
      have HAC : Hid (∀ w', RAt w' r b cap cur (x :: T) R0 ∧ Off (fun j => j = r) wr w' → ∀ j u, (rcells T)[j]? = some u → w'.cell? (A.add j) = some u) := fun w' h j u hj => by
        have hjl := (List.getElem?_eq_some_iff.1 hj).1
        rw [HTL.out] at hjl
        have hcap : ¬ cap = 1 := fun e => by omega
        have hA := HA.out
        rw [if_neg hcap] at hA
        cases hA
        rw [Addr.add_mid]
        refine row_at h.1.arr _ _ ?_
        have h1 : (rcells (x :: T))[4 + j]? = some u := by
          rw [rcells_cons, List.getElem?_append_right (by simp [rcell]), show 4 + j - (rcell x).length = j by simp [rcell]]; exact hj
        rw [← h.1.take, List.getElem?_take] at h1
        split at h1
        · simpa using h1
        · cases h1
      obtain ⟨base, HBS⟩ : ∃ base, Hid (wr.heap.size = base) := ⟨_, rfl⟩
      have hS0L : r < base ∧ b < base := ⟨by rw [← HBS.out]; exact C.row.lt, by rw [← HBS.out]; exact C.arr.lt⟩
      have HRB : Hid (R0 ≤ base) := by show _ ≤ _; rw [← HBS.out]; exact Nat.le_trans HR0.out ro.size
      have hRB := HRB.out
      go_upto_region 3 with fail
      refine wp_region_last (S := fun w' => RAt w' r b cap cur (x :: T) R0 ∧ Off (fun j => j = r) wr w') 18 (by kernel_rfl) ⟨C.below (Below.refl _ _).drew, (Off.refl _ _).drew⟩ fun hS => ?_
      refine wpAnyL_take (i := 0) (v := .pointer (some ⟨r, 0, none⟩)) rfl (by kernel_rfl) (by kernel_rfl) (by kernel_rfl) (by kernel_rfl) (fun _ _ _ h => h) (Or.inl ⟨by rfl, fun w _ => by rfl⟩) hS ?_
      try simp only [Act.put, List.getElem_toArray, List.getElem_cons_zero, List.getElem_cons_succ, List.setIfInBounds_toArray, List.set_cons_zero, List.set_cons_succ]
      refine wpAnyL_take (i := 2) (v := .pointer (some ⟨r, 0, none⟩)) rfl (by kernel_rfl) (by kernel_rfl) (by kernel_rfl) (by kernel_rfl) (fun _ _ _ h => h) (Or.inl ⟨by rfl, fun w _ => by rfl⟩) hS ?_
      try simp only [Act.put, List.getElem_toArray, List.getElem_cons_zero, List.getElem_cons_succ, List.setIfInBounds_toArray, List.set_cons_zero, List.set_cons_succ]
      refine wpAnyL_take (i := 3) (v := .pointer (some ⟨r, 0, none⟩)) rfl (by kernel_rfl) (by kernel_rfl) (by kernel_rfl) (by kernel_rfl) (fun _ _ _ h => h) (Or.inl ⟨by rfl, fun w _ => by go_simp⟩) hS ?_
      try simp only [Act.put, List.getElem_toArray, List.getElem_cons_zero, List.getElem_cons_succ, List.setIfInBounds_toArray, List.set_cons_zero, List.set_cons_succ]
      refine wpAnyL_take (i := 4) (v := .pointer (some ⟨r, 0, none⟩)) rfl (by kernel_rfl) (by kernel_rfl) (by kernel_rfl) (by kernel_rfl) (fun _ _ _ h => h) (Or.inl ⟨by rfl, fun w _ => by go_simp⟩) hS ?_
      try simp only [Act.put, List.getElem_toArray, List.getElem_cons_zero, List.getElem_cons_succ, List.setIfInBounds_toArray, List.set_cons_zero, List.set_cons_succ]
      refine wpAnyL_take (i := 5) (v := .slice (some ⟨b, 0, none⟩) n cap) rfl (by kernel_rfl) (by kernel_rfl) (by kernel_rfl) (by kernel_rfl) (fun _ _ _ h => h) (Or.inl ⟨by rfl, fun w h => by have c := HLD.out w h; go_simp⟩) hS ?_
      try simp only [Act.put, List.getElem_toArray, List.getElem_cons_zero, List.getElem_cons_succ, List.setIfInBounds_toArray, List.set_cons_zero, List.set_cons_succ]
      refine wpAnyL_take (i := 6) (v := .slice (some A) (n - 1) (cap - 1)) rfl (by kernel_rfl) (by kernel_rfl) (by kernel_rfl) (by kernel_rfl) (fun _ _ _ h => h) (Or.inl ⟨by rfl, fun w _ => by have q := HA.out; go_simp⟩) hS ?_
      try simp only [Act.put, List.getElem_toArray, List.getElem_cons_zero, List.getElem_cons_succ, List.setIfInBounds_toArray, List.set_cons_zero, List.set_cons_succ]
      refine wpAnyL_take (i := 8) (v := .pointer (some ⟨r, 0, none⟩)) rfl (by kernel_rfl) (by kernel_rfl) (by kernel_rfl) (by kernel_rfl) (fun _ _ _ h => h) (Or.inl ⟨by rfl, fun w _ => by rfl⟩) hS ?_
      try simp only [Act.put, List.getElem_toArray, List.getElem_cons_zero, List.getElem_cons_succ, List.setIfInBounds_toArray, List.set_cons_zero, List.set_cons_succ]
      refine wpAnyL_take (i := 9) (v := .pointer (some ⟨r, 0, none⟩)) rfl (by kernel_rfl) (by kernel_rfl) (by kernel_rfl) (by kernel_rfl) (fun _ _ _ h => h) (Or.inl ⟨by rfl, fun w _ => by go_simp⟩) hS ?_
      try simp only [Act.put, List.getElem_toArray, List.getElem_cons_zero, List.getElem_cons_succ, List.setIfInBounds_toArray, List.set_cons_zero, List.set_cons_succ]
      refine wpAnyL_take (i := 10) (v := .pointer (some ⟨r, 0, none⟩)) rfl (by kernel_rfl) (by kernel_rfl) (by kernel_rfl) (by kernel_rfl) (fun _ _ _ h => h) (Or.inl ⟨by rfl, fun w _ => by go_simp⟩) hS ?_
      try simp only [Act.put, List.getElem_toArray, List.getElem_cons_zero, List.getElem_cons_succ, List.setIfInBounds_toArray, List.set_cons_zero, List.set_cons_succ]
      refine wpAnyL_take (i := 11) (v := .slice (some ⟨b, 0, none⟩) n cap) rfl (by kernel_rfl) (by kernel_rfl) (by kernel_rfl) (by kernel_rfl) (fun _ _ _ h => h) (Or.inl ⟨by rfl, fun w h => by have c := HLD.out w h; go_simp⟩) hS ?_
      try simp only [Act.put, List.getElem_toArray, List.getElem_cons_zero, List.getElem_cons_succ, List.setIfInBounds_toArray, List.set_cons_zero, List.set_cons_succ]
      refine wpAnyL_take (i := 12) (v := .pointer (some ⟨b, 0, none⟩)) rfl (by kernel_rfl) (by kernel_rfl) (by kernel_rfl) (by kernel_rfl) (fun _ _ _ h => h) (Or.inl ⟨by rfl, fun w _ => by go_simp⟩) hS ?_
      try simp only [Act.put, List.getElem_toArray, List.getElem_cons_zero, List.getElem_cons_succ, List.setIfInBounds_toArray, List.set_cons_zero, List.set_cons_succ]
      refine wpAnyL_take (i := 13) (v := .agg #[.int .i64 x.no, .bool x.seen, .bool x.cold, .int .i64 x.pins]) rfl (by kernel_rfl) (by kernel_rfl) (by kernel_rfl) (by kernel_rfl) (fun _ _ _ h => h) (yieldsIf_load_mid (by rfl) 36 (.tmp 22) rfl b 0 rfl [.int .i64 x.no, .bool x.seen, .bool x.cold, .int .i64 x.pins] _ (fun w h => HRG.out w h) Try.underlying36 rfl size36) hS ?_
      try simp only [Act.put, List.getElem_toArray, List.getElem_cons_zero, List.getElem_cons_succ, List.setIfInBounds_toArray, List.set_cons_zero, List.set_cons_succ]
      clear C
      generalize wr.drew = W0 at hS ⊢
      refine wpAnyL_ready (rs := [1, 14]) (by kernel_rfl) (by simp) ?_
      refine AllReadyL.cons rfl (fun K hK => ?_) (AllReadyL.cons rfl (fun K hK => ?_) AllReadyL.nil)
      · have own0 : (W0.alloc (.cells #[] 36)).ownsRow base 36 4 (.slice (some ⟨W0.heap.size, 0, none⟩) 0 0) 0 [] := ⟨rfl, Or.inr ⟨W0.heap.size, 0, #[], rfl, by rw [← HBS.out]; exact hS.2.size, heap_alloc_last _ _, Nat.le_refl _, by unfold maxLen; omega, rfl, rfl⟩⟩
        have ab : Below W0.heap.size W0 (W0.alloc (.cells #[] 36)) := (Below.refl _ _).alloc (Nat.le_refl _) _
        have hS2 : RAt (W0.alloc (.cells #[] 36)) r b cap cur (x :: T) R0 ∧ Off (fun j => j = r) wr (W0.alloc (.cells #[] 36)) := ⟨hS.1.below ab, hS.2.trans (Off.of_below (F := fun _ => False) ab) (fun _ q => q.elim)⟩
        obtain ⟨E, HE⟩ : ∃ E, Hid (W0.heap.size = E) := ⟨_, rfl⟩
        have hEb : base ≤ E := by rw [← HE.out, ← HBS.out]; exact hS.2.size
        go_simp
        refine hK.out _ _ (fun _ => hS2) ?_
        try simp only [Act.put, List.getElem_toArray, List.getElem_cons_zero, List.getElem_cons_succ, List.setIfInBounds_toArray, List.set_cons_zero, List.set_cons_succ]
        rw [HE.out] at own0 ⊢
        clear hS ab
        generalize W0.alloc (.cells #[] 36) = W1 at own0 hS2 ⊢
        have hS := hS2
        clear hS2
        refine wpAnyL_ready (rs := [7, 14]) (by kernel_rfl) (by simp) ?_
        refine AllReadyL.cons rfl (fun K hK => ?_) (AllReadyL.cons rfl (fun K hK => ?_) AllReadyL.nil)
        · have HR : Hid (∀ ty, ∃ v' w', (Builtin.append_ #[47, 47] ty #[.slice (some ⟨E, 0, none⟩) 0 0, .slice (some A) (n - 1) (cap - 1)]).run Try.prog W1 = .ok v' w' ∧ (w'.ownsRow base 36 4 v' (n - 1) (rcells T) ∧ W1.grownBy w' (some E))) := fun ty => by
            obtain ⟨ti1, ti2, ti3, ti4⟩ := HTI.out
            obtain ⟨v', w', h1, h2, h3, _, _⟩ := run_append_own_at (P := Try.prog) W1 base 47 ty 36 ti _ 4 24 Try.underlying47 ti1 ti2 ti3 ti4 rfl (by decide) _ 0 [] own0 A (n - 1) (cap - 1) (rcells T) (HTL.out) (HAC.out _ hS) (rcells_one T) (by unfold maxLen; omega) (by omega) (by have := hS.2.size; rw [HBS.out] at this; exact this)
            exact ⟨v', w', h1, by rw [Nat.zero_add, List.nil_append] at h2; exact h2, h3⟩
          refine step_of rfl (wp_copy (.tmp 11) (.tmp 16) 47 rfl _ _ rfl rfl (fun ty => HR.out ty) ?_)
          rintro v7 W17 ⟨own7, gr7⟩
          have hEr : ∀ j, j = E → ¬ two r b j := fun j hj q => by
            have h1 := hS0L.1
            have h2 := hS0L.2
            rcases q with q | q <;> omega
          have o7 : Off (· = E) W1 W17 := Off.of_grown gr7 (fun k hk => by cases hk; rfl)
          have hS2 : RAt W17 r b cap cur (x :: T) R0 ∧ Off (fun j => j = r) wr W17 := ⟨hS.1.offs o7 (fun j q e => hEr j e q), hS.2.trans o7 (fun j q => Or.inr (by subst q; rw [HBS.out]; exact hEb))⟩
          refine hK.out _ _ (fun _ => hS2) ?_
          try simp only [Act.put, List.getElem_toArray, List.getElem_cons_zero, List.getElem_cons_succ, List.setIfInBounds_toArray, List.set_cons_zero, List.set_cons_succ]
          clear hS own0 HR
          have hS := hS2
          clear hS2
          refine wpAnyL_ready (rs := [14]) (by kernel_rfl) (by simp) ?_
          refine AllReadyL.cons rfl (fun K hK => ?_) AllReadyL.nil
          have rX0 : Row (W17.alloc (.cells #[.int .i64 x.no, .bool x.seen, .bool x.cold, .int .i64 x.pins] 36)) W17.heap.size #[.int .i64 x.no, .bool x.seen, .bool x.cold, .int .i64 x.pins] 36 := Row.new _ _ _
          have ab : Below W17.heap.size W17 (W17.alloc (.cells #[.int .i64 x.no, .bool x.seen, .bool x.cold, .int .i64 x.pins] 36)) := (Below.refl _ _).alloc (Nat.le_refl _) _
          have hS2 : RAt (W17.alloc (.cells #[.int .i64 x.no, .bool x.seen, .bool x.cold, .int .i64 x.pins] 36)) r b cap cur (x :: T) R0 ∧ Off (fun j => j = r) wr (W17.alloc (.cells #[.int .i64 x.no, .bool x.seen, .bool x.cold, .int .i64 x.pins] 36)) := ⟨hS.1.below ab, hS.2.trans (Off.of_below (F := fun _ => False) ab) (fun _ q => q.elim)⟩
          obtain ⟨X, HX2⟩ : ∃ X, Hid (W17.heap.size = X) := ⟨_, rfl⟩
          have hXb : base ≤ X := by rw [← HX2.out, ← HBS.out]; exact hS.2.size
          have own72 : (W17.alloc (.cells #[.int .i64 x.no, .bool x.seen, .bool x.cold, .int .i64 x.pins] 36)).ownsRow base 36 4 v7 (n - 1) (rcells T) := ownsRow_off own7 (Off.of_below (F := fun _ => False) ab) (fun _ q => q.elim)
          go_simp
          refine hK.out _ _ (fun _ => hS2) ?_
          try simp only [Act.put, List.getElem_toArray, List.getElem_cons_zero, List.getElem_cons_succ, List.setIfInBounds_toArray, List.set_cons_zero, List.set_cons_succ]
          rw [HX2.out] at rX0 ⊢
          clear hS ab
          generalize W17.alloc (.cells #[.int .i64 x.no, .bool x.seen, .bool x.cold, .int .i64 x.pins] 36) = W1714 at rX0 hS2 own72 ⊢
          have hS := hS2
          have rX := rX0
          clear hS2 rX0
          have own7 := own72
          have HR : Hid (∀ ty, ∃ v' w', (Builtin.append_ #[47, 47] ty #[v7, .slice (some ⟨X, 0, none⟩) 1 1]).run Try.prog W1714 = .ok v' w' ∧ (w'.ownsRow base 36 4 v' n (rcells (T ++ [x])) ∧ W1714.grownBy w' v7.ownBlock)) := fun ty => by
            obtain ⟨ti1, ti2, ti3, ti4⟩ := HTI.out
            obtain ⟨v', w', h1, h2, h3, _, _⟩ := run_append_own_at (P := Try.prog) W1714 base 47 ty 36 ti _ 4 24 Try.underlying47 ti1 ti2 ti3 ti4 rfl (by decide) _ (n - 1) (rcells T) own7 ⟨X, 0, none⟩ 1 1 (rcell x) rfl (fun j u hj => by rw [Addr.add_mid, Nat.zero_add]; exact row_at rX j u (by simpa [rcell] using hj)) (fun u hu => rcells_one [x] u (by simpa [rcells] using hu)) (by unfold maxLen; omega) (by omega) (by have := hS.2.size; rw [HBS.out] at this; exact this)
            refine ⟨v', w', h1, ?_, h3⟩
            rw [Nat.sub_add_cancel hn1] at h2
            rw [rcells_append]
            have e : rcells [x] = rcell x := by simp [rcells]
            rw [e]; exact h2
          refine wpAnyL_ready (rs := [15]) (by kernel_rfl) (by simp) ?_
          refine AllReadyL.cons rfl (fun K hK => step_of rfl (wp_copy (.tmp 17) (.tmp 24) 47 rfl _ _ rfl rfl (fun ty => HR.out ty) ?_)) AllReadyL.nil
          rintro v15 w15 ⟨own15, gr15⟩
          have o15 : Off (fun j => base ≤ j) W1714 w15 := Off.of_grown gr15 (fun k hk => (World.ownsRow.lt own7 k hk).1)
          have hS2 : RAt w15 r b cap cur (x :: T) R0 ∧ Off (fun j => j = r) wr w15 := ⟨hS.1.offs o15 (fun j q e => by
            have h1 := hS0L.1
            have h2 := hS0L.2
            rcases q with q | q <;> omega), hS.2.trans o15 (fun j q => Or.inr (by rw [HBS.out]; exact q))⟩
          obtain ⟨oa15, cap15, hv15⟩ := own_form own15
          subst hv15
          refine hK.out _ _ (fun _ => hS2) ?_
          try simp only [Act.put, List.getElem_toArray, List.getElem_cons_zero, List.getElem_cons_succ, List.setIfInBounds_toArray, List.set_cons_zero, List.set_cons_succ]
          clear hS own7 HR rX
          refine wpAnyL_ready (rs := [16]) (by kernel_rfl) (by simp) ?_
          refine AllReadyL.cons rfl (fun K hK => ?_) AllReadyL.nil
          go_simp
          refine hK.out _ _ (fun _ => hS2) ?_
          try simp only [Act.put, List.getElem_toArray, List.getElem_cons_zero, List.getElem_cons_succ, List.setIfInBounds_toArray, List.set_cons_zero, List.set_cons_succ]
          have hS := hS2
          refine wpAnyL_take (i := 17) (v := .pointer (some ⟨r, 0, none⟩)) rfl (by kernel_rfl) (by kernel_rfl) (by kernel_rfl) (by kernel_rfl) (fun _ _ _ h => h) (Or.inl ⟨by rfl, fun w _ => by go_simp⟩) hS ?_
          try simp only [Act.put, List.getElem_toArray, List.getElem_cons_zero, List.getElem_cons_succ, List.setIfInBounds_toArray, List.set_cons_zero, List.set_cons_succ]
          refine wpAnyL_ready (rs := [18]) (by kernel_rfl) (by simp) ?_
          refine AllReadyL.cons rfl (fun K hK => ?_) AllReadyL.nil
          have c9 := HLD.out _ hS
          have f9 := row_frozen hS.1.row 0
          have RR := row_set hS.1.row 0 (.slice oa15 n cap15)
          have own9 : (w15.setCell ⟨r, 0, none⟩ (.slice oa15 n cap15)).ownsRow base 36 4 (.slice oa15 n cap15) n (rcells (T ++ [x])) := ownsRow_off own15 (Off.of_setCell (F := (· = r)) _ _ _ rfl) (fun j q => by subst q; exact hS0L.1)
          have o9 : Off (fun j => j = r) w (w15.setCell ⟨r, 0, none⟩ (.slice oa15 n cap15)) := (ro.trans hS.2 (fun _ q => Or.inl q)).trans (Off.of_setCell (F := (· = r)) _ _ _ rfl) (fun j q => Or.inl q)
          have hlen : (T ++ [x]).length = n := by rw [← Hn.out]; simp
          obtain ⟨b9, cap9, cur9, R9, _⟩ := RAt.of_owns (r := r) (R0 := R0) (L := T ++ [x]) RR (by rw [hlen]; exact own9) (by rw [hlen]; omega) (by rw [hlen]; omega) hS.1.lor HRB.out (fun e => by have := (World.ownsRow.lt own9 _ e).1; have := hS0L.1; omega)
          rw [HNX.out] at R9
          have HR9 : Hid _ := R9
          clear R9 own9 own15 RR
          go_simp
          refine hK.out _ _ (fun q => absurd rfl q) ?_
          try simp only [Act.put, List.getElem_toArray, List.getElem_cons_zero, List.getElem_cons_succ, List.setIfInBounds_toArray, List.set_cons_zero, List.set_cons_succ]
          refine wpAnyL_done (by kernel_rfl) ?_ _
          go_wp2_with fail
          go_roundw
          case rel => exact ⟨q + 1, b9, cap9, cur9, by go_num, by omega, HR9.out, o9⟩
          case measure => simp [intOf]; omega
        · have rX0 : Row (W1.alloc (.cells #[.int .i64 x.no, .bool x.seen, .bool x.cold, .int .i64 x.pins] 36)) W1.heap.size #[.int .i64 x.no, .bool x.seen, .bool x.cold, .int .i64 x.pins] 36 := Row.new _ _ _
          have ab : Below W1.heap.size W1 (W1.alloc (.cells #[.int .i64 x.no, .bool x.seen, .bool x.cold, .int .i64 x.pins] 36)) := (Below.refl _ _).alloc (Nat.le_refl _) _
          have hS2 : RAt (W1.alloc (.cells #[.int .i64 x.no, .bool x.seen, .bool x.cold, .int .i64 x.pins] 36)) r b cap cur (x :: T) R0 ∧ Off (fun j => j = r) wr (W1.alloc (.cells #[.int .i64 x.no, .bool x.seen, .bool x.cold, .int .i64 x.pins] 36)) := ⟨hS.1.below ab, hS.2.trans (Off.of_below (F := fun _ => False) ab) (fun _ q => q.elim)⟩
          obtain ⟨X, HX2⟩ : ∃ X, Hid (W1.heap.size = X) := ⟨_, rfl⟩
          have hXb : base ≤ X := by rw [← HX2.out, ← HBS.out]; exact hS.2.size
          have own02 : (W1.alloc (.cells #[.int .i64 x.no, .bool x.seen, .bool x.cold, .int .i64 x.pins] 36)).ownsRow base 36 4 (.slice (some ⟨E, 0, none⟩) 0 0) 0 [] := ownsRow_off own0 (Off.of_below (F := fun _ => False) ab) (fun _ q => q.elim)
          have hXE : X ≠ E := by have := (World.ownsRow.lt own0 E rfl).2; rw [← HX2.out]; omega
          go_simp
          refine hK.out _ _ (fun _ => hS2) ?_
          try simp only [Act.put, List.getElem_toArray, List.getElem_cons_zero, List.getElem_cons_succ, List.setIfInBounds_toArray, List.set_cons_zero, List.set_cons_succ]
          rw [HX2.out] at rX0 ⊢
          clear hS ab
          generalize W1.alloc (.cells #[.int .i64 x.no, .bool x.seen, .bool x.cold, .int .i64 x.pins] 36) = W114 at rX0 hS2 own02 ⊢
          have hS := hS2
          have rX := rX0
          clear hS2 rX0
          have own0 := own02
          refine wpAnyL_ready (rs := [7]) (by kernel_rfl) (by simp) ?_
          refine AllReadyL.cons rfl (fun K hK => ?_) AllReadyL.nil
          have HR : Hid (∀ ty, ∃ v' w', (Builtin.append_ #[47, 47] ty #[.slice (some ⟨E, 0, none⟩) 0 0, .slice (some A) (n - 1) (cap - 1)]).run Try.prog W114 = .ok v' w' ∧ (w'.ownsRow base 36 4 v' (n - 1) (rcells T) ∧ W114.grownBy w' (some E))) := fun ty => by
            obtain ⟨ti1, ti2, ti3, ti4⟩ := HTI.out
            obtain ⟨v', w', h1, h2, h3, _, _⟩ := run_append_own_at (P := Try.prog) W114 base 47 ty 36 ti _ 4 24 Try.underlying47 ti1 ti2 ti3 ti4 rfl (by decide) _ 0 [] own0 A (n - 1) (cap - 1) (rcells T) (HTL.out) (HAC.out _ hS) (rcells_one T) (by unfold maxLen; omega) (by omega) (by have := hS.2.size; rw [HBS.out] at this; exact this)
            exact ⟨v', w', h1, by rw [Nat.zero_add, List.nil_append] at h2; exact h2, h3⟩
          refine step_of rfl (wp_copy (.tmp 11) (.tmp 16) 47 rfl _ _ rfl rfl (fun ty => HR.out ty) ?_)
          rintro v7 W1147 ⟨own7, gr7⟩
          have hEr : ∀ j, j = E → ¬ two r b j := fun j hj q => by
            have h1 := hS0L.1
            have h2 := hS0L.2
            rcases q with q | q <;> omega
          have o7 : Off (· = E) W114 W1147 := Off.of_grown gr7 (fun k hk => by cases hk; rfl)
          have hS2 : RAt W1147 r b cap cur (x :: T) R0 ∧ Off (fun j => j = r) wr W1147 := ⟨hS.1.offs o7 (fun j q e => hEr j e q), hS.2.trans o7 (fun j q => Or.inr (by subst q; rw [HBS.out]; exact hEb))⟩
          have rX2 : Row W1147 X #[.int .i64 x.no, .bool x.seen, .bool x.cold, .int .i64 x.pins] 36 := rX.off o7 hXE
          refine hK.out _ _ (fun _ => hS2) ?_
          try simp only [Act.put, List.getElem_toArray, List.getElem_cons_zero, List.getElem_cons_succ, List.setIfInBounds_toArray, List.set_cons_zero, List.set_cons_succ]
          clear hS own0 HR
          have hS := hS2
          clear hS2
          have rX := rX2
          have HR : Hid (∀ ty, ∃ v' w', (Builtin.append_ #[47, 47] ty #[v7, .slice (some ⟨X, 0, none⟩) 1 1]).run Try.prog W1147 = .ok v' w' ∧ (w'.ownsRow base 36 4 v' n (rcells (T ++ [x])) ∧ W1147.grownBy w' v7.ownBlock)) := fun ty => by
            obtain ⟨ti1, ti2, ti3, ti4⟩ := HTI.out
            obtain ⟨v', w', h1, h2, h3, _, _⟩ := run_append_own_at (P := Try.prog) W1147 base 47 ty 36 ti _ 4 24 Try.underlying47 ti1 ti2 ti3 ti4 rfl (by decide) _ (n - 1) (rcells T) own7 ⟨X, 0, none⟩ 1 1 (rcell x) rfl (fun j u hj => by rw [Addr.add_mid, Nat.zero_add]; exact row_at rX j u (by simpa [rcell] using hj)) (fun u hu => rcells_one [x] u (by simpa [rcells] using hu)) (by unfold maxLen; omega) (by omega) (by have := hS.2.size; rw [HBS.out] at this; exact this)
            refine ⟨v', w', h1, ?_, h3⟩
            rw [Nat.sub_add_cancel hn1] at h2
            rw [rcells_append]
            have e : rcells [x] = rcell x := by simp [rcells]
            rw [e]; exact h2
          refine wpAnyL_ready (rs := [15]) (by kernel_rfl) (by simp) ?_
          refine AllReadyL.cons rfl (fun K hK => step_of rfl (wp_copy (.tmp 17) (.tmp 24) 47 rfl _ _ rfl rfl (fun ty => HR.out ty) ?_)) AllReadyL.nil
          rintro v15 w15 ⟨own15, gr15⟩
          have o15 : Off (fun j => base ≤ j) W1147 w15 := Off.of_grown gr15 (fun k hk => (World.ownsRow.lt own7 k hk).1)
          have hS2 : RAt w15 r b cap cur (x :: T) R0 ∧ Off (fun j => j = r) wr w15 := ⟨hS.1.offs o15 (fun j q e => by
            have h1 := hS0L.1
            have h2 := hS0L.2
            rcases q with q | q <;> omega), hS.2.trans o15 (fun j q => Or.inr (by rw [HBS.out]; exact q))⟩
          obtain ⟨oa15, cap15, hv15⟩ := own_form own15
          subst hv15
          refine hK.out _ _ (fun _ => hS2) ?_
          try simp only [Act.put, List.getElem_toArray, List.getElem_cons_zero, List.getElem_cons_succ, List.setIfInBounds_toArray, List.set_cons_zero, List.set_cons_succ]
          clear hS own7 HR rX
          refine wpAnyL_ready (rs := [16]) (by kernel_rfl) (by simp) ?_
          refine AllReadyL.cons rfl (fun K hK => ?_) AllReadyL.nil
          go_simp
          refine hK.out _ _ (fun _ => hS2) ?_
          try simp only [Act.put, List.getElem_toArray, List.getElem_cons_zero, List.getElem_cons_succ, List.setIfInBounds_toArray, List.set_cons_zero, List.set_cons_succ]
          have hS := hS2
          refine wpAnyL_take (i := 17) (v := .pointer (some ⟨r, 0, none⟩)) rfl (by kernel_rfl) (by kernel_rfl) (by kernel_rfl) (by kernel_rfl) (fun _ _ _ h => h) (Or.inl ⟨by rfl, fun w _ => by go_simp⟩) hS ?_
          try simp only [Act.put, List.getElem_toArray, List.getElem_cons_zero, List.getElem_cons_succ, List.setIfInBounds_toArray, List.set_cons_zero, List.set_cons_succ]
          refine wpAnyL_ready (rs := [18]) (by kernel_rfl) (by simp) ?_
          refine AllReadyL.cons rfl (fun K hK => ?_) AllReadyL.nil
          have c9 := HLD.out _ hS
          have f9 := row_frozen hS.1.row 0
          have RR := row_set hS.1.row 0 (.slice oa15 n cap15)
          have own9 : (w15.setCell ⟨r, 0, none⟩ (.slice oa15 n cap15)).ownsRow base 36 4 (.slice oa15 n cap15) n (rcells (T ++ [x])) := ownsRow_off own15 (Off.of_setCell (F := (· = r)) _ _ _ rfl) (fun j q => by subst q; exact hS0L.1)
          have o9 : Off (fun j => j = r) w (w15.setCell ⟨r, 0, none⟩ (.slice oa15 n cap15)) := (ro.trans hS.2 (fun _ q => Or.inl q)).trans (Off.of_setCell (F := (· = r)) _ _ _ rfl) (fun j q => Or.inl q)
          have hlen : (T ++ [x]).length = n := by rw [← Hn.out]; simp
          obtain ⟨b9, cap9, cur9, R9, _⟩ := RAt.of_owns (r := r) (R0 := R0) (L := T ++ [x]) RR (by rw [hlen]; exact own9) (by rw [hlen]; omega) (by rw [hlen]; omega) hS.1.lor HRB.out (fun e => by have := (World.ownsRow.lt own9 _ e).1; have := hS0L.1; omega)
          rw [HNX.out] at R9
          have HR9 : Hid _ := R9
          clear R9 own9 own15 RR
          go_simp
          refine hK.out _ _ (fun q => absurd rfl q) ?_
          try simp only [Act.put, List.getElem_toArray, List.getElem_cons_zero, List.getElem_cons_succ, List.setIfInBounds_toArray, List.set_cons_zero, List.set_cons_succ]
          refine wpAnyL_done (by kernel_rfl) ?_ _
          go_wp2_with fail
          go_roundw
          case rel => exact ⟨q + 1, b9, cap9, cur9, by go_num, by omega, HR9.out, o9⟩
          case measure => simp [intOf]; omega
      · have rX0 : Row (W0.alloc (.cells #[.int .i64 x.no, .bool x.seen, .bool x.cold, .int .i64 x.pins] 36)) W0.heap.size #[.int .i64 x.no, .bool x.seen, .bool x.cold, .int .i64 x.pins] 36 := Row.new _ _ _
        have ab : Below W0.heap.size W0 (W0.alloc (.cells #[.int .i64 x.no, .bool x.seen, .bool x.cold, .int .i64 x.pins] 36)) := (Below.refl _ _).alloc (Nat.le_refl _) _
        have hS2 : RAt (W0.alloc (.cells #[.int .i64 x.no, .bool x.seen, .bool x.cold, .int .i64 x.pins] 36)) r b cap cur (x :: T) R0 ∧ Off (fun j => j = r) wr (W0.alloc (.cells #[.int .i64 x.no, .bool x.seen, .bool x.cold, .int .i64 x.pins] 36)) := ⟨hS.1.below ab, hS.2.trans (Off.of_below (F := fun _ => False) ab) (fun _ q => q.elim)⟩
        obtain ⟨X, HX2⟩ : ∃ X, Hid (W0.heap.size = X) := ⟨_, rfl⟩
        have hXb : base ≤ X := by rw [← HX2.out, ← HBS.out]; exact hS.2.size
        go_simp
        refine hK.out _ _ (fun _ => hS2) ?_
        try simp only [Act.put, List.getElem_toArray, List.getElem_cons_zero, List.getElem_cons_succ, List.setIfInBounds_toArray, List.set_cons_zero, List.set_cons_succ]
        rw [HX2.out] at rX0 ⊢
        clear hS ab
        generalize W0.alloc (.cells #[.int .i64 x.no, .bool x.seen, .bool x.cold, .int .i64 x.pins] 36) = W14 at rX0 hS2 ⊢
        have hS := hS2
        have rX := rX0
        clear hS2 rX0
        refine wpAnyL_ready (rs := [1]) (by kernel_rfl) (by simp) ?_
        refine AllReadyL.cons rfl (fun K hK => ?_) AllReadyL.nil
        have own0 : (W14.alloc (.cells #[] 36)).ownsRow base 36 4 (.slice (some ⟨W14.heap.size, 0, none⟩) 0 0) 0 [] := ⟨rfl, Or.inr ⟨W14.heap.size, 0, #[], rfl, by rw [← HBS.out]; exact hS.2.size, heap_alloc_last _ _, Nat.le_refl _, by unfold maxLen; omega, rfl, rfl⟩⟩
        have ab : Below W14.heap.size W14 (W14.alloc (.cells #[] 36)) := (Below.refl _ _).alloc (Nat.le_refl _) _
        have hS2 : RAt (W14.alloc (.cells #[] 36)) r b cap cur (x :: T) R0 ∧ Off (fun j => j = r) wr (W14.alloc (.cells #[] 36)) := ⟨hS.1.below ab, hS.2.trans (Off.of_below (F := fun _ => False) ab) (fun _ q => q.elim)⟩
        obtain ⟨E, HE⟩ : ∃ E, Hid (W14.heap.size = E) := ⟨_, rfl⟩
        have hEb : base ≤ E := by rw [← HE.out, ← HBS.out]; exact hS.2.size
        have rX2 := rX.below ab rX.lt
        have hXE2 : X ≠ W14.heap.size := by have := rX.lt; omega
        rw [HE.out] at hXE2
        go_simp
        refine hK.out _ _ (fun _ => hS2) ?_
        try simp only [Act.put, List.getElem_toArray, List.getElem_cons_zero, List.getElem_cons_succ, List.setIfInBounds_toArray, List.set_cons_zero, List.set_cons_succ]
        rw [HE.out] at own0 ⊢
        clear hS ab
        generalize W14.alloc (.cells #[] 36) = W141 at own0 hS2 rX2 ⊢
        have hS := hS2
        clear hS2
        have rX := rX2
        have hXE := hXE2
        refine wpAnyL_ready (rs := [7]) (by kernel_rfl) (by simp) ?_
        refine AllReadyL.cons rfl (fun K hK => ?_) AllReadyL.nil
        have HR : Hid (∀ ty, ∃ v' w', (Builtin.append_ #[47, 47] ty #[.slice (some ⟨E, 0, none⟩) 0 0, .slice (some A) (n - 1) (cap - 1)]).run Try.prog W141 = .ok v' w' ∧ (w'.ownsRow base 36 4 v' (n - 1) (rcells T) ∧ W141.grownBy w' (some E))) := fun ty => by
          obtain ⟨ti1, ti2, ti3, ti4⟩ := HTI.out
          obtain ⟨v', w', h1, h2, h3, _, _⟩ := run_append_own_at (P := Try.prog) W141 base 47 ty 36 ti _ 4 24 Try.underlying47 ti1 ti2 ti3 ti4 rfl (by decide) _ 0 [] own0 A (n - 1) (cap - 1) (rcells T) (HTL.out) (HAC.out _ hS) (rcells_one T) (by unfold maxLen; omega) (by omega) (by have := hS.2.size; rw [HBS.out] at this; exact this)
          exact ⟨v', w', h1, by rw [Nat.zero_add, List.nil_append] at h2; exact h2, h3⟩
        refine step_of rfl (wp_copy (.tmp 11) (.tmp 16) 47 rfl _ _ rfl rfl (fun ty => HR.out ty) ?_)
        rintro v7 W1417 ⟨own7, gr7⟩
        have hEr : ∀ j, j = E → ¬ two r b j := fun j hj q => by
          have h1 := hS0L.1
          have h2 := hS0L.2
          rcases q with q | q <;> omega
        have o7 : Off (· = E) W141 W1417 := Off.of_grown gr7 (fun k hk => by cases hk; rfl)
        have hS2 : RAt W1417 r b cap cur (x :: T) R0 ∧ Off (fun j => j = r) wr W1417 := ⟨hS.1.offs o7 (fun j q e => hEr j e q), hS.2.trans o7 (fun j q => Or.inr (by subst q; rw [HBS.out]; exact hEb))⟩
        have rX2 : Row W1417 X #[.int .i64 x.no, .bool x.seen, .bool x.cold, .int .i64 x.pins] 36 := rX.off o7 hXE
        refine hK.out _ _ (fun _ => hS2) ?_
        try simp only [Act.put, List.getElem_toArray, List.getElem_cons_zero, List.getElem_cons_succ, List.setIfInBounds_toArray, List.set_cons_zero, List.set_cons_succ]
        clear hS own0 HR
        have hS := hS2
        clear hS2
        have rX := rX2
        have HR : Hid (∀ ty, ∃ v' w', (Builtin.append_ #[47, 47] ty #[v7, .slice (some ⟨X, 0, none⟩) 1 1]).run Try.prog W1417 = .ok v' w' ∧ (w'.ownsRow base 36 4 v' n (rcells (T ++ [x])) ∧ W1417.grownBy w' v7.ownBlock)) := fun ty => by
          obtain ⟨ti1, ti2, ti3, ti4⟩ := HTI.out
          obtain ⟨v', w', h1, h2, h3, _, _⟩ := run_append_own_at (P := Try.prog) W1417 base 47 ty 36 ti _ 4 24 Try.underlying47 ti1 ti2 ti3 ti4 rfl (by decide) _ (n - 1) (rcells T) own7 ⟨X, 0, none⟩ 1 1 (rcell x) rfl (fun j u hj => by rw [Addr.add_mid, Nat.zero_add]; exact row_at rX j u (by simpa [rcell] using hj)) (fun u hu => rcells_one [x] u (by simpa [rcells] using hu)) (by unfold maxLen; omega) (by omega) (by have := hS.2.size; rw [HBS.out] at this; exact this)
          refine ⟨v', w', h1, ?_, h3⟩
          rw [Nat.sub_add_cancel hn1] at h2
          rw [rcells_append]
          have e : rcells [x] = rcell x := by simp [rcells]
          rw [e]; exact h2
        refine wpAnyL_ready (rs := [15]) (by kernel_rfl) (by simp) ?_
        refine AllReadyL.cons rfl (fun K hK => step_of rfl (wp_copy (.tmp 17) (.tmp 24) 47 rfl _ _ rfl rfl (fun ty => HR.out ty) ?_)) AllReadyL.nil
        rintro v15 w15 ⟨own15, gr15⟩
        have o15 : Off (fun j => base ≤ j) W1417 w15 := Off.of_grown gr15 (fun k hk => (World.ownsRow.lt own7 k hk).1)
        have hS2 : RAt w15 r b cap cur (x :: T) R0 ∧ Off (fun j => j = r) wr w15 := ⟨hS.1.offs o15 (fun j q e => by
          have h1 := hS0L.1
          have h2 := hS0L.2
          rcases q with q | q <;> omega), hS.2.trans o15 (fun j q => Or.inr (by rw [HBS.out]; exact q))⟩
        obtain ⟨oa15, cap15, hv15⟩ := own_form own15
        subst hv15
        refine hK.out _ _ (fun _ => hS2) ?_
        try simp only [Act.put, List.getElem_toArray, List.getElem_cons_zero, List.getElem_cons_succ, List.setIfInBounds_toArray, List.set_cons_zero, List.set_cons_succ]
        clear hS own7 HR rX
        refine wpAnyL_ready (rs := [16]) (by kernel_rfl) (by simp) ?_
        refine AllReadyL.cons rfl (fun K hK => ?_) AllReadyL.nil
        go_simp
        refine hK.out _ _ (fun _ => hS2) ?_
        try simp only [Act.put, List.getElem_toArray, List.getElem_cons_zero, List.getElem_cons_succ, List.setIfInBounds_toArray, List.set_cons_zero, List.set_cons_succ]
        have hS := hS2
        refine wpAnyL_take (i := 17) (v := .pointer (some ⟨r, 0, none⟩)) rfl (by kernel_rfl) (by kernel_rfl) (by kernel_rfl) (by kernel_rfl) (fun _ _ _ h => h) (Or.inl ⟨by rfl, fun w _ => by go_simp⟩) hS ?_
        try simp only [Act.put, List.getElem_toArray, List.getElem_cons_zero, List.getElem_cons_succ, List.setIfInBounds_toArray, List.set_cons_zero, List.set_cons_succ]
        refine wpAnyL_ready (rs := [18]) (by kernel_rfl) (by simp) ?_
        refine AllReadyL.cons rfl (fun K hK => ?_) AllReadyL.nil
        have c9 := HLD.out _ hS
        have f9 := row_frozen hS.1.row 0
        have RR := row_set hS.1.row 0 (.slice oa15 n cap15)
        have own9 : (w15.setCell ⟨r, 0, none⟩ (.slice oa15 n cap15)).ownsRow base 36 4 (.slice oa15 n cap15) n (rcells (T ++ [x])) := ownsRow_off own15 (Off.of_setCell (F := (· = r)) _ _ _ rfl) (fun j q => by subst q; exact hS0L.1)
        have o9 : Off (fun j => j = r) w (w15.setCell ⟨r, 0, none⟩ (.slice oa15 n cap15)) := (ro.trans hS.2 (fun _ q => Or.inl q)).trans (Off.of_setCell (F := (· = r)) _ _ _ rfl) (fun j q => Or.inl q)
        have hlen : (T ++ [x]).length = n := by rw [← Hn.out]; simp
        obtain ⟨b9, cap9, cur9, R9, _⟩ := RAt.of_owns (r := r) (R0 := R0) (L := T ++ [x]) RR (by rw [hlen]; exact own9) (by rw [hlen]; omega) (by rw [hlen]; omega) hS.1.lor HRB.out (fun e => by have := (World.ownsRow.lt own9 _ e).1; have := hS0L.1; omega)
        rw [HNX.out] at R9
        have HR9 : Hid _ := R9
        clear R9 own9 own15 RR
        go_simp
        refine hK.out _ _ (fun q => absurd rfl q) ?_
        try simp only [Act.put, List.getElem_toArray, List.getElem_cons_zero, List.getElem_cons_succ, List.setIfInBounds_toArray, List.set_cons_zero, List.set_cons_succ]
        refine wpAnyL_done (by kernel_rfl) ?_ _
        go_wp2_with fail
        go_roundw
        case rel => exact ⟨q + 1, b9, cap9, cur9, by go_num, by omega, HR9.out, o9⟩
        case measure => simp [intOf]; omega
    · have hqk' : ¬ (q : Int) < k := by omega
      have eq : q = k := by omega
      subst eq
      have HC : Hid _ := C
      clear C
      go_wp2
      first
        | (go_end0; exact ⟨rfl, b, cap, cur, HC.out, ro⟩)
        | (refine bodyPost_ret (results_none rfl _ _ _) rfl ?_; exact ⟨rfl, b, cap, cur, HC.out, ro⟩)
end Go.Proofs.Ytobdeijbmnenmab
