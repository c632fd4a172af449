/-
  Plain facts: chunks one behind the other: what a scan tells of them, and what stream they make.
-/
import Derived.Test.YtgnedbagelhcbaaLtr
import Derived.Test.YtgnedbagelhcbaaLgk
import Derived.Test.YtgnedbagelhcbaaJoin
import Derived.Test.YtgnedbagelhcbaaIte
import Derived.Test.YtgnedbagelhcbaaWh
namespace Go.Proofs.Ytgnedbagelhcbaa
open Go.ChangeShapes Go.WideShapes Go.ChangeAt Go.RowKit
set_option linter.unusedVariables false
set_option linter.unusedSimpArgs false
set_option maxRecDepth 20000
def Seq (e : Int) : Int → Int → List Ck.O → Prop
  | _, _, [] => True
  | n, o, c :: r => c.ep = e ∧ c.num = n ∧ c.off = o ∧ c.Ok ∧ Seq e (n + 1) (o + c.txt.size) r
def catC : List Ck.O → List Int
  | [] => []
  | c :: r => nums c.txt ++ catC r
theorem catC_append (b : List Ck.O) : ∀ a, catC (a ++ b) = catC a ++ catC b
  | [] => rfl
  | c :: r => by show nums c.txt ++ catC (r ++ b) = _; rw [catC_append b r, ← List.append_assoc]; rfl
theorem Seq.append {e : Int} {b : List Ck.O} : ∀ {a : List Ck.O} {n o : Int}, Seq e n o a → Seq e (n + a.length) (o + (catC a).length) b → Seq e n o (a ++ b)
  | [], n, o, _, h => by
    have h2 : Seq e (n + ((0 : Nat) : Int)) (o + ((0 : Nat) : Int)) b := h
    rw [show n + ((0 : Nat) : Int) = n by omega, show o + ((0 : Nat) : Int) = o by omega] at h2; exact h2
  | c :: r, n, o, h1, h2 => by
    obtain ⟨a1, a2, a3, a4, a5⟩ := h1
    refine ⟨a1, a2, a3, a4, a5.append ?_⟩
    have e1 : n + (((c :: r).length : Nat) : Int) = n + 1 + (r.length : Int) := by simp; omega
    have e2 : o + (((catC (c :: r)).length : Nat) : Int) = o + c.txt.size + ((catC r).length : Int) := by
      show o + (((nums c.txt ++ catC r).length : Nat) : Int) = _
      rw [List.length_append, nums_length]; omega
    rw [e1, e2] at h2; exact h2
theorem Seq.ok {e : Int} : ∀ {a : List Ck.O} {n o : Int}, Seq e n o a → ∀ c ∈ a, c.Ok
  | [], _, _, _, c, hc => by cases hc
  | x :: r, n, o, h, c, hc => by
    rcases List.mem_cons.1 hc with q | q
    · subst q; exact h.2.2.2.1
    · exact Seq.ok h.2.2.2.2 c q
theorem Seq.num {e : Int} : ∀ {a : List Ck.O} {n o : Int}, Seq e n o a → ∀ c ∈ a, n ≤ c.num ∧ c.num < n + a.length
  | [], _, _, _, c, hc => by cases hc
  | x :: r, n, o, h, c, hc => by
    have hl : ((x :: r).length : Int) = (r.length : Int) + 1 := by simp
    rcases List.mem_cons.1 hc with q | q
    · subst q; rw [h.2.1]; omega
    · have := Seq.num h.2.2.2.2 c q; omega
theorem wrap_id (x : Int) (h : 0 ≤ x ∧ x ≤ 4294967295) : IntKind.u32.wrap x = x := by rw [IntKind.wrap_u32]; omega
theorem scanL_seq {a z fst e : Int} {f : Int → List Int} : ∀ (cs : List Ck.O) (r : Nat) (i n o : Int), Seq e n o cs → n = fst + i → 0 ≤ n → n + cs.length ≤ 4294967295 → (∀ c ∈ cs, f (placeV a z c.num) = blkC c) → cs.length ≤ r →
    (cs.length < r → isB (f (placeV a z (n + cs.length))) = false ∨ uN (f (placeV a z (n + cs.length))) ≠ n + cs.length) → scanL a z fst f r i = cs
  | [], 0, i, n, o, _, _, _, _, _, _, _ => rfl
  | [], r + 1, i, n, o, _, hn, h0, hl, _, _, hst => by
    have hst := hst (by simp)
    have e1 : n + (([] : List Ck.O).length : Int) = n := by simp
    rw [e1] at hst hl
    unfold scanL
    rw [← hn, wrap_id n ⟨h0, hl⟩, if_neg]
    rcases hst with q | q
    · rw [q]; simp
    · rw [decide_eq_false q]; simp
  | c :: cs, 0, i, n, o, _, _, _, _, _, hr, _ => by simp at hr
  | c :: cs, r + 1, i, n, o, h, hn, h0, hl, hf, hr, hst => by
    obtain ⟨a1, a2, a3, a4, a5⟩ := h
    have hl' : n + 1 + (cs.length : Int) ≤ 4294967295 := by simp at hl; omega
    have e1 : n + (((c :: cs).length : Nat) : Int) = n + 1 + (cs.length : Int) := by simp; omega
    rw [e1] at hst
    obtain ⟨k1, k2, k3, k4⟩ := chk_blk c a4
    have hfc := hf c List.mem_cons_self
    unfold scanL
    rw [← hn, wrap_id n ⟨h0, by omega⟩]
    rw [a2] at hfc k2
    rw [hfc, k1, k2, k4, if_pos (by simp)]
    congr 1
    refine scanL_seq cs r (i + 1) (n + 1) _ a5 (by omega) (by omega) hl' (fun c' hc => hf c' (List.mem_cons_of_mem _ hc)) (by simpa using hr) (fun q => hst (by simpa using q))
theorem runJ_seq {first base e : Int} : ∀ (cs : List Ck.O) (k : Nat) (j : J) (n o : Int), Seq e n o cs → n = first + k → 0 ≤ n → n + cs.length ≤ 4294967296 → o = base + j.str.length → j.ep ≤ e →
    runJ first base k j cs = ⟨if cs = [] then j.ep else e, j.str ++ catC cs, j.sts ++ cs.map (fun c => ⟨c.num, c.off⟩)⟩
  | [], k, j, n, o, _, _, _, _, _, _ => by
    show j = _
    rw [if_pos rfl]
    simp [catC]
  | c :: cs, k, j, n, o, h, hn, h0, hl, ho, he => by
    obtain ⟨a1, a2, a3, a4, a5⟩ := h
    have hl' : n + 1 + (cs.length : Int) ≤ 4294967296 := by simp at hl; omega
    have hok : okJ first base k j c = true := by
      unfold okJ
      refine decide_eq_true ⟨by rw [a2, hn]; omega, by rw [a1]; exact he, by rw [a3, ho]; omega, by rw [a3, ho]; omega⟩
    have hnx : nextJ base j c = ⟨e, j.str ++ nums c.txt, j.sts ++ [⟨c.num, c.off⟩]⟩ := by
      unfold nextJ
      rw [a1, a3, ho, show base + (j.str.length : Int) - base = (j.str.length : Int) by omega, Int.toNat_natCast, List.take_length]
    show (if okJ first base k j c = true then runJ first base (k + 1) (nextJ base j c) cs else j) = _
    rw [if_pos hok, hnx, runJ_seq cs (k + 1) _ (n + 1) _ a5 (by omega) (by omega) hl' (by show o + _ = base + (((j.str ++ nums c.txt).length : Nat) : Int); rw [List.length_append, nums_length]; omega) (Int.le_refl _)]
    have e3 : (if cs = [] then e else e) = e := by split <;> rfl
    show J.mk (if cs = [] then e else e) ((j.str ++ nums c.txt) ++ catC cs) ((j.sts ++ [⟨c.num, c.off⟩]) ++ cs.map (fun c => ⟨c.num, c.off⟩)) = J.mk (if c :: cs = [] then j.ep else e) (j.str ++ (nums c.txt ++ catC cs)) (j.sts ++ (⟨c.num, c.off⟩ :: cs.map (fun c => ⟨c.num, c.off⟩)))
    rw [e3, if_neg (List.cons_ne_nil c cs), List.append_assoc, List.append_assoc]; rfl
theorem joinR_seq {e n o : Int} {cs : List Ck.O} (h : Seq e n o cs) (hc : cs ≠ []) (h0 : 0 ≤ n) (hl : n + cs.length ≤ 4294967296) (he : 0 ≤ e) : joinR n cs = ⟨e, catC cs, cs.map (fun c => ⟨c.num, c.off⟩)⟩ ∧ joinB n cs = o := by
  obtain ⟨c, r, rfl⟩ : ∃ c r, cs = c :: r := by cases cs with | nil => exact absurd rfl hc | cons c r => exact ⟨c, r, rfl⟩
  have hb : baseJ (c :: r) = o := h.2.2.1
  have e1 : joinR n (c :: r) = ⟨e, catC (c :: r), (c :: r).map (fun c => ⟨c.num, c.off⟩)⟩ := by
    unfold joinR
    rw [hb, runJ_seq (c :: r) 0 J0 n o h (by simp) h0 hl (by show o = o + (([] : List Int).length : Int); simp) he]
    rw [if_neg (by simp)]
    rfl
  refine ⟨e1, ?_⟩
  unfold joinB
  rw [e1, if_neg (by simp), hb]
theorem tot_seq {e : Int} : ∀ {cs : List Ck.O} {n o : Int}, Seq e n o cs → tot cs ≤ 214 * cs.length
  | [], _, _, _ => by simp [tot]
  | c :: r, n, o, h => by
    have h1 := tot_seq h.2.2.2.2
    have h2 : 1 ≤ c.txt.size ∧ c.txt.size ≤ 214 := by have h3 := h.2.2.2.1.txt; unfold okC at h3; exact of_decide_eq_true h3
    simp only [tot, List.length_cons]; omega
theorem Ck.O.Ok.fits {c : Ck.O} (h : c.Ok) : c.Fits := ⟨h.ep, h.num, h.off⟩
theorem putB_other (a z : Int) : ∀ (cs : List Ck.O) (f : Int → List Int) (b : Int), (∀ c ∈ cs, placeV a z c.num ≠ b) → putB a z f cs b = f b
  | [], f, b, _ => rfl
  | c :: cs, f, b, h => by
    show putB a z _ cs b = f b
    rw [putB_other a z cs _ b (fun c' hc => h c' (List.mem_cons_of_mem _ hc)), if_neg (fun q => h c List.mem_cons_self q.symm)]
theorem putB_seq {a z e : Int} : ∀ (cs : List Ck.O) (f : Int → List Int) (n o : Int), Seq e n o cs → 1 ≤ z → (cs.length : Int) ≤ z → ∀ c ∈ cs, putB a z f cs (placeV a z c.num) = blkC c
  | [], f, n, o, _, _, _, c, hc => by cases hc
  | x :: cs, f, n, o, h, hz, hl, c, hc => by
    obtain ⟨a1, a2, a3, a4, a5⟩ := h
    have hl' : (cs.length : Int) + 1 ≤ z := by simp at hl; omega
    rcases List.mem_cons.1 hc with q | q
    · subst q
      show putB a z _ cs _ = _
      rw [putB_other a z cs _ _ (fun c' hc' => ?_), if_pos rfl]
      have h1 := Seq.num a5 c' hc'
      rw [a2]
      unfold placeV
      intro q
      have q2 : c'.num % z = n % z := by omega
      have q3 : (c'.num - n) % z = 0 := by
        rw [Int.sub_emod, q2]; simp
      have q4 : z ∣ c'.num - n := Int.dvd_of_emod_eq_zero q3
      have := Int.le_of_dvd (by omega) q4
      omega
    · show putB a z _ cs _ = _
      exact putB_seq cs _ _ _ a5 hz (by omega) c q
def DI (f : Int → List Int) (n : Int) : Prop := ∀ b, f b = zs 256 ∨ ∃ c : Ck.O, c.Ok ∧ f b = blkC c ∧ c.num < n
theorem DI.put {a z n m : Int} : ∀ (cs : List Ck.O) (f : Int → List Int), DI f n → n ≤ m → (∀ c ∈ cs, c.Ok ∧ c.num < m) → DI (putB a z f cs) m
  | [], f, h, hm, _ => fun b => by
    rcases h b with q | ⟨c, q1, q2, q3⟩
    · exact Or.inl q
    · exact Or.inr ⟨c, q1, q2, by omega⟩
  | c :: cs, f, h, hm, hc => by
    show DI (putB a z _ cs) m
    refine DI.put (n := m) cs _ (fun b => ?_) (Int.le_refl _) (fun c' hc' => hc c' (List.mem_cons_of_mem _ hc'))
    have hcc := hc c List.mem_cons_self
    by_cases hb : b = placeV a z c.num
    · exact Or.inr ⟨c, hcc.1, if_pos hb, hcc.2⟩
    · rcases h b with q | ⟨c', q1, q2, q3⟩
      · exact Or.inl ((if_neg hb).trans q)
      · exact Or.inr ⟨c', q1, (if_neg hb).trans q2, by omega⟩
end Go.Proofs.Ytgnedbagelhcbaa
