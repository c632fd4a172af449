/-
  Plain facts: a log that is trimmed behind each of its texts.
-/
import Derived.Test.YtgnedbagelhcbaaLth
import Derived.Test.YtgnedbagelhcbaaLgaw
namespace Go.Proofs.Ytgnedbagelhcbaa
open Go.ChangeShapes Go.WideShapes Go.ChangeAt Go.RowKit
set_option linter.unusedVariables false
set_option linter.unusedSimpArgs false
set_option maxRecDepth 20000

theorem one_in : (0 : Int) ≤ 1 ∧ (1 : Int) ≤ 4294967295 := by decide
theorem ex_all (F : ByteArray) : F.extract 0 F.size = F := by
  apply ByteArray.ext
  simp [ByteArray.data_extract]
theorem ex_none (F : ByteArray) (a : Nat) : F.extract a a = ByteArray.empty := by
  apply ByteArray.ext
  simp [ByteArray.data_extract]
/-- The chunks that a frame makes. -/
def rdC (at_ N : Int) (F : ByteArray) : List Ck.O := if F.size ≤ 214 then [⟨1, N, at_, F⟩] else [⟨1, N, at_, F.extract 0 214⟩, ⟨1, N + 1, at_ + 214, F.extract 214 F.size⟩]
/-- A log of which all lasts. -/
def rdL (n : Int) (prev : List Int) (N fin : Int) (fr : Bool) : Lg := ⟨1, n, 1, prev, [], ByteArray.empty, N, fr, fin, fin⟩
theorem rdC_len (at_ N : Int) (F : ByteArray) : 1 ≤ (rdC at_ N F).length ∧ (rdC at_ N F).length ≤ 2 := by
  unfold rdC; split <;> simp
theorem rdC_ne (at_ N : Int) (F : ByteArray) : rdC at_ N F ≠ [] := fun q => by have := (rdC_len at_ N F).1; rw [q] at this; simp at this
theorem rd_open (n : Int) (prev : List Int) (N at_ : Int) (fr : Bool) (F : ByteArray) (hF : F.size < 214) : Lg.app (rdL n prev N at_ fr) F = ⟨1, n, 1, prev, [], F, N, fr, at_ + F.size, at_⟩ := by
  unfold Lg.app
  have h1 : (rdL n prev N at_ fr).open_ ++ F = F := empty_app F
  rw [h1, show F.size / 214 = 0 by omega]
  show Lg.mk 1 n 1 prev [] (ByteArray.empty ++ F) N fr (at_ + F.size) at_ = _
  rw [empty_app]
theorem rd_one (n : Int) (prev : List Int) (N at_ : Int) (fr : Bool) (F : ByteArray) (hF : 214 ≤ F.size ∧ F.size ≤ 406) (hN : 0 ≤ N ∧ N ≤ 1000000) : Lg.app (rdL n prev N at_ fr) F = ⟨1, n, 1, prev, [⟨1, N, at_, F.extract 0 214⟩], F.extract 214 F.size, N + 1, fr, at_ + F.size, at_⟩ := by
  unfold Lg.app
  have h1 : (rdL n prev N at_ fr).open_ ++ F = F := empty_app F
  rw [h1, show F.size / 214 = 1 by omega]
  show Lg.mk 1 n 1 prev ([] ++ [⟨1, N, (at_ + F.size) - ((ByteArray.empty ++ F).size : Int), (ByteArray.empty ++ F).extract 0 214⟩]) ((ByteArray.empty ++ F).extract 214 (ByteArray.empty ++ F).size) (IntKind.u32.wrap (N + 1)) fr (at_ + F.size) at_ = _
  rw [empty_app, wrap_id (N + 1) (by omega), show at_ + (F.size : Int) - F.size = at_ by omega]; rfl
theorem rd_closed (n : Int) (prev : List Int) (N at_ : Int) (fr : Bool) (F : ByteArray) (hF : 7 ≤ F.size ∧ F.size ≤ 406) (hN : 0 ≤ N ∧ N ≤ 1000000) :
    (Lg.app (rdL n prev N at_ fr) F).closed = ⟨1, n, 1, prev, rdC at_ N F, ByteArray.empty, N + (rdC at_ N F).length, fr, at_ + F.size, at_⟩ := by
  by_cases h1 : F.size < 214
  · rw [rd_open n prev N at_ fr F h1]
    unfold Lg.closed rdC
    rw [if_neg (by show ¬ F.size = 0; omega), if_pos (by omega)]
    show Lg.mk 1 n 1 prev ([] ++ [⟨1, N, (at_ + F.size) - (F.size : Int), F.extract 0 F.size⟩]) (F.extract F.size F.size) (IntKind.u32.wrap (N + 1)) fr (at_ + F.size) at_ = _
    rw [ex_all, ex_none, wrap_id (N + 1) (by omega), show at_ + (F.size : Int) - F.size = at_ by omega]; rfl
  · rw [rd_one n prev N at_ fr F (by omega) hN]
    have hs : (F.extract 214 F.size).size = F.size - 214 := by rw [ByteArray.size_extract]; omega
    by_cases h2 : F.size = 214
    · unfold Lg.closed rdC
      rw [if_pos (by show (F.extract 214 F.size).size = 0; omega), if_pos (by omega)]
      have e1 : F.extract 0 214 = F := by have := ex_all F; rw [h2] at this; exact this
      have e2 : F.extract 214 F.size = ByteArray.empty := by rw [h2]; exact ex_none _ _
      rw [e1, e2]; rfl
    · unfold Lg.closed rdC
      rw [if_neg (by show ¬ (F.extract 214 F.size).size = 0; omega), if_neg (by omega)]
      show Lg.mk 1 n 1 prev ([⟨1, N, at_, F.extract 0 214⟩] ++ [⟨1, N + 1, (at_ + F.size) - ((F.extract 214 F.size).size : Int), (F.extract 214 F.size).extract 0 (F.extract 214 F.size).size⟩]) ((F.extract 214 F.size).extract (F.extract 214 F.size).size (F.extract 214 F.size).size) (IntKind.u32.wrap (N + 1 + 1)) fr (at_ + F.size) at_ = _
      rw [ex_all, ex_none, wrap_id (N + 1 + 1) (by omega), hs, show at_ + (F.size : Int) - ((F.size - 214 : Nat) : Int) = at_ + 214 by omega, show N + 1 + 1 = N + (([⟨1, N, at_, F.extract 0 214⟩, ⟨1, N + 1, at_ + 214, F.extract 214 F.size⟩] : List Ck.O).length : Int) by simp; omega]; rfl
theorem rd_fl (n : Int) (prev : List Int) (N at_ : Int) (fr : Bool) (F : ByteArray) (hF : 7 ≤ F.size ∧ F.size ≤ 406) (hN : 0 ≤ N ∧ N ≤ 1000000) :
    (Lg.app (rdL n prev N at_ fr) F).fl = rdL n (prev ++ (rdC at_ N F).map (·.off)) (N + (rdC at_ N F).length) (at_ + F.size) false := by
  unfold Lg.fl
  rw [rd_closed n prev N at_ fr F hF hN]
  have hne := rdC_ne at_ N F
  cases fr with
  | true => rw [if_pos ⟨rfl, hne⟩]; rfl
  | false => rw [if_neg (fun q => by cases q.1)]; rfl
theorem rd_seq (N at_ : Int) (F : ByteArray) (hF : 7 ≤ F.size ∧ F.size ≤ 406) (hN : 0 ≤ N ∧ N ≤ 1000000) (ha : 0 ≤ at_ ∧ at_ ≤ 1000000) : Seq 1 N at_ (rdC at_ N F) := by
  unfold rdC
  split
  · exact ⟨rfl, rfl, rfl, ⟨one_in, by show 0 ≤ N ∧ N ≤ _; omega, by show 0 ≤ at_ ∧ at_ ≤ _; omega, by show okC F = true; unfold okC; exact decide_eq_true (by omega)⟩, trivial⟩
  · have hs : (F.extract 214 F.size).size = F.size - 214 := by rw [ByteArray.size_extract]; omega
    have hs0 : (F.extract 0 214).size = 214 := by rw [ByteArray.size_extract]; omega
    refine ⟨rfl, rfl, rfl, ⟨one_in, by show 0 ≤ N ∧ N ≤ _; omega, by show 0 ≤ at_ ∧ at_ ≤ _; omega, by show okC (F.extract 0 214) = true; unfold okC; exact decide_eq_true (by omega)⟩, rfl, rfl, ?_, ⟨one_in, by show 0 ≤ N + 1 ∧ N + 1 ≤ _; omega, by show 0 ≤ at_ + 214 ∧ at_ + 214 ≤ _; omega, by show okC (F.extract 214 F.size) = true; unfold okC; exact decide_eq_true (by omega)⟩, trivial⟩
    show at_ + 214 = at_ + ((F.extract 0 214).size : Int)
    rw [hs0]; rfl
theorem ex_join (F : ByteArray) (k : Nat) (h : k ≤ F.size) : F.extract 0 k ++ F.extract k F.size = F := by
  apply ByteArray.ext
  simp [ByteArray.data_extract]
  try (have : k ≤ F.data.size := h; rw [Nat.min_eq_left this]; simp)
theorem rd_cat (N at_ : Int) (F : ByteArray) (hF : F.size ≤ 406) : strOfNums (catC (rdC at_ N F)) = F := by
  unfold rdC
  split
  · show strOfNums (nums F ++ []) = F
    rw [List.append_nil, tx_nums]
  · show strOfNums (nums (F.extract 0 214) ++ (nums (F.extract 214 F.size) ++ [])) = F
    rw [List.append_nil, strOfNums_append, tx_nums, tx_nums, ex_join F 214 (by omega)]
theorem rd_off (N at_ : Int) (F : ByteArray) : ∃ r, (rdC at_ N F).map (·.off) = at_ :: r ∧ (r = [] ∨ r = [at_ + 214]) ∧ ∀ y ∈ (rdC at_ N F).map (·.off), y ≤ at_ + 214 ∧ (F.size ≤ 214 → y ≤ at_) := by
  unfold rdC
  split
  · exact ⟨[], rfl, Or.inl rfl, fun y hy => by simp at hy; omega⟩
  · rename_i h
    exact ⟨[at_ + 214], rfl, Or.inr rfl, fun y hy => by simp at hy; omega⟩
theorem rd_spent (prev : List Int) (N at_ : Int) (F : ByteArray) (hF : 7 ≤ F.size) (hp : ∀ y ∈ prev, y ≤ at_) : spentL (at_ + F.size) at_ (prev ++ (rdC at_ N F).map (·.off)) = prev.length := by
  obtain ⟨r, e, hr, _⟩ := rd_off N at_ F
  rw [e, spentL_pass _ _ _ _ prev (Int.le_refl _) hp]
  rcases hr with rfl | rfl
  · show prev.length + (if at_ < at_ + (F.size : Int) then 0 else 1) = _
    rw [if_pos (by omega)]; rfl
  · show prev.length + (if at_ < at_ + 214 then 0 else _) = _
    rw [if_pos (by omega)]; rfl
theorem rd_trim (n : Int) (prev : List Int) (N at_ : Int) (F : ByteArray) (hF : 7 ≤ F.size) (hp : ∀ y ∈ prev, y ≤ at_) :
    (rdL n (prev ++ (rdC at_ N F).map (·.off)) (N + (rdC at_ N F).length) (at_ + F.size) false).trim at_ = rdL n ((rdC at_ N F).map (·.off)) (N + (rdC at_ N F).length) (at_ + F.size) false := by
  unfold Lg.trim
  show Lg.mk 1 n 1 ((prev ++ (rdC at_ N F).map (·.off)).drop (spentL (at_ + F.size) at_ (prev ++ (rdC at_ N F).map (·.off)))) [] ByteArray.empty _ false _ _ = _
  rw [rd_spent prev N at_ F hF hp, List.drop_left]; rfl
theorem rd_from (n : Int) (prev : List Int) (N at_ : Int) (F : ByteArray) (hF : 7 ≤ F.size) (hp : ∀ y ∈ prev, y ≤ at_) (hN : 0 ≤ N ∧ N ≤ 1000000) :
    fromV (rdL n (prev ++ (rdC at_ N F).map (·.off)) (N + (rdC at_ N F).length) (at_ + F.size) false) at_ = N := by
  unfold fromV
  show IntKind.u32.wrap (IntKind.u32.wrap (N + (rdC at_ N F).length - (((prev ++ (rdC at_ N F).map (·.off)).length : Int) + (([] : List Ck.O).length : Int))) + (spentL (at_ + F.size) at_ (prev ++ (rdC at_ N F).map (·.off)) : Nat)) = N
  rw [rd_spent prev N at_ F hF hp, List.length_append, List.length_map]
  simp only [IntKind.wrap_u32, List.length_nil]
  omega
/-- What stays true from round to round. -/
structure RdI (n : Int) (i : Nat) (prev : List Int) (N fin : Int) (d : Dsk) : Prop where
  pl : prev.length ≤ 2
  pv : ∀ y ∈ prev, y ≤ fin
  num : 0 ≤ N ∧ N ≤ 2 * i
  fin : 1 ≤ fin ∧ fin ≤ 1 + 406 * i
  well : Well d 64 (60 * i : Nat)
  di : DI d.seen N
theorem rd_inv {n : Int} {prev : List Int} {N fin : Int} {fr : Bool} {F : ByteArray} (hn : 5 ≤ n ∧ n ≤ 24) (hp : prev.length ≤ 2) (hF : 7 ≤ F.size ∧ F.size ≤ 406) (hN : 0 ≤ N ∧ N ≤ 1000) (hfi : 1 ≤ fin ∧ fin ≤ 1000000) : (Lg.app (rdL n prev N fin fr) F).Inv := by
  by_cases h1 : F.size < 214
  · rw [rd_open n prev N fin fr F h1]
    refine ⟨one_in, by show 1 ≤ n ∧ n ≤ 700; omega, one_in, by show 0 ≤ N ∧ N ≤ _; omega, h1, by show (F.size : Int) ≤ fin + F.size; omega, (fun c hc => by cases hc), ?_⟩
    show (prev.length : Int) + (([] : List Ck.O).length : Int) + wantN F.size ≤ n
    simp only [List.length_nil]
    unfold wantN; omega
  · rw [rd_one n prev N fin fr F (by omega) (by omega)]
    have hs : (F.extract 214 F.size).size = F.size - 214 := by rw [ByteArray.size_extract]; omega
    refine ⟨one_in, by show 1 ≤ n ∧ n ≤ 700; omega, one_in, by show 0 ≤ N + 1 ∧ N + 1 ≤ _; omega, by show (F.extract 214 F.size).size < 214; omega, by show ((F.extract 214 F.size).size : Int) ≤ fin + F.size; omega, (fun c hc => ?_), ?_⟩
    · obtain rfl := List.mem_singleton.1 hc
      exact ⟨one_in, by show 0 ≤ N ∧ N ≤ _; omega, by show 0 ≤ fin ∧ fin ≤ _; omega, by show okC (F.extract 0 214) = true; unfold okC; rw [ByteArray.size_extract]; exact decide_eq_true (by omega)⟩
    · show (prev.length : Int) + (([⟨1, N, fin, F.extract 0 214⟩] : List Ck.O).length : Int) + wantN ((F.extract 214 F.size).size : Int) ≤ n
      rw [hs]
      simp only [List.length_cons, List.length_nil]
      unfold wantN; omega
theorem rd_full {n : Int} {prev : List Int} {N fin : Int} {fr : Bool} {s : ByteArray} (hn : 5 ≤ n ∧ n ≤ 24) (hp : prev.length ≤ 2) (hs : okF s = true) : fullA (rdL n prev N fin fr) (frS s) = false := by
  have := frS_size hs
  unfold fullA
  refine decide_eq_false ?_
  show ¬ n < (prev.length : Int) + (([] : List Ck.O).length : Int) + wantN ((ByteArray.empty.size : Int) + (frS s).size)
  simp only [List.length_nil]
  have h0 : ByteArray.empty.size = 0 := rfl
  rw [h0]
  unfold wantN; omega
theorem rd_step {n : Int} {i : Nat} {prev : List Int} {N fin : Int} {fr : Bool} {d : Dsk} {s : ByteArray} (hn : 5 ≤ n ∧ n ≤ 24) (hi : i ≤ 100) (h : RdI n i prev N fin d) (hs : okF s = true) :
    ∃ d1 j, flushR (appL (rdL n prev N fin fr) s) d = (0, rdL n (prev ++ (rdC fin N (frS s)).map (·.off)) (N + (rdC fin N (frS s)).length) (fin + (frS s).size) false, d1) ∧ scanR 1 n N d1 = (rdC fin N (frS s), 0, d1.tick j) ∧ d1.ops ≤ 10000 ∧ RdI n (i + 1) ((rdC fin N (frS s)).map (·.off)) (N + (rdC fin N (frS s)).length) (fin + (frS s).size) (d1.tick j) := by
  have hF := frS_size hs
  have hfi := h.fin
  have hnu := h.num
  have hok : okR 1 n ((64 : Nat) : Int) = true := by unfold okR; simp; omega
  have hap : appL (rdL n prev N fin fr) s = Lg.app (rdL n prev N fin fr) (frS s) := by
    unfold appL okA
    rw [hs, rd_full hn h.pl hs]; rfl
  rw [hap]
  have hcl := rd_closed n prev N fin fr (frS s) hF (by omega)
  have ha1 : (Lg.app (rdL n prev N fin fr) (frS s)).at_ = 1 := by unfold Lg.app; rw [sealN_at]; rfl
  have hz1 : (Lg.app (rdL n prev N fin fr) (frS s)).size = n := by unfold Lg.app; rw [sealN_size]; rfl
  obtain ⟨d1, e1, w1, s1, _, _⟩ := flush_well (Lg.app (rdL n prev N fin fr) (frS s)) d _ h.well (fun c hc => by rw [ha1, hz1]; exact place_in 1 n 64 c.num hok) (by rw [hcl, ha1]) (by rw [hcl, hz1])
  rw [ha1, hz1] at s1
  rw [hcl] at w1 s1
  have hsq := rd_seq N fin (frS s) hF (by omega) (by omega)
  have hlen := rdC_len fin N (frS s)
  have hdi : DI d1.seen (N + (rdC fin N (frS s)).length) := by
    have e2 : d1.seen = putB 1 n d.seen (rdC fin N (frS s)) := funext s1
    rw [e2]
    exact DI.put _ _ h.di (by omega) (fun c hc => ⟨hsq.ok c hc, (hsq.num c hc).2⟩)
  obtain ⟨j, e3, w3⟩ := scan_well (a := 1) (z := n) (fst := N) (n := 64) hok w1
  have hsc : scanL 1 n N d1.seen n.toNat 0 = rdC fin N (frS s) := by
    refine scanL_seq _ _ 0 N fin hsq (by omega) (by omega) (by omega) (fun c hc => ?_) (by omega) (fun _ => hdi.stop _ _ (Int.le_refl _))
    rw [s1]
    exact putB_seq _ _ _ _ hsq (by omega) (by omega) c hc
  rw [hsc] at e3
  refine ⟨d1, j, by rw [e1, rd_fl n prev N fin fr (frS s) hF (by omega)], e3, by have := w1.hi; simp only at this; omega, ⟨by rw [List.length_map]; exact hlen.2, fun y hy => ?_, by omega, by omega, w3.mono ?_, hdi⟩⟩
  · obtain ⟨r, _, _, hy2⟩ := rd_off N fin (frS s)
    have := hy2 y hy
    by_cases q : (frS s).size ≤ 214
    · have := this.2 q; omega
    · omega
  · simp only at *
    have : n.toNat ≤ 24 := by omega
    omega
/-- What the stream of a frame's chunks is, and what it holds. -/
theorem rd_join {n : Int} {i : Nat} {N fin : Int} {s : ByteArray} (hi : i ≤ 100) (hN : 0 ≤ N ∧ N ≤ 2 * i) (hfi : 1 ≤ fin ∧ fin ≤ 1 + 406 * i) (hs : okF s = true) :
    joinB N (rdC fin N (frS s)) = fin ∧ strOfNums (joinR N (rdC fin N (frS s))).str = frS s ∧ itL fin (frS s) fin = [⟨fin, s⟩] ∧ itE fin (frS s) fin = fin + (frS s).size := by
  have hF := frS_size hs
  have hsq := rd_seq N fin (frS s) hF (by omega) (by omega)
  have hlen := rdC_len fin N (frS s)
  obtain ⟨h1, h2⟩ := joinR_seq hsq (rdC_ne _ _ _) (by omega) (by omega) (by decide)
  have htx : tx (frS s) = [s] := by
    have := cat_whole [s] (fun t ht => by obtain rfl := List.mem_singleton.1 ht; exact hs)
    have e : cat [s] = frS s := by show frS s ++ { data := #[] } = frS s; apply ByteArray.ext; simp
    rw [e] at this; exact this
  have hhas : hasP fin (frS s) fin = true := by unfold hasP; exact decide_eq_true (by omega)
  have hits : itS fin (frS s) fin = frS s := by
    unfold itS
    rw [show (fin - fin).toNat = 0 by omega]; exact ex_all _
  refine ⟨h2, by rw [h1]; exact rd_cat N fin (frS s) hF.2, ?_, ?_⟩
  · unfold itL; rw [hhas, hits, htx]; rfl
  · unfold itE; rw [hhas, hits, htx]
    show fin + 6 + (s.size : Int) = _
    rw [frS_len hs]; push_cast; omega
end Go.Proofs.Ytgnedbagelhcbaa
