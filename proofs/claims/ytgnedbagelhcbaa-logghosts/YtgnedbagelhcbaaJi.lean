/-
  Proved here: told, where the items' texts are a beginning of the texts. A life's log and its chunks. Plain facts: what is opened behind the first and the second life. A log that is opened over what lies on the disk, in memory; plans with a fuse; a beginning of a list of texts, and a copy of one. A disk, and a log over it, in memory, apart from blocks of the statement's own. Plain facts: both lives of LogGhosts, from what is opened to what is opened behind it. Plain facts: a life of LogGhosts as a whole: what it finds, what it lays, what is opened behind it. The statement's own memory of LogGhosts beside the log and the disk: rows that stay, the texts that are there, the texts that were laid, the flags. Plain facts on the statement's argument: a Ghost as a value that came in.
-/
import Derived.Test.YtgnedbagelhcbaaJh
import Derived.Test.YtgnedbagelhcbaaJg
import Derived.Test.YtgnedbagelhcbaaLop
namespace Go.Proofs.Ytgnedbagelhcbaa
open Go.ChangeShapes Go.WideShapes Go.ChangeAt Go.RowKit
set_option linter.unusedVariables false
set_option linter.unusedSimpArgs false
set_option maxRecDepth 20000

/-- A life's log: from which block and place on, its chunks, and the stream that it was given. -/
structure BInv (l : Lg) (e : Int) (q : Nat) (o : Int) (cs : List Ck.O) (S : List Int) : Prop where
  seq : Seq e q o cs
  ep : l.ep = e
  cat : catC cs ++ nums l.open_ = S
  next : l.next = (q : Int) + cs.length
  fin : l.fin = o + S.length
  sld : l.sealed = cs
theorem BInv.seal {l : Lg} {e : Int} {q : Nat} {o : Int} {cs : List Ck.O} {S : List Int} (h : BInv l e q o cs S) (he : 0 ≤ e ∧ e ≤ 1000) (ho : 0 ≤ o ∧ o ≤ 1000000) (hq : q ≤ 1000) (N : Nat) (hN : 1 ≤ N ∧ N ≤ 214) (hop : N ≤ l.open_.size) (ha : cs.length ≤ 1000) (hS : S.length ≤ 1000000) :
    BInv (l.seal N) e q o (cs ++ [⟨l.ep, l.next, l.fin - l.open_.size, l.open_.extract 0 N⟩]) S := by
  have hSl : S.length = (catC cs).length + l.open_.size := by rw [← h.cat, List.length_append, nums_length]
  have hoff : l.fin - l.open_.size = o + ((catC cs).length : Int) := by rw [h.fin, hSl]; push_cast; omega
  have hsz : (l.open_.extract 0 N).size = N := by rw [ByteArray.size_extract]; omega
  refine ⟨Seq.append h.seq ⟨h.ep, h.next, hoff, ⟨by show 0 ≤ l.ep ∧ l.ep ≤ _; rw [h.ep]; omega, by show 0 ≤ l.next ∧ l.next ≤ _; rw [h.next]; omega, by show 0 ≤ l.fin - l.open_.size ∧ l.fin - l.open_.size ≤ _; rw [hoff]; omega, by show okC (l.open_.extract 0 N) = true; unfold okC; rw [hsz]; exact decide_eq_true hN⟩, trivial⟩, h.ep, ?_, ?_, h.fin, ?_⟩
  · show catC (cs ++ _) ++ nums (l.open_.extract N l.open_.size) = S
    rw [catC_append]
    show catC cs ++ (nums (l.open_.extract 0 N) ++ []) ++ nums (l.open_.extract N l.open_.size) = S
    rw [List.append_nil, List.append_assoc, nums_split _ _ hop]; exact h.cat
  · show IntKind.u32.wrap (l.next + 1) = _
    rw [h.next, wrap_id _ (by omega), List.length_append]; simp; omega
  · show l.sealed ++ _ = _
    rw [h.sld]
theorem BInv.more {l : Lg} {e : Int} {q : Nat} {o : Int} {cs : List Ck.O} {S : List Int} (h : BInv l e q o cs S) (F : ByteArray) : BInv (l.more F) e q o cs (S ++ nums F) := by
  refine ⟨h.seq, h.ep, ?_, h.next, ?_, h.sld⟩
  · show catC cs ++ nums (l.open_ ++ F) = _
    rw [nums_app, ← List.append_assoc, h.cat]
  · show l.fin + F.size = o + (((S ++ nums F).length : Nat) : Int)
    rw [List.length_append, nums_length, h.fin]; push_cast; omega
theorem BInv.sealN {l : Lg} {e : Int} {q : Nat} {o : Int} {cs : List Ck.O} {S : List Int} (h : BInv l e q o cs S) (he : 0 ≤ e ∧ e ≤ 1000) (ho : 0 ≤ o ∧ o ≤ 1000000) (hq : q ≤ 1000) (hS : S.length ≤ 1000000) : ∀ k, k * 214 ≤ l.open_.size → cs.length + k ≤ 1000 → ∃ new, BInv (l.sealN k) e q o (cs ++ new) S ∧ new.length = k
  | 0, _, _ => ⟨[], by rw [List.append_nil]; exact h, rfl⟩
  | k + 1, hk, ha => by
    obtain ⟨new, h1, h2⟩ := h.sealN he ho hq hS k (by omega) (by omega)
    have e1 := sealN_open l k (by omega)
    have h3 := h1.seal he ho hq 214 (by omega) (by omega) (by rw [List.length_append]; omega) hS
    rw [List.append_assoc] at h3
    exact ⟨_, h3, by rw [List.length_append, h2]; rfl⟩
theorem BInv.app {l : Lg} {e : Int} {q : Nat} {o : Int} {cs : List Ck.O} {S : List Int} (h : BInv l e q o cs S) (he : 0 ≤ e ∧ e ≤ 1000) (ho : 0 ≤ o ∧ o ≤ 1000000) (hq : q ≤ 1000) (F : ByteArray) (hS : S.length + F.size ≤ 1000000) (ha : cs.length + (l.open_.size + F.size) / 214 ≤ 1000) : ∃ new, BInv (l.app F) e q o (cs ++ new) (S ++ nums F) ∧ new.length = (l.open_.size + F.size) / 214 := by
  have hsz : (l.open_ ++ F).size = l.open_.size + F.size := ByteArray.size_append
  unfold Lg.app
  rw [hsz]
  refine (h.more F).sealN he ho hq (by rw [List.length_append, nums_length]; exact hS) _ ?_ ha
  show _ ≤ (l.open_ ++ F).size
  rw [hsz]; omega
theorem BInv.closed {l : Lg} {e : Int} {q : Nat} {o : Int} {cs : List Ck.O} {S : List Int} (h : BInv l e q o cs S) (he : 0 ≤ e ∧ e ≤ 1000) (ho : 0 ≤ o ∧ o ≤ 1000000) (hq : q ≤ 1000) (hop : l.open_.size < 214) (ha : cs.length ≤ 999) (hS : S.length ≤ 1000000) : ∃ new, BInv l.closed e q o (cs ++ new) S ∧ l.closed.open_.size = 0 ∧ new.length ≤ 1 := by
  unfold Lg.closed
  split
  · rename_i h0
    exact ⟨[], by rw [List.append_nil]; exact h, h0, by simp⟩
  · exact ⟨_, h.seal he ho hq l.open_.size (by omega) (Nat.le_refl _) (by omega) hS, by show (l.open_.extract l.open_.size l.open_.size).size = 0; rw [ByteArray.size_extract]; omega, by simp⟩
set_option maxHeartbeats 4000000 in
theorem told_any (w : World) (bi bl : Nat) (iv lv : Value) (p : Int) (ts : List ByteArray) (j sure : Nat) (hi : It.Own w bi iv (lsns p (ts.take j))) (hl : OwnS w bl lv ts) (hj : j ≤ ts.length) (hs : sure ≤ j) (hb : ts.length ≤ 1000) :
    Calls Try.prog 37 #[iv, lv, .int .i64 sure] w fun e w' => e = .returned (.bool true) ∧ Below w.heap.size w w' := by
  obtain ⟨io, ic, hiv⟩ := hi.form
  obtain ⟨lo, lc, hlv⟩ := hl.form
  have hlen : (lsns p (ts.take j)).length = j := by rw [lsns_length, List.length_take]; omega
  rw [hlen] at hiv
  subst hiv
  subst hlv
  obtain ⟨N1, HN1⟩ : ∃ N1, Hid (ts.length = N1) := ⟨_, rfl⟩
  obtain ⟨N0, HN0⟩ : ∃ N0, Hid (j = N0) := ⟨_, rfl⟩
  have HAT : Hid (∀ q, q < N0 → ∃ (pa pb : Addr) (x : ByteArray), io = some pa ∧ lo = some pb ∧ (∀ wx, Below w.heap.size w wx → wx.cell? ⟨(pa.add (q * 2)).block, (pa.add (q * 2)).off + 1, none⟩ = some (.string x)) ∧ (∀ wx, Below w.heap.size w wx → wx.cell? (pb.add q) = some (.string x))) := fun q hq => by
    have hqj : q < j := by rw [HN0.out]; exact hq
    have hql : q < ts.length := by omega
    have e1 : ts[q]? = some ts[q] := List.getElem?_eq_getElem hql
    have e2 : (ts.take j)[q]? = some ts[q] := by rw [List.getElem?_take, if_pos hqj]; exact e1
    obtain ⟨pa, c1, i1, i2⟩ := It.Own.at hi q _ (lsns_at p (ts.take j) q _ e2)
    obtain ⟨pb, c2, j1, j2⟩ := hl.at q _ e1
    rw [hlen] at i1
    cases i1
    cases j1
    exact ⟨pa, pb, ts[q], rfl, rfl, fun wx hb => Ck.cell_keep i2 hb, fun wx hb => Ck.cell_keep j2 hb⟩
  rw [HN1.out] at hj hb ⊢
  rw [HN0.out] at hj hs ⊢
  clear hi hl hlen
  have h1' : ¬ (N0 : Int) < (sure : Int) := by omega
  have h2' : ¬ (N1 : Int) < (N0 : Int) := by omega
  go_enter Try.func37, Try.ntmps37
  go_upto_region 3 with fail
  go_wp2
  go_loopw [21] (fun i wq => ∃ (q : Nat), q ≤ N0 ∧ i = .int .i64 q ∧ Below w.heap.size w wq) (fun i _ => N0 - (intOf i).toNat)
  case atStart => exact ⟨0, by omega, rfl, Below.refl _ _⟩
  case round =>
    rename World => wq
    obtain ⟨q, hq, rfl, hbq⟩ := hrel
    by_cases hqk : q < N0
    · have hqk' : (q : Int) < (N0 : Int) := by omega
      have hqk2 : (q : Int) < (N1 : Int) := by omega
      have hq0 : (0 : Int) ≤ (q : Int) := by omega
      obtain ⟨pa, pb, x, rfl, rfl, h1, h2⟩ := HAT.out q hqk
      go_upto_region 6 with fail
      refine wp_region_held_drew (S := fun w' => Below w.heap.size w w') (by kernel_rfl) hbq.drew fun hS => ?_
      refine wpAnyH_take (i := 0) (v := .slice (some pa) N0 ic) rfl (by kernel_rfl) (by kernel_rfl) (by kernel_rfl) (fun _ _ _ h => h) (Or.inl ⟨by rfl, fun w _ => by go_simp⟩) hS ?_
      try simp only [Act.put, List.getElem_toArray, List.getElem_cons_zero, List.getElem_cons_succ, List.setIfInBounds_toArray, List.set_cons_zero, List.set_cons_succ]
      refine wpAnyH_take (i := 1) (v := .int .i64 q) rfl (by kernel_rfl) (by kernel_rfl) (by kernel_rfl) (fun _ _ _ h => h) (Or.inl ⟨by rfl, fun w _ => by go_simp⟩) hS ?_
      try simp only [Act.put, List.getElem_toArray, List.getElem_cons_zero, List.getElem_cons_succ, List.setIfInBounds_toArray, List.set_cons_zero, List.set_cons_succ]
      refine wpAnyH_take (i := 2) (v := .pointer (some (pa.add (q * 2)))) rfl (by kernel_rfl) (by kernel_rfl) (by kernel_rfl) (fun _ _ _ h => h) (Or.inl ⟨by rfl, fun w _ => by go_simp⟩) hS ?_
      try simp only [Act.put, List.getElem_toArray, List.getElem_cons_zero, List.getElem_cons_succ, List.setIfInBounds_toArray, List.set_cons_zero, List.set_cons_succ]
      refine wpAnyH_take (i := 3) (v := .pointer (some ⟨(pa.add (q * 2)).block, (pa.add (q * 2)).off + 1, none⟩)) rfl (by kernel_rfl) (by kernel_rfl) (by kernel_rfl) (fun _ _ _ h => h) (Or.inl ⟨by rfl, fun w _ => by go_simp⟩) hS ?_
      try simp only [Act.put, List.getElem_toArray, List.getElem_cons_zero, List.getElem_cons_succ, List.setIfInBounds_toArray, List.set_cons_zero, List.set_cons_succ]
      refine wpAnyH_take (i := 4) (v := .string x) rfl (by kernel_rfl) (by kernel_rfl) (by kernel_rfl) (fun _ _ _ h => h) (Or.inl ⟨by rfl, fun w h => by have c := h1 w h; go_simp⟩) hS ?_
      try simp only [Act.put, List.getElem_toArray, List.getElem_cons_zero, List.getElem_cons_succ, List.setIfInBounds_toArray, List.set_cons_zero, List.set_cons_succ]
      refine wpAnyH_take (i := 5) (v := .slice (some pb) N1 lc) rfl (by kernel_rfl) (by kernel_rfl) (by kernel_rfl) (fun _ _ _ h => h) (Or.inl ⟨by rfl, fun w _ => by go_simp⟩) hS ?_
      try simp only [Act.put, List.getElem_toArray, List.getElem_cons_zero, List.getElem_cons_succ, List.setIfInBounds_toArray, List.set_cons_zero, List.set_cons_succ]
      refine wpAnyH_take (i := 6) (v := .int .i64 q) rfl (by kernel_rfl) (by kernel_rfl) (by kernel_rfl) (fun _ _ _ h => h) (Or.inl ⟨by rfl, fun w _ => by go_simp⟩) hS ?_
      try simp only [Act.put, List.getElem_toArray, List.getElem_cons_zero, List.getElem_cons_succ, List.setIfInBounds_toArray, List.set_cons_zero, List.set_cons_succ]
      refine wpAnyH_take (i := 7) (v := .pointer (some (pb.add q))) rfl (by kernel_rfl) (by kernel_rfl) (by kernel_rfl) (fun _ _ _ h => h) (Or.inl ⟨by rfl, fun w _ => by go_simp⟩) hS ?_
      try simp only [Act.put, List.getElem_toArray, List.getElem_cons_zero, List.getElem_cons_succ, List.setIfInBounds_toArray, List.set_cons_zero, List.set_cons_succ]
      refine wpAnyH_take (i := 8) (v := .string x) rfl (by kernel_rfl) (by kernel_rfl) (by kernel_rfl) (fun _ _ _ h => h) (Or.inl ⟨by rfl, fun w h => by have c := h2 w h; go_simp⟩) hS ?_
      try simp only [Act.put, List.getElem_toArray, List.getElem_cons_zero, List.getElem_cons_succ, List.setIfInBounds_toArray, List.set_cons_zero, List.set_cons_succ]
      refine wpAnyH_take (i := 9) (v := .bool false) rfl (by kernel_rfl) (by kernel_rfl) (by kernel_rfl) (fun _ _ _ h => h) (Or.inl ⟨by rfl, fun w _ => by go_simp⟩) hS ?_
      try simp only [Act.put, List.getElem_toArray, List.getElem_cons_zero, List.getElem_cons_succ, List.setIfInBounds_toArray, List.set_cons_zero, List.set_cons_succ]
      refine wpAnyH_done (by kernel_rfl) ?_ _
      go_wp2
      go_roundw
      case rel => exact ⟨q + 1, by omega, by go_num, hS⟩
      case measure => simp [intOf]; omega
    · obtain rfl : N0 = q := by omega
      have hqk' : ¬ (N0 : Int) < (N0 : Int) := by omega
      go_wp2
      go_ret
      exact ⟨rfl, hbq⟩
end Go.Proofs.Ytgnedbagelhcbaa
namespace Go.Proofs.Ytgnedbagelhcbaa
open Go.ChangeShapes Go.WideShapes Go.ChangeAt Go.RowKit
set_option linter.unusedVariables false
set_option linter.unusedSimpArgs false
set_option maxRecDepth 20000

/-- What is read of blocks: the chunks, the texts, and an epoch above all. -/
structure Rds (f : Int → List Int) (cs : List Ck.O) (ts : List ByteArray) (B : Int) : Prop where
  scan : scanL 0 16 0 f 16 0 = cs
  len : cs.length ≤ 100
  fit : ∀ c ∈ cs, c.Fits
  tot : tot cs ≤ 100000
  sts : (joinR 0 cs).sts.length ≤ 100
  size : (opS cs).size ≤ 100000
  opb : opB cs = 1
  ep : (joinR 0 cs).ep < B
  it : itL (opB cs) (opS cs) 1 = lsns 1 ts
theorem Seq.off_le {e : Int} : ∀ {cs : List Ck.O} {n o : Int}, Seq e n o cs → ∀ c ∈ cs, c.off ≤ o + (catC cs).length
  | [], _, _, _, c, hc => by cases hc
  | x :: r, n, o, h, c, hc => by
    have hl : (catC (x :: r)).length = x.txt.size + (catC r).length := by show (nums x.txt ++ catC r).length = _; rw [List.length_append, nums_length]
    rcases List.mem_cons.1 hc with q | q
    · subst q; rw [h.2.2.1]; omega
    · have := Seq.off_le h.2.2.2.2 c q; omega
theorem kp_off (os : List St.O) (E : Int) : ∀ o ∈ St.kp os E, o.off < E := fun o ho => by
  unfold St.kp at ho
  have := List.all_takeWhile (p := fun (o : St.O) => decide (o.off < E)) (l := os)
  exact of_decide_eq_true (List.all_eq_true.1 this o ho)
theorem ghost_one {cs : List Ck.O} {laid : List ByteArray} {f : Int → List Int} (hq : Seq 1 0 1 cs) (hl : cs.length ≤ 8) (hc : catC cs = nums (cat laid)) (hok : ∀ t ∈ laid, okF t = true) (hs : SomeB 0 16 cs (fun _ => zs 256) f) :
    ∃ p j q, p ≤ cs.length ∧ j ≤ laid.length ∧ q ≤ p ∧ Rds f (cs.take p) (laid.take j) 2 ∧ (∀ c ∈ cs.take p, f (placeV 0 16 c.num) = blkC c) ∧ ((∀ c ∈ cs, f (placeV 0 16 c.num) = blkC c) → j = laid.length) ∧
      opE (cs.take p) = 1 + ((cat (laid.take j)).size : Int) ∧ St.kp (joinR 0 (cs.take p)).sts (opE (cs.take p)) = (cs.take q).map (fun c => ⟨c.num, c.off⟩) ∧ St.kpN 0 (joinR 0 (cs.take p)).sts (opE (cs.take p)) = q ∧
      ((cat (laid.take j)).size : Int) ≤ (catC (cs.take q)).length ∧ (q = 0 → (cat (laid.take j)).size = 0) ∧ okN 0 16 16 q (opE (cs.take p)) ((cs.take q).map (fun c => ⟨c.num, c.off⟩)) = true := by
  obtain ⟨p, h1, h2, h3, h4⟩ := life_one hq (by omega) hs
  obtain ⟨n, n1, n2, n3⟩ := catC_take cs p
  have hsz : (catC cs).length = (cat laid).size := by rw [hc, nums_length]
  obtain ⟨j, j1, j2, j3, j4, j5⟩ := read_prefix laid hok n (by omega)
  have hsq := hq.take p
  have hlp : (cs.take p).length = p := by rw [List.length_take]; omega
  have htk : catC (cs.take p) = (nums (cat laid)).take n := by rw [n2, hc]
  have hln : (catC (cs.take p)).length = n := by rw [n2, List.length_take]; omega
  have hopb : opB (cs.take p) = 1 ∧ (joinR 0 (cs.take p)).str = catC (cs.take p) ∧ (joinR 0 (cs.take p)).sts = (cs.take p).map (fun c => ⟨c.num, c.off⟩) ∧ (joinR 0 (cs.take p)).ep ≤ 1 := by
    by_cases hp0 : cs.take p = []
    · rw [hp0]; exact ⟨rfl, rfl, rfl, by decide⟩
    · obtain ⟨g1, g2⟩ := joinR_seq hsq hp0 (by omega) (by omega) (by decide)
      refine ⟨?_, by rw [g1], by rw [g1], by rw [g1]; exact Int.le_refl _⟩
      unfold opB
      rw [if_neg (by rw [g1]; show ¬ ((cs.take p).map _).length = 0; rw [List.length_map]; exact fun q => hp0 (List.eq_nil_of_length_eq_zero q)), g2]
  obtain ⟨b1, b2, b3, b4⟩ := hopb
  have hos : opS (cs.take p) = strOfNums ((nums (cat laid)).take n) := by unfold opS; rw [b2, htk]
  have hoe : opE (cs.take p) = 1 + ((cat (laid.take j)).size : Int) := by unfold opE; rw [b1, hos]; exact j3
  obtain ⟨q, q1, q2, q3, q4, q5⟩ := kp_seq (1 + ((cat (laid.take j)).size : Int)) (cs.take p) 0 1 hsq (by rw [hln]; omega)
  have hqp : q ≤ p := by omega
  have htt : (cs.take p).take q = cs.take q := by rw [List.take_take, Nat.min_eq_left hqp]
  rw [htt] at q2 q3
  have hlq : (cs.take q).length = q := by rw [List.length_take]; omega
  have hkp : St.kp (joinR 0 (cs.take p)).sts (opE (cs.take p)) = (cs.take q).map (fun c => ⟨c.num, c.off⟩) := by rw [hoe, b3]; exact q2
  have htot := tot_seq hsq
  refine ⟨p, j, q, h1, j1, hqp, ⟨h2, by omega, fun c hc2 => (hsq.ok c hc2).fits, by omega, by rw [b3, List.length_map]; omega, ?_, b1, by omega, by rw [b1, hos]; exact j2⟩, h3, fun hall => ?_, hoe, hkp, ?_, by omega, fun h0 => ?_, ?_⟩
  · have h9 : (opS (cs.take p)).size = n := by rw [hos, str_take _ _ (by omega), ByteArray.size_extract]; omega
    have h8 : (catC cs).length ≤ 214 * 8 := by
      have : ∀ {xs : List Ck.O} {n o : Int}, Seq 1 n o xs → (catC xs).length ≤ 214 * xs.length := by
        intro xs
        induction xs with
        | nil => intro n o _; simp [catC]
        | cons x r ih =>
          intro n o h
          have h1 := ih h.2.2.2.2
          have h2 : 1 ≤ x.txt.size ∧ x.txt.size ≤ 214 := by have h3 := h.2.2.2.1.txt; unfold okC at h3; exact of_decide_eq_true h3
          show (nums x.txt ++ catC r).length ≤ _
          rw [List.length_append, nums_length, List.length_cons]; omega
      have := this hq; omega
    rw [h9]; omega
  · have hpl := h4 hall
    have := n3 hpl
    have h9 := j5 laid.length (Nat.le_refl _) (by rw [List.take_length]; omega)
    omega
  · unfold St.kpN
    rw [hkp, List.length_map, hlq, wrap_id _ (by omega)]; omega
  · by_cases hz : (cat (laid.take j)).size = 0
    · exact hz
    · have := q5 (by omega); omega
  · unfold okN
    have o1 : okR 0 16 16 = true := by decide
    have o2 : decide ((((cs.take q).map (fun c => (⟨c.num, c.off⟩ : St.O))).length : Int) ≤ 16) = true := decide_eq_true (by rw [List.length_map, hlq]; omega)
    have o3 : folL q (opE (cs.take p)) ((cs.take q).map (fun c => (⟨c.num, c.off⟩ : St.O))) = true := by
      unfold folL
      rw [List.length_map, hlq]
      refine fol_seq (e := 1) (q : Int) _ q (cs.take q) 0 0 1 (hq.take q) rfl (by omega) (by omega) (by omega) (fun c hc2 => ?_)
      have hm : (⟨c.num, c.off⟩ : St.O) ∈ St.kp (joinR 0 (cs.take p)).sts (opE (cs.take p)) := by rw [hkp]; exact List.mem_map.2 ⟨c, hc2, rfl⟩
      have := kp_off _ _ _ hm
      simp only at this; omega
    rw [o1, o2, o3]; rfl
/-- Behind the second life. -/
theorem ghost_two {cs1 cs2 : List Ck.O} {there news rest : List ByteArray} {f1 f2 : Int → List Int} {q : Nat} (hq1 : Seq 1 0 1 cs1) (hl1 : cs1.length ≤ 8) (hs1 : SomeB 0 16 cs1 (fun _ => zs 256) f1) (hql : q ≤ cs1.length) (hp : ∀ c ∈ cs1.take q, f1 (placeV 0 16 c.num) = blkC c)
    (hc1 : catC cs1 = nums (cat (there ++ rest))) (hqe : ((cat there).size : Int) ≤ (catC (cs1.take q)).length) (hq0 : q = 0 → (cat there).size = 0)
    (hq2 : Seq 2 q (1 + ((cat there).size : Int)) cs2) (hl2 : cs2.length ≤ 4) (hne : cs2 ≠ []) (hc2 : catC cs2 = nums (cat news)) (hok : ∀ t ∈ there ++ news, okF t = true)
    (hs2 : SomeB 0 16 cs2 f1 f2) (h0 : ∀ c, cs2[0]? = some c → f2 (placeV 0 16 c.num) = blkC c) :
    ∃ cs j, Rds f2 cs ((there ++ news).take j) 3 ∧ there.length ≤ j ∧ j ≤ (there ++ news).length ∧ ((∀ c ∈ cs2, f2 (placeV 0 16 c.num) = blkC c) → j = (there ++ news).length) := by
  obtain ⟨r, C, r1, r2, r3, r4, r5, r6, r7⟩ := life_two hq1 hl1 hs1 hql hp hq2 hl2 hs2 h0 hne
  have hlq : (cs1.take q).length = q := by rw [List.length_take]; omega
  have hlr : (cs2.take r).length = r := by rw [List.length_take]; omega
  obtain ⟨m, m1, m2, m3⟩ := catC_take cs2 r
  have hs2l : (catC cs2).length = (cat news).size := by rw [hc2, nums_length]
  have hcat : nums (cat (there ++ news)) = nums (cat there) ++ nums (cat news) := by rw [cat_app, nums_app]
  have hsz : (cat (there ++ news)).size = (cat there).size + (cat news).size := by rw [cat_app, ByteArray.size_append]
  have hne2 : cs2.take r ≠ [] := fun q => by have := congrArg List.length q; rw [hlr] at this; simp at this; omega
  have hA : (catC (cs1.take q)).take (cat there).size = nums (cat there) := by
    obtain ⟨k, k1, k2, _⟩ := catC_take cs1 q
    rw [k2, hc1, cat_app, nums_app, List.take_take]
    have hk : (cat there).size ≤ k := by
      have : (catC (cs1.take q)).length ≤ k := by rw [k2, List.length_take]; omega
      omega
    rw [Nat.min_eq_left hk, List.take_append_of_le_length (by rw [nums_length]; exact Nat.le_refl _), List.take_of_length_le (by rw [nums_length]; exact Nat.le_refl _)]
  have hstr : (joinR 0 (cs1.take q ++ cs2.take r ++ C)).str = (nums (cat (there ++ news))).take ((cat there).size + m) ∧ joinB 0 (cs1.take q ++ cs2.take r ++ C) = 1 ∧ (joinR 0 (cs1.take q ++ cs2.take r ++ C)).ep = 2 ∧ (joinR 0 (cs1.take q ++ cs2.take r ++ C)).sts.length = q + r := by
    have hfin : nums (cat there) ++ catC (cs2.take r) = (nums (cat (there ++ news))).take ((cat there).size + m) := by
      have e5 : (nums (cat there)).take ((cat there).size + m) = nums (cat there) := List.take_of_length_le (by rw [nums_length]; omega)
      rw [hcat, List.take_append, nums_length, e5, m2, hc2, show (cat there).size + m - (cat there).size = m by omega]
    by_cases hq00 : q = 0
    · have ht0 := hq0 hq00
      have hn0 : nums (cat there) = [] := List.eq_nil_of_length_eq_zero (by rw [nums_length]; exact ht0)
      subst hq00
      rw [ht0] at hq2
      obtain ⟨g1, g2⟩ := join_one (cs2.take r) C (hq2.take r) hne2 (by decide) (by omega) r4
      rw [List.take_zero, List.nil_append]
      refine ⟨?_, g2, by rw [g1], by rw [g1]; show ((cs2.take r).map _).length = _; rw [List.length_map, hlr]; omega⟩
      rw [g1, ← hfin, hn0, List.nil_append]
    · have hA0 : cs1.take q ≠ [] := fun z => by have := congrArg List.length z; rw [hlq] at this; simp at this; omega
      have hB2 : Seq 2 (cs1.take q).length (1 + ((cat there).size : Int)) (cs2.take r) := by rw [hlq]; exact hq2.take r
      obtain ⟨g1, g2⟩ := join_two (cs1.take q) (cs2.take r) C (1 + ((cat there).size : Int)) (hq1.take q) hB2 hA0 hne2 (by decide) ⟨by omega, by omega⟩ (by omega) r4
      refine ⟨?_, g2, by rw [g1], by rw [g1]; show ((cs1.take q ++ cs2.take r).map _).length = _; rw [List.length_map, List.length_append, hlq, hlr]⟩
      rw [g1, ← hfin]
      show (catC (cs1.take q)).take ((1 + ((cat there).size : Int)) - 1).toNat ++ _ = _
      rw [show ((1 + ((cat there).size : Int)) - 1).toNat = (cat there).size by omega, hA]
  obtain ⟨t1, t2, t3, t4⟩ := hstr
  obtain ⟨j, j1, j2, j3, j4, j5⟩ := read_prefix (there ++ news) hok ((cat there).size + m) (by omega)
  have hopb : opB (cs1.take q ++ cs2.take r ++ C) = 1 := by unfold opB; rw [if_neg (by rw [t4]; omega), t2]
  have hos : opS (cs1.take q ++ cs2.take r ++ C) = strOfNums ((nums (cat (there ++ news))).take ((cat there).size + m)) := by unfold opS; rw [t1]
  have hallok : ∀ c ∈ cs1.take q ++ cs2.take r ++ C, c.Ok := fun c hc => by
    rcases List.mem_append.1 hc with z | z
    · rcases List.mem_append.1 z with z | z
      · exact hq1.ok c (List.mem_of_mem_take z)
      · exact hq2.ok c (List.mem_of_mem_take z)
    · exact r6 c z
  have hlen : (cs1.take q ++ cs2.take r ++ C).length ≤ 40 := by rw [List.length_append, List.length_append, hlq, hlr]; omega
  have htot := tot_ok _ hallok
  have hthere : (there ++ news).take there.length = there := List.take_left
  refine ⟨_, j, ⟨r3, by omega, fun c hc => (hallok c hc).fits, by omega, by rw [t4]; omega, ?_, hopb, by rw [t3]; decide, by rw [hopb, hos]; exact j2⟩, ?_, j1, fun hall => ?_⟩
  · have h9 : (opS (cs1.take q ++ cs2.take r ++ C)).size = (cat there).size + m := by rw [hos, str_take _ _ (by omega), ByteArray.size_extract]; omega
    rw [h9]
    have := cat_small (there ++ news) hok
    have h8 : ∀ {e : Int} {xs : List Ck.O} {n o : Int}, Seq e n o xs → (catC xs).length ≤ 214 * xs.length := by
      intro e xs
      induction xs with
      | nil => intro n o _; simp [catC]
      | cons x r ih =>
        intro n o h
        have h1 := ih h.2.2.2.2
        have h2 : 1 ≤ x.txt.size ∧ x.txt.size ≤ 214 := by have h3 := h.2.2.2.1.txt; unfold okC at h3; exact of_decide_eq_true h3
        show (nums x.txt ++ catC r).length ≤ _
        rw [List.length_append, nums_length, List.length_cons]; omega
    have g1 := h8 (hq1.take q)
    have g2 := h8 hq2
    omega
  · exact j5 there.length (by rw [List.length_append]; omega) (by rw [hthere]; omega)
  · have hr := r5 hall
    have hm := m3 hr
    have := j5 (there ++ news).length (Nat.le_refl _) (by rw [List.take_length]; omega)
    omega
end Go.Proofs.Ytgnedbagelhcbaa
namespace Go.Proofs.Ytgnedbagelhcbaa
open Go.ChangeShapes Go.WideShapes Go.ChangeAt Go.RowKit
set_option linter.unusedVariables false
set_option linter.unusedSimpArgs false
set_option maxRecDepth 20000

theorem LStep.planF {w wr : World} {gl gd : Nat} {F : Nat → Prop} {l : Lg} {d : Dsk} {M : Nat} (h : LStep w gl gd F l d M wr) (k : Value) (zl : List Int) (hc : Cel wr k (zl.map (.int .i64))) (hne : ∀ a n c, k = .slice (some a) n c → a.block ≠ gd) (zw : ∀ z ∈ zl, Wf z) (hl : zl.length * 8 ≤ 140737488355328) (fu : Int) (hfu : Wf fu) :
    Calls Try.prog 21 #[.pointer (some ⟨gd, 0, none⟩), k, .int .i64 fu] wr fun e w' => e = .returned (.tuple #[]) ∧ LStep w gl gd F l (d.plan zl fu) M w' := by
  obtain ⟨vl, vs, L, h1, h2, h3⟩ := h
  refine (plan_any h1.dsk k zl hc hne zw hl fu hfu).mono ?_
  rintro e w' ⟨rfl, m, hm, k1, k2⟩
  have hg : foot gd L gd := Or.inl rfl
  have hnew : ∀ j, foot gd (L.plan m) j → foot gd L j ∨ j = m := fun j q => by
    rcases q with q | q | q | q | q
    · exact Or.inl (Or.inl q)
    · exact Or.inl (Or.inr (Or.inl q))
    · exact Or.inl (Or.inr (Or.inr (Or.inl q)))
    · exact Or.inl (Or.inr (Or.inr (Or.inr (Or.inl q))))
    · have q' : (Value.map (some m)) = .map (some j) := q
      cases q'; exact Or.inr rfl
  refine ⟨rfl, vl, vs, L.plan m, ⟨h1.row.off k2 (fun q => by subst q; exact h1.ng hg), h1.last.off k2 (fun j q q2 => by subst q2; exact h1.nl _ q hg), h1.sld.off k2 (fun j q q2 => by subst q2; exact h1.ns _ q hg), k1, fun q => ?_, fun j q q2 => ?_, fun j q q2 => ?_⟩, h2.trans k2 (fun j q => by subst q; exact h3 _ (Or.inr (Or.inr (Or.inr hg)))), fun j q => ?_⟩
  · rcases hnew gl q with q | q
    · exact h1.ng q
    · have := h1.row.lt; omega
  · rcases hnew j q2 with q3 | q3
    · exact h1.nl j q q3
    · have := (World.ownsRow.lt h1.last j q).2; omega
  · rcases hnew j q2 with q3 | q3
    · exact h1.ns j q q3
    · have := (World.ownsRow.lt h1.sld j q).2; omega
  · rcases q with q | q | q | q
    · exact h3 j (Or.inl q)
    · exact h3 j (Or.inr (Or.inl q))
    · exact h3 j (Or.inr (Or.inr (Or.inl q)))
    · rcases hnew j q with q3 | q3
      · exact h3 j (Or.inr (Or.inr (Or.inr q3)))
      · have := h2.size; exact Or.inr (by omega)

/-- A log that New makes of starts. -/
theorem LStep.freshS {w wr w' : World} {gd gl : Nat} {d : Dsk} {L : Loc} {N : Nat} {F : Nat → Prop} {l : Lg} {vl : Value} (hD : DAt w' gd d L N) (hlt : ∀ j, foot gd L j → j < wr.heap.size) (hg : wr.heap.size ≤ gl) (hr : Row w' gl (lcells (.pointer (some ⟨gd, 0, none⟩)) vl (.slice none 0 0) l) 102) (hu : OwnU w' (gl + 1) vl l.last) (hs : l.sealed = []) (o : Off F w w') (hw : w.heap.size ≤ wr.heap.size) (hF : ∀ j, foot gd L j → F j ∨ w.heap.size ≤ j) : LStep w gl gd F l d N w' := by
  refine ⟨vl, _, L, ⟨hr, hu, by rw [hs]; exact OwnCk.nil _ _, hD, (fun q => by have := hlt _ q; omega), (fun j q q2 => by have := hlt _ q2; have := (World.ownsRow.lt hu j q).1; omega), (fun j q => by cases q)⟩, o, fun j q => ?_⟩
  rcases q with q | q | q | q
  · exact Or.inr (by omega)
  · have := (World.ownsRow.lt hu j q).1; exact Or.inr (by omega)
  · cases q
  · exact hF j q
/-- A beginning of a list. -/
theorem OwnS.cut {w : World} {base n cap : Nat} {oa : Option Addr} {xs : List ByteArray} (h : OwnS w base (.slice oa n cap) xs) (k : Nat) (hk : k ≤ xs.length) : OwnS w base (.slice oa k cap) (xs.take k) := by
  have hl : (xs.take k).length = k := by rw [List.length_take]; omega
  rcases h.2 with ⟨q, h2⟩ | ⟨g, c, cur, q, hb, hc, hle, hm, hsz, ht⟩
  · cases q
    have : k = 0 := by omega
    subst this
    exact ⟨rfl, Or.inl ⟨rfl, rfl⟩⟩
  · cases q
    refine ⟨by rw [List.length_map, Nat.mul_one], Or.inr ⟨g, cap, cur, by rw [hl], hb, hc, by rw [hl]; omega, hm, hsz, ?_⟩⟩
    rw [Nat.mul_one] at ht ⊢
    rw [hl, List.map_take, ← ht, List.take_take, Nat.min_eq_left (by omega)]
/-- A copy of a list. -/
theorem OwnS.copy {w : World} {base : Nat} {v : Value} {xs : List ByteArray} (h : OwnS w base v xs) (hn : xs.length ≤ 1000000) (ty : TypeId) :
    ∃ v' w', (Builtin.append_ #[73, 73] ty #[.slice (some ⟨w.heap.size, 0, none⟩) 0 0, v]).run Try.prog (w.alloc (.cells #[] 9)) = .ok v' w' ∧ OwnS w' w.heap.size v' xs ∧ Below w.heap.size w w' := by
  obtain ⟨i, hi, hz, hs, hby⟩ := Ck.info_parts info9s
  have hown : (w.alloc (.cells #[] 9)).ownsRow w.heap.size 9 1 (.slice (some ⟨w.heap.size, 0, none⟩) 0 0) 0 [] := World.ownsRow_made w #[] 0 (Nat.le_refl _) (Nat.zero_le _) rfl
  have b0 : Below w.heap.size w (w.alloc (.cells #[] 9)) := (Below.refl _ _).alloc (Nat.le_refl _) _
  have hc := fun g hg => World.ownsRow.cells h (g := g) hg
  rcases h.2 with ⟨rfl, h2⟩ | ⟨g, cap, cur, rfl, _⟩
  · rw [List.eq_nil_of_length_eq_zero h2]
    exact ⟨_, _, run_append_owned_none (P := Try.prog) (w := w.alloc (.cells #[] 9)) w.heap.size 73 ty 9 i 1 Try.underlying73 hi _ 0 [] hown, hown, b0⟩
  · obtain ⟨v', w', hr, h2, h3, h4, h5⟩ := run_append_own_at (P := Try.prog) (w.alloc (.cells #[] 9)) w.heap.size 73 ty 9 i _ 1 16 Try.underlying73 hi hz hs hby rfl (by decide) _ 0 [] hown ⟨g, 0, none⟩ xs.length cap (xs.map Value.string) (by simp) (fun j u hj => Ck.cell_keep (hc g rfl j u hj) b0) (fun u hu => by obtain ⟨x, _, rfl⟩ := List.mem_map.1 hu; rfl) (by unfold maxLen; omega) (by omega) (by simp)
    refine ⟨v', w', hr, ?_, b0.grown h3 (by simp) (fun k hk => ?_)⟩
    · unfold OwnS; simpa using h2
    · simp [Value.ownBlock] at hk
      omega
end Go.Proofs.Ytgnedbagelhcbaa
namespace Go.Proofs.Ytgnedbagelhcbaa
open Go.ChangeShapes Go.WideShapes Go.ChangeAt Go.RowKit
set_option linter.unusedVariables false
set_option linter.unusedSimpArgs false
set_option maxRecDepth 20000

/-- A disk apart from the blocks X. -/
def DX (w wr : World) (gd : Nat) (d : Dsk) (M : Nat) (X : Nat → Prop) : Prop := ∃ L, DAt wr gd d L M ∧ Below w.heap.size w wr ∧ ∀ j, foot gd L j → w.heap.size ≤ j ∧ ¬ X j
/-- A log and its disk apart from the blocks X. -/
def FSX (w wr : World) (gl gd : Nat) (l : Lg) (d : Dsk) (M : Nat) (X : Nat → Prop) : Prop :=
  ∃ vl vs L, LD wr gl gd vl vs L l d M ∧ Below w.heap.size w wr ∧ ∀ j, lfoot gl gd vl vs L j → w.heap.size ≤ j ∧ ¬ X j
theorem FSX.dx {w wr : World} {gl gd : Nat} {l : Lg} {d : Dsk} {M : Nat} {X : Nat → Prop} (h : FSX w wr gl gd l d M X) : DX w wr gd d M X := by
  obtain ⟨vl, vs, L, h1, h2, h3⟩ := h
  exact ⟨L, h1.dsk, h2, fun j q => h3 j (Or.inr (Or.inr (Or.inr q)))⟩
theorem FSX.call {w wr : World} {gl gd : Nat} {l l' : Lg} {d d' : Dsk} {M M' : Nat} {X : Nat → Prop} {f : Nat} {args : Array Value} {r : Ending} (h : FSX w wr gl gd l d M X) (hX : ∀ j, X j → j < wr.heap.size)
    (hc : ∀ F, (∀ j, F j → ¬ X j) → LStep wr gl gd F l d M wr → Calls Try.prog f args wr fun e w' => e = r ∧ LStep wr gl gd F l' d' M' w') :
    Calls Try.prog f args wr fun e w' => e = r ∧ FSX w w' gl gd l' d' M' X ∧ Off (fun j => ¬ X j) wr w' := by
  obtain ⟨vl, vs, L, h1, h2, h3⟩ := h
  refine (hc _ (fun j q => (h3 j q).2) (LStep.refl h1)).mono ?_
  rintro e w' ⟨he, vl2, vs2, L2, k1, k2, k3⟩
  refine ⟨he, ⟨vl2, vs2, L2, k1, h2.trans (k2.below h2.size (fun j q => (h3 j q).1)), fun j q => ?_⟩, k2.mono (fun j q => Or.inl (h3 j q).2)⟩
  rcases k3 j q with q2 | q2
  · exact h3 j q2
  · have := h2.size
    exact ⟨by omega, fun q3 => by have := hX j q3; omega⟩
theorem FSX.below {w wr w' : World} {gl gd : Nat} {l : Lg} {d : Dsk} {M : Nat} {X Y : Nat → Prop} (h : FSX w wr gl gd l d M X) (hb : Below wr.heap.size wr w') (hY : ∀ j, Y j → X j ∨ wr.heap.size ≤ j) : FSX w w' gl gd l d M Y := by
  obtain ⟨vl, vs, L, h1, h2, h3⟩ := h
  refine ⟨vl, vs, L, h1.below hb, h2.trans (hb.mono h2.size), fun j q => ⟨(h3 j q).1, fun q2 => ?_⟩⟩
  rcases hY j q2 with r | r
  · exact (h3 j q).2 r
  · have := h1.lt q; omega
/-- A block of the statement's own turned. -/
theorem FSX.turn {w wr w' : World} {gl gd : Nat} {l : Lg} {d : Dsk} {M : Nat} {X Y : Nat → Prop} (h : FSX w wr gl gd l d M X) (o : Off X wr w') (hw : ∀ j, X j → w.heap.size ≤ j) (hY : ∀ j, Y j → X j ∨ wr.heap.size ≤ j) : FSX w w' gl gd l d M Y := by
  obtain ⟨vl, vs, L, h1, h2, h3⟩ := h
  refine ⟨vl, vs, L, h1.off o (fun j q => (h3 j q).2), h2.trans (o.below h2.size hw), fun j q => ⟨(h3 j q).1, fun q2 => ?_⟩⟩
  rcases hY j q2 with r | r
  · exact (h3 j q).2 r
  · have := h1.lt q; omega
theorem DX.below {w wr w' : World} {gd : Nat} {d : Dsk} {M : Nat} {X Y : Nat → Prop} (h : DX w wr gd d M X) (hb : Below wr.heap.size wr w') (hY : ∀ j, Y j → X j ∨ wr.heap.size ≤ j) : DX w w' gd d M Y := by
  obtain ⟨L, h1, h2, h3⟩ := h
  refine ⟨L, h1.below hb, h2.trans (hb.mono h2.size), fun j q => ⟨(h3 j q).1, fun q2 => ?_⟩⟩
  rcases hY j q2 with r | r
  · exact (h3 j q).2 r
  · have := h1.lt q; omega
theorem DX.plan {w wr : World} {gd : Nat} {d : Dsk} {M : Nat} {X : Nat → Prop} (h : DX w wr gd d M X) (hX : ∀ j, X j → j < wr.heap.size) (fu : Int) (hfu : Wf fu) :
    Calls Try.prog 21 #[.pointer (some ⟨gd, 0, none⟩), .slice none 0 0, .int .i64 fu] wr fun e w' => e = .returned (.tuple #[]) ∧ DX w w' gd (d.plan [] fu) M X ∧ Off (fun j => ¬ X j) wr w' := by
  obtain ⟨L, h1, h2, h3⟩ := h
  refine (plan_any h1 (.slice none 0 0) [] (Or.inl ⟨rfl, rfl⟩) (fun a n c q => by cases q) (fun z hz => by cases hz) (by decide) fu hfu).mono ?_
  rintro e w' ⟨rfl, m, hm, k1, k2⟩
  have hg : foot gd L gd := Or.inl rfl
  refine ⟨rfl, ⟨L.plan m, k1, h2.trans (k2.below h2.size (fun j q => by subst q; exact (h3 _ hg).1)), fun j q => ?_⟩, k2.mono (fun j q => Or.inl (by subst q; exact (h3 _ hg).2))⟩
  have hnew : foot gd L j ∨ j = m := by
    rcases q with q | q | q | q | q
    · exact Or.inl (Or.inl q)
    · exact Or.inl (Or.inr (Or.inl q))
    · exact Or.inl (Or.inr (Or.inr (Or.inl q)))
    · exact Or.inl (Or.inr (Or.inr (Or.inr (Or.inl q))))
    · have q' : (Value.map (some m)) = .map (some j) := q
      cases q'; exact Or.inr rfl
  rcases hnew with q2 | q2
  · exact h3 j q2
  · have := h2.size
    exact ⟨by omega, fun q3 => by have := hX j q3; omega⟩
/-- How opened ends, over a disk apart from X. -/
def OpdX (w wr : World) (gd : Nat) (M : Nat) (X : Nat → Prop) (d : Dsk) (ep : Int) (cs : List Ck.O) (ts : List ByteArray) (e : Ending) (w' : World) : Prop :=
  ∃ p iv, e = .returned (.tuple #[.pointer p, iv, .bool true]) ∧ It.Own w' wr.heap.size iv (lsns 1 ts) ∧ DX w w' gd d M X ∧ Off (fun j => ¬ X j) wr w' ∧ (∀ j, iv.ownBlock = some j → wr.heap.size ≤ j) ∧
    (okN 0 16 16 (St.kpN 0 (joinR 0 cs).sts (opE cs)) (opE cs) (St.kp (joinR 0 cs).sts (opE cs)) = true → ∃ gl, p = some ⟨gl, 0, none⟩ ∧ wr.heap.size ≤ gl ∧ FSX w w' gl gd ⟨0, 16, ep, (St.kp (joinR 0 cs).sts (opE cs)).map (·.off), [], ByteArray.empty, St.kpN 0 (joinR 0 cs).sts (opE cs), true, opE cs, opE cs⟩ d M X)
theorem DX.opened {w wr : World} {gd : Nat} {d : Dsk} {M : Nat} {X : Nat → Prop} (h : DX w wr gd d M X) (hX : ∀ j, X j → j < wr.heap.size) (hwl : Well d 16 0) (ep : Int) {cs : List Ck.O} {ts : List ByteArray} (hr : Rds d.seen cs ts ep) :
    Calls Try.prog 36 #[.pointer (some ⟨gd, 0, none⟩), .int .i64 16, .int .u32 ep] wr fun e w' => ∃ j, OpdX w wr gd M X (d.tick j) ep cs ts e w' := by
  obtain ⟨L, h1, h2, h3⟩ := h
  obtain ⟨j, e1, _⟩ := scan_well (a := 0) (z := 16) (fst := 0) (n := 16) (by decide) hwl
  have hsc : scanR 0 16 0 d = (cs, 0, d.tick j) := by rw [e1]; show (scanL 0 16 0 d.seen 16 0, _, _) = _; rw [hr.scan]
  have hop := hwl.hi
  refine (opened_any wr gd d (d.tick j) L M 16 ep cs h1 hsc rfl (by decide) (by omega) hr.len hr.fit hr.tot hr.sts hr.size hr.opb hr.ep).mono ?_
  rintro e w' ⟨p, iv, rfl, m1, m2, m3, m4, m5⟩
  have hO : Off (fun j => ¬ X j) wr w' := m3.mono (fun j q => Or.inl (h3 j q).2)
  have hB : Below w.heap.size w w' := h2.trans (m3.below h2.size (fun j q => (h3 j q).1))
  have hn16 : d.n = 16 := hwl.size
  have hit := hr.it
  rw [hit] at m1
  rw [decide_eq_true hr.opb, decide_eq_true hr.ep]
  refine ⟨j, p, iv, rfl, m1, ⟨L, m2, hB, h3⟩, hO, fun k q => (World.ownsRow.lt m1 k q).1, fun hok => ?_⟩
  have hnn : ((d.tick j).n : Int) = 16 := by show (d.n : Int) = 16; rw [hn16]; rfl
  rw [hnn] at m5
  obtain ⟨gl, vl, g1, g2, g3, g4⟩ := m5 hok
  refine ⟨gl, g1, g2, vl, _, L, ⟨g3, g4, OwnCk.nil _ _, m2, (fun q => by have := h1.lt q; omega), (fun k q q2 => by have := h1.lt q2; have := (World.ownsRow.lt g4 k q).1; omega), (fun k q => by cases q)⟩, hB, fun k q => ?_⟩
  have hs2 := h2.size
  rcases q with q | q | q | q
  · subst q; exact ⟨by omega, fun q3 => by have := hX _ q3; omega⟩
  · have := (World.ownsRow.lt g4 k q).1
    exact ⟨by omega, fun q3 => by have := hX _ q3; omega⟩
  · cases q
  · exact h3 k q
end Go.Proofs.Ytgnedbagelhcbaa
namespace Go.Proofs.Ytgnedbagelhcbaa
open Go.ChangeShapes Go.WideShapes Go.ChangeAt Go.RowKit
set_option linter.unusedVariables false
set_option linter.unusedSimpArgs false
set_option maxRecDepth 20000

theorem Rds.mono {f : Int → List Int} {cs : List Ck.O} {ts : List ByteArray} {B C : Int} (h : Rds f cs ts B) (hc : B ≤ C) : Rds f cs ts C := ⟨h.scan, h.len, h.fit, h.tot, h.sts, h.size, h.opb, by have := h.ep; omega, h.it⟩
/-- What a life with this epoch finds, and whatever of its blocks is there behind it. -/
structure Lf (e : Int) (f : Int → List Int) (there news : List ByteArray) (cs : List Ck.O) (q : Nat) : Prop where
  rd : Rds f cs there e
  ok : okN 0 16 16 (St.kpN 0 (joinR 0 cs).sts (opE cs)) (opE cs) (St.kp (joinR 0 cs).sts (opE cs)) = true
  num : St.kpN 0 (joinR 0 cs).sts (opE cs) = q
  fin : opE cs = 1 + ((cat there).size : Int)
  few : (St.kp (joinR 0 cs).sts (opE cs)).length = q ∧ q ≤ 8
  go : ∀ (cs2 : List Ck.O) (f' : Int → List Int), Seq e q (1 + ((cat there).size : Int)) cs2 → cs2.length ≤ 4 → cs2 ≠ [] → catC cs2 = nums (cat news) → (∀ t ∈ there ++ news, okF t = true) → SomeB 0 16 cs2 f f' → (f' = f ∨ ∀ c, cs2[0]? = some c → f' (placeV 0 16 c.num) = blkC c) →
    ∃ cs' j, Rds f' cs' ((there ++ news).take j) (e + 1) ∧ there.length ≤ j ∧ j ≤ (there ++ news).length ∧ ((∀ c ∈ cs2, f' (placeV 0 16 c.num) = blkC c) → j = (there ++ news).length)
theorem lf_one (f0 : Int → List Int) (h0 : f0 = fun _ => zs 256) (news : List ByteArray) : Lf 1 f0 [] news [] 0 := by
  subst h0
  have hs0 : SomeB 0 16 [] (fun _ => zs 256) (fun _ => zs 256) := SomeB.refl _ _ _ _
  have hsc : scanL 0 16 0 (fun _ => zs 256) 16 0 = [] := by
    unfold scanL
    rw [isB_zs]; rfl
  have hcat : cat ([] : List ByteArray) = { data := #[] } := rfl
  have hopE : opE [] = 1 := by
    have h1 : itE 1 { data := #[] } 1 = 1 := by
      unfold itE
      have hh : hasP 1 { data := #[] } 1 = true := by decide
      have hi : itS 1 { data := #[] } 1 = { data := #[] } := by decide
      rw [hh, hi, tx_no (by decide)]; rfl
    exact h1
  have hitL : itL (opB []) (opS []) 1 = lsns 1 [] := by
    have h1 : itL 1 { data := #[] } 1 = [] := by
      unfold itL
      have hh : hasP 1 { data := #[] } 1 = true := by decide
      have hi : itS 1 { data := #[] } 1 = { data := #[] } := by decide
      rw [hh, hi, tx_no (by decide)]; rfl
    exact h1
  refine ⟨⟨hsc, by simp, (fun c hc => by cases hc), by simp [tot], by show (0 : Nat) ≤ 100; omega, by show (0 : Nat) ≤ 100000; omega, rfl, by decide, hitL⟩, by rw [hopE]; decide, by rw [hopE]; decide, by rw [hopE]; rfl, ⟨rfl, by omega⟩, fun cs2 f' hq hl hne hc hok hs hor => ?_⟩
  have hq1 : Seq 1 0 1 cs2 := hq
  obtain ⟨p, j, q, h1, h2, h3, h4, h5, h6, _⟩ := ghost_one hq1 (by omega) hc (fun t ht => hok t (by simpa using ht)) hs
  exact ⟨_, j, by simpa using h4, by simp, by simpa using h2, fun hall => by have := h6 hall; simpa using this⟩
/-- The second life, behind the first. -/
theorem lf_two {cs1 : List Ck.O} {laid : List ByteArray} {f1 : Int → List Int} (hq1 : Seq 1 0 1 cs1) (hl1 : cs1.length ≤ 8) (hc1 : catC cs1 = nums (cat laid)) (hok1 : ∀ t ∈ laid, okF t = true) (hs1 : SomeB 0 16 cs1 (fun _ => zs 256) f1) (news : List ByteArray) :
    ∃ j cs q, j ≤ laid.length ∧ Lf 2 f1 (laid.take j) news cs q ∧ Rds f1 cs (laid.take j) 2 ∧ ((∀ c ∈ cs1, f1 (placeV 0 16 c.num) = blkC c) → j = laid.length) := by
  obtain ⟨p, j, q, h1, h2, h3, h4, h5, h6, h7, h8, h9, h10, h11, h12⟩ := ghost_one hq1 hl1 hc1 hok1 hs1
  have hlq : (cs1.take q).length = q := by rw [List.length_take]; omega
  refine ⟨j, cs1.take p, q, h2, ⟨h4, by rw [h8, h9]; exact h12, h9, h7, ⟨by rw [h8, List.length_map]; exact hlq, by omega⟩, fun cs2 f' hq hl hne hc hok hs hor => ?_⟩, h4, h6⟩
  have hor2 : (f' = f1 ∧ ¬ ∀ c ∈ cs2, f' (placeV 0 16 c.num) = blkC c) ∨ ∀ c, cs2[0]? = some c → f' (placeV 0 16 c.num) = blkC c := by
    by_cases hall : ∀ c ∈ cs2, f' (placeV 0 16 c.num) = blkC c
    · exact Or.inr (fun c hc2 => hall c (List.mem_of_getElem? hc2))
    · rcases hor with q | q
      · exact Or.inl ⟨q, hall⟩
      · exact Or.inr q
  rcases hor2 with ⟨rfl, hnall⟩ | hfirst
  · refine ⟨cs1.take p, (laid.take j).length, ?_, Nat.le_refl _, by rw [List.length_append]; omega, fun q => absurd q hnall⟩
    rw [List.take_left]; exact h4.mono (by decide)
  · have hpq : ∀ c ∈ cs1.take q, f1 (placeV 0 16 c.num) = blkC c := fun c hc2 => h5 c (by
      have : cs1.take q = (cs1.take p).take q := by rw [List.take_take, Nat.min_eq_left h3]
      rw [this] at hc2; exact List.mem_of_mem_take hc2)
    have hcr : catC cs1 = nums (cat (laid.take j ++ laid.drop j)) := by rw [List.take_append_drop]; exact hc1
    obtain ⟨cs', j', g1, g2, g3, g4⟩ := ghost_two hq1 hl1 hs1 (by omega) hpq hcr h10 h11 hq hl hne hc hok hs hfirst
    exact ⟨cs', j', g1, g2, g3, fun hall => g4 hall⟩
end Go.Proofs.Ytgnedbagelhcbaa
namespace Go.Proofs.Ytgnedbagelhcbaa
open Go.ChangeShapes Go.WideShapes Go.ChangeAt Go.RowKit
set_option linter.unusedVariables false
set_option linter.unusedSimpArgs false
set_option maxRecDepth 20000

/-- What a life of this number finds on the disk. -/
def GI (n1 : List ByteArray) (f : Int → List Int) (there : List ByteArray) : Nat → Prop
  | 0 => f = (fun _ => zs 256) ∧ there = []
  | 1 => ∃ cs q, Lf 2 f there n1 cs q
  | _ => True
def newsI (n0 n1 : List ByteArray) : Nat → List ByteArray
  | 0 => n0
  | _ => n1
/-- A life, and whatever is left of it. -/
structure LifeR (e : Int) (f : Int → List Int) (there news : List ByteArray) (cs : List Ck.O) (q : Nat) (n1 : List ByteArray) (i : Nat) : Prop where
  lf : Lf e f there news cs q
  go : ∀ (cs2 : List Ck.O) (f' : Int → List Int), Seq e q (1 + ((cat there).size : Int)) cs2 → cs2.length ≤ 4 → cs2 ≠ [] → catC cs2 = nums (cat news) → (∀ t ∈ there ++ news, okF t = true) → SomeB 0 16 cs2 f f' → (f' = f ∨ ∀ c, cs2[0]? = some c → f' (placeV 0 16 c.num) = blkC c) →
    ∃ cs' j, Rds f' cs' ((there ++ news).take j) (e + 1) ∧ there.length ≤ j ∧ j ≤ (there ++ news).length ∧ ((∀ c ∈ cs2, f' (placeV 0 16 c.num) = blkC c) → j = (there ++ news).length) ∧ GI n1 f' ((there ++ news).take j) (i + 1)
theorem life_zero {n0 n1 : List ByteArray} {f : Int → List Int} {there : List ByteArray} (h : GI n1 f there 0) : ∃ cs q, LifeR 1 f there n0 cs q n1 0 := by
  obtain ⟨h1, rfl⟩ := h
  refine ⟨[], 0, lf_one f h1 n0, fun cs2 f' hq hl hne hc hok hs hor => ?_⟩
  subst h1
  have hq1 : Seq 1 0 1 cs2 := hq
  obtain ⟨j, cs, q, j1, j2, j3, j4⟩ := lf_two hq1 (by omega) hc (fun t ht => hok t (by simpa using ht)) hs n1
  exact ⟨cs, j, by simpa using j3, by simp, by simpa using j1, fun hall => by have := j4 hall; simpa using this, ⟨cs, q, by simpa using j2⟩⟩
theorem life_one' {n0 n1 : List ByteArray} {f : Int → List Int} {there : List ByteArray} (h : GI n1 f there 1) : ∃ cs q, LifeR 2 f there n1 cs q n1 1 := by
  obtain ⟨cs, q, h1⟩ := h
  refine ⟨cs, q, h1, fun cs2 f' hq hl hne hc hok hs hor => ?_⟩
  obtain ⟨cs', j, j1, j2, j3, j4⟩ := h1.go cs2 f' hq hl hne hc hok hs hor
  exact ⟨cs', j, j1, j2, j3, j4, trivial⟩
theorem life_all {n0 n1 : List ByteArray} {f : Int → List Int} {there : List ByteArray} {i : Nat} (h : GI n1 f there i) (hi : i < 2) : ∃ cs q, LifeR ((i : Int) + 1) f there (newsI n0 n1 i) cs q n1 i := by
  match i, hi, h with
  | 0, _, h => exact life_zero h
  | 1, _, h => exact life_one' (n0 := n0) h
/-- A life's log behind these texts. -/
structure AP (e : Int) (q : Nat) (o : Int) (ts : List ByteArray) (l : Lg) : Prop where
  b : ∃ cs, BInv l e q o cs (nums (cat ts))
  inv : l.Inv
  at_ : l.at_ = 0
  sz : l.size = 16
  fresh : l.fresh = true
  last : l.last.length = q
  cnt : l.sealed.length * 214 + l.open_.size = (cat ts).size
theorem AP.new {e : Int} {q : Nat} {o : Int} {offs : List Int} (he : 1 ≤ e ∧ e ≤ 2) (hq : q ≤ 8) (ho : 0 ≤ o ∧ o ≤ 100000) (hl : offs.length = q) : AP e q o [] ⟨0, 16, e, offs, [], ByteArray.empty, q, true, o, o⟩ := by
  refine ⟨⟨[], trivial, rfl, rfl, by show (q : Int) = q + ((0 : Nat) : Int); omega, by show o = o + ((0 : Nat) : Int); omega, rfl⟩, ⟨by show (0 : Int) ≤ 0 ∧ (0 : Int) ≤ _; omega, by show (1 : Int) ≤ 16 ∧ (16 : Int) ≤ _; omega, by show 0 ≤ e ∧ e ≤ _; omega, by show 0 ≤ (q : Int) ∧ (q : Int) ≤ _; omega, by show (0 : Nat) < 214; omega, by show ((0 : Nat) : Int) ≤ o; omega, (fun c hc => by cases hc), ?_⟩, rfl, rfl, rfl, hl, rfl⟩
  show (offs.length : Int) + ((0 : Nat) : Int) + wantN ((0 : Nat) : Int) ≤ 16
  unfold wantN; omega
theorem AP.app {e : Int} {q : Nat} {o : Int} {ts : List ByteArray} {l : Lg} (h : AP e q o ts l) (he : 1 ≤ e ∧ e ≤ 2) (hq : q ≤ 8) (ho : 0 ≤ o ∧ o ≤ 100000) (hok : ∀ t ∈ ts, okF t = true) (hl : ts.length ≤ 1) (s : ByteArray) (hs : okF s = true) : okA l s = true ∧ AP e q o (ts ++ [s]) (appL l s) := by
  have hF := frS_size hs
  have hc := cat_small ts hok
  have hcn := h.cnt
  have hla := h.last
  have hop := h.inv.op
  have hnf : ¬ l.size < (l.last.length : Int) + l.sealed.length + wantN ((l.open_.size : Int) + (frS s).size) := by
    rw [h.sz]; unfold wantN; omega
  have hfu : fullA l (frS s) = false := by unfold fullA; exact decide_eq_false hnf
  have hk : okA l s = true := by unfold okA; rw [hs, hfu]; rfl
  have he' : appL l s = l.app (frS s) := by unfold appL; rw [if_pos hk]
  obtain ⟨cs, hb⟩ := h.b
  have hsl0 : cs.length = l.sealed.length := by rw [hb.sld]
  obtain ⟨new, h1, h2⟩ := hb.app (by omega) (by omega) (by omega) (frS s) (by rw [nums_length]; omega) (by omega)
  have hcat : nums (cat ts) ++ nums (frS s) = nums (cat (ts ++ [s])) := by rw [cat_snoc, nums_app]
  rw [hcat] at h1
  have hlast : (l.app (frS s)).last = l.last := sealN_last _ _
  have hsz : (l.open_ ++ frS s).size = l.open_.size + (frS s).size := ByteArray.size_append
  have hopen : (l.app (frS s)).open_.size = (l.open_.size + (frS s).size) - (l.open_.size + (frS s).size) / 214 * 214 := by
    unfold Lg.app
    rw [sealN_open _ _ (by show _ ≤ (l.open_ ++ frS s).size; omega)]
    show (l.open_ ++ frS s).size - _ = _
    rw [hsz]
  have hsl : (l.app (frS s)).sealed.length = l.sealed.length + (l.open_.size + (frS s).size) / 214 := by
    unfold Lg.app
    rw [sealN_len, hsz]; rfl
  have hfin : (l.app (frS s)).fin = l.fin + (frS s).size := by unfold Lg.app; rw [sealN_fin]; rfl
  have hat : (l.app (frS s)).at_ = l.at_ := by unfold Lg.app; rw [sealN_at]; rfl
  have hz : (l.app (frS s)).size = l.size := by unfold Lg.app; rw [sealN_size]; rfl
  have hep : (l.app (frS s)).ep = l.ep := by unfold Lg.app; rw [sealN_ep]; rfl
  have hfr : (l.app (frS s)).fresh = l.fresh := by unfold Lg.app; rw [sealN_fresh]; rfl
  have hcs : (cat (ts ++ [s])).size = (cat ts).size + (frS s).size := by rw [cat_snoc, ByteArray.size_append]
  refine ⟨hk, ?_⟩
  rw [he']
  refine ⟨⟨_, h1⟩, ⟨by rw [hat]; exact h.inv.at_, by rw [hz]; exact h.inv.size, by rw [hep]; exact h.inv.ep, sealN_next (l.more (frS s)) h.inv.next _, by rw [hopen]; omega, ?_, fun c hc2 => ?_, ?_⟩, by rw [hat]; exact h.at_, by rw [hz]; exact h.sz, by rw [hfr]; exact h.fresh, by rw [hlast]; exact hla, ?_⟩
  · rw [hopen, hfin]; have := h.inv.fin; omega
  · rw [h1.sld] at hc2
    exact h1.seq.ok c hc2
  · rw [hlast, hsl, hz, hopen]
    unfold wantN at hnf ⊢
    omega
  · rw [hsl, hopen, hcs]; omega
theorem closed_fresh (l : Lg) : l.closed.fresh = l.fresh := by unfold Lg.closed; split <;> rfl
/-- What a life lays. -/
theorem AP.closed {e : Int} {q : Nat} {o : Int} {ts : List ByteArray} {l : Lg} (h : AP e q o ts l) (he : 1 ≤ e ∧ e ≤ 2) (hq : q ≤ 8) (ho : 0 ≤ o ∧ o ≤ 100000) (hok : ∀ t ∈ ts, okF t = true) (hl : 1 ≤ ts.length ∧ ts.length ≤ 2) :
    Seq e q o l.closed.sealed ∧ l.closed.sealed.length ≤ 4 ∧ l.closed.sealed ≠ [] ∧ catC l.closed.sealed = nums (cat ts) := by
  have hc := cat_small ts hok
  have hcn := h.cnt
  obtain ⟨cs, hb⟩ := h.b
  have hsl0 : cs.length = l.sealed.length := by rw [hb.sld]
  obtain ⟨new, h1, h2, h3⟩ := hb.closed (by omega) (by omega) (by omega) h.inv.op (by omega) (by rw [nums_length]; omega)
  rw [h1.sld]
  have e0 : nums l.closed.open_ = [] := List.eq_nil_of_length_eq_zero (by rw [nums_length]; exact h2)
  have hcat := h1.cat
  rw [e0, List.append_nil] at hcat
  refine ⟨h1.seq, by rw [List.length_append]; omega, fun hn => ?_, hcat⟩
  rw [hn] at hcat
  have h9 := congrArg List.length hcat
  rw [nums_length] at h9
  have h8 : (cat ts).size = 0 := h9.symm
  cases ts with
  | nil => simp at hl
  | cons t r =>
    have h5 := frS_size (hok t List.mem_cons_self)
    have h6 : (frS t ++ cat r).size = 0 := h8
    rw [ByteArray.size_append] at h6
    omega
theorem life_flush {e : Int} {q : Nat} {there news : List ByteArray} {l : Lg} {d : Dsk} {cs : List Ck.O} {n1 : List ByteArray} {i : Nat} (R : LifeR e d.seen there news cs q n1 i) (h : AP e q (1 + ((cat there).size : Int)) news l) (he : 1 ≤ e ∧ e ≤ 2) (hok : ∀ t ∈ there ++ news, okF t = true) (ht : there.length ≤ 2) (hl : 1 ≤ news.length ∧ news.length ≤ 2)
    (hn : d.n = 16) (hf : ∀ i, d.fails i = false) (hp : d.pend = []) :
    ∃ E l' d', flushR l d = (E, l', d') ∧ d'.n = 16 ∧ ∀ (bl : List Bool) (B : Nat → Bool), (∀ g s, g < 16 → s < 4 → bl.getD (4 * g + s) false = B g) →
      ∃ cs' j, Rds (d'.crash bl).seen cs' ((there ++ news).take j) (e + 1) ∧ there.length ≤ j ∧ j ≤ (there ++ news).length ∧ (E = 0 → j = (there ++ news).length) ∧ GI n1 (d'.crash bl).seen ((there ++ news).take j) (i + 1) := by
  have hct := cat_small there (fun t ht => hok t (List.mem_append_left _ ht))
  have hq8 := R.lf.few.2
  obtain ⟨s1, s2, s3, s4⟩ := h.closed he hq8 (by omega) (fun t ht => hok t (List.mem_append_right _ ht)) hl
  obtain ⟨k1, k2, _⟩ := closed_at l
  have hF : d.sure.block = d.seen := funext fun b => (seen_none d hp b).symm
  have hpw : Pw d 16 l.at_ l.size d.seen [] := ⟨hn, hf, hF, by rw [hp]; rfl⟩
  have hnum := s1.num
  have hap : ∀ c0, l.closed.sealed[0]? = some c0 → ∀ c ∈ l.closed.sealed.drop 1, placeV l.at_ l.size c.num ≠ placeV l.at_ l.size c0.num := fun c0 h0 c hc => by
    obtain ⟨j, hj, ej⟩ := List.getElem_of_mem hc
    rw [List.length_drop] at hj
    have g1 : l.closed.sealed[1 + j]? = some c := by rw [← ej, List.getElem_drop]; exact List.getElem?_eq_getElem (by omega)
    have n0 := s1.at_num h0
    have n1 := s1.at_num g1
    rw [h.at_, h.sz]
    unfold placeV
    omega
  obtain ⟨E, l', d', hfl, G, gs, hg, hgl, hgo⟩ := flush_pw (n := 16) l d d.seen hpw (fun c hc => by rw [h.at_, h.sz]; exact place_in 0 16 16 c.num (by decide)) k1 k2 (by rw [closed_fresh]; exact h.fresh) s3 hap
  refine ⟨E, l', d', hfl, hg.size, fun bl B hB => ?_⟩
  have hsb := crash_some (a := l.at_) (z := l.size) bl B hg.pend (fun g s hg2 hs2 => hB g s (by omega) hs2)
  rw [hg.sure] at hsb
  obtain ⟨r1, r2, r3⟩ := hgo _ hsb
  rw [h.at_, h.sz] at r1 r2 r3
  obtain ⟨cs', j, j1, j2, j3, j4, j5⟩ := R.go l.closed.sealed (d'.crash bl).seen s1 s2 s3 s4 hok r1 r2
  refine ⟨cs', j, j1, j2, j3, fun h0 => j4 (fun c hc => ?_), j5⟩
  rw [r3 h0]
  exact putB_seq _ _ _ _ s1 (by decide) (by omega) c hc
end Go.Proofs.Ytgnedbagelhcbaa
namespace Go.Proofs.Ytgnedbagelhcbaa
open Go.ChangeShapes Go.WideShapes Go.ChangeAt Go.RowKit
set_option linter.unusedVariables false
set_option linter.unusedSimpArgs false
set_option maxRecDepth 20000

theorem OwnS.lower {w : World} {base base' : Nat} {v : Value} {xs : List ByteArray} (h : OwnS w base v xs) (hb : base' ≤ base) : OwnS w base' v xs := by
  refine ⟨h.1, ?_⟩
  rcases h.2 with q | ⟨g, c, cur, q1, q2, q3⟩
  · exact Or.inl q
  · exact Or.inr ⟨g, c, cur, q1, Nat.le_trans hb q2, q3⟩
def Rws (w : World) (R : List (Nat × Array Value × TypeId)) : Prop := ∀ x ∈ R, Row w x.1 x.2.1 x.2.2
def X8 (R : List (Nat × Array Value × TypeId)) (v : Value) (j : Nat) : Prop := (∃ x ∈ R, x.1 = j) ∨ v.ownBlock = some j
def X13 (R : List (Nat × Array Value × TypeId)) (v v2 : Value) (j : Nat) : Prop := X8 R v j ∨ v2.ownBlock = some j
def X14 (R : List (Nat × Array Value × TypeId)) (v v2 : Value) (gk : Nat) (j : Nat) : Prop := X13 R v v2 j ∨ j = gk
structure Hm (w wr : World) (R : List (Nat × Array Value × TypeId)) (v : Value) (ts : List ByteArray) : Prop where
  rows : Rws wr R
  own : OwnS wr w.heap.size v ts
  hi : ∀ x ∈ R, w.heap.size ≤ x.1
theorem Hm.lt {w wr : World} {R : List (Nat × Array Value × TypeId)} {v : Value} {ts : List ByteArray} (h : Hm w wr R v ts) : ∀ j, X8 R v j → j < wr.heap.size := by
  rintro j (⟨x, hx, rfl⟩ | q)
  · exact (h.rows x hx).lt
  · exact (World.ownsRow.lt h.own j q).2
theorem Hm.ge {w wr : World} {R : List (Nat × Array Value × TypeId)} {v : Value} {ts : List ByteArray} (h : Hm w wr R v ts) : ∀ j, X8 R v j → w.heap.size ≤ j := by
  rintro j (⟨x, hx, rfl⟩ | q)
  · exact h.hi x hx
  · exact (World.ownsRow.lt h.own j q).1
theorem Hm.off {F : Nat → Prop} {w wr w' : World} {R : List (Nat × Array Value × TypeId)} {v : Value} {ts : List ByteArray} (h : Hm w wr R v ts) (o : Off F wr w') (hF : ∀ j, X8 R v j → ¬ F j) : Hm w w' R v ts :=
  ⟨fun x hx => (h.rows x hx).off o (hF _ (Or.inl ⟨x, hx, rfl⟩)), h.own.off o (fun j q => hF j (Or.inr q)), h.hi⟩
theorem Hm.below {w wr w' : World} {R : List (Nat × Array Value × TypeId)} {v : Value} {ts : List ByteArray} (h : Hm w wr R v ts) (b : Below wr.heap.size wr w') : Hm w w' R v ts := h.off (Off.of_below (F := fun _ => False) b) (fun _ _ q => q)
/-- The disk alone. -/
def S0 (w wr : World) (gd : Nat) (d : Dsk) (M : Nat) (R : List (Nat × Array Value × TypeId)) (v : Value) (ts : List ByteArray) : Prop := DX w wr gd d M (X8 R v) ∧ Hm w wr R v ts
/-- The log. -/
def S1 (w wr : World) (gl gd : Nat) (l : Lg) (d : Dsk) (M : Nat) (R : List (Nat × Array Value × TypeId)) (v : Value) (ts : List ByteArray) : Prop := FSX w wr gl gd l d M (X8 R v) ∧ Hm w wr R v ts
/-- The log, and what was laid. -/
def S2 (w wr : World) (gl gd : Nat) (l : Lg) (d : Dsk) (M : Nat) (R : List (Nat × Array Value × TypeId)) (v : Value) (ts : List ByteArray) (B : Nat) (v2 : Value) (ls : List ByteArray) : Prop := FSX w wr gl gd l d M (X13 R v v2) ∧ Hm w wr R v ts ∧ OwnS wr B v2 ls ∧ (∀ j, X8 R v j → j < B) ∧ w.heap.size ≤ B ∧ B ≤ wr.heap.size
/-- The disk, and what was laid. -/
def S3 (w wr : World) (gd : Nat) (d : Dsk) (M : Nat) (R : List (Nat × Array Value × TypeId)) (v : Value) (ts : List ByteArray) (B : Nat) (v2 : Value) (ls : List ByteArray) : Prop := DX w wr gd d M (X13 R v v2) ∧ Hm w wr R v ts ∧ OwnS wr B v2 ls ∧ (∀ j, X8 R v j → j < B) ∧ w.heap.size ≤ B ∧ B ≤ wr.heap.size
/-- The log, what was laid, and flags. -/
def S4 (w wr : World) (gl gd : Nat) (l : Lg) (d : Dsk) (M : Nat) (R : List (Nat × Array Value × TypeId)) (v : Value) (ts : List ByteArray) (B : Nat) (v2 : Value) (ls : List ByteArray) (gk : Nat) (fl : List Value) : Prop := FSX w wr gl gd l d M (X14 R v v2 gk) ∧ Hm w wr R v ts ∧ OwnS wr B v2 ls ∧ (∀ j, X8 R v j → j < B) ∧ w.heap.size ≤ B ∧ (∀ j, X13 R v v2 j → j < gk) ∧ B ≤ gk ∧ wr.ownsRow gk 4 1 (.slice (some ⟨gk, 0, none⟩) 64 64) 64 fl
theorem lt13 {w wr : World} {R : List (Nat × Array Value × TypeId)} {v v2 : Value} {ts ls : List ByteArray} {B : Nat} (h : Hm w wr R v ts) (h2 : OwnS wr B v2 ls) : ∀ j, X13 R v v2 j → j < wr.heap.size := by
  rintro j (q | q)
  · exact h.lt j q
  · exact (World.ownsRow.lt h2 j q).2
theorem S0.plan {w wr : World} {gd : Nat} {d : Dsk} {M : Nat} {R : List (Nat × Array Value × TypeId)} {v : Value} {ts : List ByteArray} (h : S0 w wr gd d M R v ts) (fu : Int) (hfu : Wf fu) :
    Calls Try.prog 21 #[.pointer (some ⟨gd, 0, none⟩), .slice none 0 0, .int .i64 fu] wr fun e w' => e = .returned (.tuple #[]) ∧ S0 w w' gd (d.plan [] fu) M R v ts := by
  refine (h.1.plan h.2.lt fu hfu).mono ?_
  rintro e w' ⟨rfl, k1, k2⟩
  exact ⟨rfl, k1, h.2.off k2 (fun j q q2 => q2 q)⟩
/-- How opened ends here. -/
def Opn0 (w wr : World) (gd : Nat) (d : Dsk) (M : Nat) (R : List (Nat × Array Value × TypeId)) (v : Value) (ts : List ByteArray) (ep : Int) (cs : List Ck.O) (e : Ending) (w' : World) : Prop :=
  ∃ j gl iv, e = .returned (.tuple #[.pointer (some ⟨gl, 0, none⟩), iv, .bool true]) ∧ It.Own w' wr.heap.size iv (lsns 1 ts) ∧ S1 w w' gl gd ⟨0, 16, ep, (St.kp (joinR 0 cs).sts (opE cs)).map (·.off), [], ByteArray.empty, St.kpN 0 (joinR 0 cs).sts (opE cs), true, opE cs, opE cs⟩ (d.tick j) M R v ts
theorem S0.opened {w wr : World} {gd : Nat} {d : Dsk} {M : Nat} {R : List (Nat × Array Value × TypeId)} {v : Value} {ts : List ByteArray} (h : S0 w wr gd d M R v ts) (hwl : Well d 16 0) (ep : Int) {cs : List Ck.O} (hr : Rds d.seen cs ts ep) (hok : okN 0 16 16 (St.kpN 0 (joinR 0 cs).sts (opE cs)) (opE cs) (St.kp (joinR 0 cs).sts (opE cs)) = true) :
    Calls Try.prog 36 #[.pointer (some ⟨gd, 0, none⟩), .int .i64 16, .int .u32 ep] wr fun e w' => Opn0 w wr gd d M R v ts ep cs e w' := by
  refine (h.1.opened h.2.lt hwl ep hr).mono ?_
  rintro e w' ⟨j, p, iv, rfl, m1, m2, m3, m4, m5⟩
  obtain ⟨gl, rfl, g2, g3⟩ := m5 hok
  exact ⟨j, gl, iv, rfl, m1, g3, h.2.off m3 (fun j q q2 => q2 q)⟩
theorem S1.below {w wr : World} {gl gd : Nat} {l : Lg} {d : Dsk} {M : Nat} {R : List (Nat × Array Value × TypeId)} {v : Value} {ts : List ByteArray} {w' : World} (h : S1 w wr gl gd l d M R v ts) (b : Below wr.heap.size wr w') : S1 w w' gl gd l d M R v ts := ⟨h.1.below b (fun j q => Or.inl q), h.2.below b⟩
theorem S1.planF {w wr : World} {gl gd : Nat} {l : Lg} {d : Dsk} {M : Nat} {R : List (Nat × Array Value × TypeId)} {v : Value} {ts : List ByteArray} (h : S1 w wr gl gd l d M R v ts) (fu : Int) (hfu : Wf fu) :
    Calls Try.prog 21 #[.pointer (some ⟨gd, 0, none⟩), .slice none 0 0, .int .i64 fu] wr fun e w' => e = .returned (.tuple #[]) ∧ S1 w w' gl gd l (d.plan [] fu) M R v ts := by
  refine (h.1.call h.2.lt (fun F _ hL => LStep.planF hL (.slice none 0 0) [] (Or.inl ⟨rfl, rfl⟩) (fun a n c q => by cases q) (fun z hz => by cases hz) (by decide) fu hfu)).mono ?_
  rintro e w' ⟨rfl, k1, k2⟩
  exact ⟨rfl, k1, h.2.off k2 (fun j q q2 => q2 q)⟩
theorem S1.copy {w wr : World} {gl gd : Nat} {l : Lg} {d : Dsk} {M : Nat} {R : List (Nat × Array Value × TypeId)} {v : Value} {ts : List ByteArray} (h : S1 w wr gl gd l d M R v ts) (hn : ts.length ≤ 1000000) (ty : TypeId) :
    ∃ v' w', (Builtin.append_ #[73, 73] ty #[.slice (some ⟨wr.heap.size, 0, none⟩) 0 0, v]).run Try.prog (wr.alloc (.cells #[] 9)) = .ok v' w' ∧ S2 w w' gl gd l d M R v ts wr.heap.size v' ts := by
  obtain ⟨v', w', hr, h1, h2⟩ := h.2.own.copy hn ty
  refine ⟨v', w', hr, h.1.below h2 (fun j q => ?_), h.2.below h2, h1, h.2.lt, ?_, h2.size⟩
  · rcases q with q | q
    · exact Or.inl q
    · exact Or.inr (World.ownsRow.lt h1 j q).1
  · obtain ⟨_, _, _, _, k2, _⟩ := h.1
    exact k2.size
theorem S2.below {w wr : World} {gl gd : Nat} {l : Lg} {d : Dsk} {M : Nat} {R : List (Nat × Array Value × TypeId)} {v : Value} {ts : List ByteArray} {B : Nat} {v2 : Value} {ls : List ByteArray} {w' : World} (h : S2 w wr gl gd l d M R v ts B v2 ls) (b : Below wr.heap.size wr w') : S2 w w' gl gd l d M R v ts B v2 ls :=
  ⟨h.1.below b (fun j q => Or.inl q), h.2.1.below b, h.2.2.1.keep b, h.2.2.2.1, h.2.2.2.2.1, Nat.le_trans h.2.2.2.2.2 b.size⟩
theorem S2.call {w wr : World} {gl gd : Nat} {l : Lg} {d : Dsk} {M : Nat} {R : List (Nat × Array Value × TypeId)} {v : Value} {ts : List ByteArray} {B : Nat} {v2 : Value} {ls : List ByteArray} {l' : Lg} {d' : Dsk} {M' : Nat} {f : Nat} {args : Array Value} {r : Ending} (h : S2 w wr gl gd l d M R v ts B v2 ls)
    (hc : ∀ F, LStep wr gl gd F l d M wr → Calls Try.prog f args wr fun e w' => e = r ∧ LStep wr gl gd F l' d' M' w') :
    Calls Try.prog f args wr fun e w' => e = r ∧ S2 w w' gl gd l' d' M' R v ts B v2 ls := by
  refine (h.1.call (lt13 h.2.1 h.2.2.1) (fun F _ hL => hc F hL)).mono ?_
  rintro e w' ⟨rfl, k1, k2⟩
  exact ⟨rfl, k1, h.2.1.off k2 (fun j q q2 => q2 (Or.inl q)), h.2.2.1.off k2 (fun j q q2 => q2 (Or.inr q)), h.2.2.2.1, h.2.2.2.2.1, Nat.le_trans h.2.2.2.2.2 k2.size⟩
theorem S2.snoc {w wr : World} {gl gd : Nat} {l : Lg} {d : Dsk} {M : Nat} {R : List (Nat × Array Value × TypeId)} {v : Value} {ts : List ByteArray} {B : Nat} {v2 : Value} {ls : List ByteArray} (h : S2 w wr gl gd l d M R v ts B v2 ls) (ty : TypeId) (X : Nat) (x : ByteArray) (hX : Row wr X #[.string x] 9) (hn : ls.length ≤ 1000000) :
    ∃ v' w', (Builtin.append_ #[73, 73] ty #[v2, .slice (some ⟨X, 0, none⟩) 1 1]).run Try.prog wr = .ok v' w' ∧ S2 w w' gl gd l d M R v ts B v' (ls ++ [x]) := by
  obtain ⟨h1, h2, h3, h4, h5, h6⟩ := h
  obtain ⟨v', w', hr, k1, k2, k3⟩ := OwnS.snoc h3 ty X x hX h6 hn
  have o : Off (fun j => v2.ownBlock = some j) wr w' := Off.of_grown k2 (fun k hk => hk)
  refine ⟨v', w', hr, h1.turn (o.mono (fun j q => Or.inl (Or.inr q))) (fun j q => ?_) (fun j q => ?_), h2.off o (fun j q q2 => ?_), k1, h4, h5, Nat.le_trans h6 o.size⟩
  · rcases q with q | q
    · exact h2.ge j q
    · have := (World.ownsRow.lt h3 j q).1; omega
  · rcases q with q | q
    · exact Or.inl (Or.inl q)
    · rcases k3 with r | r
      · rw [r] at q; exact Or.inl (Or.inr q)
      · rw [r] at q; cases q; exact Or.inr (Nat.le_refl _)
  · have := h4 j q
    have := (World.ownsRow.lt h3 j q2).1
    omega
theorem S2.flags {w wr : World} {gl gd : Nat} {l : Lg} {d : Dsk} {M : Nat} {R : List (Nat × Array Value × TypeId)} {v : Value} {ts : List ByteArray} {B : Nat} {v2 : Value} {ls : List ByteArray} (h : S2 w wr gl gd l d M R v ts B v2 ls) (cells : Array Value) (hz : cells.size = 64) :
    S4 w (wr.alloc (.cells cells 4)) gl gd l d M R v ts B v2 ls wr.heap.size cells.toList := by
  have b : Below wr.heap.size wr (wr.alloc (.cells cells 4)) := (Below.refl _ _).alloc (Nat.le_refl _) _
  have h2 := h.below b
  refine ⟨h.1.below b (fun j q => ?_), h2.2.1, h2.2.2.1, h2.2.2.2.1, h2.2.2.2.2.1, lt13 h.2.1 h.2.2.1, h.2.2.2.2.2, ?_⟩
  · rcases q with q | q
    · exact Or.inl q
    · exact Or.inr (by omega)
  · exact World.ownsRow_lit wr cells 64 (Nat.le_refl _) (by decide) (by rw [hz])
theorem S4.store {w wr : World} {gl gd : Nat} {l : Lg} {d : Dsk} {M : Nat} {R : List (Nat × Array Value × TypeId)} {v : Value} {ts : List ByteArray} {B : Nat} {v2 : Value} {ls : List ByteArray} {gk : Nat} {fl : List Value} (h : S4 w wr gl gd l d M R v ts B v2 ls gk fl) (j : Nat) (u : Value) :
    S4 w (wr.setCell ⟨gk, j, none⟩ u) gl gd l d M R v ts B v2 ls gk (fl.set j u) := by
  obtain ⟨h1, h2, h3, h4, h5, h6, h7, h8⟩ := h
  have o : Off (· = gk) wr (wr.setCell ⟨gk, j, none⟩ u) := Off.of_setCell _ _ _ rfl
  refine ⟨h1.turn (o.mono (fun j q => Or.inl (Or.inr q))) (fun j q => ?_) (fun j q => Or.inl q), h2.off o (fun j q q2 => ?_), h3.off o (fun j q q2 => ?_), h4, h5, h6, h7, (World.ownsRow.stored h8 j u).1⟩
  · rcases q with (q | q) | q
    · exact h2.ge j q
    · have := (World.ownsRow.lt h3 j q).1; omega
    · omega
  · have := h6 j (Or.inl q); omega
  · have := h6 j (Or.inr q); omega
theorem S4.below {w wr : World} {gl gd : Nat} {l : Lg} {d : Dsk} {M : Nat} {R : List (Nat × Array Value × TypeId)} {v : Value} {ts : List ByteArray} {B : Nat} {v2 : Value} {ls : List ByteArray} {gk : Nat} {fl : List Value} {w' : World} (h : S4 w wr gl gd l d M R v ts B v2 ls gk fl) (b : Below wr.heap.size wr w') : S4 w w' gl gd l d M R v ts B v2 ls gk fl := by
  obtain ⟨h1, h2, h3, h4, h5, h6, h7, h8⟩ := h
  refine ⟨h1.below b (fun j q => Or.inl q), h2.below b, h3.keep b, h4, h5, h6, h7, ?_⟩
  have hk := (World.ownsRow.lt h8 gk rfl).2
  refine ⟨h8.1, ?_⟩
  rcases h8.2 with q | ⟨g, c, cur, q1, q2, q3, q4⟩
  · exact Or.inl q
  · cases q1
    exact Or.inr ⟨_, _, cur, rfl, q2, by rw [b.block _ hk]; exact q3, q4⟩
theorem S4.crash {w wr : World} {gl gd : Nat} {l : Lg} {d : Dsk} {M : Nat} {R : List (Nat × Array Value × TypeId)} {v : Value} {ts : List ByteArray} {B : Nat} {v2 : Value} {ls : List ByteArray} {gk : Nat} {bl : List Bool} (h : S4 w wr gl gd l d M R v ts B v2 ls gk (bl.map .bool)) (hb : bl.length = 64) :
    Calls Try.prog 38 #[.pointer (some ⟨gd, 0, none⟩), .slice (some ⟨gk, 0, none⟩) 64 64] wr fun e w' => e = .returned (.tuple #[]) ∧ S3 w w' gd (d.crash bl) M R v ts B v2 ls := by
  obtain ⟨⟨vl, vs, L, k1, k2, k3⟩, h2, h3, h4, h5, h6, h7, h8⟩ := h
  have hc : Cel wr (.slice (some ⟨gk, 0, none⟩) 64 64) (bl.map .bool) := Or.inr ⟨⟨gk, 0, none⟩, 64, by rw [List.length_map, hb], fun j u hj => World.ownsRow.cells h8 rfl j u hj⟩
  refine (crash_any k1.dsk _ bl hc (fun a n c q q2 => ?_)).mono ?_
  · cases q
    exact (k3 gk (Or.inr (Or.inr (Or.inr q2)))).2 (Or.inr rfl)
  · rintro e w' ⟨rfl, L', m1, m2, m3⟩
    have hX : ∀ j, X13 R v v2 j → ¬ foot gd L j := fun j q q2 => (k3 j (Or.inr (Or.inr (Or.inr q2)))).2 (Or.inl q)
    have h9 := lt13 h2 h3
    refine ⟨rfl, ⟨L', m1, k2.trans (m2.below k2.size (fun j q => (k3 j (Or.inr (Or.inr (Or.inr q)))).1)), fun j q => ?_⟩, h2.off m2 (fun j q => hX j (Or.inl q)), h3.off m2 (fun j q => hX j (Or.inr q)), h4, h5, ?_⟩
    · rcases m3 j q with q2 | q2
      · have := k3 j (Or.inr (Or.inr (Or.inr q2)))
        exact ⟨this.1, fun q3 => this.2 (Or.inl q3)⟩
      · have := k2.size
        exact ⟨by omega, fun q3 => by have := h9 j q3; omega⟩
    · have := (World.ownsRow.lt h8 gk rfl).2
      have := m2.size
      omega
/-- How the second opened ends. -/
def Opn3 (w wr : World) (gd : Nat) (d : Dsk) (M : Nat) (R : List (Nat × Array Value × TypeId)) (v : Value) (ts : List ByteArray) (B : Nat) (v2 : Value) (ls : List ByteArray) (it : List ByteArray) (e : Ending) (w' : World) : Prop :=
  ∃ j p iv, e = .returned (.tuple #[.pointer p, iv, .bool true]) ∧ It.Own w' wr.heap.size iv (lsns 1 it) ∧ S3 w w' gd (d.tick j) M R v ts B v2 ls
theorem S3.opened {w wr : World} {gd : Nat} {d : Dsk} {M : Nat} {R : List (Nat × Array Value × TypeId)} {v : Value} {ts : List ByteArray} {B : Nat} {v2 : Value} {ls : List ByteArray} (h : S3 w wr gd d M R v ts B v2 ls) (hwl : Well d 16 0) (ep : Int) {cs : List Ck.O} {it : List ByteArray} (hr : Rds d.seen cs it ep) :
    Calls Try.prog 36 #[.pointer (some ⟨gd, 0, none⟩), .int .i64 16, .int .u32 ep] wr fun e w' => Opn3 w wr gd d M R v ts B v2 ls it e w' := by
  obtain ⟨h1, h2, h3, h4, h5, h6⟩ := h
  refine (h1.opened (lt13 h2 h3) hwl ep hr).mono ?_
  rintro e w' ⟨j, p, iv, rfl, m1, m2, m3, m4, m5⟩
  exact ⟨j, p, iv, rfl, m1, m2, h2.off m3 (fun j q q2 => q2 (Or.inl q)), h3.off m3 (fun j q q2 => q2 (Or.inr q)), h4, h5, Nat.le_trans h6 m3.size⟩
theorem S3.below {w wr : World} {gd : Nat} {d : Dsk} {M : Nat} {R : List (Nat × Array Value × TypeId)} {v : Value} {ts : List ByteArray} {B : Nat} {v2 : Value} {ls : List ByteArray} {w' : World} (h : S3 w wr gd d M R v ts B v2 ls) (b : Below wr.heap.size wr w') : S3 w w' gd d M R v ts B v2 ls :=
  ⟨h.1.below b (fun j q => Or.inl q), h.2.1.below b, h.2.2.1.keep b, h.2.2.2.1, h.2.2.2.2.1, Nat.le_trans h.2.2.2.2.2 b.size⟩
/-- The next life's beginning. -/
theorem S3.cut {w wr : World} {gd : Nat} {d : Dsk} {M : Nat} {R : List (Nat × Array Value × TypeId)} {v : Value} {ts : List ByteArray} {B n cap : Nat} {oa : Option Addr} {ls : List ByteArray} (h : S3 w wr gd d M R v ts B (.slice oa n cap) ls) (k : Nat) (hk : k ≤ ls.length) : S0 w wr gd d M R (.slice oa k cap) (ls.take k) := by
  obtain ⟨⟨L, k1, k2, k3⟩, h2, h3, h4, h5, h6⟩ := h
  refine ⟨⟨L, k1, k2, fun j q => ⟨(k3 j q).1, fun q2 => (k3 j q).2 ?_⟩⟩, h2.rows, OwnS.lower (h3.cut k hk) h5, h2.hi⟩
  rcases q2 with q2 | q2
  · exact Or.inl (Or.inl q2)
  · refine Or.inr ?_
    cases oa with
    | none => cases q2
    | some a => exact q2
theorem S0.below {w wr : World} {gd : Nat} {d : Dsk} {M : Nat} {R : List (Nat × Array Value × TypeId)} {v : Value} {ts : List ByteArray} (h : S0 w wr gd d M R v ts) : Below w.heap.size w wr := by obtain ⟨⟨_, _, k2, _⟩, _⟩ := h; exact k2
/-- The statement's rows. -/
def rowsG (RW : Array Value) (g1 gA gB gT n : Nat) (S oth : ByteArray) : List (Nat × Array Value × TypeId) := [(g1, RW, 71), (gA, #[.string (strOfNums (zs n)), .string S], 9), (gB, #[.string oth], 9), (gT, #[.slice (some ⟨gA, 0, none⟩) 2 2, .slice (some ⟨gB, 0, none⟩) 1 1], 74)]
theorem rows_f {g1 gA gB gT n : Nat} {ld at_ by_ f0 f1 k0 k1 : Int} {S oth : ByteArray} (hf0 : 0 ≤ f0 ∧ f0 ≤ 255) (hf1 : 0 ≤ f1 ∧ f1 ≤ 255) (k : Nat) (hk : k < 2) : ∃ fz : Int, (0 ≤ fz ∧ fz ≤ 255) ∧ ∀ wx, Rws wx (rowsG #[.int .u8 ld, .string S, .int .u8 at_, .int .u8 by_, .int .u8 f0, .int .u8 f1, .int .u8 k0, .int .u8 k1] g1 gA gB gT n S oth) → wx.cell? ⟨g1, 4 + k, none⟩ = some (.int .u8 fz) := by
  match k, hk with
  | 0, _ => exact ⟨f0, hf0, fun wx h => row_at (h _ List.mem_cons_self) 4 _ rfl⟩
  | 1, _ => exact ⟨f1, hf1, fun wx h => row_at (h _ List.mem_cons_self) 5 _ rfl⟩
theorem rows_k {g1 gA gB gT n : Nat} {ld at_ by_ f0 f1 k0 k1 : Int} {S oth : ByteArray} (hk0 : 0 ≤ k0 ∧ k0 ≤ 255) (hk1 : 0 ≤ k1 ∧ k1 ≤ 255) (k : Nat) (hk : k < 2) : ∃ fz : Int, (0 ≤ fz ∧ fz ≤ 255) ∧ ∀ wx, Rws wx (rowsG #[.int .u8 ld, .string S, .int .u8 at_, .int .u8 by_, .int .u8 f0, .int .u8 f1, .int .u8 k0, .int .u8 k1] g1 gA gB gT n S oth) → wx.cell? ⟨g1, 6 + k, none⟩ = some (.int .u8 fz) := by
  match k, hk with
  | 0, _ => exact ⟨k0, hk0, fun wx h => row_at (h _ List.mem_cons_self) 6 _ rfl⟩
  | 1, _ => exact ⟨k1, hk1, fun wx h => row_at (h _ List.mem_cons_self) 7 _ rfl⟩
theorem rows_t {RW : Array Value} {g1 gA gB gT n : Nat} {S oth : ByteArray} (k : Nat) (hk : k < 2) : ∃ (pa : Addr) (nX : Nat), (newsI [strOfNums (zs n), S] [oth] k).length = nX ∧ (1 ≤ nX ∧ nX ≤ 2) ∧ (∀ wx, Rws wx (rowsG RW g1 gA gB gT n S oth) → wx.cell? ⟨gT, k, none⟩ = some (.slice (some pa) nX nX)) ∧ ∀ q, q < nX → ∃ s, (newsI [strOfNums (zs n), S] [oth] k)[q]? = some s ∧ ∀ wx, Rws wx (rowsG RW g1 gA gB gT n S oth) → wx.cell? (pa.add q) = some (.string s) := by
  have m1 : (gA, (#[.string (strOfNums (zs n)), .string S] : Array Value), (9 : TypeId)) ∈ rowsG RW g1 gA gB gT n S oth := by unfold rowsG; simp
  have m2 : (gB, (#[.string oth] : Array Value), (9 : TypeId)) ∈ rowsG RW g1 gA gB gT n S oth := by unfold rowsG; simp
  have m3 : (gT, (#[.slice (some ⟨gA, 0, none⟩) 2 2, .slice (some ⟨gB, 0, none⟩) 1 1] : Array Value), (74 : TypeId)) ∈ rowsG RW g1 gA gB gT n S oth := by unfold rowsG; simp
  match k, hk with
  | 0, _ =>
    refine ⟨⟨gA, 0, none⟩, 2, rfl, by omega, fun wx h => row_at (h _ m3) 0 _ rfl, fun q hq => ?_⟩
    match q, hq with
    | 0, _ => exact ⟨strOfNums (zs n), rfl, fun wx h => row_at (h _ m1) 0 _ rfl⟩
    | 1, _ => exact ⟨S, rfl, fun wx h => row_at (h _ m1) 1 _ rfl⟩
  | 1, _ =>
    refine ⟨⟨gB, 0, none⟩, 1, rfl, by omega, fun wx h => row_at (h _ m3) 1 _ rfl, fun q hq => ?_⟩
    match q, hq with
    | 0, _ => exact ⟨oth, rfl, fun wx h => row_at (h _ m2) 0 _ rfl⟩
theorem life_log {e : Int} {f : Int → List Int} {there news n1 : List ByteArray} {cs : List Ck.O} {q i : Nat} (LR : LifeR e f there news cs q n1 i) (he : 1 ≤ e ∧ e ≤ 2) (hc : (cat there).size ≤ 10000) :
    AP e q (1 + ((cat there).size : Int)) [] ⟨0, 16, e, (St.kp (joinR 0 cs).sts (opE cs)).map (·.off), [], ByteArray.empty, St.kpN 0 (joinR 0 cs).sts (opE cs), true, opE cs, opE cs⟩ := by
  have hl : ((St.kp (joinR 0 cs).sts (opE cs)).map (·.off)).length = q := by rw [List.length_map]; exact LR.lf.few.1
  generalize (St.kp (joinR 0 cs).sts (opE cs)).map (·.off) = offs at hl ⊢
  rw [LR.lf.num, LR.lf.fin]
  exact AP.new he LR.lf.few.2 (by omega) hl
theorem AP.fin_le {e : Int} {q : Nat} {o : Int} {ts : List ByteArray} {l : Lg} (h : AP e q o ts l) (ho : 0 ≤ o ∧ o ≤ 100000) (hl : ts.length ≤ 2) (hok : ∀ t ∈ ts, okF t = true) : l.fin ≤ 200000 := by
  obtain ⟨cs, hb⟩ := h.b
  have hc := cat_small ts hok
  rw [hb.fin, nums_length]; omega
theorem OwnS.formS {w : World} {base : Nat} {v : Value} {xs : List ByteArray} (h : OwnS w base v xs) (h1 : 1 ≤ xs.length) : ∃ g cap, v = .slice (some ⟨g, 0, none⟩) xs.length cap ∧ xs.length ≤ cap ∧ cap ≤ maxLen := by
  rcases h.2 with ⟨rfl, h2⟩ | ⟨g, c, cur, q, hb, hc, hle, hm, hsz, ht⟩
  · omega
  · exact ⟨g, c, q, hle, hm⟩
theorem appE_ok {l : Lg} {s : ByteArray} (h : okA l s = true) : appE l s = 0 := by
  have h8 := h
  unfold okA at h8
  simp at h8
  unfold appE; rw [h8.1, h8.2]; rfl
/-- At the loop's head. -/
def GL (w wr : World) (gd : Nat) (R : List (Nat × Array Value × TypeId)) (n1 : List ByteArray) (k : Nat) (v8 : Value) : Prop :=
  ∃ there d M, GI n1 d.seen there k ∧ S0 w wr gd d M R v8 there ∧ d.n = 16 ∧ d.pend = [] ∧ d.down = false ∧ there.length ≤ 2 * k ∧ (∀ t ∈ there, okF t = true) ∧ M ≤ 8000 * k
/-- Behind so many texts of a life. -/
def IL (w wr : World) (gl gd : Nat) (d : Dsk) (M : Nat) (R : List (Nat × Array Value × TypeId)) (v8 : Value) (there : List ByteArray) (B q : Nat) (e : Int) (news : List ByteArray) (m : Nat) (v : Value) : Prop :=
  ∃ l, AP e q (1 + ((cat there).size : Int)) (news.take m) l ∧ S2 w wr gl gd l d M R v8 there B v (there ++ news.take m)
theorem GL.start {w w1 w2 wx : World} {g1 gA gB gT n : Nat} {RW : Array Value} {S oth : ByteArray} (n1 : List ByteArray) (h0 : w.heap.size ≤ g1) (hg1 : g1 < w1.heap.size) (qb : Below w.heap.size w w1) (D2 : DAt w2 (w1.heap.size + 2) (Dsk.new 16) (Loc.new w1.heap.size) 0) (B2 : Below w1.heap.size w1 w2) (B9 : Below w2.heap.size w2 wx)
    (r1 : Row wx g1 RW 71) (rA : Row wx gA #[.string (strOfNums (zs n)), .string S] 9) (rB : Row wx gB #[.string oth] 9) (rT : Row wx gT #[.slice (some ⟨gA, 0, none⟩) 2 2, .slice (some ⟨gB, 0, none⟩) 1 1] 74) (a1 : w2.heap.size ≤ gA) (a2 : w2.heap.size ≤ gB) (a3 : w2.heap.size ≤ gT) :
    GL w wx (w1.heap.size + 2) (rowsG RW g1 gA gB gT n S oth) n1 0 (.slice none 0 0) := by
  have hq := qb.size
  have hq2 := B2.size
  have hb1 := qb.trans (B2.mono qb.size)
  refine ⟨[], Dsk.new 16, 0, ⟨funext (fun b => new_seen 16 b), rfl⟩, ⟨⟨_, D2.below B9, hb1.trans (B9.mono hb1.size), fun j q => ?_⟩, fun x hx => ?_, OwnS.nil _ _, fun x hx => ?_⟩, rfl, rfl, rfl, Nat.le_refl _, (fun t ht => by cases ht), Nat.le_refl _⟩
  · have h1 := foot_new q
    have h2 := D2.lt q
    refine ⟨by omega, fun q2 => ?_⟩
    rcases q2 with ⟨x, hx, rfl⟩ | q2
    · unfold rowsG at hx
      simp only [List.mem_cons, List.not_mem_nil, or_false] at hx
      rcases hx with rfl | rfl | rfl | rfl
      · have h1' : w1.heap.size ≤ g1 := h1
        omega
      · have h2' : gA < w2.heap.size := h2
        omega
      · have h2' : gB < w2.heap.size := h2
        omega
      · have h2' : gT < w2.heap.size := h2
        omega
    · cases q2
  · unfold rowsG at hx
    simp only [List.mem_cons, List.not_mem_nil, or_false] at hx
    rcases hx with rfl | rfl | rfl | rfl
    · exact r1
    · exact rA
    · exact rB
    · exact rT
  · unfold rowsG at hx
    simp only [List.mem_cons, List.not_mem_nil, or_false] at hx
    rcases hx with rfl | rfl | rfl | rfl
    · exact h0
    · show w.heap.size ≤ gA; omega
    · show w.heap.size ≤ gB; omega
    · show w.heap.size ≤ gT; omega
/-- The flags: a block's sectors have its bit. -/
def flagsB (B : Nat → Bool) : List Bool := (List.range 64).map (fun j => B (j / 4 % 8))
theorem flagsB_get (B : Nat → Bool) (g s : Nat) (hg : g < 16) (hs : s < 4) : (flagsB B).getD (4 * g + s) false = B (g % 8) := by
  unfold flagsB
  rw [List.getD_eq_getElem?_getD, List.getElem?_map, List.getElem?_range (by omega)]
  simp only [Option.map_some, Option.getD_some]
  rw [show (4 * g + s) / 4 = g by omega]
theorem flagsB_len (B : Nat → Bool) : (flagsB B).length = 64 := by unfold flagsB; simp
/-- The flags up to a place. -/
def flagsU (B : Nat → Bool) (k : Nat) : List Value := (List.range 64).map (fun j => .bool (decide (j < k) && B (j / 4 % 8)))
theorem flagsU_len (B : Nat → Bool) (k : Nat) : (flagsU B k).length = 64 := by unfold flagsU; simp
theorem flagsU_set (B : Nat → Bool) (k : Nat) (hk : k < 64) : (flagsU B k).set k (.bool (B (k / 4 % 8))) = flagsU B (k + 1) := by
  apply List.ext_getElem?
  intro i
  by_cases hi : i < 64
  · by_cases hik : i = k
    · subst hik
      rw [List.getElem?_set_self (by rw [flagsU_len]; exact hi)]
      unfold flagsU
      rw [List.getElem?_map, List.getElem?_range hi]
      simp
    · rw [List.getElem?_set_ne (fun q => hik q.symm)]
      unfold flagsU
      rw [List.getElem?_map, List.getElem?_map, List.getElem?_range hi]
      have : decide (i < k) = decide (i < k + 1) := by
        by_cases h : i < k
        · rw [decide_eq_true h, decide_eq_true (by omega)]
        · rw [decide_eq_false h, decide_eq_false (by omega)]
      simp only [Option.map_some, this]
  · rw [List.getElem?_eq_none (by rw [List.length_set, flagsU_len]; omega), List.getElem?_eq_none (by rw [flagsU_len]; omega)]
theorem flagsU_all (B : Nat → Bool) : flagsU B 64 = (flagsB B).map .bool := by
  unfold flagsU flagsB
  rw [List.map_map]
  apply List.map_congr_left
  intro j hj
  rw [List.mem_range] at hj
  simp [hj]
theorem flagsU_zero (B : Nat → Bool) : (madeCells #[.bool false] 64).toList = flagsU B 0 := by
  unfold flagsU
  apply List.ext_getElem
  · simp [madeCells]
  · intro i h1 h2
    simp [madeCells, Nat.mod_one]
theorem made64 : (madeCells #[.bool false] 64).size = 64 := by simp [madeCells]
end Go.Proofs.Ytgnedbagelhcbaa
namespace Go.Proofs.Ytgnedbagelhcbaa
open Go.ChangeShapes Go.WideShapes Go.ChangeAt Go.RowKit
open Go.Deep
set_option linter.unusedVariables false
set_option linter.unusedSimpArgs false
set_option maxRecDepth 20000

theorem cells71 : Try.prog.cellsOf 71 = 8 := by kernel_rfl
theorem cells69 : Try.prog.cellsOf 69 = 2 := by kernel_rfl
theorem cells9g : Try.prog.cellsOf 9 = 1 := by kernel_rfl
theorem cells5g : Try.prog.cellsOf 5 = 1 := by kernel_rfl
def ghostA (ld at_ by_ f0 f1 k0 k1 : Int) (S : ByteArray) : Array Value := #[.int .u8 ld, .string S, .int .u8 at_, .int .u8 by_, .int .u8 f0, .int .u8 f1, .int .u8 k0, .int .u8 k1]
section
variable {H : Type} {enc : TypeId × Value → H}
theorem open_two {w : World} {fuel : Nat} {c0 c1 : Value} {x : DataW H × List MemPlace} (h : DataW.trod enc Try.prog w 0 (fun _ => true) true fuel 69 [c0, c1] = some x) :
    ∃ a b : Int, c0 = .int .u8 a ∧ c1 = .int .u8 b ∧ (0 ≤ a ∧ a ≤ 255) ∧ (0 ≤ b ∧ b ≤ 255) := by
  obtain ⟨ys, he, hl, hb⟩ := open_list Try.underlying69 Try.underlying5 cells5g rfl h
  match ys, hl with
  | [a, b], _ =>
    simp at he
    exact ⟨a, b, he.1, he.2, hb a (by simp), hb b (by simp)⟩
theorem open_ghost {w : World} {fuel : Nat} {cs : List Value} {x : DataW H × List MemPlace} (h : DataW.trod enc Try.prog w 0 (fun _ => true) true fuel 71 cs = some x) :
    ∃ (ld at_ by_ f0 f1 k0 k1 : Int) (S : ByteArray), cs = (ghostA ld at_ by_ f0 f1 k0 k1 S).toList ∧ (0 ≤ ld ∧ ld ≤ 255) ∧ (0 ≤ at_ ∧ at_ ≤ 255) ∧ (0 ≤ by_ ∧ by_ ≤ 255) ∧ (0 ≤ f0 ∧ f0 ≤ 255) ∧ (0 ≤ f1 ∧ f1 ≤ 255) ∧ (0 ≤ k0 ∧ k0 ≤ 255) ∧ (0 ≤ k1 ∧ k1 ≤ 255) ∧ S.size ≤ maxLen := by
  cases fuel with
  | zero => simp [DataW.trod] at h
  | succ n =>
    unfold DataW.trod at h
    rw [Try.underlying71] at h
    simp only [cells71] at h
    by_cases hl : cs.length = 8
    · match cs, hl with
      | [c0, c1, c2, c3, c4, c5, c6, c7], _ =>
        simp [List.mapM_cons, cells5g, cells9g, cells69] at h
        cases t0 : DataW.trod enc Try.prog w 0 (fun _ => true) true n 5 [c0] with
        | none => simp [t0] at h
        | some x0 =>
        cases t1 : DataW.trod enc Try.prog w 0 (fun _ => true) true n 9 [c1] with
        | none => simp [t0, t1] at h
        | some x1 =>
        cases t2 : DataW.trod enc Try.prog w 0 (fun _ => true) true n 5 [c2] with
        | none => simp [t0, t1, t2] at h
        | some x2 =>
        cases t3 : DataW.trod enc Try.prog w 0 (fun _ => true) true n 5 [c3] with
        | none => simp [t0, t1, t2, t3] at h
        | some x3 =>
        cases t4 : DataW.trod enc Try.prog w 0 (fun _ => true) true n 69 [c4, c5] with
        | none => simp [t0, t1, t2, t3, t4] at h
        | some x4 =>
        cases t5 : DataW.trod enc Try.prog w 0 (fun _ => true) true n 69 [c6, c7] with
        | none => simp [t0, t1, t2, t3, t4, t5] at h
        | some x5 =>
        obtain ⟨k0, e0, _, u0⟩ := DataW.trod_int Try.underlying5 t0
        obtain ⟨S, e1, _, u1⟩ := DataW.trod_string Try.underlying9 t1
        obtain ⟨k2, e2, _, u2⟩ := DataW.trod_int Try.underlying5 t2
        obtain ⟨k3, e3, _, u3⟩ := DataW.trod_int Try.underlying5 t3
        obtain ⟨k4, k5, e4, e5, u4, u5⟩ := open_two t4
        obtain ⟨k6, k7, e6, e7, u6, u7⟩ := open_two t5
        simp at e0 e1 e2 e3
        exact ⟨k0, k2, k3, k4, k5, k6, k7, S, by rw [e0, e1, e2, e3, e4, e5, e6, e7]; rfl, bounds_u8 u0, bounds_u8 u2, bounds_u8 u3, u4, u5, u6, u7, u1⟩
    · simp [hl] at h
theorem open_ghostv {w : World} {base : Nat} {v : Value} {d : DataW H} {p : List MemPlace} (hv : Value.okWide Try.prog w .any base 71 v) (h : DataW.Trod enc Try.prog w 0 (fun _ => true) true 71 v d p) :
    ∃ (ld at_ by_ f0 f1 k0 k1 : Int) (S : ByteArray), v = .agg (ghostA ld at_ by_ f0 f1 k0 k1 S) ∧ (0 ≤ ld ∧ ld ≤ 255) ∧ (0 ≤ at_ ∧ at_ ≤ 255) ∧ (0 ≤ by_ ∧ by_ ≤ 255) ∧ (0 ≤ f0 ∧ f0 ≤ 255) ∧ (0 ≤ f1 ∧ f1 ≤ 255) ∧ (0 ≤ k0 ∧ k0 ≤ 255) ∧ (0 ≤ k1 ∧ k1 ≤ 255) ∧ S.size ≤ maxLen := by
  obtain ⟨cs, rfl, hsz⟩ := okWide_struct Try.underlying71 hv
  obtain ⟨fuel, hf⟩ := h
  obtain ⟨a1, a2, a3, a4, a5, a6, a7, S, hc, hu⟩ := open_ghost hf
  refine ⟨a1, a2, a3, a4, a5, a6, a7, S, ?_, hu⟩
  have hc' : cs.toList = (ghostA a1 a2 a3 a4 a5 a6 a7 S).toList := hc
  rw [← Array.toArray_toList (xs := cs), hc']
end
end Go.Proofs.Ytgnedbagelhcbaa
