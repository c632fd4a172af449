/-
  Plain facts: what is read of blocks of two lives. Plain facts: what is read behind a life of which some blocks are kept. Plain facts: what is read behind a second life; that starts of chunks one behind the other follow. Plain facts: a flush in which the power may go, and a crash that keeps whole blocks. Plain facts: a life's log and the chunks that it makes; what is there behind a flush and a crash; what is opened then.
-/
import Derived.Test.YtgnedbagelhcbaaJg
namespace Go.Proofs.Ytgnedbagelhcbaa
open Go.ChangeShapes Go.WideShapes Go.ChangeAt Go.RowKit
set_option linter.unusedVariables false
set_option linter.unusedSimpArgs false
set_option maxRecDepth 20000

theorem scanL_len (a z fst : Int) (f : Int → List Int) : ∀ (r : Nat) (i : Int), (scanL a z fst f r i).length ≤ r
  | 0, _ => by simp [scanL]
  | r + 1, i => by
    unfold scanL
    split
    · have := scanL_len a z fst f r (i + 1); simp; omega
    · simp
/-- A scan goes on behind chunks that are there. -/
theorem scanL_go {a z fst e : Int} {f : Int → List Int} : ∀ (cs : List Ck.O) (r : Nat) (i n o : Int), Seq e n o cs → n = fst + i → 0 ≤ n → n + cs.length ≤ 4294967295 → (∀ c ∈ cs, f (placeV a z c.num) = blkC c) → scanL a z fst f (cs.length + r) i = cs ++ scanL a z fst f r (i + cs.length)
  | [], r, i, n, o, _, _, _, _, _ => by simp
  | c :: cs, r, i, n, o, h, hn, h0, hl, hf => by
    obtain ⟨a1, a2, a3, a4, a5⟩ := h
    have hl' : n + 1 + (cs.length : Int) ≤ 4294967295 := by simp at hl; omega
    obtain ⟨k1, k2, k3, k4⟩ := chk_blk c a4
    have hfc := hf c List.mem_cons_self
    have e1 : (c :: cs).length + r = (cs.length + r) + 1 := by simp; omega
    rw [e1]
    have ih := scanL_go (a := a) (z := z) (fst := fst) (f := f) cs r (i + 1) (n + 1) _ a5 (by omega) (by omega) hl' (fun c' hc => hf c' (List.mem_cons_of_mem _ hc))
    have hst : scanL a z fst f ((cs.length + r) + 1) i = c :: scanL a z fst f (cs.length + r) (i + 1) := by
      show (if isB (f (placeV a z (IntKind.u32.wrap (fst + i)))) && decide (uN (f (placeV a z (IntKind.u32.wrap (fst + i)))) = IntKind.u32.wrap (fst + i)) then chkO (f (placeV a z (IntKind.u32.wrap (fst + i)))) :: scanL a z fst f (cs.length + r) (i + 1) else []) = _
      rw [← hn, wrap_id n ⟨h0, by omega⟩]
      rw [a2] at hfc k2
      rw [hfc, k1, k2, k4, if_pos (by simp)]
    rw [hst, ih]
    have e2 : i + 1 + (cs.length : Int) = i + ((c :: cs).length : Int) := by simp; omega
    rw [e2]; rfl
/-- Chunks of a greater epoch behind others: the stream is cut where they begin. -/
theorem runJ_over {first base e : Int} (c : Ck.O) (cs : List Ck.O) (k : Nat) (j : J) (n o : Int) (h : Seq e n o (c :: cs)) (hn : n = first + k) (h0 : 0 ≤ n) (hl : n + (c :: cs).length ≤ 4294967296) (hb : base ≤ o) (ho : o - base ≤ j.str.length) (he : j.ep ≤ e) :
    runJ first base k j (c :: cs) = ⟨e, j.str.take (o - base).toNat ++ catC (c :: cs), j.sts ++ (c :: cs).map (fun c => ⟨c.num, c.off⟩)⟩ := by
  obtain ⟨a1, a2, a3, a4, a5⟩ := h
  have hl' : n + 1 + (cs.length : Int) ≤ 4294967296 := by simp at hl; omega
  have hok : okJ first base k j c = true := by
    unfold okJ
    refine decide_eq_true ⟨by rw [a2, hn]; omega, by rw [a1]; exact he, by rw [a3]; exact hb, by rw [a3]; exact ho⟩
  have hnx : nextJ base j c = ⟨e, j.str.take (o - base).toNat ++ nums c.txt, j.sts ++ [⟨c.num, c.off⟩]⟩ := by unfold nextJ; rw [a1, a3]
  show (if okJ first base k j c = true then runJ first base (k + 1) (nextJ base j c) cs else j) = _
  have hlen : (j.str.take (o - base).toNat).length = (o - base).toNat := by rw [List.length_take]; omega
  rw [if_pos hok, hnx, runJ_seq cs (k + 1) _ (n + 1) _ a5 (by omega) (by omega) hl' (by show o + _ = base + (((j.str.take (o - base).toNat ++ nums c.txt).length : Nat) : Int); rw [List.length_append, nums_length, hlen]; omega) (Int.le_refl _)]
  have e3 : (if cs = [] then e else e) = e := by split <;> rfl
  show J.mk (if cs = [] then e else e) ((j.str.take (o - base).toNat ++ nums c.txt) ++ catC cs) ((j.sts ++ [⟨c.num, c.off⟩]) ++ cs.map (fun c => ⟨c.num, c.off⟩)) = J.mk e (j.str.take (o - base).toNat ++ (nums c.txt ++ catC cs)) (j.sts ++ (⟨c.num, c.off⟩ :: cs.map (fun c => ⟨c.num, c.off⟩)))
  rw [e3, List.append_assoc, List.append_assoc]; rfl
/-- Joining in two parts. -/
theorem runJ_append {first base : Int} : ∀ (xs ys : List Ck.O) (k : Nat) (j : J), (∀ pre, pre.length < xs.length → pre = xs.take pre.length → okJ first base (k + pre.length) (runJ first base k j pre) (xs.getD pre.length Ck.O.zero) = true) → runJ first base k j (xs ++ ys) = runJ first base (k + xs.length) (runJ first base k j xs) ys
  | [], ys, k, j, _ => rfl
  | x :: xs, ys, k, j, h => by
    have hx : okJ first base k j x = true := h [] (by simp) rfl
    have ih := runJ_append (first := first) (base := base) xs ys (k + 1) (nextJ base j x) (fun pre hp he => by
      have := h (x :: pre) (by simpa using hp) (by simp [← he])
      have e1 : k + (x :: pre).length = k + 1 + pre.length := by simp; omega
      have e2 : runJ first base k j (x :: pre) = runJ first base (k + 1) (nextJ base j x) pre := by
        show (if okJ first base k j x = true then _ else _) = _
        rw [if_pos hx]
      have e3 : (x :: xs).getD (x :: pre).length Ck.O.zero = xs.getD pre.length Ck.O.zero := by simp
      rw [e1, e2, e3] at this; exact this)
    show (if okJ first base k j x = true then runJ first base (k + 1) (nextJ base j x) (xs ++ ys) else j) = runJ first base (k + (x :: xs).length) (if okJ first base k j x = true then runJ first base (k + 1) (nextJ base j x) xs else j) ys
    rw [if_pos hx, if_pos hx, ih, show k + (x :: xs).length = k + 1 + xs.length by simp; omega]
/-- Joining stops at a lesser epoch. -/
theorem runJ_stop {first base : Int} (k : Nat) (j : J) (c : Ck.O) (cs : List Ck.O) (h : c.ep < j.ep) : runJ first base k j (c :: cs) = j := by
  show (if okJ first base k j c = true then _ else j) = j
  rw [if_neg]
  unfold okJ
  simp; omega
/-- Chunks of one epoch, joined one part behind the other. -/
theorem runJ_seq_append {first base e : Int} : ∀ (xs ys : List Ck.O) (k : Nat) (j : J) (n o : Int), Seq e n o xs → n = first + k → 0 ≤ n → n + xs.length ≤ 4294967296 → o = base + j.str.length → j.ep ≤ e → runJ first base k j (xs ++ ys) = runJ first base (k + xs.length) (runJ first base k j xs) ys
  | [], ys, k, j, n, o, _, _, _, _, _, _ => rfl
  | c :: xs, ys, k, j, n, o, h, hn, h0, hl, ho, he => by
    obtain ⟨a1, a2, a3, a4, a5⟩ := h
    have hl' : n + 1 + (xs.length : Int) ≤ 4294967296 := by simp at hl; omega
    have hok : okJ first base k j c = true := by
      unfold okJ
      refine decide_eq_true ⟨by rw [a2, hn]; omega, by rw [a1]; exact he, by rw [a3, ho]; omega, by rw [a3, ho]; omega⟩
    have hnx : nextJ base j c = ⟨e, j.str ++ nums c.txt, j.sts ++ [⟨c.num, c.off⟩]⟩ := by
      unfold nextJ
      rw [a1, a3, ho, show base + (j.str.length : Int) - base = (j.str.length : Int) by omega, Int.toNat_natCast, List.take_length]
    have ih := runJ_seq_append (first := first) (base := base) xs ys (k + 1) (nextJ base j c) (n + 1) _ a5 (by omega) (by omega) hl' (by rw [hnx]; show o + _ = base + (((j.str ++ nums c.txt).length : Nat) : Int); rw [List.length_append, nums_length]; omega) (by rw [hnx]; exact Int.le_refl _)
    show (if okJ first base k j c = true then runJ first base (k + 1) (nextJ base j c) (xs ++ ys) else j) = runJ first base (k + (c :: xs).length) (if okJ first base k j c = true then runJ first base (k + 1) (nextJ base j c) xs else j) ys
    rw [if_pos hok, if_pos hok, ih, show k + (c :: xs).length = k + 1 + xs.length by simp; omega]
theorem Seq.take {e : Int} : ∀ {cs : List Ck.O} {n o : Int} (k : Nat), Seq e n o cs → Seq e n o (cs.take k)
  | [], _, _, k, _ => by simp; trivial
  | c :: cs, n, o, 0, _ => trivial
  | c :: cs, n, o, k + 1, h => ⟨h.1, h.2.1, h.2.2.1, h.2.2.2.1, Seq.take k h.2.2.2.2⟩
/-- What comes behind chunks, where it is of a lesser epoch than they end with, adds nothing. -/
theorem run_ext {first base : Int} : ∀ (xs C : List Ck.O) (k : Nat) (j : J) (e : Int), (runJ first base k j xs).ep = e → (∀ c, C[0]? = some c → c.ep < e) → runJ first base k j (xs ++ C) = runJ first base k j xs
  | [], C, k, j, e, he, hC => by
    cases C with
    | nil => rfl
    | cons c r =>
      have he' : j.ep = e := he
      exact runJ_stop k j c r (by rw [he']; exact hC c rfl)
  | x :: xs, C, k, j, e, he, hC => by
    by_cases hx : okJ first base k j x = true
    · have e1 : runJ first base k j (x :: xs) = runJ first base (k + 1) (nextJ base j x) xs := by
        show (if okJ first base k j x = true then _ else _) = _
        rw [if_pos hx]
      have e2 : runJ first base k j ((x :: xs) ++ C) = runJ first base (k + 1) (nextJ base j x) (xs ++ C) := by
        show (if okJ first base k j x = true then _ else _) = _
        rw [if_pos hx]; rfl
      rw [e1] at he ⊢
      rw [e2]
      exact run_ext xs C (k + 1) _ e he hC
    · show (if okJ first base k j x = true then _ else j) = (if okJ first base k j x = true then _ else j)
      rw [if_neg hx, if_neg hx]
/-- What is joined of a life's chunks, those of a greater epoch behind them, and whatever of a lesser one comes then. -/
theorem join_two {e : Int} (A B C : List Ck.O) (o : Int) (hA : Seq 1 0 1 A) (hB : Seq e A.length o B) (hA0 : A ≠ []) (hB0 : B ≠ []) (he : 1 < e) (ho : 1 ≤ o ∧ o - 1 ≤ (catC A).length) (hl : A.length + B.length ≤ 1000) (hC : ∀ c, C[0]? = some c → c.ep < e) :
    joinR 0 (A ++ B ++ C) = ⟨e, (catC A).take (o - 1).toNat ++ catC B, (A ++ B).map (fun c => ⟨c.num, c.off⟩)⟩ ∧ joinB 0 (A ++ B ++ C) = 1 := by
  obtain ⟨a, ar, rfl⟩ : ∃ c r, A = c :: r := by cases A with | nil => exact absurd rfl hA0 | cons c r => exact ⟨c, r, rfl⟩
  obtain ⟨b, br, rfl⟩ : ∃ c r, B = c :: r := by cases B with | nil => exact absurd rfl hB0 | cons c r => exact ⟨c, r, rfl⟩
  have hbase : baseJ ((a :: ar) ++ (b :: br) ++ C) = 1 := hA.2.2.1
  have h1 : runJ 0 1 0 J0 (a :: ar) = ⟨1, catC (a :: ar), (a :: ar).map (fun c => ⟨c.num, c.off⟩)⟩ := by
    rw [runJ_seq (a :: ar) 0 J0 0 1 hA (by simp) (by omega) (by omega) (by show (1 : Int) = 1 + (([] : List Int).length : Int); simp) (by decide)]
    rw [if_neg (by simp)]; rfl
  have h2 : runJ 0 1 0 J0 ((a :: ar) ++ ((b :: br) ++ C)) = runJ 0 1 (0 + (a :: ar).length) (runJ 0 1 0 J0 (a :: ar)) ((b :: br) ++ C) :=
    runJ_seq_append (a :: ar) ((b :: br) ++ C) 0 J0 0 1 hA (by simp) (by omega) (by omega) (by show (1 : Int) = 1 + (([] : List Int).length : Int); simp) (by decide)
  have h3 : runJ 0 1 (0 + (a :: ar).length) ⟨1, catC (a :: ar), (a :: ar).map (fun c => ⟨c.num, c.off⟩)⟩ (b :: br) = ⟨e, (catC (a :: ar)).take (o - 1).toNat ++ catC (b :: br), (a :: ar).map (fun c => ⟨c.num, c.off⟩) ++ (b :: br).map (fun c => ⟨c.num, c.off⟩)⟩ :=
    runJ_over b br _ _ _ o hB (by simp) (by omega) (by omega) ho.1 ho.2 (by show (1 : Int) ≤ e; omega)
  have h4 : runJ 0 1 (0 + (a :: ar).length) ⟨1, catC (a :: ar), (a :: ar).map (fun c => ⟨c.num, c.off⟩)⟩ ((b :: br) ++ C) = ⟨e, (catC (a :: ar)).take (o - 1).toNat ++ catC (b :: br), (a :: ar).map (fun c => ⟨c.num, c.off⟩) ++ (b :: br).map (fun c => ⟨c.num, c.off⟩)⟩ := by
    rw [← h3]
    refine (run_ext (b :: br) C _ _ e ?_ ?_)
    · rw [h3]
    · exact hC
  have hj : joinR 0 ((a :: ar) ++ (b :: br) ++ C) = ⟨e, (catC (a :: ar)).take (o - 1).toNat ++ catC (b :: br), ((a :: ar) ++ (b :: br)).map (fun c => ⟨c.num, c.off⟩)⟩ := by
    unfold joinR
    rw [hbase, List.append_assoc, h2, h1, h4, List.map_append]
  refine ⟨hj, ?_⟩
  unfold joinB
  rw [hj, hbase, if_neg (by simp)]
end Go.Proofs.Ytgnedbagelhcbaa
namespace Go.Proofs.Ytgnedbagelhcbaa
open Go.ChangeShapes Go.WideShapes Go.ChangeAt Go.RowKit
set_option linter.unusedVariables false
set_option linter.unusedSimpArgs false
set_option maxRecDepth 20000

/-- How many chunks, from the first one on, are there. -/
theorem lead_ex (a z : Int) (f : Int → List Int) : ∀ cs : List Ck.O, ∃ p, p ≤ cs.length ∧ (∀ c ∈ cs.take p, f (placeV a z c.num) = blkC c) ∧ (∀ c, cs[p]? = some c → f (placeV a z c.num) ≠ blkC c)
  | [] => ⟨0, Nat.le_refl _, (fun c hc => by cases hc), (fun c hc => by simp at hc)⟩
  | c :: cs => by
    by_cases h : f (placeV a z c.num) = blkC c
    · obtain ⟨p, h1, h2, h3⟩ := lead_ex a z f cs
      refine ⟨p + 1, by simp; exact h1, fun x hx => ?_, fun x hx => h3 x (by simpa using hx)⟩
      rcases List.mem_cons.1 (show x ∈ c :: cs.take p from hx) with q | q
      · subst q; exact h
      · exact h2 x q
    · exact ⟨0, Nat.zero_le _, (fun x hx => by cases hx), fun x hx => by simp at hx; subst hx; exact h⟩
theorem place16 (x : Int) (h : 0 ≤ x ∧ x < 16) : placeV 0 16 x = x := by unfold placeV; omega
/-- Behind the first life: the chunks up to the first one that is lost. -/
theorem life_one {cs : List Ck.O} {f : Int → List Int} (hq : Seq 1 0 1 cs) (hl : cs.length ≤ 15) (hs : SomeB 0 16 cs (fun _ => zs 256) f) :
    ∃ p, p ≤ cs.length ∧ scanL 0 16 0 f 16 0 = cs.take p ∧ (∀ c ∈ cs.take p, f (placeV 0 16 c.num) = blkC c) ∧ ((∀ c ∈ cs, f (placeV 0 16 c.num) = blkC c) → p = cs.length) := by
  obtain ⟨p, h1, h2, h3⟩ := lead_ex 0 16 f cs
  have hlt : (cs.take p).length = p := by rw [List.length_take]; omega
  refine ⟨p, h1, ?_, h2, fun hall => ?_⟩
  · refine scanL_seq (cs.take p) 16 0 0 1 (hq.take p) (by omega) (by omega) (by omega) h2 (by omega) (fun _ => ?_)
    rw [hlt]
    rcases hs (placeV 0 16 (0 + p)) with q | ⟨c, q1, q2, q3⟩
    · exact Or.inl (by rw [q]; exact isB_zs)
    · obtain ⟨i, hi, e⟩ := List.getElem_of_mem q1
      have h4 : cs[i]? = some c := by rw [← e]; exact List.getElem?_eq_getElem hi
      have n1 := hq.at_num h4
      rw [place16 c.num (by omega), place16 (0 + p) (by omega)] at q2
      have : i = p := by omega
      subst this
      refine absurd ?_ (h3 c h4)
      rw [place16 c.num (by omega), ← q2]
      rw [place16 (0 + (i : Int)) (by omega)] at q3; exact q3
  · by_cases hp : p < cs.length
    · have h4 : cs[p]? = some cs[p] := List.getElem?_eq_getElem hp
      exact absurd (hall _ (List.getElem_mem hp)) (h3 _ h4)
    · omega
theorem catC_take : ∀ (cs : List Ck.O) (p : Nat), ∃ n, n ≤ (catC cs).length ∧ catC (cs.take p) = (catC cs).take n ∧ (p = cs.length → n = (catC cs).length)
  | cs, p => by
    refine ⟨(catC (cs.take p)).length, ?_, ?_, fun h => by rw [h, List.take_length]⟩
    · have := congrArg List.length (catC_append (cs.drop p) (cs.take p))
      rw [List.take_append_drop, List.length_append] at this; omega
    · have := catC_append (cs.drop p) (cs.take p)
      rw [List.take_append_drop] at this
      rw [this, List.take_left]
theorem str_take (S : ByteArray) (n : Nat) (h : n ≤ S.size) : strOfNums ((nums S).take n) = S.extract 0 n := by
  have e := nums_split S n h
  have hl : (nums (S.extract 0 n)).length = n := by rw [nums_length, ByteArray.size_extract]; omega
  rw [← e, List.take_append_of_le_length (by omega), List.take_of_length_le (by omega), tx_nums]
theorem cat_app (a b : List ByteArray) : cat (a ++ b) = cat a ++ cat b := by
  induction a with
  | nil => show cat b = { data := #[] } ++ cat b; apply ByteArray.ext; simp
  | cons t r ih => show frS t ++ cat (r ++ b) = (frS t ++ cat r) ++ cat b; rw [ih, ByteArray.append_assoc]
/-- What a beginning of a stream of texts holds. -/
theorem read_prefix (ts : List ByteArray) (hok : ∀ t ∈ ts, okF t = true) (n : Nat) (hn : n ≤ (cat ts).size) :
    ∃ j, j ≤ ts.length ∧ itL 1 (strOfNums ((nums (cat ts)).take n)) 1 = lsns 1 (ts.take j) ∧ itE 1 (strOfNums ((nums (cat ts)).take n)) 1 = 1 + ((cat (ts.take j)).size : Int) ∧ (cat (ts.take j)).size ≤ n ∧ (∀ m, m ≤ ts.length → (cat (ts.take m)).size ≤ n → m ≤ j) := by
  obtain ⟨j, h1, h2, h3, h4⟩ := cat_cut ts n hok hn
  have hj : ∀ t ∈ ts.take j, okF t = true := fun t ht => hok t (List.mem_of_mem_take ht)
  have he := fun p => cat_end (ts.take j) p hj
  have hs : strOfNums ((nums (cat ts)).take n) = (cat ts).extract 0 n := str_take _ _ hn
  have hsz : ((cat ts).extract 0 n).size = n := by rw [ByteArray.size_extract]; omega
  have hh : hasP 1 ((cat ts).extract 0 n) 1 = true := by unfold hasP; exact decide_eq_true (by omega)
  have hi : itS 1 ((cat ts).extract 0 n) 1 = (cat ts).extract 0 n := by unfold itS; rw [show ((1 : Int) - 1).toNat = 0 by omega]; exact ex_all _
  rw [hs]
  refine ⟨j, h1, ?_, ?_, ?_, fun m hm hc => ?_⟩
  · unfold itL; rw [hh, hi, h2]; rfl
  · unfold itE; rw [hh, hi, h2]; exact he 1
  · have := h3 0; rw [he 0] at this; omega
  · rcases h4 with q | ⟨t, q1, q2⟩
    · omega
    · by_cases hmj : m ≤ j
      · exact hmj
      · have hjl : j < ts.length := (List.getElem?_eq_some_iff.1 q1).1
        have h5 := q2 0
        rw [he 0] at h5
        have e1 : ts.take (j + 1) = ts.take j ++ [t] := by rw [List.take_add_one, q1]; rfl
        have hot : okF t = true := hok t (List.mem_of_getElem? q1)
        have e2 : (cat (ts.take (j + 1))).size = (cat (ts.take j)).size + (t.size + 6) := by
          rw [e1, cat_snoc, ByteArray.size_append, frS_len hot]
        have e3 : (cat (ts.take (j + 1))).size ≤ (cat (ts.take m)).size := by
          have : ts.take m = ts.take (j + 1) ++ (ts.take m).drop (j + 1) := by
            have := List.take_append_drop (j + 1) (ts.take m)
            rw [List.take_take, Nat.min_eq_left (by omega)] at this; exact this.symm
          rw [this, cat_app, ByteArray.size_append]; omega
        omega
/-- The blocks that hold something of a stream up to an end. -/
theorem kp_seq {e : Int} (E : Int) : ∀ (cs : List Ck.O) (n o : Int), Seq e n o cs → E - o ≤ (catC cs).length → ∃ q, q ≤ cs.length ∧ St.kp (cs.map (fun c => (⟨c.num, c.off⟩ : St.O))) E = (cs.take q).map (fun c => ⟨c.num, c.off⟩) ∧ E - o ≤ (catC (cs.take q)).length ∧ (E ≤ o → q = 0) ∧ (o < E → 1 ≤ q)
  | [], n, o, _, h => ⟨0, Nat.le_refl _, rfl, h, fun _ => rfl, fun q => by simp [catC] at h; omega⟩
  | c :: cs, n, o, h, hE => by
    obtain ⟨a1, a2, a3, a4, a5⟩ := h
    by_cases ho : c.off < E
    · have hl : (catC (c :: cs)).length = c.txt.size + (catC cs).length := by show (nums c.txt ++ catC cs).length = _; rw [List.length_append, nums_length]
      obtain ⟨q, h1, h2, h3, h4, h5⟩ := kp_seq E cs (n + 1) _ a5 (by rw [hl] at hE; omega)
      refine ⟨q + 1, by simp; exact h1, ?_, ?_, fun r => by rw [a3] at ho; omega, fun _ => by omega⟩
      · unfold St.kp at h2
        simp only [List.map_cons, List.take_succ_cons]
        unfold St.kp
        rw [List.takeWhile_cons, if_pos (by simpa using ho), h2]
      · show E - o ≤ ((nums c.txt ++ catC (cs.take q)).length : Int)
        rw [List.length_append, nums_length]; omega
    · refine ⟨0, Nat.zero_le _, ?_, ?_, fun _ => rfl, fun r => by rw [a3] at ho; omega⟩
      · unfold St.kp
        simp only [List.map_cons]
        rw [List.takeWhile_cons, if_neg (by simpa using ho)]; rfl
      · show E - o ≤ ((0 : Nat) : Int)
        rw [a3] at ho; omega
end Go.Proofs.Ytgnedbagelhcbaa
namespace Go.Proofs.Ytgnedbagelhcbaa
open Go.ChangeShapes Go.WideShapes Go.ChangeAt Go.RowKit
set_option linter.unusedVariables false
set_option linter.unusedSimpArgs false
set_option maxRecDepth 20000

theorem scanL_mem {a z fst : Int} {f : Int → List Int} {X : List Ck.O} (h : ∀ b, f b = zs 256 ∨ ∃ c ∈ X, c.Ok ∧ f b = blkC c) : ∀ (r : Nat) (i : Int), ∀ c ∈ scanL a z fst f r i, c ∈ X ∧ c.Ok
  | 0, _, c, hc => by cases hc
  | r + 1, i, c, hc => by
    unfold scanL at hc
    split at hc
    · rename_i hb
      rcases List.mem_cons.1 hc with q | q
      · rcases h (placeV a z (IntKind.u32.wrap (fst + i))) with r2 | ⟨c', r1, r2, r3⟩
        · rw [r2, isB_zs] at hb; simp at hb
        · rw [r3, (chk_blk c' r2).2.2.2] at q
          subst q; exact ⟨r1, r2⟩
      · exact scanL_mem h r (i + 1) c q
    · cases hc
theorem tot_ok : ∀ (cs : List Ck.O), (∀ c ∈ cs, c.Ok) → tot cs ≤ 214 * cs.length
  | [], _ => by simp [tot]
  | c :: r, h => by
    have h1 := tot_ok r (fun x hx => h x (List.mem_cons_of_mem _ hx))
    have h2 : 1 ≤ c.txt.size ∧ c.txt.size ≤ 214 := by have h3 := (h c List.mem_cons_self).txt; unfold okC at h3; exact of_decide_eq_true h3
    simp only [tot, List.length_cons]; omega
/-- What a scan tells where chunks of two lives lie. -/
theorem life_two {cs1 cs2 : List Ck.O} {f1 f2 : Int → List Int} {q : Nat} {o : Int} (hq1 : Seq 1 0 1 cs1) (hl1 : cs1.length ≤ 8) (hs1 : SomeB 0 16 cs1 (fun _ => zs 256) f1) (hql : q ≤ cs1.length) (hp : ∀ c ∈ cs1.take q, f1 (placeV 0 16 c.num) = blkC c)
    (hq2 : Seq 2 q o cs2) (hl2 : cs2.length ≤ 4) (hs2 : SomeB 0 16 cs2 f1 f2) (h0 : ∀ c, cs2[0]? = some c → f2 (placeV 0 16 c.num) = blkC c) (hne : cs2 ≠ []) :
    ∃ r C, 1 ≤ r ∧ r ≤ cs2.length ∧ scanL 0 16 0 f2 16 0 = cs1.take q ++ cs2.take r ++ C ∧ (∀ c, C[0]? = some c → c.ep < 2) ∧ ((∀ c ∈ cs2, f2 (placeV 0 16 c.num) = blkC c) → r = cs2.length) ∧ (∀ c ∈ C, c.Ok) ∧ C.length ≤ 16 := by
  obtain ⟨r, h1, h2, h3⟩ := lead_ex 0 16 f2 cs2
  have hr1 : 1 ≤ r := by
    by_cases hr : r = 0
    · subst hr
      obtain ⟨c, rr, rfl⟩ : ∃ c rr, cs2 = c :: rr := by cases cs2 with | nil => exact absurd rfl hne | cons c rr => exact ⟨c, rr, rfl⟩
      exact absurd (h0 c rfl) (h3 c rfl)
    · omega
  have hlq : (cs1.take q).length = q := by rw [List.length_take]; omega
  have hlr : (cs2.take r).length = r := by rw [List.length_take]; omega
  have hin : ∀ c ∈ cs2, (q : Int) ≤ c.num ∧ c.num < q + cs2.length := fun c hc => hq2.num c hc
  have hold : ∀ b, (∀ c ∈ cs2, b ≠ placeV 0 16 c.num) → f2 b = f1 b := fun b hb => by
    rcases hs2 b with r2 | ⟨c, r1, r2, _⟩
    · exact r2
    · exact absurd r2 (hb c r1)
  have hA : ∀ c ∈ cs1.take q, f2 (placeV 0 16 c.num) = blkC c := fun c hc => by
    rw [hold _ (fun c' hc' => ?_)]
    · exact hp c hc
    · have n1 := (hq1.take q).num c hc
      rw [hlq] at n1
      have n2 := hin c' hc'
      rw [place16 c.num (by omega), place16 c'.num (by omega)]; omega
  have e1 := scanL_go (a := 0) (z := 16) (fst := 0) (f := f2) (cs1.take q) (16 - q) 0 0 1 (hq1.take q) (by omega) (by omega) (by omega) hA
  have e2 := scanL_go (a := 0) (z := 16) (fst := 0) (f := f2) (cs2.take r) (16 - q - r) (q : Int) q o (hq2.take r) (by omega) (by omega) (by omega) h2
  rw [hlq, show q + (16 - q) = 16 by omega, show (0 : Int) + q = (q : Int) by omega] at e1
  rw [hlr, show r + (16 - q - r) = 16 - q by omega] at e2
  have hall : ∀ b, f2 b = zs 256 ∨ ∃ c ∈ cs1 ++ cs2, c.Ok ∧ f2 b = blkC c := fun b => by
    rcases hs2 b with r2 | ⟨c, r1, r2, r3⟩
    · rw [r2]
      rcases hs1 b with t | ⟨c, t1, t2, t3⟩
      · exact Or.inl t
      · exact Or.inr ⟨c, List.mem_append_left _ t1, hq1.ok c t1, t3⟩
    · exact Or.inr ⟨c, List.mem_append_right _ r1, hq2.ok c r1, r3⟩
  refine ⟨r, scanL 0 16 0 f2 (16 - q - r) ((q : Int) + r), hr1, h1, by rw [e1, e2, List.append_assoc], fun c hc => ?_, fun hal => ?_, fun c hc => (scanL_mem hall _ _ c hc).2, ?_⟩
  · obtain ⟨t, ht⟩ : ∃ t, 16 - q - r = t + 1 := ⟨16 - q - r - 1, by omega⟩
    rw [ht] at hc
    unfold scanL at hc
    split at hc
    · rename_i hb
      simp at hc
      have ez : (0 : Int) + ((q : Int) + r) = (q : Int) + r := by omega
      simp only [ez] at hb hc
      rw [wrap_id ((q : Int) + r) (by omega)] at hb hc
      have hf : f2 (placeV 0 16 ((q : Int) + r)) = f1 (placeV 0 16 ((q : Int) + r)) := by
        rcases hs2 (placeV 0 16 ((q : Int) + r)) with r2 | ⟨c', r1, r2, r3⟩
        · exact r2
        · have n2 := hin c' r1
          obtain ⟨i, hi, e⟩ := List.getElem_of_mem r1
          have h4 : cs2[i]? = some c' := by rw [← e]; exact List.getElem?_eq_getElem hi
          have n3 := hq2.at_num h4
          rw [place16 c'.num (by omega), place16 ((q : Int) + r) (by omega)] at r2
          have : i = r := by omega
          subst this
          refine absurd ?_ (h3 c' h4)
          rw [place16 c'.num (by omega), ← r2]
          rw [place16 ((q : Int) + (i : Int)) (by omega)] at r3; exact r3
      rw [hf] at hb hc
      rcases hs1 (placeV 0 16 ((q : Int) + r)) with t2 | ⟨c1, t1, t2, t3⟩
      · rw [t2, isB_zs] at hb; simp at hb
      · rw [t3, (chk_blk c1 (hq1.ok c1 t1)).2.2.2] at hc
        subst hc
        have : ∀ {cs : List Ck.O} {n o : Int}, Seq 1 n o cs → ∀ c ∈ cs, c.ep = 1 := by
          intro cs
          induction cs with
          | nil => intro n o _ c hc; cases hc
          | cons x xs ih =>
            intro n o h c hc
            rcases List.mem_cons.1 hc with q | q
            · subst q; exact h.1
            · exact ih h.2.2.2.2 c q
        rw [this hq1 _ t1]; decide
    · simp at hc
  · by_cases hp2 : r < cs2.length
    · have h4 : cs2[r]? = some cs2[r] := List.getElem?_eq_getElem hp2
      exact absurd (hal _ (List.getElem_mem hp2)) (h3 _ h4)
    · omega
  · have := scanL_len 0 16 0 f2 (16 - q - r) ((q : Int) + r)
    omega
/-- Joined: the second life's chunks alone. -/
theorem join_one {e : Int} (B C : List Ck.O) (hB : Seq e 0 1 B) (hB0 : B ≠ []) (he : 0 ≤ e) (hl : B.length ≤ 1000) (hC : ∀ c, C[0]? = some c → c.ep < e) :
    joinR 0 (B ++ C) = ⟨e, catC B, B.map (fun c => ⟨c.num, c.off⟩)⟩ ∧ joinB 0 (B ++ C) = 1 := by
  obtain ⟨b, br, rfl⟩ : ∃ c r, B = c :: r := by cases B with | nil => exact absurd rfl hB0 | cons c r => exact ⟨c, r, rfl⟩
  have hbase : baseJ ((b :: br) ++ C) = 1 := hB.2.2.1
  have h1 : runJ 0 1 0 J0 (b :: br) = ⟨e, catC (b :: br), (b :: br).map (fun c => ⟨c.num, c.off⟩)⟩ := by
    rw [runJ_seq (b :: br) 0 J0 0 1 hB (by simp) (by omega) (by omega) (by show (1 : Int) = 1 + (([] : List Int).length : Int); simp) he]
    rw [if_neg (by simp)]; rfl
  have hj : joinR 0 ((b :: br) ++ C) = ⟨e, catC (b :: br), (b :: br).map (fun c => ⟨c.num, c.off⟩)⟩ := by
    unfold joinR
    rw [hbase, run_ext (b :: br) C 0 J0 e (by rw [h1]) hC, h1]
  refine ⟨hj, ?_⟩
  unfold joinB
  rw [hj, hbase, if_neg (by simp)]
/-- Starts of chunks one behind the other follow. -/
theorem fol_seq {e : Int} (num fin : Int) (N : Nat) : ∀ (cs : List Ck.O) (i : Nat) (least o : Int), Seq e i o cs → num = N → N = i + cs.length → N ≤ 1000 → least ≤ o → (∀ c ∈ cs, c.off ≤ fin) → folS num fin N i least (cs.map (fun c => (⟨c.num, c.off⟩ : St.O))) = true
  | [], i, least, o, _, _, _, _, _, _ => rfl
  | c :: cs, i, least, o, h, hn, hN, hb, hlo, hf => by
    obtain ⟨a1, a2, a3, a4, a5⟩ := h
    show (if c.num = IntKind.u32.wrap (num - ((N : Int) - i)) ∧ least ≤ c.off ∧ c.off ≤ fin then folS num fin N (i + 1) c.off (cs.map (fun c => (⟨c.num, c.off⟩ : St.O))) else false) = true
    rw [if_pos ⟨by rw [a2, hn, wrap_id _ (by omega)]; omega, by rw [a3]; exact hlo, hf c List.mem_cons_self⟩]
    have e1 : ((i : Int) + 1) = ((i + 1 : Nat) : Int) := by omega
    rw [e1] at a5
    exact fol_seq num fin N cs (i + 1) c.off _ a5 hn (by rw [hN]; simp; omega) hb (by rw [a3]; omega) (fun c' hc => hf c' (List.mem_cons_of_mem _ hc))
end Go.Proofs.Ytgnedbagelhcbaa
namespace Go.Proofs.Ytgnedbagelhcbaa
open Go.ChangeShapes Go.WideShapes Go.ChangeAt Go.RowKit
set_option linter.unusedVariables false
set_option linter.unusedSimpArgs false
set_option maxRecDepth 20000

/-- The four sectors of a chunk that is written. -/
def fourC (a z : Int) (c : Ck.O) : List (Int × Int × List Int) := [(placeV a z c.num, 0, cut (blkC c) 0), (placeV a z c.num, 1, cut (blkC c) 1), (placeV a z c.num, 2, cut (blkC c) 2), (placeV a z c.num, 3, cut (blkC c) 3)]
def fours (a z : Int) (gs : List Ck.O) : List (Int × Int × List Int) := gs.flatMap (fourC a z)
theorem fours_snoc (a z : Int) (gs : List Ck.O) (c : Ck.O) : fours a z (gs ++ [c]) = fours a z gs ++ fourC a z c := by unfold fours; rw [List.flatMap_append]; simp
theorem fours_len (a z : Int) (gs : List Ck.O) : (fours a z gs).length = 4 * gs.length := by
  unfold fours
  induction gs with
  | nil => rfl
  | cons c r ih => rw [List.flatMap_cons, List.length_append, ih, List.length_cons]; show 4 + _ = _; omega
/-- Sectors of whole blocks laid over what lasts. -/
theorem block_four (a z : Int) (f : Secs) (c : Ck.O) : (over f (fourC a z c)).block = fun b => if b = placeV a z c.num then blkC c else f.block b := by
  have h := wrote_put ⟨0, f, [], false, 0, 0, fun _ => false⟩ a z c 0
  have e1 : ((Dsk.tick ⟨0, f, [], false, 0, 0, fun _ => false⟩ 0).wrote (placeV a z c.num) (blkC c) 4).seen = (over f (fourC a z c)).block := by
    funext b
    unfold Dsk.seen
    rw [wrote_sure, wrote_pend]; rfl
  rw [e1] at h
  rw [h]; rfl
theorem block_fours (a z : Int) : ∀ (gs : List Ck.O) (f : Secs), (over f (fours a z gs)).block = putB a z f.block gs
  | [], f => rfl
  | c :: gs, f => by
    have e : fours a z (c :: gs) = fourC a z c ++ fours a z gs := by unfold fours; rw [List.flatMap_cons]
    rw [e, over_append, block_fours a z gs, block_four]; rfl
theorem kept_left (xs ys : List (Int × Int × List Int)) (bl : List Bool) : ∀ k, k ≤ xs.length → kept (xs ++ ys) bl k = kept xs bl k
  | 0, _ => rfl
  | k + 1, hk => by
    unfold kept
    rw [kept_left xs ys bl k (by omega)]
    have : (xs ++ ys).getD k (0, 0, []) = xs.getD k (0, 0, []) := by simp only [List.getD]; rw [List.getElem?_append_left (by omega)]
    rw [this]
/-- A crash that keeps whole blocks. -/
theorem kept_fours (a z : Int) (bl : List Bool) (B : Nat → Bool) : ∀ (n : Nat) (gs : List Ck.O), gs.length = n → (∀ g s, g < n → s < 4 → bl.getD (4 * g + s) false = B g) → ∃ hs, kept (fours a z gs) bl (fours a z gs).length = fours a z hs ∧ ∀ c ∈ hs, c ∈ gs
  | 0, gs, h0, _ => ⟨[], by rw [List.eq_nil_of_length_eq_zero h0]; rfl, fun c hc => by cases hc⟩
  | n + 1, gs, hn, hb => by
    obtain ⟨g0, c, rfl⟩ : ∃ g0 c, gs = g0 ++ [c] := by
      have hne : gs ≠ [] := fun q => by rw [q] at hn; simp at hn
      exact ⟨gs.dropLast, gs.getLast hne, (List.dropLast_concat_getLast hne).symm⟩
    have hl : g0.length = n := by rw [List.length_append] at hn; simp at hn; exact hn
    obtain ⟨hs, h1, h2⟩ := kept_fours a z bl B n g0 hl (fun g s hg hs => hb g s (by omega) hs)
    have hlen : (fours a z g0).length = 4 * n := by rw [fours_len, hl]
    have e0 := kept_left (fours a z g0) (fourC a z c) bl (4 * n) (by omega)
    rw [hlen] at h1
    have b0 := hb n 0 (by omega) (by omega)
    have b1 := hb n 1 (by omega) (by omega)
    have b2 := hb n 2 (by omega) (by omega)
    have b3 := hb n 3 (by omega) (by omega)
    have g : ∀ s, s < 4 → (fours a z g0 ++ fourC a z c).getD (4 * n + s) (0, 0, []) = (fourC a z c).getD s (0, 0, []) := fun s hs => by
      simp only [List.getD]
      rw [List.getElem?_append_right (by omega), hlen, show 4 * n + s - 4 * n = s by omega]
    have hlen2 : (fours a z g0 ++ fourC a z c).length = 4 * n + 1 + 1 + 1 + 1 := by rw [List.length_append, hlen]; rfl
    rw [fours_snoc, hlen2]
    have k1 : kept (fours a z g0 ++ fourC a z c) bl (4 * n + 1 + 1 + 1 + 1) = if B n = true then fours a z hs ++ fourC a z c else fours a z hs := by
      have q0 := g 0 (by omega)
      have q1 := g 1 (by omega)
      have q2 := g 2 (by omega)
      have q3 := g 3 (by omega)
      rw [show 4 * n + 0 = 4 * n by omega] at q0 b0
      simp only [kept, e0, h1, b0, b1, b2, b3, q0, q1, q2, q3, show 4 * n + 1 + 1 = 4 * n + 2 by omega, show 4 * n + 1 + 1 + 1 = 4 * n + 3 by omega]
      by_cases hB : B n = true
      · simp only [if_pos hB, List.append_assoc]; rfl
      · simp only [if_neg hB]
    rw [k1]
    by_cases hB : B n = true
    · rw [if_pos hB]
      refine ⟨hs ++ [c], (fours_snoc a z hs c).symm, fun x hx => ?_⟩
      rcases List.mem_append.1 hx with q | q
      · exact List.mem_append_left _ (h2 x q)
      · exact List.mem_append_right _ q
    · rw [if_neg hB]
      exact ⟨hs, rfl, fun x hx => List.mem_append_left _ (h2 x hx)⟩
theorem putB_some (a z : Int) : ∀ (cs : List Ck.O) (f : Int → List Int), SomeB a z cs f (putB a z f cs)
  | [], f => SomeB.refl _ _ _ _
  | c :: cs, f => (SomeB.one a z c f).trans (putB_some a z cs _)
theorem crash_some {d : Dsk} {a z : Int} {gs : List Ck.O} (bl : List Bool) (B : Nat → Bool) (hp : d.pend = fours a z gs) (hb : ∀ g s, g < gs.length → s < 4 → bl.getD (4 * g + s) false = B g) : SomeB a z gs d.sure.block (d.crash bl).seen := by
  obtain ⟨hs, h1, h2⟩ := kept_fours a z bl B gs.length gs rfl hb
  have e : (d.crash bl).seen = putB a z d.sure.block hs := by
    funext b
    show (over (over d.sure (kept d.pend bl d.pend.length)) []).block b = _
    rw [hp, h1]
    show (over d.sure (fours a z hs)).block b = _
    rw [block_fours]
  rw [e]
  exact (putB_some a z hs _).sub h2
/-- A disk whose power may go, with whole blocks not yet synced. -/
structure Pw (d : Dsk) (n : Nat) (a z : Int) (F : Int → List Int) (gs : List Ck.O) : Prop where
  size : d.n = n
  fails : ∀ i, d.fails i = false
  sure : d.sure.block = F
  pend : d.pend = fours a z gs
theorem ask_pw {d : Dsk} {n : Nat} {a z : Int} {F : Int → List Int} {gs : List Ck.O} (h : Pw d n a z F gs) (b : Int) (hb : 0 ≤ b ∧ b < n) : ∃ E d', ask d b = (E, d') ∧ Pw d' n a z F gs := by
  unfold ask
  split
  · exact ⟨4, d, rfl, h⟩
  · rw [if_pos (by rw [h.size]; exact hb)]
    unfold count
    split
    · exact ⟨4, _, rfl, h.size, h.fails, h.sure, h.pend⟩
    · rw [if_neg (by rw [h.fails]; simp)]
      exact ⟨0, _, rfl, h.size, h.fails, h.sure, h.pend⟩
theorem writ_pw {d : Dsk} {n : Nat} {a z : Int} {F : Int → List Int} {gs : List Ck.O} (h : Pw d n a z F gs) (c : Ck.O) (hb : 0 ≤ placeV a z c.num ∧ placeV a z c.num < n) : ∃ E d', writ d (placeV a z c.num) (blkC c) = (E, d') ∧ (E = 0 → Pw d' n a z F (gs ++ [c])) ∧ (E ≠ 0 → Pw d' n a z F gs) := by
  obtain ⟨E, d', e, h'⟩ := ask_pw h _ hb
  unfold writ
  rw [e]
  by_cases h0 : E = 0
  · rw [if_pos h0]
    refine ⟨0, _, rfl, fun _ => ⟨h'.size, h'.fails, by show (d'.wrote _ _ 4).sure.block = F; rw [wrote_sure]; exact h'.sure, ?_⟩, fun q => absurd rfl q⟩
    show (d'.wrote _ _ 4).pend = _
    rw [wrote_pend, h'.pend, fours_snoc]; rfl
  · rw [if_neg h0]
    exact ⟨E, d', rfl, fun q => absurd q h0, fun _ => h'⟩
theorem count_pw {d : Dsk} {n : Nat} {a z : Int} {F : Int → List Int} {gs : List Ck.O} (h : Pw d n a z F gs) : ∃ E d', count d = (E, d') ∧ Pw d' n a z F gs := by
  unfold count
  split
  · exact ⟨4, _, rfl, h.size, h.fails, h.sure, h.pend⟩
  · rw [if_neg (by rw [h.fails]; simp)]
    exact ⟨0, _, rfl, h.size, h.fails, h.sure, h.pend⟩
theorem sync_pw {d : Dsk} {n : Nat} {a z : Int} {F : Int → List Int} {gs : List Ck.O} (h : Pw d n a z F gs) : ∃ E d', sync d = (E, d') ∧ (E = 0 → Pw d' n a z (putB a z F gs) []) ∧ (E ≠ 0 → Pw d' n a z F gs) := by
  obtain ⟨E, d1, e1, h1⟩ := count_pw h
  unfold sync
  by_cases hd : d.down = true
  · rw [if_pos hd]
    exact ⟨4, d, rfl, (fun q => by cases q), fun _ => h⟩
  · rw [if_neg hd, e1]
    by_cases h0 : E = 0
    · rw [if_pos h0]
      refine ⟨0, _, rfl, fun _ => ⟨h1.size, h1.fails, ?_, rfl⟩, fun q => absurd rfl q⟩
      show (over d1.sure d1.pend).block = _
      rw [h1.pend, block_fours, h1.sure]
    · rw [if_neg h0]
      exact ⟨E, d1, rfl, fun q => absurd q h0, fun _ => h1⟩
theorem wrS_pw {n : Nat} {a z : Int} : ∀ (cs : List Ck.O) (d : Dsk) (F : Int → List Int) (gs : List Ck.O), Pw d n a z F gs → (∀ c ∈ cs, 0 ≤ placeV a z c.num ∧ placeV a z c.num < n) → ∃ E d' k, wrS a z cs d = (E, d') ∧ Pw d' n a z F (gs ++ cs.take k) ∧ (E = 0 → k = cs.length)
  | [], d, F, gs, h, _ => ⟨0, d, 0, rfl, by rw [List.take_nil, List.append_nil]; exact h, fun _ => rfl⟩
  | c :: cs, d, F, gs, h, hp => by
    obtain ⟨E, d1, e1, p1, p2⟩ := writ_pw h c (hp c List.mem_cons_self)
    by_cases h0 : E = 0
    · obtain ⟨E2, d2, k, e2, p3, p4⟩ := wrS_pw cs d1 F (gs ++ [c]) (p1 h0) (fun c' hc => hp c' (List.mem_cons_of_mem _ hc))
      refine ⟨E2, d2, k + 1, by rw [wrS_cons, e1, if_pos h0]; exact e2, ?_, fun q => by rw [p4 q]; rfl⟩
      rw [List.append_assoc] at p3; exact p3
    · exact ⟨E, d1, 0, by rw [wrS_cons, e1, if_neg h0], by rw [List.take_zero, List.append_nil]; exact p2 h0, fun q => absurd q h0⟩
theorem layR_pw {n : Nat} {a z : Int} (cs : List Ck.O) (d : Dsk) (F : Int → List Int) (h : Pw d n a z F []) (hp : ∀ c ∈ cs, 0 ≤ placeV a z c.num ∧ placeV a z c.num < n) : ∃ E d', layR a z cs d = (E, d') ∧ (E = 0 → Pw d' n a z (putB a z F cs) []) ∧ (E ≠ 0 → ∃ gs, Pw d' n a z F gs ∧ (∀ c ∈ gs, c ∈ cs) ∧ gs.length ≤ cs.length) := by
  by_cases hc : cs = []
  · exact ⟨0, d, by unfold layR; rw [if_pos hc], fun _ => by rw [hc]; exact h, fun q => absurd rfl q⟩
  · obtain ⟨E, d1, k, e1, p1, p2⟩ := wrS_pw cs d F [] h hp
    rw [List.nil_append] at p1
    have hsub : (∀ c ∈ cs.take k, c ∈ cs) ∧ (cs.take k).length ≤ cs.length := ⟨fun c q => List.mem_of_mem_take q, by rw [List.length_take]; omega⟩
    by_cases h0 : E = 0
    · obtain ⟨E2, d2, e2, p3, p4⟩ := sync_pw p1
      refine ⟨E2, d2, by unfold layR; rw [if_neg hc, e1, if_pos h0]; exact e2, fun q => ?_, fun q => ⟨_, p4 q, hsub⟩⟩
      have := p3 q
      rw [p2 h0, List.take_length] at this; exact this
    · exact ⟨E, d1, by unfold layR; rw [if_neg hc, e1, if_neg h0], fun q => absurd q h0, fun _ => ⟨_, p1, hsub⟩⟩
end Go.Proofs.Ytgnedbagelhcbaa
namespace Go.Proofs.Ytgnedbagelhcbaa
open Go.ChangeShapes Go.WideShapes Go.ChangeAt Go.RowKit
set_option linter.unusedVariables false
set_option linter.unusedSimpArgs false
set_option maxRecDepth 20000

/-- What is there behind a flush and a crash: nothing of it, or its first block; all, if it was OK. -/
theorem flush_pw {n : Nat} (l : Lg) (d : Dsk) (F : Int → List Int) (h : Pw d n l.at_ l.size F []) (hp : ∀ c ∈ l.closed.sealed, 0 ≤ placeV l.at_ l.size c.num ∧ placeV l.at_ l.size c.num < n) (ha : l.closed.at_ = l.at_) (hz : l.closed.size = l.size) (hfr : l.closed.fresh = true) (hne : l.closed.sealed ≠ [])
    (hap : ∀ c0, l.closed.sealed[0]? = some c0 → ∀ c ∈ l.closed.sealed.drop 1, placeV l.at_ l.size c.num ≠ placeV l.at_ l.size c0.num) :
    ∃ E l' d', flushR l d = (E, l', d') ∧ ∃ G gs, Pw d' n l.at_ l.size G gs ∧ gs.length ≤ l.closed.sealed.length ∧
      ∀ f', SomeB l.at_ l.size gs G f' → SomeB l.at_ l.size l.closed.sealed F f' ∧ (f' = F ∨ ∀ c0, l.closed.sealed[0]? = some c0 → f' (placeV l.at_ l.size c0.num) = blkC c0) ∧ (E = 0 → f' = putB l.at_ l.size F l.closed.sealed) := by
  unfold flushR flushC
  rw [if_pos ⟨hfr, hne⟩]
  obtain ⟨c0, rest, hcs⟩ : ∃ c r, l.closed.sealed = c :: r := by cases hq : l.closed.sealed with | nil => exact absurd hq hne | cons c r => exact ⟨c, r, rfl⟩
  have ht : l.closed.sealed.take 1 = [c0] := by rw [hcs]; rfl
  have hd : l.closed.sealed.drop 1 = rest := by rw [hcs]; rfl
  have hap' : ∀ c ∈ rest, placeV l.at_ l.size c.num ≠ placeV l.at_ l.size c0.num := fun c hc => hap c0 (by rw [hcs]; rfl) c (by rw [hd]; exact hc)
  obtain ⟨E1, d1, e1, p1, p2⟩ := layR_pw (a := l.at_) (z := l.size) [c0] d F h (fun c hc => hp c (by obtain rfl := List.mem_singleton.1 hc; rw [hcs]; exact List.mem_cons_self))
  have e1' : layR l.closed.at_ l.closed.size (l.closed.sealed.take 1) d = (E1, d1) := by rw [ha, hz, ht]; exact e1
  rw [e1']
  show ∃ E l' d', (if E1 = 0 then restR { l.closed with fresh := false } 1 d1 else (E1, l.closed, d1)) = (E, l', d') ∧ _
  by_cases h0 : E1 = 0
  · rw [if_pos h0]
    have hpw := p1 h0
    obtain ⟨E2, d2, e2, p3, p4⟩ := layR_pw (a := l.at_) (z := l.size) rest d1 _ hpw (fun c hc => hp c (by rw [hcs]; exact List.mem_cons_of_mem _ hc))
    have hr : restR { l.closed with fresh := false } 1 d1 = if E2 = 0 then (0, Lg.flushed { l.closed with fresh := false }, d2) else (E2, { l.closed with fresh := false }, d2) := by
      unfold restR
      simp only [ha, hz, hd, e2]
    rw [hr]
    by_cases h2 : E2 = 0
    · rw [if_pos h2]
      refine ⟨0, _, d2, rfl, _, [], p3 h2, Nat.zero_le _, fun f' hf => ?_⟩
      have ef : f' = putB l.at_ l.size F l.closed.sealed := by
        funext b
        rcases hf b with q | ⟨c, q, _⟩
        · rw [q, hcs]; rfl
        · cases q
      refine ⟨by rw [ef]; exact putB_some _ _ _ _, Or.inr (fun c hc => ?_), fun _ => ef⟩
      rw [hcs] at hc
      cases hc
      rw [ef, hcs]
      show putB l.at_ l.size _ rest _ = _
      rw [putB_other _ _ rest _ _ hap', if_pos rfl]
    · rw [if_neg h2]
      obtain ⟨gs, g1, g2⟩ := p4 h2
      have hgl : ∃ hs : List Ck.O, Pw d2 n l.at_ l.size (putB l.at_ l.size F [c0]) hs ∧ (∀ c ∈ hs, c ∈ rest) ∧ hs.length ≤ l.closed.sealed.length := by
        exact ⟨gs, g1, g2.1, by rw [hcs]; have := g2.2; simp; omega⟩
      obtain ⟨hs, g1, g2, g3⟩ := hgl
      refine ⟨E2, _, d2, rfl, _, hs, g1, g3, fun f' hf => ⟨?_, Or.inr (fun c hc => ?_), fun q => absurd q h2⟩⟩
      · have := (putB_some l.at_ l.size [c0] F).trans (hf.sub g2)
        rw [hcs]; exact this
      · rw [hcs] at hc
        cases hc
        rcases hf (placeV l.at_ l.size c0.num) with q | ⟨c', q1, q2, _⟩
        · rw [q]; show (if _ then _ else _) = _; rw [if_pos rfl]
        · exact absurd q2.symm (hap' c' (g2 c' q1))
  · rw [if_neg h0]
    obtain ⟨gs, g1, g2⟩ := p2 h0
    refine ⟨E1, _, d1, rfl, F, gs, g1, by have := g2.2; rw [hcs]; simp at this ⊢; omega, fun f' hf => ⟨hf.sub (fun c hc => by have := g2.1 c hc; obtain rfl := List.mem_singleton.1 this; rw [hcs]; exact List.mem_cons_self), ?_, fun q => absurd q h0⟩⟩
    by_cases hq : f' = F
    · exact Or.inl hq
    · refine Or.inr (fun c hc => ?_)
      rw [hcs] at hc
      cases hc
      by_cases hx : f' (placeV l.at_ l.size c0.num) = blkC c0
      · exact hx
      · refine absurd (funext fun b => ?_) hq
        rcases hf b with q | ⟨c', q1, q2, q3⟩
        · exact q
        · have := g2.1 c' q1
          obtain rfl := List.mem_singleton.1 this
          rw [q2] at q3; exact absurd q3 hx
end Go.Proofs.Ytgnedbagelhcbaa
