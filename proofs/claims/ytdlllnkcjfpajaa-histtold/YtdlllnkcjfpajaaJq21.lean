/-
  Proved here: Of. Proved here: the document's follows. Proved here: the document's Ahead. Proved here: the document's Depends.
-/
import Derived.Test.YtdlllnkcjfpajaaJq19
import Derived.Test.YtdlllnkcjfpajaaJq20
import Derived.Test.YtdlllnkcjfpajaaJq11
import Derived.Test.YtdlllnkcjfpajaaJq17
namespace Go.Proofs.Ytdlllnkcjfpajaa
open Go.ChangeShapes Go.WideShapes Go.ChangeAt Go.RowKit
set_option linter.unusedVariables false
set_option linter.unusedSimpArgs false
set_option maxRecDepth 20000
theorem size58 : (Try.prog.info? 58).map (·.size) = some 5 := by kernel_rfl
theorem built74 (a b : Int) : Try.prog.built 74 [(0, .int .i64 a), (1, .int .u64 b)] = some #[.int .i64 a, .int .u64 b] := by kernel_rfl
structure OS (w : World) (B m : Nat) (ts : List Tl) (i : Nat) (v : Value) (wr : World) (al : List Hm) (at_ : Int × Int → Option Nat) (nn : Nat) : Prop where
  ld : LD wr B v al
  es : al.map Hm.p = ((ts.take i).foldl adv []).map (fun e => e.2.1)
  ok : AtOk ((ts.take i).foldl adv []) at_
  mp : KMap E74 wr m nn (fun nm => (at_ nm).map fun k => Value.int .i64 (k : Int))
  few : nn ≤ i ∧ al.length ≤ i
  fit : ∀ h ∈ al, PFit h.p i
  bel : Below w.heap.size w wr
theorem take_adv {ts : List Tl} {i : Nat} {t : Tl} (h : ts[i]? = some t) : (ts.take (i + 1)).foldl adv [] = adv ((ts.take i).foldl adv []) t := by
  obtain ⟨q1, q2⟩ := List.getElem?_eq_some_iff.1 h
  rw [List.take_succ_eq_append_getElem q1, q2, List.foldl_append]; rfl
section
variable {w wr w' : World} {B m i nn : Nat} {ts : List Tl} {v v' : Value} {al : List Hm} {at_ : Int × Int → Option Nat} {t : Tl}
theorem OS.below (h : OS w B m ts i v wr al at_ nn) (hb : Below wr.heap.size wr w') : OS w B m ts i v w' al at_ nn := ⟨h.ld.below hb, h.es, h.ok, h.mp.below hb, h.few, h.fit, below_trans h.bel hb⟩
theorem OS.skip (h : OS w B m ts i v wr al at_ nn) (ht : ts[i]? = some t) (hc : t.cnt = false) : OS w B m ts (i + 1) v wr al at_ nn :=
  ⟨h.ld, by rw [take_adv ht, adv_not hc]; exact h.es, by rw [take_adv ht, adv_not hc]; exact h.ok, h.mp, ⟨by have := h.few; omega, by have := h.few; omega⟩, fun x hx => (h.fit x hx).mono (Nat.le_succ i), h.bel⟩
theorem OS.nobody (h : OS w B m ts i v wr al at_ nn) (ht : ts[i]? = some t) (hc : t.cnt = true) (hk : t.kind ≠ 0) (hn : at_ (t.life, t.txn) = none) : OS w B m ts (i + 1) v wr al at_ nn := by
  obtain ⟨h1, h2, _⟩ := adv_call h.ok hc hk
  exact ⟨h.ld, by rw [take_adv ht, h2 hn]; exact h.es, by rw [take_adv ht]; exact h1, h.mp, ⟨by have := h.few; omega, by have := h.few; omega⟩, fun x hx => (h.fit x hx).mono (Nat.le_succ i), h.bel⟩
theorem OS.beg (h : OS w B m ts i v wr al at_ nn) (ht : ts[i]? = some t) (hok : t.Ok) (hb : t.beg = true) (hl : LD w' B v' (al ++ [⟨startP t, ⟨none, 0, 0⟩, ⟨none, 0, 0⟩⟩])) (hm : KMap E74 w' m (nn + 1) (kput (fun nm => (at_ nm).map fun k => Value.int .i64 (k : Int)) (t.life, t.rtxn) (.int .i64 (al.length : Int)))) (hw : Below w.heap.size w w') :
    OS w B m ts (i + 1) v' w' (al ++ [⟨startP t, ⟨none, 0, 0⟩, ⟨none, 0, 0⟩⟩]) (fun nm => if nm = (t.life, t.rtxn) then some ((ts.take i).foldl adv []).length else at_ nm) (nn + 1) := by
  obtain ⟨h1, h2⟩ := adv_beg h.ok hb
  have hlen : ((ts.take i).foldl adv []).length = al.length := by
    have := congrArg List.length h.es
    simpa using this.symm
  refine ⟨hl, by rw [take_adv ht, h1, List.map_append, h.es]; rfl, by rw [take_adv ht]; exact h2, hm.congr (fun nm _ => ?_), ⟨by have := h.few; omega, by simp; exact h.few.2⟩, fun x hx => ?_, hw⟩
  · unfold kput
    by_cases e : nm = (t.life, t.rtxn)
    · simp [e, hlen]
    · simp [e]
  · rcases List.mem_append.1 hx with hx | hx
    · exact (h.fit x hx).mono (Nat.le_succ i)
    · simp at hx; subst hx; exact (PFit.start hok).mono (Nat.zero_le _)
theorem OS.who {k : Nat} (h : OS w B m ts i v wr al at_ nn) (hc : t.cnt = true) (hk : t.kind ≠ 0) (hs : at_ (t.life, t.txn) = some k) : ∃ x, al[k]? = some x ∧ (adv ((ts.take i).foldl adv []) t).map (fun e => e.2.1) = (al.map Hm.p).set k (noteP x.p t) := by
  obtain ⟨_, _, h3⟩ := adv_call h.ok hc hk
  obtain ⟨p, q1, q2⟩ := h3 k hs
  rw [← h.es, List.getElem?_map] at q1
  obtain ⟨x, hx, rfl⟩ := Option.map_eq_some_iff.1 q1
  exact ⟨x, hx, by rw [q2, h.es]⟩
theorem OS.call {k : Nat} {x x' : Hm} (h : OS w B m ts i v wr al at_ nn) (ht : ts[i]? = some t) (hok : t.Ok) (hc : t.cnt = true) (hk : t.kind ≠ 0) (hs : at_ (t.life, t.txn) = some k) (hx : al[k]? = some x) (hx' : x'.p = noteP x.p t) (hl : LD w' B v' (al.set k x')) (hm : KMap E74 w' m nn (fun nm => (at_ nm).map fun k => Value.int .i64 (k : Int))) (hw : Below w.heap.size w w') :
    OS w B m ts (i + 1) v' w' (al.set k x') at_ nn := by
  obtain ⟨h1, _, _⟩ := adv_call h.ok hc hk
  obtain ⟨y, q1, q2⟩ := h.who hc hk hs
  rw [hx] at q1; injection q1 with q1; subst q1
  refine ⟨hl, by rw [take_adv ht, q2, List.map_set, hx'], by rw [take_adv ht]; exact h1, hm, ⟨by have := h.few; omega, by rw [List.length_set]; have := h.few; omega⟩, fun z hz => ?_, hw⟩
  rcases List.mem_or_eq_of_mem_set hz with hz | hz
  · exact (h.fit z hz).mono (Nat.le_succ i)
  · rw [hz, hx']; exact (h.fit x (List.mem_of_getElem? hx)).note hok
end
def OfH (w : World) (ts : List Tl) (e : Ending) (w' : World) : Prop := ∃ v qs, e = .returned v ∧ LD w' w.heap.size v qs ∧ qs.map Hm.p = ofR ts ∧ (∀ h ∈ qs, h.p.Fit) ∧ qs.length ≤ ts.length ∧ Below w.heap.size w w'
set_option maxHeartbeats 16000000 in
theorem of_any {w : World} {v : Value} {ts : List Tl} (hh : Tolds w v ts) (hn : ts.length ≤ 200) :
    Calls Try.prog 15 #[v] w fun e w' => OfH w ts e w' := by
  have hmm := @run_makeMap Try.prog
  obtain ⟨z60, hz0, hz60⟩ := zero60
  have HZ : Hid (z60.size = 77) := hz0
  clear hz0
  have HFO : Hid (∀ v qs w', LD w' w.heap.size v qs → qs.map Hm.p = ofR ts → (∀ h ∈ qs, h.p.Fit) → qs.length ≤ ts.length → Below w.heap.size w w' → OfH w ts (.returned v) w') := fun v qs w' h1 h2 h3 h4 h5 => ⟨v, qs, rfl, h1, h2, h3, h4, h5⟩
  generalize OfH w ts = PP at HFO ⊢
  obtain ⟨⟨⟨oa, cap, rfl, hcap, hnone, hel⟩, _⟩, hok⟩ := hh
  have HEL : Hid (From w oa ts) := hel
  have HOK : Hid (∀ t ∈ ts, t.Ok) := hok
  obtain ⟨n, HN⟩ : ∃ n, Hid (ts.length = n) := ⟨_, rfl⟩
  rw [HN.out] at hn hcap ⊢
  clear hel hok hnone hcap
  have b0 : Below w.heap.size w (w.alloc (.map #[] 0)) := (Below.refl _ _).alloc (Nat.le_refl _) _
  have o0 : OS w w.heap.size w.heap.size ts 0 (.slice none 0 0) (w.alloc (.map #[] 0)) [] (fun _ => none) 0 := ⟨LD.start _ _, by simp, AtOk.start, KMap.made E74 w, ⟨Nat.le_refl _, Nat.le_refl _⟩, (fun h hm => by cases hm), b0⟩
  obtain ⟨B, HB⟩ : ∃ B, Hid (w.heap.size = B) := ⟨_, rfl⟩
  clear b0
  go_enter Try.func15, Try.ntmps15
  go_upto_region 4 with fail
  generalize w.alloc (.map #[] 0) = w1 at o0 ⊢
  rw [HB.out] at o0 ⊢
  obtain ⟨m, HM⟩ : ∃ m, Hid (B = m) := ⟨_, rfl⟩
  have o1 : OS w B m ts 0 (.slice none 0 0) w1 [] (fun _ => none) 0 := by rw [← HM.out]; exact o0
  rw [HM.out]
  clear o0 hmm
  go_loopw [3, 12] (fun p q wr => ∃ (i : Nat) (al : List Hm) (at_ : Int × Int → Option Nat) (nn : Nat), q = .int .i64 (i : Int) ∧ i ≤ n ∧ OS w B m ts i p wr al at_ nn) (fun _ q _ => 1001 - (intOf q).toNat)
  case atStart => exact ⟨0, [], _, 0, rfl, Nat.zero_le _, o1⟩
  case round =>
    clear o1
    rename World => wr
    obtain ⟨i, al, at_, nn, rfl, hi, hO⟩ := hrel
    by_cases hin : i < n
    · have hin' : (i : Int) < (n : Int) := by omega
      have hi0 : (0 : Int) ≤ (i : Int) := by omega
      obtain ⟨t, hti⟩ : ∃ t, ts[i]? = some t := ⟨_, List.getElem?_eq_getElem (by rw [HN.out]; exact hin)⟩
      obtain ⟨a, rfl, hcell⟩ := HEL.out i t hti
      have hcw : ∀ q u, t.cs[q]? = some u → wr.cell? ((a.add (i * 77)).add q) = some u := fun q u hq => cell_keep (hcell q u hq) hO.bel
      have HOT : Hid t.Ok := HOK.out t (List.mem_of_getElem? hti)
      have HTI : Hid (ts[i]? = some t) := hti
      have tl : Hid (1 = 1) := rfl
      have q1 : Row (wr.alloc (.cells z60 60)) wr.heap.size z60 60 := Row.new _ _ _
      obtain ⟨k1, k2⟩ := copied60 wr z60 t
      have HO : Hid (OS w B m ts i u3 wr al at_ nn) := hO
      clear hti hcell hO
      go_upto_region 6 with (first
        | (have hh := tl; clear hh tl; refine wpList_load_any rfl 60 (.tmp 14) rfl (a.add (i * 77)) rfl t.cs _ hcw Try.underlying60 rfl (by rw [size60, Tl.cs_len]) ?_)
        | (refine store_cells rfl 60 (.tmp 6) (.tmp 15) rfl wr.heap.size t.cs.toArray rfl rfl 60 _ q1 77 size60 HZ.out t.size (t.one HOT.out) ?_))
      clear q1 hcw
      generalize (wr.alloc (.cells z60 60)).setRow wr.heap.size t.cs.toArray = w5 at k1 k2 ⊢
      have HO5 : Hid (OS w B m ts i u3 w5 al at_ nn) := HO.out.below k2
      generalize wr.heap.size = T at k1 ⊢
      clear k2 HO
      obtain ⟨kt, HKT⟩ : ∃ kt, Hid (t.kind = kt) := ⟨_, rfl⟩
      obtain ⟨xt, HXT⟩ : ∃ kt, Hid (t.txn = kt) := ⟨_, rfl⟩
      obtain ⟨pt, HPT⟩ : ∃ kt, Hid (t.page = kt) := ⟨_, rfl⟩
      obtain ⟨lt, HLT⟩ : ∃ kt, Hid (t.life = kt) := ⟨_, rfl⟩
      obtain ⟨rt, HRT⟩ : ∃ kt, Hid (t.rtxn = kt) := ⟨_, rfl⟩
      obtain ⟨st, HST⟩ : ∃ kt, Hid (t.rts = kt) := ⟨_, rfl⟩
      obtain ⟨ot, HOP⟩ : ∃ kt, Hid (t.op = kt) := ⟨_, rfl⟩
      obtain ⟨et, HET⟩ : ∃ kt, Hid (t.err = kt) := ⟨_, rfl⟩
      have HT5 : Hid (Row w5 T t.cs.toArray 60) := k1
      have d9 : w5.cell? ⟨T, 9, none⟩ = some (.bool ot) := row_at k1 9 _ (by rw [List.getElem?_toArray, ← HOP.out]; exact HOT.out.c9)
      have d10 : w5.cell? ⟨T, 10, none⟩ = some (.int .i64 et) := row_at k1 10 _ (by rw [List.getElem?_toArray, ← HET.out]; exact HOT.out.c10)
      have d1 : w5.cell? ⟨T, 1, none⟩ = some (.int .u8 kt) := row_at k1 1 _ (by rw [List.getElem?_toArray, ← HKT.out]; exact HOT.out.c1)
      have d2 : w5.cell? ⟨T, 2, none⟩ = some (.int .u64 xt) := row_at k1 2 _ (by rw [List.getElem?_toArray, ← HXT.out]; exact HOT.out.c2)
      have d6 : w5.cell? ⟨T, 6, none⟩ = some (.int .i64 lt) := row_at k1 6 _ (by rw [List.getElem?_toArray, ← HLT.out]; exact HOT.out.c6)
      have d11 : w5.cell? ⟨T, 11, none⟩ = some (.int .u64 rt) := row_at k1 11 _ (by rw [List.getElem?_toArray, ← HRT.out]; exact HOT.out.c11)
      have d12 : w5.cell? ⟨T, 12, none⟩ = some (.int .u32 st) := row_at k1 12 _ (by rw [List.getElem?_toArray, ← HST.out]; exact HOT.out.c12)
      clear k1
      cases ot with
      | true =>
        have HON : Hid (OS w B m ts (i + 1) u3 w5 al at_ nn) := HO5.out.skip HTI.out (by simp [Tl.cnt, HOP.out])
        go_wp2
        go_roundw
        case rel => exact ⟨i + 1, al, at_, nn, by go_num, by omega, HON.out⟩
        case measure => simp [intOf]; omega
      | false =>
        by_cases he0 : et = 0
        · have HC : Hid (t.cnt = true) := by show _ = _; simp [Tl.cnt, HOP.out, HET.out, he0]
          have hbe : (et != 0) = false := by simp [he0]
          clear he0
          by_cases hk : kt = 0
          · have HBG : Hid (t.beg = true) := by show _ = _; simp [Tl.beg, HC.out, HKT.out, hk]
            have hbk : (kt == 0) = true := by simp [hk]
            clear hk
            have hst0 := KMap.store Try.underlying72 HO5.out.mp (by unfold maxLen; have := HO5.out.few; omega) (show E74.ok (lt, rt) from ⟨by rw [← HLT.out]; exact HOT.out.wlife, by rw [← HRT.out]; exact HOT.out.wrtxn⟩) (.int .i64 (al.length : Int))
            obtain ⟨w8, hst, hm8, hg8, hs8⟩ := hst0
            obtain ⟨ln, HLN⟩ : ∃ ln, Hid (al.length = ln) := ⟨_, rfl⟩
            obtain ⟨ol, cl, hv⟩ : ∃ oa c, u3 = .slice oa ln c := by
              obtain ⟨oa, c, e⟩ := Pa.Own.form HO5.out.ld.own
              rw [List.length_map, HLN.out] at e
              exact ⟨oa, c, e⟩
            subst hv
            rw [HLN.out] at hst hm8
            have hst' : (Instr.mapUpdate 72 (.map (some m)) (.agg #[.int .i64 lt, .int .u64 rt]) (.int .i64 (ln : Int))).run Try.prog w5 = .ok () w8 := hst
            have Om : Off (· = m) w5 w8 := Off.of_grown (F := (· = m)) hg8 (fun k hk => by cases hk; rfl)
            have hmap := HO5.out.mp.is
            have HB8 : Hid (Below w.heap.size w w8) := below_off HO5.out.bel Om (fun k hk => by rw [hk, HB.out, HM.out]; exact Nat.le_refl _)
            have HL8 : Hid (LD w8 B (.slice ol ln cl) al) := HO5.out.ld.maps Om (fun b hb => by rw [hb]; exact hmap)
            have HM8 : Hid (KMap E74 w8 m (nn + 1) (kput (fun nm => (at_ nm).map fun k => Value.int .i64 (k : Int)) (lt, rt) (.int .i64 (ln : Int)))) := hm8
            have hT8 : Row w8 T t.cs.toArray 60 := HT5.out.off Om (fun e => by
              obtain ⟨es, cl', hmm⟩ := hmap
              have h2 := HT5.out
              unfold Row at h2
              rw [e, hmm] at h2; cases h2)
            have e12 : w8.cell? ⟨T, 12, none⟩ = some (.int .u32 st) := row_at hT8 12 _ (by rw [List.getElem?_toArray, ← HST.out]; exact HOT.out.c12)
            have hb74 := built74 lt rt
            have hb39 := built39t st
            have b9 : Below w8.heap.size w8 (w8.alloc (.cells (Pa.O.arr ⟨st, 0, false, ⟨none, 0, 0⟩, ⟨none, 0, 0⟩⟩) 39)) := (Below.refl _ _).alloc (Nat.le_refl _) _
            have HL9 : Hid (LD (w8.alloc (.cells (Pa.O.arr ⟨st, 0, false, ⟨none, 0, 0⟩, ⟨none, 0, 0⟩⟩) 39)) B (.slice ol ln cl) al) := HL8.out.below b9
            have HM9 : Hid (KMap E74 (w8.alloc (.cells (Pa.O.arr ⟨st, 0, false, ⟨none, 0, 0⟩, ⟨none, 0, 0⟩⟩) 39)) m (nn + 1) (kput (fun nm => (at_ nm).map fun k => Value.int .i64 (k : Int)) (lt, rt) (.int .i64 (ln : Int)))) := HM8.out.below b9
            have HB9 : Hid (Below w.heap.size w (w8.alloc (.cells (Pa.O.arr ⟨st, 0, false, ⟨none, 0, 0⟩, ⟨none, 0, 0⟩⟩) 39))) := below_trans HB8.out b9
            have hst9 : startP t = ⟨st, 0, false, [], []⟩ := by unfold startP; rw [HST.out]
            have HAP : Hid (∀ ty, ∃ v'' w'', (Builtin.append_ #[22, 22] ty #[.slice ol ln cl, .slice (some ⟨w8.heap.size, 0, none⟩) 1 1]).run Try.prog (w8.alloc (.cells (Pa.O.arr ⟨st, 0, false, ⟨none, 0, 0⟩, ⟨none, 0, 0⟩⟩) 39)) = .ok v'' w'' ∧ LD w'' B v'' (al ++ [⟨startP t, ⟨none, 0, 0⟩, ⟨none, 0, 0⟩⟩]) ∧ Off (fun g => (Value.slice ol ln cl).ownBlock = some g) (w8.alloc (.cells (Pa.O.arr ⟨st, 0, false, ⟨none, 0, 0⟩, ⟨none, 0, 0⟩⟩) 39)) w'' ∧ ∀ g, (Value.slice ol ln cl).ownBlock = some g → B ≤ g ∧ ∃ cs, (w8.alloc (.cells (Pa.O.arr ⟨st, 0, false, ⟨none, 0, 0⟩, ⟨none, 0, 0⟩⟩) 39)).heap[g]? = some (.cells cs 39 (0, 0))) := fun ty => by
              have h9 := HL9.out.snoc (startP t) rfl rfl (by have := HO5.out.few; omega) (by rw [← HB.out]; exact HB9.out.size) ty w8.heap.size (by rw [hst9]; exact Row.new w8 _ _)
              exact h9
            clear hst hm8 hg8 hs8 Om hmap hT8 b9 hst9
            go_wp2_with (first
              | (refine wpList_one rfl (.tmp 41) rfl ⟨st, 0, false, ⟨none, 0, 0⟩, ⟨none, 0, 0⟩⟩ rfl ?_)
              | (refine Pa.wpList_copy rfl (.tmp 37) (.tmp 42) 22 rfl (.slice ol ln cl) (.slice (some ⟨w8.heap.size, 0, none⟩) 1 1) rfl rfl HAP.out ?_
                 clear HAP
                 generalize w8.alloc (.cells (Pa.O.arr ⟨st, 0, false, ⟨none, 0, 0⟩, ⟨none, 0, 0⟩⟩) 39) = w9 at HL9 HM9 HB9
                 rintro v13 w13 ⟨hl13, Ou, hcs⟩
                 have HON : Hid (OS w B m ts (i + 1) v13 w13 (al ++ [⟨startP t, ⟨none, 0, 0⟩, ⟨none, 0, 0⟩⟩]) (fun nm => if nm = (t.life, t.rtxn) then some ((ts.take i).foldl adv []).length else at_ nm) (nn + 1)) := HO5.out.beg HTI.out HOT.out HBG.out hl13 (by
                   rw [HLT.out, HRT.out, HLN.out]
                   exact HM9.out.off Ou (fun q => by
                     obtain ⟨_, cs, hc⟩ := hcs m q
                     obtain ⟨es, cl', hmm⟩ := HM9.out.is
                     rw [hmm] at hc; cases hc)) (below_off HB9.out Ou (fun g hg => by rw [HB.out]; exact (hcs g hg).1))
                 clear hl13 Ou hcs HL9 HM9 HB9))
            go_roundw
            case rel => exact ⟨i + 1, _, _, nn + 1, by go_num, by omega, HON.out⟩
            case measure => simp [intOf]; omega
          · have hbk : (kt == 0) = false := by simp [hk]
            have HK0 : Hid (t.kind ≠ 0) := by show _ ≠ _; rw [HKT.out]; exact hk
            have hlk0 := KMap.look_ok Try.underlying72 (zero3 w5) HO5.out.mp (show E74.ok (lt, xt) from ⟨by rw [← HLT.out]; exact HOT.out.wlife, by rw [← HXT.out]; exact HOT.out.wtxn⟩)
            have hb74 := built74 lt xt
            obtain ⟨an, HAN⟩ : ∃ an, Hid (at_ (lt, xt) = an) := ⟨_, rfl⟩
            have hlk : (Instr.lookup 72 (.map (some m)) (.agg #[.int .i64 lt, .int .u64 xt]) true).run Try.prog w5 = .ok (.tuple #[(an.map fun k => Value.int .i64 (k : Int)).getD (.int .i64 0), .bool (an.map fun k => Value.int .i64 (k : Int)).isSome]) w5 := by
              rw [← HAN.out]; exact hlk0
            clear hlk0
            cases an with
            | none =>
              have hlk1 : (Instr.lookup 72 (.map (some m)) (.agg #[.int .i64 lt, .int .u64 xt]) true).run Try.prog w5 = .ok (.tuple #[.int .i64 0, .bool false]) w5 := hlk
              have HON : Hid (OS w B m ts (i + 1) u3 w5 al at_ nn) := HO5.out.nobody HTI.out HC.out HK0.out (by rw [HLT.out, HXT.out]; exact HAN.out)
              clear hlk
              go_wp2
              go_roundw
              case rel => exact ⟨i + 1, al, at_, nn, by go_num, by omega, HON.out⟩
              case measure => simp [intOf]; omega
            | some k =>
              have hlk1 : (Instr.lookup 72 (.map (some m)) (.agg #[.int .i64 lt, .int .u64 xt]) true).run Try.prog w5 = .ok (.tuple #[.int .i64 (k : Int), .bool true]) w5 := hlk
              have HAT : Hid (at_ (t.life, t.txn) = some k) := by show _ = _; rw [HLT.out, HXT.out]; exact HAN.out
              obtain ⟨x, hxk, _⟩ := HO5.out.who HC.out HK0.out HAT.out
              obtain ⟨g, cap2, cur, hv, hbg, hrow, hle, hmx, hsz, htk, hcc⟩ := HO5.out.ld.row hxk
              subst hv
              obtain ⟨ln, HLN⟩ : ∃ ln, Hid (al.length = ln) := ⟨_, rfl⟩
              have hkln : k < ln := by rw [← HLN.out]; exact (List.getElem?_eq_some_iff.1 hxk).1
              rw [HLN.out] at HO5 ⊢
              have hkl' : (k : Int) < (ln : Int) := by omega
              have hk0 : (0 : Int) ≤ (k : Int) := by omega
              obtain ⟨n4, h4⟩ := HOT.out.c4
              obtain ⟨s5, h5⟩ := HOT.out.c5
              have HXK : Hid (al[k]? = some x) := hxk
              have hfx := HO5.out.fit x (List.mem_of_getElem? hxk)
              have hnote := note_any (w := w5.drew) (B := B) (g := g) (o := k * 5) (cur := cur) (x := x) (hrow.below (Below.refl _ _).drew hrow.lt) hcc ((HO5.out.ld.each x (List.mem_of_getElem? hxk)).keep (Below.refl _ _).drew) (by show B ≤ w5.heap.size; rw [← HB.out]; exact HO5.out.bel.size) (Nat.le_trans hfx.rl (by omega)) (Nat.le_trans hfx.wl (by omega)) t n4 s5
              rw [HKT.out, HXT.out, HPT.out, HST.out] at hnote
              have HCL : Hid (∀ w' : World, Row w' T t.cs.toArray 60 → ∀ q u, ([.int .u8 kt, .int .u64 xt, .int .u16 pt, .int .i64 n4, .string s5] : List Value)[q]? = some u → w'.cell? ((⟨T, 1, none⟩ : Addr).add q) = some u) := fun w' hT q u hq => by
                rw [Addr.add_mid, cell_of_row _ _ _ _ _ _ hT, List.getElem?_toArray]
                match q, hq with
                | 0, hq => simp at hq; subst hq; rw [← HKT.out]; exact HOT.out.c1
                | 1, hq => simp at hq; subst hq; rw [← HXT.out]; exact HOT.out.c2
                | 2, hq => simp at hq; subst hq; rw [← HPT.out]; exact HOT.out.c3
                | 3, hq => simp at hq; subst hq; exact h4
                | 4, hq => simp at hq; subst hq; exact h5
                | q + 5, hq => simp at hq
              have hcl := HCL.out w5 HT5.out
              have HD : Hid (∀ w', Noted w5.drew B g (k * 5) cur x (noteP x.p t) w' → (∃ al', OS w B m ts (i + 1) (.slice (some ⟨g, 0, none⟩) ln cap2) w' al' at_ nn) ∧ Row w' T t.cs.toArray 60) := fun w' hN => by
                have hld := HO5.out.ld.below (Below.refl w5.heap.size w5).drew
                rw [← HLN.out] at hld
                obtain ⟨x', e1, hl', ho'⟩ := hld.noted hxk (hrow.below (Below.refl _ _).drew hrow.lt) hle hmx hsz htk hbg hN
                rw [HLN.out] at hl'
                have hxo := HO5.out.ld.each x (List.mem_of_getElem? hxk)
                have hbb : ∀ b, (b = g ∨ rb x = some b ∨ wb x = some b) → B ≤ b ∧ ∃ cs ty, w5.heap[b]? = some (.cells cs ty (0, 0)) ∧ ty ≠ 60 := fun b q => by
                  rcases q with q | q | q
                  · rw [q]; exact ⟨hbg, cur, 39, hrow, by decide⟩
                  · obtain ⟨cs, hc⟩ := hxo.rs.cellsOf b q
                    exact ⟨(World.ownsRow.lt hxo.rs b q).1, cs, _, hc, by decide⟩
                  · obtain ⟨cs, hc⟩ := hxo.ws.cellsOf b q
                    exact ⟨(World.ownsRow.lt hxo.ws b q).1, cs, _, hc, by decide⟩
                refine ⟨⟨_, HO5.out.call HTI.out HOT.out HC.out HK0.out HAT.out hxk e1 hl' ((HO5.out.mp.below (Below.refl _ _).drew).off ho' (fun q => ?_)) (below_off (below_trans HO5.out.bel (Below.refl _ _).drew) ho' (fun b q => ?_))⟩, (HT5.out.below (Below.refl _ _).drew HT5.out.lt).off ho' (fun q => ?_)⟩
                · obtain ⟨_, cs, ty, hc, _⟩ := hbb m q
                  obtain ⟨es, cl', hmm⟩ := HO5.out.mp.is
                  rw [hmm] at hc; cases hc
                · rw [HB.out]; exact (hbb b q).1
                · obtain ⟨_, cs, ty, hc, hne⟩ := hbb T q
                  have h2 := HT5.out
                  unfold Row at h2
                  rw [h2] at hc
                  injection hc with hc
                  injection hc with _ h3 _
                  exact hne h3.symm
              clear hlk hxk hle hmx hsz htk hcc hbg hrow hfx h4 h5 HAN d11
              go_upto_region 12 with fail
              clear hlk1 hb74 d1 d2 d6 d9 d10
              refine wp_region_held_drew (S := fun w' => (∀ q u, ([.int .u8 kt, .int .u64 xt, .int .u16 pt, .int .i64 n4, .string s5] : List Value)[q]? = some u → w'.cell? ((⟨T, 1, none⟩ : Addr).add q) = some u) ∧ w'.cell? ⟨T, 12, none⟩ = some (.int .u32 st)) (by kernel_rfl) ⟨hcl, d12⟩ fun hS => ?_
              refine tkH (i := 0) (v := .slice (some ⟨g, 0, none⟩) ln cap2) rfl (by kernel_rfl) (fun _ _ _ h => h) (Or.inl ⟨by rfl, fun w _ => by go_simp⟩) hS ?_
              try simp only [Act.put, nz0, nz1, nz2, nz3, nz4, nz5]
              refine tkH (i := 1) (v := .int .i64 (k : Int)) rfl (by kernel_rfl) (fun _ _ _ h => h) (Or.inl ⟨by rfl, fun w _ => by go_simp⟩) hS ?_
              try simp only [Act.put, nz0, nz1, nz2, nz3, nz4, nz5]
              refine tkH (i := 2) (v := .pointer (some ⟨g, k * 5, none⟩)) rfl (by kernel_rfl) (fun _ _ _ h => h) (Or.inl ⟨by rfl, fun w _ => by go_simp⟩) hS ?_
              try simp only [Act.put, nz0, nz1, nz2, nz3, nz4, nz5]
              refine tkH (i := 3) (v := .pointer (some ⟨T, 1, none⟩)) rfl (by kernel_rfl) (fun _ _ _ h => h) (Or.inl ⟨by rfl, fun w _ => by go_simp⟩) hS ?_
              try simp only [Act.put, nz0, nz1, nz2, nz3, nz4, nz5]
              refine tkH (i := 4) (v := .agg #[.int .u8 kt, .int .u64 xt, .int .u16 pt, .int .i64 n4, .string s5]) rfl (by kernel_rfl) (fun _ _ _ h => h) (yields_load_any (by rfl) 58 (.tmp 59) rfl ⟨T, 1, none⟩ rfl ([.int .u8 kt, .int .u64 xt, .int .u16 pt, .int .i64 n4, .string s5] : List Value) _ (fun w h => h.1) Try.underlying58 rfl size58) hS ?_
              try simp only [Act.put, nz0, nz1, nz2, nz3, nz4, nz5]
              refine tkH (i := 5) (v := .pointer (some ⟨T, 10, none⟩)) rfl (by kernel_rfl) (fun _ _ _ h => h) (Or.inl ⟨by rfl, fun w _ => by go_simp⟩) hS ?_
              try simp only [Act.put, nz0, nz1, nz2, nz3, nz4, nz5]
              refine tkH (i := 6) (v := .pointer (some ⟨T, 12, none⟩)) rfl (by kernel_rfl) (fun _ _ _ h => h) (Or.inl ⟨by rfl, fun w _ => by go_simp⟩) hS ?_
              try simp only [Act.put, nz0, nz1, nz2, nz3, nz4, nz5]
              refine tkH (i := 7) (v := .int .u32 st) rfl (by kernel_rfl) (fun _ _ _ h => h) (Or.inl ⟨by rfl, fun w h => by have c := h.2; go_simp⟩) hS ?_
              try simp only [Act.put, nz0, nz1, nz2, nz3, nz4, nz5]
              refine wpAnyH_ready (rs := [8]) (by kernel_rfl) (by simp) ?_
              refine AllReadyH.cons rfl (fun K hK => ?_) AllReadyH.nil
              go_simp
              go_at_call 32
              refine Calls.mono hnote ?_
              clear hnote
              rintro e w9 ⟨he, hN⟩
              obtain rfl := he
              obtain ⟨⟨al', hON⟩, hT9⟩ := HD.out w9 hN
              have hcl9 := HCL.out w9 hT9
              have d129 : w9.cell? ⟨T, 12, none⟩ = some (.int .u32 st) := row_at hT9 12 _ (by rw [List.getElem?_toArray, ← HST.out]; exact HOT.out.c12)
              have HON : Hid (OS w B m ts (i + 1) (.slice (some ⟨g, 0, none⟩) ln cap2) w9 al' at_ nn) := hON
              clear hN hON HD hcl d12 hS hT9
              refine hK.out _ _ ⟨hcl9, d129⟩ fun hS => ?_
              try simp only [Act.put, nz0, nz1, nz2, nz3, nz4, nz5]
              refine wpAnyH_done (by kernel_rfl) ?_ _
              clear hS hcl9 d129
              go_wp2
              go_roundw
              case rel => exact ⟨i + 1, _, _, nn, by go_num, by omega, HON.out⟩
              case measure => simp [intOf]; omega
        · have hbe : (et != 0) = true := by simp [he0]
          have HON : Hid (OS w B m ts (i + 1) u3 w5 al at_ nn) := HO5.out.skip HTI.out (by simp [Tl.cnt, HOP.out, HET.out, he0])
          go_wp2
          go_roundw
          case rel => exact ⟨i + 1, al, at_, nn, by go_num, by omega, HON.out⟩
          case measure => simp [intOf]; omega
    · have hin' : ¬ (i : Int) < (n : Int) := by omega
      have HTK : Hid (ts.take i = ts) := List.take_of_length_le (by rw [HN.out]; omega)
      have hfin := HFO.out u3 al wr (by rw [HB.out]; exact hO.ld) (by
        rw [hO.es, HTK.out, adv_all]; rfl) (fun h hm => (hO.fit h hm).fit (by omega)) (by rw [HN.out]; have := hO.few; omega) hO.bel
      clear hO
      go_wp2
      exact hfin


theorem Sn.O.arr_one (o : Sn.O) : o.arr.all (·.oneCell') = true := by simp [Sn.O.arr, Value.oneCell']
end Go.Proofs.Ytdlllnkcjfpajaa
