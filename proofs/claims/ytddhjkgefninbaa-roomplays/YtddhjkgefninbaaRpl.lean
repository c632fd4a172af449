/-
  Proved here: the trial of a room's calls against the document's, walked.
-/
import Derived.Test.YtddhjkgefninbaaRpb
namespace Go.Proofs.Ytddhjkgefninbaa
open Go.ChangeShapes Go.WideShapes Go.ChangeAt Go.RowKit
set_option linter.unusedVariables false
set_option linter.unusedSimpArgs false

theorem range_pge {w : World} {b : Nat} {ps : List Pge} {i : Nat} {p : Pge} (h : Row w b (pcells ps).toArray 33) (hp : ps[i]? = some p) : w.rangeAt b (i * 2) [.int .u64 p.lsn, p.v] := by
  intro j u hj
  have hj2 : j < 2 := by have := (List.getElem?_eq_some_iff.1 hj).1; simpa using this
  have h1 := pcells_at hp j hj2
  refine row_at h _ _ ?_
  rw [List.getElem?_toArray, h1]; exact hj
theorem Pb.put {w wr : World} {g a q b : Nat} {ps qs : List Pge} {l m : Nat} (h : Pb w wr g a q b ps qs l m) {U : Nat} {cs : Array Value} (rU : Row wr U cs 33) (cs' : Array Value) (hg : g ≠ U) (ha : a ≠ U) (hq : q ≠ U) (hb : b ≠ U) (hw : w.heap.size ≤ U) : Pb w (wr.setRow U cs') g a q b ps qs l m :=
  ⟨h.r.off (Off.of_setRow (F := (· = U)) _ _ _ rfl) (fun k hk e => by rcases hk with rfl | rfl; · exact hg e
                                                                      · exact ha e) (fun k cs hk e => hk.ne rU (by decide) e),
   h.s.off (Off.of_setRow (F := (· = U)) _ _ _ rfl) (fun k hk e => by rcases hk with rfl | rfl; · exact hq e
                                                                      · exact hb e) (fun k cs hk e => hk.ne rU (by decide) e), h.ab, h.lo, below_setRow h.be hw _⟩
theorem yields_cells {P : Program} {ops : Array Oper} {S : World → Prop} {o : Oper} {a : Act} (hw : Region.wanted o (yielded ops a.tmps) = true) (ty : TypeId) (x : Operand) (ho : o.op = .load ty x)
    (g : Nat) (hx : a.eval x = .pointer (some ⟨g, 0, none⟩)) (t : TypeId) (cs : Array Value) (hg : ∀ w, S w → Row w g cs t) (n : Nat) {d : TypeDesc}
    (hu : P.underlying ty = some d) (hd : (match d with | .struct _ | .array _ _ => true | _ => false) = true) (hi : (P.info? ty).map (·.size) = some n) (hn : cs.size = n) : YieldsIf P ops S o (.agg cs) a := by
  refine Or.inl ⟨hw, fun w hS => ?_⟩
  unfold execOp
  simp only [ho, hx, Instr.loadAt, Instr.sureAddr, Sem.run_bind, Sem.run_pure, Result.andThen_ok, run_loadVar_row w g t ty cs (0, 0) _ (hg w hS) hu hd (by rw [hi, hn])]
theorem zero35 (w : World) : (zeroValue 35).run Try.prog w = .ok (.agg #[.int .i64 0, .int .i64 0, .int .u64 0, .slice none 0 0]) w := (zero_of_info (P := Try.prog) (t := 35) (v := .agg #[.int .i64 0, .int .i64 0, .int .u64 0, .slice none 0 0]) (n := 4) (by kernel_rfl)).1 w
theorem size35 : (Try.prog.info? 35).map (·.size) = some 4 := by kernel_rfl
set_option maxHeartbeats 64000000 in
set_option maxRecDepth 20000 in
theorem roomWalk (w : World) (n : Int) (v : Value) (cs : List Cal) (hn64 : -9223372036854775808 ≤ n ∧ n ≤ 9223372036854775807) (h : Cals w v cs) :
    Calls Try.prog 3 #[.int .i64 n, v] w fun e w' => e = .returned (.bool true) ∧ Below w.heap.size w w' := by
  obtain ⟨oa, cap, rfl, hlen, hcs⟩ := h
  have HCS : Hid _ := hcs
  clear hcs
  obtain ⟨N, HN⟩ : ∃ N, Hid (cs.length = N) := ⟨_, rfl⟩
  rw [HN.out] at HCS hlen ⊢
  have HA : Hid (∀ w, Calls Try.prog 5 #[] w fun e w' => e = .returned (.bool true) ∧ Below w.heap.size w w') := awake_any
  by_cases hn : 1 ≤ n ∧ n ≤ 32
  · obtain ⟨k, rfl⟩ : ∃ k : Nat, n = k := ⟨n.toNat, by omega⟩
    have hk1 : 1 ≤ k := by omega
    have hk32 : k ≤ 32 := by omega
    have g1 : ¬ (k : Int) < 1 := by omega
    have g2 : ¬ (k : Int) > 32 := by omega
    have hnew := new_some k hk1 hk32 w
    obtain ⟨i, hi, hz, hs, hb⟩ := info_parts info33
    clear hn
    go_enter Try.func3, Try.ntmps3
    go_upto_region 8 with (first
      | (go_at_call 4; refine hnew.mono ?_; clear hnew; rintro e w1 ⟨g, a, rfl, hg, ha, c1, b1⟩)
      | (at_make; refine wpList_make_full w1 rfl (.tmp 36) (.tmp 36) 27 rfl w1.heap.size 33 i _ 2 Try.underlying27 hi hz hs .i64 .i64 k k k rfl rfl rfl rfl (by rw [hb]; omega) (by unfold maxLen; omega) (Nat.le_refl _) ?_; intro w2 own1 gr1))
    have hlt := own1.lt _ rfl
    have hsz := hlt.2
    have hrow : Row w2 w1.heap.size (pcells (List.replicate k Pge.zero)).toArray 33 := by
      rcases own1.2 with ⟨q, _⟩ | ⟨g, cap, cur, q, _, hr, hc1, hc2, hc3, hc4⟩
      · cases q
      · simp only [Value.slice.injEq, Option.some.injEq, Addr.mk.injEq] at q
        obtain ⟨⟨rfl, _⟩, _, rfl⟩ := q
        have e : cur.toList = pcells (List.replicate k Pge.zero) := by
          rw [← made_pcells, ← List.take_of_length_le (l := cur.toList) (i := k * 2) (by rw [Array.length_toList, hc3]; omega), hc4]
          rfl
        unfold Row
        rw [hr, ← e]
    have b2 : Below w1.heap.size w1 w2 := ⟨gr1.os, gr1.tape, gr1.output, gr1.size, fun k hk => gr1.block k hk (by simp)⟩
    have hl : (List.replicate k Pge.zero).length = k := List.length_replicate
    have ba : a < w1.heap.size := c1.arr.lt
    have hP0 : Pb w (w2.alloc (.cells #[.slice (some ⟨w1.heap.size, 0, none⟩) k k, .int .i64 0] 29)) g a w2.heap.size w1.heap.size (List.replicate k Pge.zero) (List.replicate k Pge.zero) 0 0 :=
      ⟨(c1.below b2).below ((Below.refl _ _).alloc (Nat.le_refl _) _),
       { room := by rw [hl]; exact Row.new _ _ _, arr := hrow.alloc _, olds := fun p hp => by rw [List.eq_of_mem_replicate hp]; exact ⟨rfl, Or.inl ⟨rfl, rfl⟩⟩,
         len := fun p hp => by rw [List.eq_of_mem_replicate hp]; show 0 ≤ 1000; omega
         lt := by omega, small := by omega }, by omega, ⟨hg, ha, by have := b1.size; have := b2.size; omega, b1.size⟩, (b1.trans (b2.mono b1.size)).alloc (by have := b1.size; have := b2.size; omega) _⟩
    have hL0 : Loop w (w2.alloc (.cells #[.slice (some ⟨w1.heap.size, 0, none⟩) k k, .int .i64 0] 29)) g a w2.heap.size w1.heap.size k :=
      ⟨_, _, 0, hP0, Alk.refl _, (fun p hp x hx => by rw [List.eq_of_mem_replicate hp] at hx; cases hx), hl⟩
    clear hP0 hrow own1 gr1 b1 b2 c1 hlt hsz hl ba hi hz hs hb hg ha
    generalize w2.alloc (.cells #[.slice (some ⟨w1.heap.size, 0, none⟩) k k, .int .i64 0] 29) = w3 at hL0 ⊢
    generalize w2.heap.size = q at hL0 ⊢
    generalize w1.heap.size = b at hL0 ⊢
    go_loopw [7] (fun i wr => ∃ j : Nat, i = .int .i64 j ∧ j ≤ N ∧ j ≤ 40 ∧ Loop w wr g a q b k) (fun i _ => 41 - (intOf i).toNat)
    case atStart => exact ⟨0, rfl, by omega, by omega, hL0⟩
    case round =>
      clear hL0
      obtain ⟨j, rfl, hjN, hj40, ps, qs, l, hP, hA, hF, hn⟩ := hrel
      by_cases hjl : j < N
      · by_cases hj4 : j < 40
        · have hjl' : (j : Int) < (N : Int) := by omega
          have hj4' : (j : Int) < 40 := by omega
          obtain ⟨A, ⟨kd, no, lsn, vv, os⟩, hoa, hck, ⟨hol0, hof0, hwn⟩, hcell⟩ := HCS.out j hjl
          subst hoa
          have hol' : Olds w vv os := hol0
          obtain ⟨oa2, cap2, hvv, _⟩ := hol'.open
          have hvv' : vv = .slice oa2 os.length cap2 := hvv
          subst hvv'
          have hol : Olds w (.slice oa2 os.length cap2) os := hol0
          have hof : ∀ o ∈ os, o.Fits := hof0
          clear hol' hvv hck hwn hol0 hof0
          obtain ⟨M, HM⟩ : ∃ M, os.length = M := ⟨_, rfl⟩
          rw [HM] at hol hcell
          have hcw : ∀ u x, [Value.int .i64 kd, .int .i64 no, .int .u64 lsn, .slice oa2 M cap2][u]? = some x → wr.cell? ((A.add (j * 4)).add u) = some x := fun u x hx => cell_keep (hcell u x hx) hP.be
          clear hcell
          have z0 : Row (wr.alloc (.cells #[.int .i64 0, .int .i64 0, .int .u64 0, .slice none 0 0] 35)) wr.heap.size #[.int .i64 0, .int .i64 0, .int .u64 0, .slice none 0 0] 35 := Row.new _ _ _
          have tl : Hid (1 = 1) := rfl
          have ts : Hid (1 = 1) := rfl
          have hz35 := zero35
          go_upto_region 11 with (first
            | (have hh := tl; clear hh tl; refine wpList_load_any rfl 35 (.tmp 52) rfl (A.add (j * 4)) rfl [.int .i64 kd, .int .i64 no, .int .u64 lsn, .slice oa2 M cap2] _ hcw Try.underlying35 rfl size35 ?_)
            | (have hh := ts; clear hh ts; refine store_cells rfl 35 (.tmp 8) (.tmp 53) rfl wr.heap.size #[.int .i64 kd, .int .i64 no, .int .u64 lsn, .slice oa2 M cap2] rfl rfl 35 _ z0 4 size35 rfl rfl (by simp [Value.oneCell']) ?_))
          have rO := z0.set #[.int .i64 kd, .int .i64 no, .int .u64 lsn, .slice oa2 M cap2]
          have bO : Below wr.heap.size wr ((wr.alloc (.cells #[.int .i64 0, .int .i64 0, .int .u64 0, .slice none 0 0] 35)).setRow wr.heap.size #[.int .i64 kd, .int .i64 no, .int .u64 lsn, .slice oa2 M cap2]) := below_setRow ((Below.refl _ _).alloc (Nat.le_refl _) _) (Nat.le_refl _) _
          have hP := hP.down bO
          clear z0 bO hcw hz35
          show Code.wp _ _ _ _ ((wr.alloc (.cells #[.int .i64 0, .int .i64 0, .int .u64 0, .slice none 0 0] 35)).setRow wr.heap.size #[.int .i64 kd, .int .i64 no, .int .u64 lsn, .slice oa2 M cap2])
          generalize (wr.alloc (.cells #[.int .i64 0, .int .i64 0, .int .u64 0, .slice none 0 0] 35)).setRow wr.heap.size #[.int .i64 kd, .int .i64 no, .int .u64 lsn, .slice oa2 M cap2] = wx at rO hP ⊢
          obtain ⟨X, hX⟩ : ∃ X, wr.heap.size = X := ⟨_, rfl⟩
          rw [hX] at rO ⊢
          clear hX
          have hXg : X ≠ g := rO.ne hP.r.room (by decide)
          have hXa : X ≠ a := rO.ne hP.r.arr (by decide)
          have hXq : X ≠ q := rO.ne hP.s.room (by decide)
          have hXb : X ≠ b := rO.ne hP.s.arr (by decide)
          have c0 := row_at rO 0 (.int .i64 kd) rfl
          have c3 := row_at rO 3 (.slice oa2 M cap2) rfl
          by_cases h100 : (M : Int) > 100
          · go_wp2
            go_ret
            exact ⟨rfl, hP.be⟩
          · have hm1 : os.length ≤ 1000 := by omega
            have hm9 : os.length ≤ 1000000000 := by omega
            by_cases hk0 : kd = 0
            · subst hk0
              go_upto_region 15 with fail
              clear c0 c3
              refine wp_region_held_drew (S := fun w' => Row w' X #[.int .i64 0, .int .i64 no, .int .u64 lsn, .slice oa2 M cap2] 35 ∧ Off (two g a) wx w') (by kernel_rfl) ⟨rO, (Off.refl _ _).drew⟩ fun hS => ?_
              have hPd : Pb w wx.drew g a q b ps qs l l := hP.down (Below.refl _ _).drew
              clear rO hP
              generalize wx.drew = wd at hS hPd ⊢
              refine wpAnyH_take (i := 0) (v := .pointer (some ⟨g, 0, none⟩)) rfl (by kernel_rfl) (by kernel_rfl) (by kernel_rfl) (fun _ _ _ h => h) (Or.inl ⟨by rfl, fun w _ => by go_simp⟩) hS ?_
              try simp only [Act.put, List.getElem_toArray, List.getElem_cons_zero, List.getElem_cons_succ, List.setIfInBounds_toArray, List.set_cons_zero, List.set_cons_succ]
              refine wpAnyH_take (i := 1) (v := .pointer (some ⟨X, 1, none⟩)) rfl (by kernel_rfl) (by kernel_rfl) (by kernel_rfl) (fun _ _ _ h => h) (Or.inl ⟨by rfl, fun w _ => by go_simp⟩) hS ?_
              try simp only [Act.put, List.getElem_toArray, List.getElem_cons_zero, List.getElem_cons_succ, List.setIfInBounds_toArray, List.set_cons_zero, List.set_cons_succ]
              refine wpAnyH_take (i := 2) (v := .int .i64 no) rfl (by kernel_rfl) (by kernel_rfl) (by kernel_rfl) (fun _ _ _ h => h) (Or.inl ⟨by rfl, fun w h => by have c := row_at h.1 1 _ rfl; go_simp⟩) hS ?_
              try simp only [Act.put, List.getElem_toArray, List.getElem_cons_zero, List.getElem_cons_succ, List.setIfInBounds_toArray, List.set_cons_zero, List.set_cons_succ]
              refine wpAnyH_take (i := 3) (v := .pointer (some ⟨X, 2, none⟩)) rfl (by kernel_rfl) (by kernel_rfl) (by kernel_rfl) (fun _ _ _ h => h) (Or.inl ⟨by rfl, fun w _ => by go_simp⟩) hS ?_
              try simp only [Act.put, List.getElem_toArray, List.getElem_cons_zero, List.getElem_cons_succ, List.setIfInBounds_toArray, List.set_cons_zero, List.set_cons_succ]
              refine wpAnyH_take (i := 4) (v := .agg #[.int .u64 lsn, .slice oa2 M cap2]) rfl (by kernel_rfl) (by kernel_rfl) (by kernel_rfl) (fun _ _ _ h => h) (Or.inl ⟨by rfl, fun w h => by have c0 := row_at h.1 2 _ rfl; have c1 := row_at h.1 3 _ rfl; go_simp⟩) hS ?_
              try simp only [Act.put, List.getElem_toArray, List.getElem_cons_zero, List.getElem_cons_succ, List.setIfInBounds_toArray, List.set_cons_zero, List.set_cons_succ]
              refine wpAnyH_ready (rs := [5]) (by kernel_rfl) (by simp) ?_
              refine AllReadyH.cons rfl (fun K hK => ?_) AllReadyH.nil
              go_simp
              go_at_call 7
              refine Calls.mono (kept_any lsn (.slice oa2 M cap2) os _ (hol.keep hPd.be) hm9) ?_
              rintro e w1_5 ⟨vk, rfl, hOk, hcb⟩
              have hP5 := hPd.down hcb
              have hOo := hOk.olds
              refine hK.out _ _ (⟨hS.1.below hcb hS.1.lt, hS.2.trans (Off.of_below (F := fun _ => False) hcb) (fun j h => h.elim)⟩) fun hS => ?_
              try simp only [Act.put, List.getElem_toArray, List.getElem_cons_zero, List.getElem_cons_succ, List.setIfInBounds_toArray, List.set_cons_zero, List.set_cons_succ]
              clear hcb
              refine wpAnyH_ready (rs := [6]) (by kernel_rfl) (by simp) ?_
              refine AllReadyH.cons rfl (fun K hK => ?_) AllReadyH.nil
              go_simp
              go_at_call 6
              refine Calls.mono (noteR_any hP5 hA no lsn vk os hOo hm1) ?_
              rintro e w2_6 ⟨rfl, ps', hP6, o6, hk6⟩
              refine hK.out _ _ (⟨hS.1.offTwo o6 hXg hXa, hS.2.trans o6 (fun j hj => Or.inl hj)⟩) fun hS => ?_
              try simp only [Act.put, List.getElem_toArray, List.getElem_cons_zero, List.getElem_cons_succ, List.setIfInBounds_toArray, List.set_cons_zero, List.set_cons_succ]
              refine wpAnyH_done (by kernel_rfl) ?_ _
              have rO := hS.1
              clear hS hP5 hPd hOk hOo
              have c1 := row_at rO 1 (.int .i64 no) rfl
              have c2 := row_at rO 2 (.int .u64 lsn) rfl
              have c3 := row_at rO 3 (.slice oa2 M cap2) rfl
              go_upto_region 22 with (go_at_call 8; refine (noteQ_any hP6 hA hF hn no lsn (.slice oa2 M cap2) os (hol.keep hP6.be) hm1 hof hk6).mono ?_; rintro e wy ⟨rfl, hL, o8⟩)
              have rO := rO.offTwo o8 hXq hXb
              clear c1 c2 c3 hP6 hA hF hn hk6 o6 o8
              obtain ⟨ps, qs, l, hP, hA, hF, hn⟩ := hL

              have hXu := rO.lt
              have rU : Row (wy.alloc (.cells #[.int .u64 0, .slice none 0 0] 33)) wy.heap.size #[.int .u64 0, .slice none 0 0] 33 := Row.new _ _ _
              have rO := rO.alloc (.cells #[.int .u64 0, .slice none 0 0] 33)
              have hUl := hP.be.size
              have hgl := hP.r.room.lt
              have hbl := hP.s.arr.lt
              have hal := hP.r.arr.lt
              have hql := hP.s.room.lt
              have hP := hP.down ((Below.refl _ _).alloc (Nat.le_refl _) (.cells #[.int .u64 0, .slice none 0 0] 33))
              have hz33 := zero33
              have hbu := built33
              go_upto_region 23 with fail
              clear hz33 hbu
              show Code.wp _ _ _ _ (wy.alloc (.cells #[.int .u64 0, .slice none 0 0] 33))
              generalize wy.alloc (.cells #[.int .u64 0, .slice none 0 0] 33) = wv at rU rO hP ⊢
              obtain ⟨U, hU⟩ : ∃ U, wy.heap.size = U := ⟨_, rfl⟩
              rw [hU] at rU hXu hUl hgl hbl hql hal ⊢
              clear hU
              have c1 := row_at rO 1 (.int .i64 no) rfl
              have hOl := pgO_len hP.s no
              by_cases hin : 0 ≤ no ∧ no < (k : Int)
              · obtain ⟨i, rfl⟩ : ∃ i : Nat, no = i := ⟨no.toNat, by omega⟩
                have h0 : (i : Int) ≥ 0 := by omega
                have h1 : (i : Int) < (k : Int) := by omega
                have hik : i < k := by omega
                obtain ⟨p, hp⟩ : ∃ p, qs[i]? = some p := ⟨qs[i]'(by omega), List.getElem?_eq_getElem (by omega)⟩
                have hpm := List.mem_of_getElem? hp
                have eL : pgL qs i = p.lsn := by unfold pgL; rw [if_pos (by rw [hn]; exact hin), Int.toNat_natCast, hp]; rfl
                have eO : pgO qs i = p.os := by unfold pgO; rw [if_pos (by rw [hn]; exact hin), Int.toNat_natCast, hp]; rfl
                go_upto_region 24 with fail
                clear c1 hin h0
                have rQ := hP.s.room
                have rB := hP.s.arr
                rw [hn] at rQ
                have hUq : q ≠ U := by omega
                have hUX : X ≠ U := by omega
                have hUb : b ≠ U := by omega
                obtain ⟨oa3, cap3, hform⟩ := (hP.s.olds p hpm).form
                have hUw : w.heap.size ≤ U := by omega
                have hUg : g ≠ U := by omega
                have hUa : a ≠ U := by omega
                refine wp_region_held_drew (S := fun w' => Row w' q #[.slice (some ⟨b, 0, none⟩) k k, .int .i64 l] 29 ∧ Row w' X #[.int .i64 0, .int .i64 i, .int .u64 lsn, .slice oa2 M cap2] 35 ∧ Row w' b (pcells qs).toArray 33 ∧ Below w.heap.size w w') (by kernel_rfl) ⟨rQ, rO, rB, hP.be.drew⟩ fun hS => ?_
                have rU : Row wv.drew U #[.int .u64 0, .slice none 0 0] 33 := rU
                have hPd : Pb w wv.drew g a q b ps qs l l := hP.down (Below.refl _ _).drew
                clear rO rQ rB hP
                generalize wv.drew = wd at hS hPd rU ⊢
                refine wpAnyH_take (i := 0) (v := .pointer (some ⟨q, 0, none⟩)) rfl (by kernel_rfl) (by kernel_rfl) (by kernel_rfl) (fun _ _ _ h => h) (Or.inl ⟨by rfl, fun w _ => by go_simp⟩) hS ?_
                try simp only [Act.put, List.getElem_toArray, List.getElem_cons_zero, List.getElem_cons_succ, List.setIfInBounds_toArray, List.set_cons_zero, List.set_cons_succ]
                refine wpAnyH_take (i := 1) (v := .pointer (some ⟨q, 0, none⟩)) rfl (by kernel_rfl) (by kernel_rfl) (by kernel_rfl) (fun _ _ _ h => h) (Or.inl ⟨by rfl, fun w _ => by go_simp⟩) hS ?_
                try simp only [Act.put, List.getElem_toArray, List.getElem_cons_zero, List.getElem_cons_succ, List.setIfInBounds_toArray, List.set_cons_zero, List.set_cons_succ]
                refine wpAnyH_take (i := 2) (v := .pointer (some ⟨q, 0, none⟩)) rfl (by kernel_rfl) (by kernel_rfl) (by kernel_rfl) (fun _ _ _ h => h) (Or.inl ⟨by rfl, fun w _ => by go_simp⟩) hS ?_
                try simp only [Act.put, List.getElem_toArray, List.getElem_cons_zero, List.getElem_cons_succ, List.setIfInBounds_toArray, List.set_cons_zero, List.set_cons_succ]
                refine wpAnyH_take (i := 3) (v := .slice (some ⟨b, 0, none⟩) k k) rfl (by kernel_rfl) (by kernel_rfl) (by kernel_rfl) (fun _ _ _ h => h) (Or.inl ⟨by rfl, fun w h => by have c := row_at h.1 0 _ rfl; go_simp⟩) hS ?_
                try simp only [Act.put, List.getElem_toArray, List.getElem_cons_zero, List.getElem_cons_succ, List.setIfInBounds_toArray, List.set_cons_zero, List.set_cons_succ]
                refine wpAnyH_take (i := 4) (v := .pointer (some ⟨X, 1, none⟩)) rfl (by kernel_rfl) (by kernel_rfl) (by kernel_rfl) (fun _ _ _ h => h) (Or.inl ⟨by rfl, fun w _ => by go_simp⟩) hS ?_
                try simp only [Act.put, List.getElem_toArray, List.getElem_cons_zero, List.getElem_cons_succ, List.setIfInBounds_toArray, List.set_cons_zero, List.set_cons_succ]
                refine wpAnyH_take (i := 5) (v := .int .i64 i) rfl (by kernel_rfl) (by kernel_rfl) (by kernel_rfl) (fun _ _ _ h => h) (Or.inl ⟨by rfl, fun w h => by have c := row_at h.2.1 1 _ rfl; go_simp⟩) hS ?_
                try simp only [Act.put, List.getElem_toArray, List.getElem_cons_zero, List.getElem_cons_succ, List.setIfInBounds_toArray, List.set_cons_zero, List.set_cons_succ]
                refine wpAnyH_take (i := 6) (v := .pointer (some ⟨b, i * 2, none⟩)) rfl (by kernel_rfl) (by kernel_rfl) (by kernel_rfl) (fun _ _ _ h => h) (Or.inl ⟨by rfl, fun w _ => by go_simp⟩) hS ?_
                try simp only [Act.put, List.getElem_toArray, List.getElem_cons_zero, List.getElem_cons_succ, List.setIfInBounds_toArray, List.set_cons_zero, List.set_cons_succ]
                refine wpAnyH_take (i := 7) (v := .agg #[.int .u64 p.lsn, p.v]) rfl (by kernel_rfl) (by kernel_rfl) (by kernel_rfl) (fun _ _ _ h => h) (yieldsIf_load_mid (by rfl) 33 (.tmp 116) rfl b (i * 2) rfl [.int .u64 p.lsn, p.v] _ (fun w h => range_pge h.2.2.1 hp) Try.underlying33 rfl size33) hS ?_
                try simp only [Act.put, List.getElem_toArray, List.getElem_cons_zero, List.getElem_cons_succ, List.setIfInBounds_toArray, List.set_cons_zero, List.set_cons_succ]
                refine wpAnyH_ready (rs := [8]) (by kernel_rfl) (by simp) ?_
                refine AllReadyH.cons rfl (fun K hK => ?_) AllReadyH.nil
                refine step_cells rfl 33 (.tmp 13) (.tmp 117) rfl U #[.int .u64 p.lsn, p.v] rfl rfl 33 _ rU 2 size33 rfl rfl (by rw [hform]; simp [Value.oneCell']) (hK.out _ _ ⟨hS.1.other hUq _, hS.2.1.other hUX _, hS.2.2.1.other hUb _, below_setRow hS.2.2.2 hUw _⟩ fun hS => ?_)
                try simp only [Act.put, List.getElem_toArray, List.getElem_cons_zero, List.getElem_cons_succ, List.setIfInBounds_toArray, List.set_cons_zero, List.set_cons_succ]
                have hP := hPd.put rU #[.int .u64 p.lsn, p.v] hUg hUa hUq hUb hUw
                have rU := rU.set #[.int .u64 p.lsn, p.v]
                refine wpAnyH_done (by kernel_rfl) ?_ _
                have rO := hS.2.1
                clear hS hPd
                generalize wd.setRow U #[.int .u64 p.lsn, p.v] = wz at hP rU rO ⊢
                have hOU : Olds wz p.v p.os := (hP.s.olds p hpm).olds
                have HPG : Hid (∀ wr, Below wz.heap.size wz wr → Calls Try.prog 12 #[.pointer (some ⟨g, 0, none⟩), .int .i64 (i : Int)] wr fun e w' => ∃ v', e = .returned (.agg #[.int .u64 p.lsn, v']) ∧ Olds w' v' p.os ∧ Below wr.heap.size wr w') := fun wr hb => by
                  have := pageL_any (hP.down hb) hA (i : Int)
                  rw [eL, eO] at this; exact this
                rw [eO] at hOl
                have hOl9 : (p.os).length ≤ 1000000000 := by omega
                clear eL eO hform hp hpm hUq hUX hUb hUw hUg hUa hik h1 hXu hUl hgl hbl hql hal hOl
                go_upto_region 25 with fail
                refine wp_region_held_drew (S := fun w' => Row w' X #[.int .i64 0, .int .i64 (i : Int), .int .u64 lsn, .slice oa2 M cap2] 35 ∧ Row w' U #[.int .u64 p.lsn, p.v] 33 ∧ Below wz.heap.size wz w') (by kernel_rfl) ⟨rO, rU, (Below.refl _ _).drew⟩ fun hS => ?_
                clear rO rU
                refine wpAnyH_take (i := 0) (v := .pointer (some ⟨g, 0, none⟩)) rfl (by kernel_rfl) (by kernel_rfl) (by kernel_rfl) (fun _ _ _ h => h) (Or.inl ⟨by rfl, fun w _ => by go_simp⟩) hS ?_
                try simp only [Act.put, List.getElem_toArray, List.getElem_cons_zero, List.getElem_cons_succ, List.setIfInBounds_toArray, List.set_cons_zero, List.set_cons_succ]
                refine wpAnyH_take (i := 1) (v := .pointer (some ⟨X, 1, none⟩)) rfl (by kernel_rfl) (by kernel_rfl) (by kernel_rfl) (fun _ _ _ h => h) (Or.inl ⟨by rfl, fun w _ => by go_simp⟩) hS ?_
                try simp only [Act.put, List.getElem_toArray, List.getElem_cons_zero, List.getElem_cons_succ, List.setIfInBounds_toArray, List.set_cons_zero, List.set_cons_succ]
                refine wpAnyH_take (i := 2) (v := .int .i64 (i : Int)) rfl (by kernel_rfl) (by kernel_rfl) (by kernel_rfl) (fun _ _ _ h => h) (Or.inl ⟨by rfl, fun w h => by have c := row_at h.1 1 _ rfl; go_simp⟩) hS ?_
                try simp only [Act.put, List.getElem_toArray, List.getElem_cons_zero, List.getElem_cons_succ, List.setIfInBounds_toArray, List.set_cons_zero, List.set_cons_succ]
                refine wpAnyH_take (i := 4) (v := .agg #[.int .u64 p.lsn, p.v]) rfl (by kernel_rfl) (by kernel_rfl) (by kernel_rfl) (fun _ _ _ h => h) (yields_cells (by rfl) 33 (.tmp 13) rfl U rfl 33 #[.int .u64 p.lsn, p.v] (fun w h => h.2.1) 2 Try.underlying33 rfl size33 rfl) hS ?_
                try simp only [Act.put, List.getElem_toArray, List.getElem_cons_zero, List.getElem_cons_succ, List.setIfInBounds_toArray, List.set_cons_zero, List.set_cons_succ]
                refine wpAnyH_ready (rs := [3]) (by kernel_rfl) (by simp) ?_
                refine AllReadyH.cons rfl (fun K hK => ?_) AllReadyH.nil
                go_simp
                go_at_call 12
                refine Calls.mono (HPG.out _ hS.2.2) ?_
                rintro e wc ⟨vp, rfl, hOp, hcb⟩
                refine hK.out _ _ (⟨hS.1.below hcb hS.1.lt, hS.2.1.below hcb hS.2.1.lt, hS.2.2.trans (hcb.mono hS.2.2.size)⟩) fun hS => ?_
                try simp only [Act.put, List.getElem_toArray, List.getElem_cons_zero, List.getElem_cons_succ, List.setIfInBounds_toArray, List.set_cons_zero, List.set_cons_succ]
                clear hcb
                refine wpAnyH_ready (rs := [5]) (by kernel_rfl) (by simp) ?_
                refine AllReadyH.cons rfl (fun K hK => ?_) AllReadyH.nil
                go_simp
                go_at_call 11
                refine Calls.mono (same_any p.lsn vp p.v p.os _ hOp (hOU.keep hS.2.2) hOl9) ?_
                rintro e w2_5 ⟨rfl, hcb⟩
                refine hK.out _ _ (⟨hS.1.below hcb hS.1.lt, hS.2.1.below hcb hS.2.1.lt, hS.2.2.trans (hcb.mono hS.2.2.size)⟩) fun hS => ?_
                try simp only [Act.put, List.getElem_toArray, List.getElem_cons_zero, List.getElem_cons_succ, List.setIfInBounds_toArray, List.set_cons_zero, List.set_cons_succ]
                clear hcb
                refine wpAnyH_take (i := 6) (v := .bool false) rfl (by kernel_rfl) (by kernel_rfl) (by kernel_rfl) (fun _ _ _ h => h) (Or.inl ⟨by rfl, fun w _ => by go_simp⟩) hS ?_
                try simp only [Act.put, List.getElem_toArray, List.getElem_cons_zero, List.getElem_cons_succ, List.setIfInBounds_toArray, List.set_cons_zero, List.set_cons_succ]
                refine wpAnyH_done (by kernel_rfl) ?_ _
                have bx := hS.2.2
                clear hS hOp
                go_wp2
                go_roundw
                case rel => exact ⟨j + 1, by go_num, by omega, by omega, ps, qs, l, hP.down bx, hA, hF, hn⟩
                case measure => simp [intOf]; omega
              · have eL : pgL qs no = 0 := by unfold pgL; rw [if_neg (by rw [hn]; exact hin)]
                have eO : pgO qs no = [] := by unfold pgO; rw [if_neg (by rw [hn]; exact hin)]
                have hOU : Olds wv (.slice none 0 0) [] := Or.inl ⟨rfl, rfl⟩
                by_cases h0 : no ≥ 0
                · have h1 : ¬ no < (k : Int) := fun q => hin ⟨h0, q⟩
                  have HPG : Hid (∀ wr, Below wv.heap.size wv wr → Calls Try.prog 12 #[.pointer (some ⟨g, 0, none⟩), .int .i64 no] wr fun e w' => ∃ v', e = .returned (.agg #[.int .u64 0, v']) ∧ Olds w' v' ([] : List O) ∧ Below wr.heap.size wr w') := fun wr hb => by
                    have := pageL_any (hP.down hb) hA no
                    rw [eL, eO] at this; exact this
                  rw [eO] at hOl
                  have hOl9 : (([] : List O)).length ≤ 1000000000 := by omega
                  clear eL eO hin hXu hUl hgl hbl hql hal hOl
                  go_upto_region 25 with fail
                  refine wp_region_held_drew (S := fun w' => Row w' X #[.int .i64 0, .int .i64 no, .int .u64 lsn, .slice oa2 M cap2] 35 ∧ Row w' U #[.int .u64 0, (.slice none 0 0)] 33 ∧ Below wv.heap.size wv w') (by kernel_rfl) ⟨rO, rU, (Below.refl _ _).drew⟩ fun hS => ?_
                  clear rO rU
                  refine wpAnyH_take (i := 0) (v := .pointer (some ⟨g, 0, none⟩)) rfl (by kernel_rfl) (by kernel_rfl) (by kernel_rfl) (fun _ _ _ h => h) (Or.inl ⟨by rfl, fun w _ => by go_simp⟩) hS ?_
                  try simp only [Act.put, List.getElem_toArray, List.getElem_cons_zero, List.getElem_cons_succ, List.setIfInBounds_toArray, List.set_cons_zero, List.set_cons_succ]
                  refine wpAnyH_take (i := 1) (v := .pointer (some ⟨X, 1, none⟩)) rfl (by kernel_rfl) (by kernel_rfl) (by kernel_rfl) (fun _ _ _ h => h) (Or.inl ⟨by rfl, fun w _ => by go_simp⟩) hS ?_
                  try simp only [Act.put, List.getElem_toArray, List.getElem_cons_zero, List.getElem_cons_succ, List.setIfInBounds_toArray, List.set_cons_zero, List.set_cons_succ]
                  refine wpAnyH_take (i := 2) (v := .int .i64 no) rfl (by kernel_rfl) (by kernel_rfl) (by kernel_rfl) (fun _ _ _ h => h) (Or.inl ⟨by rfl, fun w h => by have c := row_at h.1 1 _ rfl; go_simp⟩) hS ?_
                  try simp only [Act.put, List.getElem_toArray, List.getElem_cons_zero, List.getElem_cons_succ, List.setIfInBounds_toArray, List.set_cons_zero, List.set_cons_succ]
                  refine wpAnyH_take (i := 4) (v := .agg #[.int .u64 0, (.slice none 0 0)]) rfl (by kernel_rfl) (by kernel_rfl) (by kernel_rfl) (fun _ _ _ h => h) (yields_cells (by rfl) 33 (.tmp 13) rfl U rfl 33 #[.int .u64 0, (.slice none 0 0)] (fun w h => h.2.1) 2 Try.underlying33 rfl size33 rfl) hS ?_
                  try simp only [Act.put, List.getElem_toArray, List.getElem_cons_zero, List.getElem_cons_succ, List.setIfInBounds_toArray, List.set_cons_zero, List.set_cons_succ]
                  refine wpAnyH_ready (rs := [3]) (by kernel_rfl) (by simp) ?_
                  refine AllReadyH.cons rfl (fun K hK => ?_) AllReadyH.nil
                  go_simp
                  go_at_call 12
                  refine Calls.mono (HPG.out _ hS.2.2) ?_
                  rintro e wc ⟨vp, rfl, hOp, hcb⟩
                  refine hK.out _ _ (⟨hS.1.below hcb hS.1.lt, hS.2.1.below hcb hS.2.1.lt, hS.2.2.trans (hcb.mono hS.2.2.size)⟩) fun hS => ?_
                  try simp only [Act.put, List.getElem_toArray, List.getElem_cons_zero, List.getElem_cons_succ, List.setIfInBounds_toArray, List.set_cons_zero, List.set_cons_succ]
                  clear hcb
                  refine wpAnyH_ready (rs := [5]) (by kernel_rfl) (by simp) ?_
                  refine AllReadyH.cons rfl (fun K hK => ?_) AllReadyH.nil
                  go_simp
                  go_at_call 11
                  refine Calls.mono (same_any 0 vp (.slice none 0 0) ([] : List O) _ hOp (hOU.keep hS.2.2) hOl9) ?_
                  rintro e w2_5 ⟨rfl, hcb⟩
                  refine hK.out _ _ (⟨hS.1.below hcb hS.1.lt, hS.2.1.below hcb hS.2.1.lt, hS.2.2.trans (hcb.mono hS.2.2.size)⟩) fun hS => ?_
                  try simp only [Act.put, List.getElem_toArray, List.getElem_cons_zero, List.getElem_cons_succ, List.setIfInBounds_toArray, List.set_cons_zero, List.set_cons_succ]
                  clear hcb
                  refine wpAnyH_take (i := 6) (v := .bool false) rfl (by kernel_rfl) (by kernel_rfl) (by kernel_rfl) (fun _ _ _ h => h) (Or.inl ⟨by rfl, fun w _ => by go_simp⟩) hS ?_
                  try simp only [Act.put, List.getElem_toArray, List.getElem_cons_zero, List.getElem_cons_succ, List.setIfInBounds_toArray, List.set_cons_zero, List.set_cons_succ]
                  refine wpAnyH_done (by kernel_rfl) ?_ _
                  have bx := hS.2.2
                  clear hS hOp
                  go_wp2
                  go_roundw
                  case rel => exact ⟨j + 1, by go_num, by omega, by omega, ps, qs, l, hP.down bx, hA, hF, hn⟩
                  case measure => simp [intOf]; omega
                · skip
                  have HPG : Hid (∀ wr, Below wv.heap.size wv wr → Calls Try.prog 12 #[.pointer (some ⟨g, 0, none⟩), .int .i64 no] wr fun e w' => ∃ v', e = .returned (.agg #[.int .u64 0, v']) ∧ Olds w' v' ([] : List O) ∧ Below wr.heap.size wr w') := fun wr hb => by
                    have := pageL_any (hP.down hb) hA no
                    rw [eL, eO] at this; exact this
                  rw [eO] at hOl
                  have hOl9 : (([] : List O)).length ≤ 1000000000 := by omega
                  clear eL eO hin hXu hUl hgl hbl hql hal hOl
                  go_upto_region 25 with fail
                  refine wp_region_held_drew (S := fun w' => Row w' X #[.int .i64 0, .int .i64 no, .int .u64 lsn, .slice oa2 M cap2] 35 ∧ Row w' U #[.int .u64 0, (.slice none 0 0)] 33 ∧ Below wv.heap.size wv w') (by kernel_rfl) ⟨rO, rU, (Below.refl _ _).drew⟩ fun hS => ?_
                  clear rO rU
                  refine wpAnyH_take (i := 0) (v := .pointer (some ⟨g, 0, none⟩)) rfl (by kernel_rfl) (by kernel_rfl) (by kernel_rfl) (fun _ _ _ h => h) (Or.inl ⟨by rfl, fun w _ => by go_simp⟩) hS ?_
                  try simp only [Act.put, List.getElem_toArray, List.getElem_cons_zero, List.getElem_cons_succ, List.setIfInBounds_toArray, List.set_cons_zero, List.set_cons_succ]
                  refine wpAnyH_take (i := 1) (v := .pointer (some ⟨X, 1, none⟩)) rfl (by kernel_rfl) (by kernel_rfl) (by kernel_rfl) (fun _ _ _ h => h) (Or.inl ⟨by rfl, fun w _ => by go_simp⟩) hS ?_
                  try simp only [Act.put, List.getElem_toArray, List.getElem_cons_zero, List.getElem_cons_succ, List.setIfInBounds_toArray, List.set_cons_zero, List.set_cons_succ]
                  refine wpAnyH_take (i := 2) (v := .int .i64 no) rfl (by kernel_rfl) (by kernel_rfl) (by kernel_rfl) (fun _ _ _ h => h) (Or.inl ⟨by rfl, fun w h => by have c := row_at h.1 1 _ rfl; go_simp⟩) hS ?_
                  try simp only [Act.put, List.getElem_toArray, List.getElem_cons_zero, List.getElem_cons_succ, List.setIfInBounds_toArray, List.set_cons_zero, List.set_cons_succ]
                  refine wpAnyH_take (i := 4) (v := .agg #[.int .u64 0, (.slice none 0 0)]) rfl (by kernel_rfl) (by kernel_rfl) (by kernel_rfl) (fun _ _ _ h => h) (yields_cells (by rfl) 33 (.tmp 13) rfl U rfl 33 #[.int .u64 0, (.slice none 0 0)] (fun w h => h.2.1) 2 Try.underlying33 rfl size33 rfl) hS ?_
                  try simp only [Act.put, List.getElem_toArray, List.getElem_cons_zero, List.getElem_cons_succ, List.setIfInBounds_toArray, List.set_cons_zero, List.set_cons_succ]
                  refine wpAnyH_ready (rs := [3]) (by kernel_rfl) (by simp) ?_
                  refine AllReadyH.cons rfl (fun K hK => ?_) AllReadyH.nil
                  go_simp
                  go_at_call 12
                  refine Calls.mono (HPG.out _ hS.2.2) ?_
                  rintro e wc ⟨vp, rfl, hOp, hcb⟩
                  refine hK.out _ _ (⟨hS.1.below hcb hS.1.lt, hS.2.1.below hcb hS.2.1.lt, hS.2.2.trans (hcb.mono hS.2.2.size)⟩) fun hS => ?_
                  try simp only [Act.put, List.getElem_toArray, List.getElem_cons_zero, List.getElem_cons_succ, List.setIfInBounds_toArray, List.set_cons_zero, List.set_cons_succ]
                  clear hcb
                  refine wpAnyH_ready (rs := [5]) (by kernel_rfl) (by simp) ?_
                  refine AllReadyH.cons rfl (fun K hK => ?_) AllReadyH.nil
                  go_simp
                  go_at_call 11
                  refine Calls.mono (same_any 0 vp (.slice none 0 0) ([] : List O) _ hOp (hOU.keep hS.2.2) hOl9) ?_
                  rintro e w2_5 ⟨rfl, hcb⟩
                  refine hK.out _ _ (⟨hS.1.below hcb hS.1.lt, hS.2.1.below hcb hS.2.1.lt, hS.2.2.trans (hcb.mono hS.2.2.size)⟩) fun hS => ?_
                  try simp only [Act.put, List.getElem_toArray, List.getElem_cons_zero, List.getElem_cons_succ, List.setIfInBounds_toArray, List.set_cons_zero, List.set_cons_succ]
                  clear hcb
                  refine wpAnyH_take (i := 6) (v := .bool false) rfl (by kernel_rfl) (by kernel_rfl) (by kernel_rfl) (fun _ _ _ h => h) (Or.inl ⟨by rfl, fun w _ => by go_simp⟩) hS ?_
                  try simp only [Act.put, List.getElem_toArray, List.getElem_cons_zero, List.getElem_cons_succ, List.setIfInBounds_toArray, List.set_cons_zero, List.set_cons_succ]
                  refine wpAnyH_done (by kernel_rfl) ?_ _
                  have bx := hS.2.2
                  clear hS hOp
                  go_wp2
                  go_roundw
                  case rel => exact ⟨j + 1, by go_num, by omega, by omega, ps, qs, l, hP.down bx, hA, hF, hn⟩
                  case measure => simp [intOf]; omega
            · have hk0' : (kd == 0) = false := by simpa using hk0
              by_cases hk1' : kd = 1
              · subst hk1'
                have c1 := row_at rO 1 (.int .i64 no) rfl
                obtain ⟨fx, hfx⟩ : ∃ x, (findP qs l no).getD 0 = x := ⟨_, rfl⟩
                obtain ⟨fy, hfy⟩ : ∃ x, (findP qs l no).isSome = x := ⟨_, rfl⟩
                obtain ⟨fz, hfz⟩ : ∃ x, (findP qs l no).getD l = x := ⟨_, rfl⟩
                go_upto_region 22 with (first
                  | (go_at_call 9; refine (findR_any hP hA no fx fy fz hfx hfy hfz).mono ?_; rintro e wf ⟨rfl, hP2, o2⟩; have rO2 := rO.offTwo o2 hXg hXa; have c1 := row_at rO2 1 (.int .i64 no) rfl)
                  | (go_at_call 10; refine (findQ_any hP2 hF no fx fy fz hfx hfy hfz).mono ?_; rintro e wy ⟨rfl, hP3, o3⟩))
                have rO := rO2.offTwo o3 hXq hXb
                clear c1 hP hP2 o2 o3 rO2 hfx hfy hfz
                have hP := hP3
                obtain ⟨l, hl⟩ : ∃ l, fz = l := ⟨_, rfl⟩
                rw [hl] at hP
                clear hP3
                have hXu := rO.lt
                have rU : Row (wy.alloc (.cells #[.int .u64 0, .slice none 0 0] 33)) wy.heap.size #[.int .u64 0, .slice none 0 0] 33 := Row.new _ _ _
                have rO := rO.alloc (.cells #[.int .u64 0, .slice none 0 0] 33)
                have hUl := hP.be.size
                have hgl := hP.r.room.lt
                have hbl := hP.s.arr.lt
                have hal := hP.r.arr.lt
                have hql := hP.s.room.lt
                have hP := hP.down ((Below.refl _ _).alloc (Nat.le_refl _) (.cells #[.int .u64 0, .slice none 0 0] 33))
                have hz33 := zero33
                have hbu := built33
                go_upto_region 23 with fail
                clear hz33 hbu
                show Code.wp _ _ _ _ (wy.alloc (.cells #[.int .u64 0, .slice none 0 0] 33))
                generalize wy.alloc (.cells #[.int .u64 0, .slice none 0 0] 33) = wv at rU rO hP ⊢
                obtain ⟨U, hU⟩ : ∃ U, wy.heap.size = U := ⟨_, rfl⟩
                rw [hU] at rU hXu hUl hgl hbl hql hal ⊢
                clear hU
                have c1 := row_at rO 1 (.int .i64 no) rfl
                have hOl := pgO_len hP.s no
                by_cases hin : 0 ≤ no ∧ no < (k : Int)
                · obtain ⟨i, rfl⟩ : ∃ i : Nat, no = i := ⟨no.toNat, by omega⟩
                  have h0 : (i : Int) ≥ 0 := by omega
                  have h1 : (i : Int) < (k : Int) := by omega
                  have hik : i < k := by omega
                  obtain ⟨p, hp⟩ : ∃ p, qs[i]? = some p := ⟨qs[i]'(by omega), List.getElem?_eq_getElem (by omega)⟩
                  have hpm := List.mem_of_getElem? hp
                  have eL : pgL qs i = p.lsn := by unfold pgL; rw [if_pos (by rw [hn]; exact hin), Int.toNat_natCast, hp]; rfl
                  have eO : pgO qs i = p.os := by unfold pgO; rw [if_pos (by rw [hn]; exact hin), Int.toNat_natCast, hp]; rfl
                  go_upto_region 24 with fail
                  clear c1 hin h0
                  have rQ := hP.s.room
                  have rB := hP.s.arr
                  rw [hn] at rQ
                  have hUq : q ≠ U := by omega
                  have hUX : X ≠ U := by omega
                  have hUb : b ≠ U := by omega
                  obtain ⟨oa3, cap3, hform⟩ := (hP.s.olds p hpm).form
                  have hUw : w.heap.size ≤ U := by omega
                  have hUg : g ≠ U := by omega
                  have hUa : a ≠ U := by omega
                  refine wp_region_held_drew (S := fun w' => Row w' q #[.slice (some ⟨b, 0, none⟩) k k, .int .i64 l] 29 ∧ Row w' X #[.int .i64 1, .int .i64 i, .int .u64 lsn, .slice oa2 M cap2] 35 ∧ Row w' b (pcells qs).toArray 33 ∧ Below w.heap.size w w') (by kernel_rfl) ⟨rQ, rO, rB, hP.be.drew⟩ fun hS => ?_
                  have rU : Row wv.drew U #[.int .u64 0, .slice none 0 0] 33 := rU
                  have hPd : Pb w wv.drew g a q b ps qs l l := hP.down (Below.refl _ _).drew
                  clear rO rQ rB hP
                  generalize wv.drew = wd at hS hPd rU ⊢
                  refine wpAnyH_take (i := 0) (v := .pointer (some ⟨q, 0, none⟩)) rfl (by kernel_rfl) (by kernel_rfl) (by kernel_rfl) (fun _ _ _ h => h) (Or.inl ⟨by rfl, fun w _ => by go_simp⟩) hS ?_
                  try simp only [Act.put, List.getElem_toArray, List.getElem_cons_zero, List.getElem_cons_succ, List.setIfInBounds_toArray, List.set_cons_zero, List.set_cons_succ]
                  refine wpAnyH_take (i := 1) (v := .pointer (some ⟨q, 0, none⟩)) rfl (by kernel_rfl) (by kernel_rfl) (by kernel_rfl) (fun _ _ _ h => h) (Or.inl ⟨by rfl, fun w _ => by go_simp⟩) hS ?_
                  try simp only [Act.put, List.getElem_toArray, List.getElem_cons_zero, List.getElem_cons_succ, List.setIfInBounds_toArray, List.set_cons_zero, List.set_cons_succ]
                  refine wpAnyH_take (i := 2) (v := .pointer (some ⟨q, 0, none⟩)) rfl (by kernel_rfl) (by kernel_rfl) (by kernel_rfl) (fun _ _ _ h => h) (Or.inl ⟨by rfl, fun w _ => by go_simp⟩) hS ?_
                  try simp only [Act.put, List.getElem_toArray, List.getElem_cons_zero, List.getElem_cons_succ, List.setIfInBounds_toArray, List.set_cons_zero, List.set_cons_succ]
                  refine wpAnyH_take (i := 3) (v := .slice (some ⟨b, 0, none⟩) k k) rfl (by kernel_rfl) (by kernel_rfl) (by kernel_rfl) (fun _ _ _ h => h) (Or.inl ⟨by rfl, fun w h => by have c := row_at h.1 0 _ rfl; go_simp⟩) hS ?_
                  try simp only [Act.put, List.getElem_toArray, List.getElem_cons_zero, List.getElem_cons_succ, List.setIfInBounds_toArray, List.set_cons_zero, List.set_cons_succ]
                  refine wpAnyH_take (i := 4) (v := .pointer (some ⟨X, 1, none⟩)) rfl (by kernel_rfl) (by kernel_rfl) (by kernel_rfl) (fun _ _ _ h => h) (Or.inl ⟨by rfl, fun w _ => by go_simp⟩) hS ?_
                  try simp only [Act.put, List.getElem_toArray, List.getElem_cons_zero, List.getElem_cons_succ, List.setIfInBounds_toArray, List.set_cons_zero, List.set_cons_succ]
                  refine wpAnyH_take (i := 5) (v := .int .i64 i) rfl (by kernel_rfl) (by kernel_rfl) (by kernel_rfl) (fun _ _ _ h => h) (Or.inl ⟨by rfl, fun w h => by have c := row_at h.2.1 1 _ rfl; go_simp⟩) hS ?_
                  try simp only [Act.put, List.getElem_toArray, List.getElem_cons_zero, List.getElem_cons_succ, List.setIfInBounds_toArray, List.set_cons_zero, List.set_cons_succ]
                  refine wpAnyH_take (i := 6) (v := .pointer (some ⟨b, i * 2, none⟩)) rfl (by kernel_rfl) (by kernel_rfl) (by kernel_rfl) (fun _ _ _ h => h) (Or.inl ⟨by rfl, fun w _ => by go_simp⟩) hS ?_
                  try simp only [Act.put, List.getElem_toArray, List.getElem_cons_zero, List.getElem_cons_succ, List.setIfInBounds_toArray, List.set_cons_zero, List.set_cons_succ]
                  refine wpAnyH_take (i := 7) (v := .agg #[.int .u64 p.lsn, p.v]) rfl (by kernel_rfl) (by kernel_rfl) (by kernel_rfl) (fun _ _ _ h => h) (yieldsIf_load_mid (by rfl) 33 (.tmp 116) rfl b (i * 2) rfl [.int .u64 p.lsn, p.v] _ (fun w h => range_pge h.2.2.1 hp) Try.underlying33 rfl size33) hS ?_
                  try simp only [Act.put, List.getElem_toArray, List.getElem_cons_zero, List.getElem_cons_succ, List.setIfInBounds_toArray, List.set_cons_zero, List.set_cons_succ]
                  refine wpAnyH_ready (rs := [8]) (by kernel_rfl) (by simp) ?_
                  refine AllReadyH.cons rfl (fun K hK => ?_) AllReadyH.nil
                  refine step_cells rfl 33 (.tmp 13) (.tmp 117) rfl U #[.int .u64 p.lsn, p.v] rfl rfl 33 _ rU 2 size33 rfl rfl (by rw [hform]; simp [Value.oneCell']) (hK.out _ _ ⟨hS.1.other hUq _, hS.2.1.other hUX _, hS.2.2.1.other hUb _, below_setRow hS.2.2.2 hUw _⟩ fun hS => ?_)
                  try simp only [Act.put, List.getElem_toArray, List.getElem_cons_zero, List.getElem_cons_succ, List.setIfInBounds_toArray, List.set_cons_zero, List.set_cons_succ]
                  have hP := hPd.put rU #[.int .u64 p.lsn, p.v] hUg hUa hUq hUb hUw
                  have rU := rU.set #[.int .u64 p.lsn, p.v]
                  refine wpAnyH_done (by kernel_rfl) ?_ _
                  have rO := hS.2.1
                  clear hS hPd
                  generalize wd.setRow U #[.int .u64 p.lsn, p.v] = wz at hP rU rO ⊢
                  have hOU : Olds wz p.v p.os := (hP.s.olds p hpm).olds
                  have HPG : Hid (∀ wr, Below wz.heap.size wz wr → Calls Try.prog 12 #[.pointer (some ⟨g, 0, none⟩), .int .i64 (i : Int)] wr fun e w' => ∃ v', e = .returned (.agg #[.int .u64 p.lsn, v']) ∧ Olds w' v' p.os ∧ Below wr.heap.size wr w') := fun wr hb => by
                    have := pageL_any (hP.down hb) hA (i : Int)
                    rw [eL, eO] at this; exact this
                  rw [eO] at hOl
                  have hOl9 : (p.os).length ≤ 1000000000 := by omega
                  clear eL eO hform hp hpm hUq hUX hUb hUw hUg hUa hik h1 hXu hUl hgl hbl hql hal hOl
                  go_upto_region 25 with fail
                  refine wp_region_held_drew (S := fun w' => Row w' X #[.int .i64 1, .int .i64 (i : Int), .int .u64 lsn, .slice oa2 M cap2] 35 ∧ Row w' U #[.int .u64 p.lsn, p.v] 33 ∧ Below wz.heap.size wz w') (by kernel_rfl) ⟨rO, rU, (Below.refl _ _).drew⟩ fun hS => ?_
                  clear rO rU
                  refine wpAnyH_take (i := 0) (v := .pointer (some ⟨g, 0, none⟩)) rfl (by kernel_rfl) (by kernel_rfl) (by kernel_rfl) (fun _ _ _ h => h) (Or.inl ⟨by rfl, fun w _ => by go_simp⟩) hS ?_
                  try simp only [Act.put, List.getElem_toArray, List.getElem_cons_zero, List.getElem_cons_succ, List.setIfInBounds_toArray, List.set_cons_zero, List.set_cons_succ]
                  refine wpAnyH_take (i := 1) (v := .pointer (some ⟨X, 1, none⟩)) rfl (by kernel_rfl) (by kernel_rfl) (by kernel_rfl) (fun _ _ _ h => h) (Or.inl ⟨by rfl, fun w _ => by go_simp⟩) hS ?_
                  try simp only [Act.put, List.getElem_toArray, List.getElem_cons_zero, List.getElem_cons_succ, List.setIfInBounds_toArray, List.set_cons_zero, List.set_cons_succ]
                  refine wpAnyH_take (i := 2) (v := .int .i64 (i : Int)) rfl (by kernel_rfl) (by kernel_rfl) (by kernel_rfl) (fun _ _ _ h => h) (Or.inl ⟨by rfl, fun w h => by have c := row_at h.1 1 _ rfl; go_simp⟩) hS ?_
                  try simp only [Act.put, List.getElem_toArray, List.getElem_cons_zero, List.getElem_cons_succ, List.setIfInBounds_toArray, List.set_cons_zero, List.set_cons_succ]
                  refine wpAnyH_take (i := 4) (v := .agg #[.int .u64 p.lsn, p.v]) rfl (by kernel_rfl) (by kernel_rfl) (by kernel_rfl) (fun _ _ _ h => h) (yields_cells (by rfl) 33 (.tmp 13) rfl U rfl 33 #[.int .u64 p.lsn, p.v] (fun w h => h.2.1) 2 Try.underlying33 rfl size33 rfl) hS ?_
                  try simp only [Act.put, List.getElem_toArray, List.getElem_cons_zero, List.getElem_cons_succ, List.setIfInBounds_toArray, List.set_cons_zero, List.set_cons_succ]
                  refine wpAnyH_ready (rs := [3]) (by kernel_rfl) (by simp) ?_
                  refine AllReadyH.cons rfl (fun K hK => ?_) AllReadyH.nil
                  go_simp
                  go_at_call 12
                  refine Calls.mono (HPG.out _ hS.2.2) ?_
                  rintro e wc ⟨vp, rfl, hOp, hcb⟩
                  refine hK.out _ _ (⟨hS.1.below hcb hS.1.lt, hS.2.1.below hcb hS.2.1.lt, hS.2.2.trans (hcb.mono hS.2.2.size)⟩) fun hS => ?_
                  try simp only [Act.put, List.getElem_toArray, List.getElem_cons_zero, List.getElem_cons_succ, List.setIfInBounds_toArray, List.set_cons_zero, List.set_cons_succ]
                  clear hcb
                  refine wpAnyH_ready (rs := [5]) (by kernel_rfl) (by simp) ?_
                  refine AllReadyH.cons rfl (fun K hK => ?_) AllReadyH.nil
                  go_simp
                  go_at_call 11
                  refine Calls.mono (same_any p.lsn vp p.v p.os _ hOp (hOU.keep hS.2.2) hOl9) ?_
                  rintro e w2_5 ⟨rfl, hcb⟩
                  refine hK.out _ _ (⟨hS.1.below hcb hS.1.lt, hS.2.1.below hcb hS.2.1.lt, hS.2.2.trans (hcb.mono hS.2.2.size)⟩) fun hS => ?_
                  try simp only [Act.put, List.getElem_toArray, List.getElem_cons_zero, List.getElem_cons_succ, List.setIfInBounds_toArray, List.set_cons_zero, List.set_cons_succ]
                  clear hcb
                  refine wpAnyH_take (i := 6) (v := .bool false) rfl (by kernel_rfl) (by kernel_rfl) (by kernel_rfl) (fun _ _ _ h => h) (Or.inl ⟨by rfl, fun w _ => by go_simp⟩) hS ?_
                  try simp only [Act.put, List.getElem_toArray, List.getElem_cons_zero, List.getElem_cons_succ, List.setIfInBounds_toArray, List.set_cons_zero, List.set_cons_succ]
                  refine wpAnyH_done (by kernel_rfl) ?_ _
                  have bx := hS.2.2
                  clear hS hOp
                  go_wp2
                  go_roundw
                  case rel => exact ⟨j + 1, by go_num, by omega, by omega, ps, qs, l, hP.down bx, hA, hF, hn⟩
                  case measure => simp [intOf]; omega
                · have eL : pgL qs no = 0 := by unfold pgL; rw [if_neg (by rw [hn]; exact hin)]
                  have eO : pgO qs no = [] := by unfold pgO; rw [if_neg (by rw [hn]; exact hin)]
                  have hOU : Olds wv (.slice none 0 0) [] := Or.inl ⟨rfl, rfl⟩
                  by_cases h0 : no ≥ 0
                  · have h1 : ¬ no < (k : Int) := fun q => hin ⟨h0, q⟩
                    have HPG : Hid (∀ wr, Below wv.heap.size wv wr → Calls Try.prog 12 #[.pointer (some ⟨g, 0, none⟩), .int .i64 no] wr fun e w' => ∃ v', e = .returned (.agg #[.int .u64 0, v']) ∧ Olds w' v' ([] : List O) ∧ Below wr.heap.size wr w') := fun wr hb => by
                      have := pageL_any (hP.down hb) hA no
                      rw [eL, eO] at this; exact this
                    rw [eO] at hOl
                    have hOl9 : (([] : List O)).length ≤ 1000000000 := by omega
                    clear eL eO hin hXu hUl hgl hbl hql hal hOl
                    go_upto_region 25 with fail
                    refine wp_region_held_drew (S := fun w' => Row w' X #[.int .i64 1, .int .i64 no, .int .u64 lsn, .slice oa2 M cap2] 35 ∧ Row w' U #[.int .u64 0, (.slice none 0 0)] 33 ∧ Below wv.heap.size wv w') (by kernel_rfl) ⟨rO, rU, (Below.refl _ _).drew⟩ fun hS => ?_
                    clear rO rU
                    refine wpAnyH_take (i := 0) (v := .pointer (some ⟨g, 0, none⟩)) rfl (by kernel_rfl) (by kernel_rfl) (by kernel_rfl) (fun _ _ _ h => h) (Or.inl ⟨by rfl, fun w _ => by go_simp⟩) hS ?_
                    try simp only [Act.put, List.getElem_toArray, List.getElem_cons_zero, List.getElem_cons_succ, List.setIfInBounds_toArray, List.set_cons_zero, List.set_cons_succ]
                    refine wpAnyH_take (i := 1) (v := .pointer (some ⟨X, 1, none⟩)) rfl (by kernel_rfl) (by kernel_rfl) (by kernel_rfl) (fun _ _ _ h => h) (Or.inl ⟨by rfl, fun w _ => by go_simp⟩) hS ?_
                    try simp only [Act.put, List.getElem_toArray, List.getElem_cons_zero, List.getElem_cons_succ, List.setIfInBounds_toArray, List.set_cons_zero, List.set_cons_succ]
                    refine wpAnyH_take (i := 2) (v := .int .i64 no) rfl (by kernel_rfl) (by kernel_rfl) (by kernel_rfl) (fun _ _ _ h => h) (Or.inl ⟨by rfl, fun w h => by have c := row_at h.1 1 _ rfl; go_simp⟩) hS ?_
                    try simp only [Act.put, List.getElem_toArray, List.getElem_cons_zero, List.getElem_cons_succ, List.setIfInBounds_toArray, List.set_cons_zero, List.set_cons_succ]
                    refine wpAnyH_take (i := 4) (v := .agg #[.int .u64 0, (.slice none 0 0)]) rfl (by kernel_rfl) (by kernel_rfl) (by kernel_rfl) (fun _ _ _ h => h) (yields_cells (by rfl) 33 (.tmp 13) rfl U rfl 33 #[.int .u64 0, (.slice none 0 0)] (fun w h => h.2.1) 2 Try.underlying33 rfl size33 rfl) hS ?_
                    try simp only [Act.put, List.getElem_toArray, List.getElem_cons_zero, List.getElem_cons_succ, List.setIfInBounds_toArray, List.set_cons_zero, List.set_cons_succ]
                    refine wpAnyH_ready (rs := [3]) (by kernel_rfl) (by simp) ?_
                    refine AllReadyH.cons rfl (fun K hK => ?_) AllReadyH.nil
                    go_simp
                    go_at_call 12
                    refine Calls.mono (HPG.out _ hS.2.2) ?_
                    rintro e wc ⟨vp, rfl, hOp, hcb⟩
                    refine hK.out _ _ (⟨hS.1.below hcb hS.1.lt, hS.2.1.below hcb hS.2.1.lt, hS.2.2.trans (hcb.mono hS.2.2.size)⟩) fun hS => ?_
                    try simp only [Act.put, List.getElem_toArray, List.getElem_cons_zero, List.getElem_cons_succ, List.setIfInBounds_toArray, List.set_cons_zero, List.set_cons_succ]
                    clear hcb
                    refine wpAnyH_ready (rs := [5]) (by kernel_rfl) (by simp) ?_
                    refine AllReadyH.cons rfl (fun K hK => ?_) AllReadyH.nil
                    go_simp
                    go_at_call 11
                    refine Calls.mono (same_any 0 vp (.slice none 0 0) ([] : List O) _ hOp (hOU.keep hS.2.2) hOl9) ?_
                    rintro e w2_5 ⟨rfl, hcb⟩
                    refine hK.out _ _ (⟨hS.1.below hcb hS.1.lt, hS.2.1.below hcb hS.2.1.lt, hS.2.2.trans (hcb.mono hS.2.2.size)⟩) fun hS => ?_
                    try simp only [Act.put, List.getElem_toArray, List.getElem_cons_zero, List.getElem_cons_succ, List.setIfInBounds_toArray, List.set_cons_zero, List.set_cons_succ]
                    clear hcb
                    refine wpAnyH_take (i := 6) (v := .bool false) rfl (by kernel_rfl) (by kernel_rfl) (by kernel_rfl) (fun _ _ _ h => h) (Or.inl ⟨by rfl, fun w _ => by go_simp⟩) hS ?_
                    try simp only [Act.put, List.getElem_toArray, List.getElem_cons_zero, List.getElem_cons_succ, List.setIfInBounds_toArray, List.set_cons_zero, List.set_cons_succ]
                    refine wpAnyH_done (by kernel_rfl) ?_ _
                    have bx := hS.2.2
                    clear hS hOp
                    go_wp2
                    go_roundw
                    case rel => exact ⟨j + 1, by go_num, by omega, by omega, ps, qs, l, hP.down bx, hA, hF, hn⟩
                    case measure => simp [intOf]; omega
                  · skip
                    have HPG : Hid (∀ wr, Below wv.heap.size wv wr → Calls Try.prog 12 #[.pointer (some ⟨g, 0, none⟩), .int .i64 no] wr fun e w' => ∃ v', e = .returned (.agg #[.int .u64 0, v']) ∧ Olds w' v' ([] : List O) ∧ Below wr.heap.size wr w') := fun wr hb => by
                      have := pageL_any (hP.down hb) hA no
                      rw [eL, eO] at this; exact this
                    rw [eO] at hOl
                    have hOl9 : (([] : List O)).length ≤ 1000000000 := by omega
                    clear eL eO hin hXu hUl hgl hbl hql hal hOl
                    go_upto_region 25 with fail
                    refine wp_region_held_drew (S := fun w' => Row w' X #[.int .i64 1, .int .i64 no, .int .u64 lsn, .slice oa2 M cap2] 35 ∧ Row w' U #[.int .u64 0, (.slice none 0 0)] 33 ∧ Below wv.heap.size wv w') (by kernel_rfl) ⟨rO, rU, (Below.refl _ _).drew⟩ fun hS => ?_
                    clear rO rU
                    refine wpAnyH_take (i := 0) (v := .pointer (some ⟨g, 0, none⟩)) rfl (by kernel_rfl) (by kernel_rfl) (by kernel_rfl) (fun _ _ _ h => h) (Or.inl ⟨by rfl, fun w _ => by go_simp⟩) hS ?_
                    try simp only [Act.put, List.getElem_toArray, List.getElem_cons_zero, List.getElem_cons_succ, List.setIfInBounds_toArray, List.set_cons_zero, List.set_cons_succ]
                    refine wpAnyH_take (i := 1) (v := .pointer (some ⟨X, 1, none⟩)) rfl (by kernel_rfl) (by kernel_rfl) (by kernel_rfl) (fun _ _ _ h => h) (Or.inl ⟨by rfl, fun w _ => by go_simp⟩) hS ?_
                    try simp only [Act.put, List.getElem_toArray, List.getElem_cons_zero, List.getElem_cons_succ, List.setIfInBounds_toArray, List.set_cons_zero, List.set_cons_succ]
                    refine wpAnyH_take (i := 2) (v := .int .i64 no) rfl (by kernel_rfl) (by kernel_rfl) (by kernel_rfl) (fun _ _ _ h => h) (Or.inl ⟨by rfl, fun w h => by have c := row_at h.1 1 _ rfl; go_simp⟩) hS ?_
                    try simp only [Act.put, List.getElem_toArray, List.getElem_cons_zero, List.getElem_cons_succ, List.setIfInBounds_toArray, List.set_cons_zero, List.set_cons_succ]
                    refine wpAnyH_take (i := 4) (v := .agg #[.int .u64 0, (.slice none 0 0)]) rfl (by kernel_rfl) (by kernel_rfl) (by kernel_rfl) (fun _ _ _ h => h) (yields_cells (by rfl) 33 (.tmp 13) rfl U rfl 33 #[.int .u64 0, (.slice none 0 0)] (fun w h => h.2.1) 2 Try.underlying33 rfl size33 rfl) hS ?_
                    try simp only [Act.put, List.getElem_toArray, List.getElem_cons_zero, List.getElem_cons_succ, List.setIfInBounds_toArray, List.set_cons_zero, List.set_cons_succ]
                    refine wpAnyH_ready (rs := [3]) (by kernel_rfl) (by simp) ?_
                    refine AllReadyH.cons rfl (fun K hK => ?_) AllReadyH.nil
                    go_simp
                    go_at_call 12
                    refine Calls.mono (HPG.out _ hS.2.2) ?_
                    rintro e wc ⟨vp, rfl, hOp, hcb⟩
                    refine hK.out _ _ (⟨hS.1.below hcb hS.1.lt, hS.2.1.below hcb hS.2.1.lt, hS.2.2.trans (hcb.mono hS.2.2.size)⟩) fun hS => ?_
                    try simp only [Act.put, List.getElem_toArray, List.getElem_cons_zero, List.getElem_cons_succ, List.setIfInBounds_toArray, List.set_cons_zero, List.set_cons_succ]
                    clear hcb
                    refine wpAnyH_ready (rs := [5]) (by kernel_rfl) (by simp) ?_
                    refine AllReadyH.cons rfl (fun K hK => ?_) AllReadyH.nil
                    go_simp
                    go_at_call 11
                    refine Calls.mono (same_any 0 vp (.slice none 0 0) ([] : List O) _ hOp (hOU.keep hS.2.2) hOl9) ?_
                    rintro e w2_5 ⟨rfl, hcb⟩
                    refine hK.out _ _ (⟨hS.1.below hcb hS.1.lt, hS.2.1.below hcb hS.2.1.lt, hS.2.2.trans (hcb.mono hS.2.2.size)⟩) fun hS => ?_
                    try simp only [Act.put, List.getElem_toArray, List.getElem_cons_zero, List.getElem_cons_succ, List.setIfInBounds_toArray, List.set_cons_zero, List.set_cons_succ]
                    clear hcb
                    refine wpAnyH_take (i := 6) (v := .bool false) rfl (by kernel_rfl) (by kernel_rfl) (by kernel_rfl) (fun _ _ _ h => h) (Or.inl ⟨by rfl, fun w _ => by go_simp⟩) hS ?_
                    try simp only [Act.put, List.getElem_toArray, List.getElem_cons_zero, List.getElem_cons_succ, List.setIfInBounds_toArray, List.set_cons_zero, List.set_cons_succ]
                    refine wpAnyH_done (by kernel_rfl) ?_ _
                    have bx := hS.2.2
                    clear hS hOp
                    go_wp2
                    go_roundw
                    case rel => exact ⟨j + 1, by go_num, by omega, by omega, ps, qs, l, hP.down bx, hA, hF, hn⟩
                    case measure => simp [intOf]; omega
              · have hk1'' : (kd == 1) = false := by simpa using hk1'
                clear hk0 hk1'
                have c1 := row_at rO 1 (.int .i64 no) rfl
                go_upto_region 22 with fail
                clear c1
                have hXu := rO.lt
                have rU : Row (wx.alloc (.cells #[.int .u64 0, .slice none 0 0] 33)) wx.heap.size #[.int .u64 0, .slice none 0 0] 33 := Row.new _ _ _
                have rO := rO.alloc (.cells #[.int .u64 0, .slice none 0 0] 33)
                have hUl := hP.be.size
                have hgl := hP.r.room.lt
                have hbl := hP.s.arr.lt
                have hal := hP.r.arr.lt
                have hql := hP.s.room.lt
                have hP := hP.down ((Below.refl _ _).alloc (Nat.le_refl _) (.cells #[.int .u64 0, .slice none 0 0] 33))
                have hz33 := zero33
                have hbu := built33
                go_upto_region 23 with fail
                clear hz33 hbu
                show Code.wp _ _ _ _ (wx.alloc (.cells #[.int .u64 0, .slice none 0 0] 33))
                generalize wx.alloc (.cells #[.int .u64 0, .slice none 0 0] 33) = wv at rU rO hP ⊢
                obtain ⟨U, hU⟩ : ∃ U, wx.heap.size = U := ⟨_, rfl⟩
                rw [hU] at rU hXu hUl hgl hbl hql hal ⊢
                clear hU
                have c1 := row_at rO 1 (.int .i64 no) rfl
                have hOl := pgO_len hP.s no
                by_cases hin : 0 ≤ no ∧ no < (k : Int)
                · obtain ⟨i, rfl⟩ : ∃ i : Nat, no = i := ⟨no.toNat, by omega⟩
                  have h0 : (i : Int) ≥ 0 := by omega
                  have h1 : (i : Int) < (k : Int) := by omega
                  have hik : i < k := by omega
                  obtain ⟨p, hp⟩ : ∃ p, qs[i]? = some p := ⟨qs[i]'(by omega), List.getElem?_eq_getElem (by omega)⟩
                  have hpm := List.mem_of_getElem? hp
                  have eL : pgL qs i = p.lsn := by unfold pgL; rw [if_pos (by rw [hn]; exact hin), Int.toNat_natCast, hp]; rfl
                  have eO : pgO qs i = p.os := by unfold pgO; rw [if_pos (by rw [hn]; exact hin), Int.toNat_natCast, hp]; rfl
                  go_upto_region 24 with fail
                  clear c1 hin h0
                  have rQ := hP.s.room
                  have rB := hP.s.arr
                  rw [hn] at rQ
                  have hUq : q ≠ U := by omega
                  have hUX : X ≠ U := by omega
                  have hUb : b ≠ U := by omega
                  obtain ⟨oa3, cap3, hform⟩ := (hP.s.olds p hpm).form
                  have hUw : w.heap.size ≤ U := by omega
                  have hUg : g ≠ U := by omega
                  have hUa : a ≠ U := by omega
                  refine wp_region_held_drew (S := fun w' => Row w' q #[.slice (some ⟨b, 0, none⟩) k k, .int .i64 l] 29 ∧ Row w' X #[.int .i64 kd, .int .i64 i, .int .u64 lsn, .slice oa2 M cap2] 35 ∧ Row w' b (pcells qs).toArray 33 ∧ Below w.heap.size w w') (by kernel_rfl) ⟨rQ, rO, rB, hP.be.drew⟩ fun hS => ?_
                  have rU : Row wv.drew U #[.int .u64 0, .slice none 0 0] 33 := rU
                  have hPd : Pb w wv.drew g a q b ps qs l l := hP.down (Below.refl _ _).drew
                  clear rO rQ rB hP
                  generalize wv.drew = wd at hS hPd rU ⊢
                  refine wpAnyH_take (i := 0) (v := .pointer (some ⟨q, 0, none⟩)) rfl (by kernel_rfl) (by kernel_rfl) (by kernel_rfl) (fun _ _ _ h => h) (Or.inl ⟨by rfl, fun w _ => by go_simp⟩) hS ?_
                  try simp only [Act.put, List.getElem_toArray, List.getElem_cons_zero, List.getElem_cons_succ, List.setIfInBounds_toArray, List.set_cons_zero, List.set_cons_succ]
                  refine wpAnyH_take (i := 1) (v := .pointer (some ⟨q, 0, none⟩)) rfl (by kernel_rfl) (by kernel_rfl) (by kernel_rfl) (fun _ _ _ h => h) (Or.inl ⟨by rfl, fun w _ => by go_simp⟩) hS ?_
                  try simp only [Act.put, List.getElem_toArray, List.getElem_cons_zero, List.getElem_cons_succ, List.setIfInBounds_toArray, List.set_cons_zero, List.set_cons_succ]
                  refine wpAnyH_take (i := 2) (v := .pointer (some ⟨q, 0, none⟩)) rfl (by kernel_rfl) (by kernel_rfl) (by kernel_rfl) (fun _ _ _ h => h) (Or.inl ⟨by rfl, fun w _ => by go_simp⟩) hS ?_
                  try simp only [Act.put, List.getElem_toArray, List.getElem_cons_zero, List.getElem_cons_succ, List.setIfInBounds_toArray, List.set_cons_zero, List.set_cons_succ]
                  refine wpAnyH_take (i := 3) (v := .slice (some ⟨b, 0, none⟩) k k) rfl (by kernel_rfl) (by kernel_rfl) (by kernel_rfl) (fun _ _ _ h => h) (Or.inl ⟨by rfl, fun w h => by have c := row_at h.1 0 _ rfl; go_simp⟩) hS ?_
                  try simp only [Act.put, List.getElem_toArray, List.getElem_cons_zero, List.getElem_cons_succ, List.setIfInBounds_toArray, List.set_cons_zero, List.set_cons_succ]
                  refine wpAnyH_take (i := 4) (v := .pointer (some ⟨X, 1, none⟩)) rfl (by kernel_rfl) (by kernel_rfl) (by kernel_rfl) (fun _ _ _ h => h) (Or.inl ⟨by rfl, fun w _ => by go_simp⟩) hS ?_
                  try simp only [Act.put, List.getElem_toArray, List.getElem_cons_zero, List.getElem_cons_succ, List.setIfInBounds_toArray, List.set_cons_zero, List.set_cons_succ]
                  refine wpAnyH_take (i := 5) (v := .int .i64 i) rfl (by kernel_rfl) (by kernel_rfl) (by kernel_rfl) (fun _ _ _ h => h) (Or.inl ⟨by rfl, fun w h => by have c := row_at h.2.1 1 _ rfl; go_simp⟩) hS ?_
                  try simp only [Act.put, List.getElem_toArray, List.getElem_cons_zero, List.getElem_cons_succ, List.setIfInBounds_toArray, List.set_cons_zero, List.set_cons_succ]
                  refine wpAnyH_take (i := 6) (v := .pointer (some ⟨b, i * 2, none⟩)) rfl (by kernel_rfl) (by kernel_rfl) (by kernel_rfl) (fun _ _ _ h => h) (Or.inl ⟨by rfl, fun w _ => by go_simp⟩) hS ?_
                  try simp only [Act.put, List.getElem_toArray, List.getElem_cons_zero, List.getElem_cons_succ, List.setIfInBounds_toArray, List.set_cons_zero, List.set_cons_succ]
                  refine wpAnyH_take (i := 7) (v := .agg #[.int .u64 p.lsn, p.v]) rfl (by kernel_rfl) (by kernel_rfl) (by kernel_rfl) (fun _ _ _ h => h) (yieldsIf_load_mid (by rfl) 33 (.tmp 116) rfl b (i * 2) rfl [.int .u64 p.lsn, p.v] _ (fun w h => range_pge h.2.2.1 hp) Try.underlying33 rfl size33) hS ?_
                  try simp only [Act.put, List.getElem_toArray, List.getElem_cons_zero, List.getElem_cons_succ, List.setIfInBounds_toArray, List.set_cons_zero, List.set_cons_succ]
                  refine wpAnyH_ready (rs := [8]) (by kernel_rfl) (by simp) ?_
                  refine AllReadyH.cons rfl (fun K hK => ?_) AllReadyH.nil
                  refine step_cells rfl 33 (.tmp 13) (.tmp 117) rfl U #[.int .u64 p.lsn, p.v] rfl rfl 33 _ rU 2 size33 rfl rfl (by rw [hform]; simp [Value.oneCell']) (hK.out _ _ ⟨hS.1.other hUq _, hS.2.1.other hUX _, hS.2.2.1.other hUb _, below_setRow hS.2.2.2 hUw _⟩ fun hS => ?_)
                  try simp only [Act.put, List.getElem_toArray, List.getElem_cons_zero, List.getElem_cons_succ, List.setIfInBounds_toArray, List.set_cons_zero, List.set_cons_succ]
                  have hP := hPd.put rU #[.int .u64 p.lsn, p.v] hUg hUa hUq hUb hUw
                  have rU := rU.set #[.int .u64 p.lsn, p.v]
                  refine wpAnyH_done (by kernel_rfl) ?_ _
                  have rO := hS.2.1
                  clear hS hPd
                  generalize wd.setRow U #[.int .u64 p.lsn, p.v] = wz at hP rU rO ⊢
                  have hOU : Olds wz p.v p.os := (hP.s.olds p hpm).olds
                  have HPG : Hid (∀ wr, Below wz.heap.size wz wr → Calls Try.prog 12 #[.pointer (some ⟨g, 0, none⟩), .int .i64 (i : Int)] wr fun e w' => ∃ v', e = .returned (.agg #[.int .u64 p.lsn, v']) ∧ Olds w' v' p.os ∧ Below wr.heap.size wr w') := fun wr hb => by
                    have := pageL_any (hP.down hb) hA (i : Int)
                    rw [eL, eO] at this; exact this
                  rw [eO] at hOl
                  have hOl9 : (p.os).length ≤ 1000000000 := by omega
                  clear eL eO hform hp hpm hUq hUX hUb hUw hUg hUa hik h1 hXu hUl hgl hbl hql hal hOl
                  go_upto_region 25 with fail
                  refine wp_region_held_drew (S := fun w' => Row w' X #[.int .i64 kd, .int .i64 (i : Int), .int .u64 lsn, .slice oa2 M cap2] 35 ∧ Row w' U #[.int .u64 p.lsn, p.v] 33 ∧ Below wz.heap.size wz w') (by kernel_rfl) ⟨rO, rU, (Below.refl _ _).drew⟩ fun hS => ?_
                  clear rO rU
                  refine wpAnyH_take (i := 0) (v := .pointer (some ⟨g, 0, none⟩)) rfl (by kernel_rfl) (by kernel_rfl) (by kernel_rfl) (fun _ _ _ h => h) (Or.inl ⟨by rfl, fun w _ => by go_simp⟩) hS ?_
                  try simp only [Act.put, List.getElem_toArray, List.getElem_cons_zero, List.getElem_cons_succ, List.setIfInBounds_toArray, List.set_cons_zero, List.set_cons_succ]
                  refine wpAnyH_take (i := 1) (v := .pointer (some ⟨X, 1, none⟩)) rfl (by kernel_rfl) (by kernel_rfl) (by kernel_rfl) (fun _ _ _ h => h) (Or.inl ⟨by rfl, fun w _ => by go_simp⟩) hS ?_
                  try simp only [Act.put, List.getElem_toArray, List.getElem_cons_zero, List.getElem_cons_succ, List.setIfInBounds_toArray, List.set_cons_zero, List.set_cons_succ]
                  refine wpAnyH_take (i := 2) (v := .int .i64 (i : Int)) rfl (by kernel_rfl) (by kernel_rfl) (by kernel_rfl) (fun _ _ _ h => h) (Or.inl ⟨by rfl, fun w h => by have c := row_at h.1 1 _ rfl; go_simp⟩) hS ?_
                  try simp only [Act.put, List.getElem_toArray, List.getElem_cons_zero, List.getElem_cons_succ, List.setIfInBounds_toArray, List.set_cons_zero, List.set_cons_succ]
                  refine wpAnyH_take (i := 4) (v := .agg #[.int .u64 p.lsn, p.v]) rfl (by kernel_rfl) (by kernel_rfl) (by kernel_rfl) (fun _ _ _ h => h) (yields_cells (by rfl) 33 (.tmp 13) rfl U rfl 33 #[.int .u64 p.lsn, p.v] (fun w h => h.2.1) 2 Try.underlying33 rfl size33 rfl) hS ?_
                  try simp only [Act.put, List.getElem_toArray, List.getElem_cons_zero, List.getElem_cons_succ, List.setIfInBounds_toArray, List.set_cons_zero, List.set_cons_succ]
                  refine wpAnyH_ready (rs := [3]) (by kernel_rfl) (by simp) ?_
                  refine AllReadyH.cons rfl (fun K hK => ?_) AllReadyH.nil
                  go_simp
                  go_at_call 12
                  refine Calls.mono (HPG.out _ hS.2.2) ?_
                  rintro e wc ⟨vp, rfl, hOp, hcb⟩
                  refine hK.out _ _ (⟨hS.1.below hcb hS.1.lt, hS.2.1.below hcb hS.2.1.lt, hS.2.2.trans (hcb.mono hS.2.2.size)⟩) fun hS => ?_
                  try simp only [Act.put, List.getElem_toArray, List.getElem_cons_zero, List.getElem_cons_succ, List.setIfInBounds_toArray, List.set_cons_zero, List.set_cons_succ]
                  clear hcb
                  refine wpAnyH_ready (rs := [5]) (by kernel_rfl) (by simp) ?_
                  refine AllReadyH.cons rfl (fun K hK => ?_) AllReadyH.nil
                  go_simp
                  go_at_call 11
                  refine Calls.mono (same_any p.lsn vp p.v p.os _ hOp (hOU.keep hS.2.2) hOl9) ?_
                  rintro e w2_5 ⟨rfl, hcb⟩
                  refine hK.out _ _ (⟨hS.1.below hcb hS.1.lt, hS.2.1.below hcb hS.2.1.lt, hS.2.2.trans (hcb.mono hS.2.2.size)⟩) fun hS => ?_
                  try simp only [Act.put, List.getElem_toArray, List.getElem_cons_zero, List.getElem_cons_succ, List.setIfInBounds_toArray, List.set_cons_zero, List.set_cons_succ]
                  clear hcb
                  refine wpAnyH_take (i := 6) (v := .bool false) rfl (by kernel_rfl) (by kernel_rfl) (by kernel_rfl) (fun _ _ _ h => h) (Or.inl ⟨by rfl, fun w _ => by go_simp⟩) hS ?_
                  try simp only [Act.put, List.getElem_toArray, List.getElem_cons_zero, List.getElem_cons_succ, List.setIfInBounds_toArray, List.set_cons_zero, List.set_cons_succ]
                  refine wpAnyH_done (by kernel_rfl) ?_ _
                  have bx := hS.2.2
                  clear hS hOp
                  go_wp2
                  go_roundw
                  case rel => exact ⟨j + 1, by go_num, by omega, by omega, ps, qs, l, hP.down bx, hA, hF, hn⟩
                  case measure => simp [intOf]; omega
                · have eL : pgL qs no = 0 := by unfold pgL; rw [if_neg (by rw [hn]; exact hin)]
                  have eO : pgO qs no = [] := by unfold pgO; rw [if_neg (by rw [hn]; exact hin)]
                  have hOU : Olds wv (.slice none 0 0) [] := Or.inl ⟨rfl, rfl⟩
                  by_cases h0 : no ≥ 0
                  · have h1 : ¬ no < (k : Int) := fun q => hin ⟨h0, q⟩
                    have HPG : Hid (∀ wr, Below wv.heap.size wv wr → Calls Try.prog 12 #[.pointer (some ⟨g, 0, none⟩), .int .i64 no] wr fun e w' => ∃ v', e = .returned (.agg #[.int .u64 0, v']) ∧ Olds w' v' ([] : List O) ∧ Below wr.heap.size wr w') := fun wr hb => by
                      have := pageL_any (hP.down hb) hA no
                      rw [eL, eO] at this; exact this
                    rw [eO] at hOl
                    have hOl9 : (([] : List O)).length ≤ 1000000000 := by omega
                    clear eL eO hin hXu hUl hgl hbl hql hal hOl
                    go_upto_region 25 with fail
                    refine wp_region_held_drew (S := fun w' => Row w' X #[.int .i64 kd, .int .i64 no, .int .u64 lsn, .slice oa2 M cap2] 35 ∧ Row w' U #[.int .u64 0, (.slice none 0 0)] 33 ∧ Below wv.heap.size wv w') (by kernel_rfl) ⟨rO, rU, (Below.refl _ _).drew⟩ fun hS => ?_
                    clear rO rU
                    refine wpAnyH_take (i := 0) (v := .pointer (some ⟨g, 0, none⟩)) rfl (by kernel_rfl) (by kernel_rfl) (by kernel_rfl) (fun _ _ _ h => h) (Or.inl ⟨by rfl, fun w _ => by go_simp⟩) hS ?_
                    try simp only [Act.put, List.getElem_toArray, List.getElem_cons_zero, List.getElem_cons_succ, List.setIfInBounds_toArray, List.set_cons_zero, List.set_cons_succ]
                    refine wpAnyH_take (i := 1) (v := .pointer (some ⟨X, 1, none⟩)) rfl (by kernel_rfl) (by kernel_rfl) (by kernel_rfl) (fun _ _ _ h => h) (Or.inl ⟨by rfl, fun w _ => by go_simp⟩) hS ?_
                    try simp only [Act.put, List.getElem_toArray, List.getElem_cons_zero, List.getElem_cons_succ, List.setIfInBounds_toArray, List.set_cons_zero, List.set_cons_succ]
                    refine wpAnyH_take (i := 2) (v := .int .i64 no) rfl (by kernel_rfl) (by kernel_rfl) (by kernel_rfl) (fun _ _ _ h => h) (Or.inl ⟨by rfl, fun w h => by have c := row_at h.1 1 _ rfl; go_simp⟩) hS ?_
                    try simp only [Act.put, List.getElem_toArray, List.getElem_cons_zero, List.getElem_cons_succ, List.setIfInBounds_toArray, List.set_cons_zero, List.set_cons_succ]
                    refine wpAnyH_take (i := 4) (v := .agg #[.int .u64 0, (.slice none 0 0)]) rfl (by kernel_rfl) (by kernel_rfl) (by kernel_rfl) (fun _ _ _ h => h) (yields_cells (by rfl) 33 (.tmp 13) rfl U rfl 33 #[.int .u64 0, (.slice none 0 0)] (fun w h => h.2.1) 2 Try.underlying33 rfl size33 rfl) hS ?_
                    try simp only [Act.put, List.getElem_toArray, List.getElem_cons_zero, List.getElem_cons_succ, List.setIfInBounds_toArray, List.set_cons_zero, List.set_cons_succ]
                    refine wpAnyH_ready (rs := [3]) (by kernel_rfl) (by simp) ?_
                    refine AllReadyH.cons rfl (fun K hK => ?_) AllReadyH.nil
                    go_simp
                    go_at_call 12
                    refine Calls.mono (HPG.out _ hS.2.2) ?_
                    rintro e wc ⟨vp, rfl, hOp, hcb⟩
                    refine hK.out _ _ (⟨hS.1.below hcb hS.1.lt, hS.2.1.below hcb hS.2.1.lt, hS.2.2.trans (hcb.mono hS.2.2.size)⟩) fun hS => ?_
                    try simp only [Act.put, List.getElem_toArray, List.getElem_cons_zero, List.getElem_cons_succ, List.setIfInBounds_toArray, List.set_cons_zero, List.set_cons_succ]
                    clear hcb
                    refine wpAnyH_ready (rs := [5]) (by kernel_rfl) (by simp) ?_
                    refine AllReadyH.cons rfl (fun K hK => ?_) AllReadyH.nil
                    go_simp
                    go_at_call 11
                    refine Calls.mono (same_any 0 vp (.slice none 0 0) ([] : List O) _ hOp (hOU.keep hS.2.2) hOl9) ?_
                    rintro e w2_5 ⟨rfl, hcb⟩
                    refine hK.out _ _ (⟨hS.1.below hcb hS.1.lt, hS.2.1.below hcb hS.2.1.lt, hS.2.2.trans (hcb.mono hS.2.2.size)⟩) fun hS => ?_
                    try simp only [Act.put, List.getElem_toArray, List.getElem_cons_zero, List.getElem_cons_succ, List.setIfInBounds_toArray, List.set_cons_zero, List.set_cons_succ]
                    clear hcb
                    refine wpAnyH_take (i := 6) (v := .bool false) rfl (by kernel_rfl) (by kernel_rfl) (by kernel_rfl) (fun _ _ _ h => h) (Or.inl ⟨by rfl, fun w _ => by go_simp⟩) hS ?_
                    try simp only [Act.put, List.getElem_toArray, List.getElem_cons_zero, List.getElem_cons_succ, List.setIfInBounds_toArray, List.set_cons_zero, List.set_cons_succ]
                    refine wpAnyH_done (by kernel_rfl) ?_ _
                    have bx := hS.2.2
                    clear hS hOp
                    go_wp2
                    go_roundw
                    case rel => exact ⟨j + 1, by go_num, by omega, by omega, ps, qs, l, hP.down bx, hA, hF, hn⟩
                    case measure => simp [intOf]; omega
                  · skip
                    have HPG : Hid (∀ wr, Below wv.heap.size wv wr → Calls Try.prog 12 #[.pointer (some ⟨g, 0, none⟩), .int .i64 no] wr fun e w' => ∃ v', e = .returned (.agg #[.int .u64 0, v']) ∧ Olds w' v' ([] : List O) ∧ Below wr.heap.size wr w') := fun wr hb => by
                      have := pageL_any (hP.down hb) hA no
                      rw [eL, eO] at this; exact this
                    rw [eO] at hOl
                    have hOl9 : (([] : List O)).length ≤ 1000000000 := by omega
                    clear eL eO hin hXu hUl hgl hbl hql hal hOl
                    go_upto_region 25 with fail
                    refine wp_region_held_drew (S := fun w' => Row w' X #[.int .i64 kd, .int .i64 no, .int .u64 lsn, .slice oa2 M cap2] 35 ∧ Row w' U #[.int .u64 0, (.slice none 0 0)] 33 ∧ Below wv.heap.size wv w') (by kernel_rfl) ⟨rO, rU, (Below.refl _ _).drew⟩ fun hS => ?_
                    clear rO rU
                    refine wpAnyH_take (i := 0) (v := .pointer (some ⟨g, 0, none⟩)) rfl (by kernel_rfl) (by kernel_rfl) (by kernel_rfl) (fun _ _ _ h => h) (Or.inl ⟨by rfl, fun w _ => by go_simp⟩) hS ?_
                    try simp only [Act.put, List.getElem_toArray, List.getElem_cons_zero, List.getElem_cons_succ, List.setIfInBounds_toArray, List.set_cons_zero, List.set_cons_succ]
                    refine wpAnyH_take (i := 1) (v := .pointer (some ⟨X, 1, none⟩)) rfl (by kernel_rfl) (by kernel_rfl) (by kernel_rfl) (fun _ _ _ h => h) (Or.inl ⟨by rfl, fun w _ => by go_simp⟩) hS ?_
                    try simp only [Act.put, List.getElem_toArray, List.getElem_cons_zero, List.getElem_cons_succ, List.setIfInBounds_toArray, List.set_cons_zero, List.set_cons_succ]
                    refine wpAnyH_take (i := 2) (v := .int .i64 no) rfl (by kernel_rfl) (by kernel_rfl) (by kernel_rfl) (fun _ _ _ h => h) (Or.inl ⟨by rfl, fun w h => by have c := row_at h.1 1 _ rfl; go_simp⟩) hS ?_
                    try simp only [Act.put, List.getElem_toArray, List.getElem_cons_zero, List.getElem_cons_succ, List.setIfInBounds_toArray, List.set_cons_zero, List.set_cons_succ]
                    refine wpAnyH_take (i := 4) (v := .agg #[.int .u64 0, (.slice none 0 0)]) rfl (by kernel_rfl) (by kernel_rfl) (by kernel_rfl) (fun _ _ _ h => h) (yields_cells (by rfl) 33 (.tmp 13) rfl U rfl 33 #[.int .u64 0, (.slice none 0 0)] (fun w h => h.2.1) 2 Try.underlying33 rfl size33 rfl) hS ?_
                    try simp only [Act.put, List.getElem_toArray, List.getElem_cons_zero, List.getElem_cons_succ, List.setIfInBounds_toArray, List.set_cons_zero, List.set_cons_succ]
                    refine wpAnyH_ready (rs := [3]) (by kernel_rfl) (by simp) ?_
                    refine AllReadyH.cons rfl (fun K hK => ?_) AllReadyH.nil
                    go_simp
                    go_at_call 12
                    refine Calls.mono (HPG.out _ hS.2.2) ?_
                    rintro e wc ⟨vp, rfl, hOp, hcb⟩
                    refine hK.out _ _ (⟨hS.1.below hcb hS.1.lt, hS.2.1.below hcb hS.2.1.lt, hS.2.2.trans (hcb.mono hS.2.2.size)⟩) fun hS => ?_
                    try simp only [Act.put, List.getElem_toArray, List.getElem_cons_zero, List.getElem_cons_succ, List.setIfInBounds_toArray, List.set_cons_zero, List.set_cons_succ]
                    clear hcb
                    refine wpAnyH_ready (rs := [5]) (by kernel_rfl) (by simp) ?_
                    refine AllReadyH.cons rfl (fun K hK => ?_) AllReadyH.nil
                    go_simp
                    go_at_call 11
                    refine Calls.mono (same_any 0 vp (.slice none 0 0) ([] : List O) _ hOp (hOU.keep hS.2.2) hOl9) ?_
                    rintro e w2_5 ⟨rfl, hcb⟩
                    refine hK.out _ _ (⟨hS.1.below hcb hS.1.lt, hS.2.1.below hcb hS.2.1.lt, hS.2.2.trans (hcb.mono hS.2.2.size)⟩) fun hS => ?_
                    try simp only [Act.put, List.getElem_toArray, List.getElem_cons_zero, List.getElem_cons_succ, List.setIfInBounds_toArray, List.set_cons_zero, List.set_cons_succ]
                    clear hcb
                    refine wpAnyH_take (i := 6) (v := .bool false) rfl (by kernel_rfl) (by kernel_rfl) (by kernel_rfl) (fun _ _ _ h => h) (Or.inl ⟨by rfl, fun w _ => by go_simp⟩) hS ?_
                    try simp only [Act.put, List.getElem_toArray, List.getElem_cons_zero, List.getElem_cons_succ, List.setIfInBounds_toArray, List.set_cons_zero, List.set_cons_succ]
                    refine wpAnyH_done (by kernel_rfl) ?_ _
                    have bx := hS.2.2
                    clear hS hOp
                    go_wp2
                    go_roundw
                    case rel => exact ⟨j + 1, by go_num, by omega, by omega, ps, qs, l, hP.down bx, hA, hF, hn⟩
                    case measure => simp [intOf]; omega
        · have hjl' : (j : Int) < (N : Int) := by omega
          have hj4' : ¬ (j : Int) < 40 := by omega
          go_upto_region 29 with (go_at_call 13; refine (refs_any hP.r).mono ?_; rintro e w5 ⟨vl, rfl, hOwn, b5⟩)
          rw [hA.refs] at hOwn
          have hP5 := hP.down b5
          clear hP b5 HCS
          obtain ⟨oaL, capL, hfl, hcL⟩ := hOwn.olds.hold
          subst hfl
          have HCL : Hid _ := hcL
          clear hcL hOwn
          have HAT : Hid _ := refs_at qs
          have HPR : Hid _ := refs_pre qs
          have HSU : Hid _ := refsP_succ qs
          have HSO : Hid _ := refsO_succ
          have HLV : Hid (∀ i, i ≤ k → 0 ≤ liveP (qs.take i) ∧ liveP (qs.take i) ≤ i * 1000) := fun i hi => live_bound qs hP5.s.len i (by rw [hn]; exact hi)
          have HRL : Hid (∀ i, i ≤ k → (refsP (qs.take i)).length ≤ i * 1000) := fun i hi => refsP_le qs hP5.s.len i (by rw [hn]; exact hi)
          have HLS : Hid _ := liveP_succ qs
          have HTK : Hid (qs.take k = qs) := by show _ = _; rw [← hn]; exact List.take_length
          have HAL : Hid (liveP ps = liveP qs) := hA.live
          obtain ⟨NL, HNL⟩ : ∃ x, Hid ((refsP qs).length = x) := ⟨_, rfl⟩
          rw [HNL.out] at HCL ⊢
          have rQ := hP5.s.room
          rw [hn] at rQ
          have cq := row_at rQ 0 (.slice (some ⟨b, 0, none⟩) k k) rfl
          have hNL : NL ≤ 32000 := by rw [← HNL.out]; have := HRL.out k (Nat.le_refl _); rw [HTK.out] at this; omega
          have hz33 := zero33
          have hz50 := zero50
          go_upto_region 30 with fail
          clear cq rQ
          go_loopw [14, 15, 132] (fun lv c d wr => ∃ i : Nat, d = .int .i64 i ∧ i ≤ k ∧ lv = .int .i64 (liveP (qs.take i)) ∧ c = .int .i64 ((refsP (qs.take i)).length : Nat) ∧ Below w5.heap.size w5 wr) (fun _ _ d _ => k - (intOf d).toNat)
          case atStart => exact ⟨0, rfl, by omega, rfl, rfl, Below.refl _ _⟩
          case round =>
            obtain ⟨i, rfl, hik, rfl, rfl, rb⟩ := hrel
            by_cases hilt : i < k
            · have hilt' : (i : Int) < (k : Int) := by omega
              obtain ⟨p, hp⟩ : ∃ p, qs[i]? = some p := ⟨qs[i]'(by rw [hn]; exact hilt), List.getElem?_eq_getElem (by rw [hn]; exact hilt)⟩
              have hpm := List.mem_of_getElem? hp
              have hP6 := hP5.down rb
              have hcell := hP6.s.at hp
              have hlen := hP6.s.len p hpm
              have ho := (hP6.s.olds p hpm).olds
              have HAT2 : Hid _ := HAT.out i p hp
              have hsu := HSU.out i p hp
              have hls := HLS.out i p hp
              have hlv := HLV.out i hik
              have hlv2 := HLV.out (i + 1) (by omega)
              have hrl2 := HRL.out i hik
              obtain ⟨lsn, pv, os⟩ := p
              simp only at hcell hlen ho HAT2 hsu hls
              obtain ⟨oa3, cap3, hpv, hcs⟩ := ho.hold
              subst hpv
              have HCO : Hid _ := hcs
              clear hcs hpm
              obtain ⟨m, HM⟩ : ∃ m, Hid (os.length = m) := ⟨_, rfl⟩
              have hle9 : os.length ≤ 1000000000 := by omega
              have HKP : Hid (∀ wr', Below wr.heap.size wr wr' → Calls Try.prog 7 #[.agg #[.int .u64 lsn, .slice oa3 m cap3]] wr' fun e w' => CopU wr' lsn os e w') := fun wr' hb => by
                have := kept_any lsn (.slice oa3 os.length cap3) os wr' (ho.keep hb) hle9
                rw [HM.out] at this; exact this
              have HLI : Hid (∀ wr' v', Olds wr' v' os → Calls Try.prog 14 #[.agg #[.int .u64 lsn, v']] wr' fun e w' => e = .returned (.int .i64 (liveN os)) ∧ Below wr'.heap.size wr' w') := fun wr' v' h => live_any lsn v' os wr' h hlen
              obtain ⟨LV, HLVi⟩ : ∃ x, Hid (liveP (qs.take i) = x) := ⟨_, rfl⟩
              obtain ⟨LV2, HLV2⟩ : ∃ x, Hid (liveP (qs.take (i + 1)) = x) := ⟨_, rfl⟩
              obtain ⟨ln, Hln⟩ : ∃ x, Hid (liveN os = x) := ⟨_, rfl⟩
              obtain ⟨GC, HGC⟩ : ∃ x, Hid ((refsP (qs.take i)).length = x) := ⟨_, rfl⟩
              rw [HLVi.out] at hlv hls ⊢
              rw [HLV2.out] at hlv2 hls
              rw [Hln.out] at hls HLI
              rw [HGC.out] at hrl2 HAT2 ⊢
              rw [HM.out] at HCO hlen hcell
              have HSUL : Hid ((refsP (qs.take (i + 1))).length = GC + (refsO i os).length) := by show _ = _; rw [hsu, List.length_append, HGC.out]
              have wl : IntKind.i64.wrap (LV + ln) = LV2 := by rw [IntKind.wrap_i64, hls]; omega
              have HH6 : Hid _ := hP6
              clear hsu hls ho hP6 hle9
              have r0 : Row (wr.alloc (.cells #[.int .u64 0, .slice none 0 0] 33)) wr.heap.size #[.int .u64 0, .slice none 0 0] 33 := Row.new _ _ _
              have r1 := r0.set #[.int .u64 lsn, .slice oa3 m cap3]
              have b1 : Below wr.heap.size wr ((wr.alloc (.cells #[.int .u64 0, .slice none 0 0] 33)).setRow wr.heap.size #[.int .u64 lsn, .slice oa3 m cap3]) := below_setRow ((Below.refl _ _).alloc (Nat.le_refl _) _) (Nat.le_refl _) _
              have tl : Hid (1 = 1) := rfl
              have ts : Hid (1 = 1) := rfl
              go_upto_region 32 with (first
                | (have hh := tl; clear hh tl; refine wpList_load_any rfl 33 (.tmp 135) rfl ⟨b, i * 2, none⟩ rfl [.int .u64 lsn, .slice oa3 m cap3] _ hcell Try.underlying33 rfl size33 ?_)
                | (have hh := ts; clear hh ts; refine store_cells rfl 33 (.tmp 18) (.tmp 136) rfl wr.heap.size #[.int .u64 lsn, .slice oa3 m cap3] rfl rfl 33 _ r0 2 size33 rfl rfl (by simp [Value.oneCell']) ?_))
              clear hcell r0
              generalize (wr.alloc (.cells #[.int .u64 0, .slice none 0 0] 33)).setRow wr.heap.size #[.int .u64 lsn, .slice oa3 m cap3] = W1 at r1 b1 ⊢
              obtain ⟨X1, hX1⟩ : ∃ x, wr.heap.size = x := ⟨_, rfl⟩
              rw [hX1] at r1 ⊢
              clear hX1
              have d0 := row_at r1 0 (.int .u64 lsn) rfl
              have d1 := row_at r1 1 (.slice oa3 m cap3) rfl
              go_upto_region 33 with (first
                | (go_at_call 7; refine (HKP.out _ b1).mono ?_; clear HKP; rintro e wk ⟨vk, rfl, hOk, bk⟩)
                | (go_at_call 14; refine (HLI.out _ _ hOk.olds).mono ?_; clear HLI; rintro e wm ⟨rfl, bm⟩))
              have r1 := (r1.below bk r1.lt)
              have r1 := (r1.below bm r1.lt)
              have bb1 := (b1.trans (bk.mono b1.size)).trans (bm.mono (Nat.le_trans b1.size bk.size))
              clear d0 d1 hOk bk bm b1 wl
              have d1 := row_at r1 1 (.slice oa3 m cap3) rfl
              have rb7 := rb.trans (bb1.mono rb.size)
              go_upto_region 34 with fail
              clear d1 r1
              go_loopw [15, 145] (fun c d wx => ∃ j : Nat, d = .int .i64 j ∧ j ≤ m ∧ c = .int .i64 ((GC + (refsO i (os.take j)).length : Nat) : Int) ∧ Below wm.heap.size wm wx) (fun _ d _ => m - (intOf d).toNat)
              case atStart => exact ⟨0, rfl, by omega, by simp [refsO], Below.refl _ _⟩
              case round =>
                obtain ⟨j, rfl, hj, rfl, rx⟩ := hrel
                by_cases hjm : j < m
                · have hjm' : (j : Int) < (m : Int) := by omega
                  obtain ⟨A3, bb, pg, tt, np, ns, dl, hoa3, he, hcell⟩ := HCO.out j hjm
                  subst hoa3
                  have hcw : ∀ u x, [Value.bool bb, .int .u16 pg, .int .u32 tt, .int .u16 np, .int .u8 ns, .string dl][u]? = some x → wr.cell? ((A3.add (j * 6)).add u) = some x := fun u x hx => cell_keep (cell_keep (hcell u x hx) bb1) rx
                  have hs := HSO.out i os j _ he
                  have hat := HAT2.out j _ he
                  simp only at hs hat
                  obtain ⟨CJ, HCJ⟩ : ∃ x, Hid (GC + (refsO i (os.take j)).length = x) := ⟨_, rfl⟩
                  have hle := refsO_le i (os.take j)
                  have hle2 : (os.take j).length ≤ j := by simp; omega
                  have hcj : CJ ≤ 40000 := by rw [← HCJ.out]; omega
                  have HSL : Hid _ := congrArg List.length hs
                  rw [HCJ.out] at hat ⊢
                  clear hcell hs hle hle2 he
                  have z0 : Row (wr.alloc (.cells #[.bool false, .int .u16 0, .int .u32 0, .int .u16 0, .int .u8 0, .string ByteArray.empty] 50)) wr.heap.size #[.bool false, .int .u16 0, .int .u32 0, .int .u16 0, .int .u8 0, .string ByteArray.empty] 50 := Row.new _ _ _
                  have z1 := z0.set #[.bool bb, .int .u16 pg, .int .u32 tt, .int .u16 np, .int .u8 ns, .string dl]
                  have y0 := row_at z1 0 (.bool bb) rfl
                  have b3 : Below wr.heap.size wr ((wr.alloc (.cells #[.bool false, .int .u16 0, .int .u32 0, .int .u16 0, .int .u8 0, .string ByteArray.empty] 50)).setRow wr.heap.size #[.bool bb, .int .u16 pg, .int .u32 tt, .int .u16 np, .int .u8 ns, .string dl]) := below_setRow ((Below.refl _ _).alloc (Nat.le_refl _) _) (Nat.le_refl _) _
                  have rx3 := rx.trans (b3.mono rx.size)
                  have tl : Hid (1 = 1) := rfl
                  have ts : Hid (1 = 1) := rfl
                  go_upto_region 36 with (first
                    | (have hh := tl; clear hh tl; refine wpList_load_any rfl 50 (.tmp 148) rfl (A3.add (j * 6)) rfl [.bool bb, .int .u16 pg, .int .u32 tt, .int .u16 np, .int .u8 ns, .string dl] _ hcw Try.underlying50 rfl size50 ?_)
                    | (have hh := ts; clear hh ts; refine store_cells rfl 50 (.tmp 20) (.tmp 149) rfl wr.heap.size #[.bool bb, .int .u16 pg, .int .u32 tt, .int .u16 np, .int .u8 ns, .string dl] rfl rfl 50 _ z0 6 size50 rfl rfl (by simp [Value.oneCell']) ?_))
                  clear hcw z0 z1 b3
                  generalize (wr.alloc (.cells #[.bool false, .int .u16 0, .int .u32 0, .int .u16 0, .int .u8 0, .string ByteArray.empty] 50)).setRow wr.heap.size #[.bool bb, .int .u16 pg, .int .u32 tt, .int .u16 np, .int .u8 ns, .string dl] = W3 at y0 rx3 ⊢
                  generalize wr.heap.size = X3 at y0 ⊢
                  cases bb
                  · have HE : Hid (GC + (refsO i (os.take (j + 1))).length = CJ) := by
                      show _ = _
                      have := HSL.out
                      simp at this
                      rw [this]; exact HCJ.out
                    clear hat HSL
                    go_wp2
                    go_roundw
                    case rel => exact ⟨j + 1, by go_num, by omega, by rw [HE.out], rx3⟩
                    case measure => simp [intOf]; omega
                  · have HE : Hid (GC + (refsO i (os.take (j + 1))).length = CJ + 1) := by
                      show _ = _
                      have := HSL.out
                      simp at this
                      rw [this, ← HCJ.out]; omega
                    have hat := hat rfl
                    clear HSL
                    have hcl : CJ < NL := by rw [← HNL.out]; exact (List.getElem?_eq_some_iff.1 hat).1
                    obtain ⟨AL, x0, x1, hoL, hex, hceL⟩ := HCL.out CJ hcl
                    subst hoL
                    rw [hat] at hex
                    simp only [Option.some.injEq, Rf.O.mk.injEq] at hex
                    obtain ⟨hx0, hx1⟩ := hex
                    have q0 := cell_keep (cell_keep (hceL 0 _ rfl) rb7) rx3
                    have q1 := cell_keep (cell_keep (hceL 1 _ rfl) rb7) rx3
                    rw [← hx0, addr_zero] at q0
                    rw [← hx1, addr_one] at q1
                    have hcl' : ¬ (CJ : Int) ≥ (NL : Int) := by omega
                    have hcl2 : (CJ : Int) < (NL : Int) := by omega
                    have hcl3 : decide ((NL : Int) ≤ (CJ : Int)) = false := decide_eq_false (by omega)
                    have v1 : IntKind.u16.wrap ((i : Int) + 1) = (i : Int) + 1 := by rw [IntKind.wrap_u16]; omega
                    have v2 : IntKind.u8.wrap (j : Int) = (j : Int) % 256 := IntKind.wrap_u8 _
                    have v3 : IntKind.i64.wrap ((CJ : Int) + 1) = (CJ : Int) + 1 := by rw [IntKind.wrap_i64]; omega
                    have v4 : IntKind.i64.wrap ((i : Int) + 1) = (i : Int) + 1 := by rw [IntKind.wrap_i64]; omega
                    clear hat hceL hx0 hx1
                    go_wp2
                    go_roundw
                    case rel => exact ⟨j + 1, by go_num, by omega, by rw [HE.out]; push_cast; rfl, rx3⟩
                    case measure => simp [intOf]; omega
                · have hjm' : ¬ (j : Int) < (m : Int) := by omega
                  obtain rfl : j = m := by omega
                  have ht : os.take j = os := by rw [← HM.out, List.take_length]
                  rw [ht]
                  rw [← HSUL.out]
                  have rb8 := rb7.trans (rx.mono rb7.size)
                  go_wp2
                  go_roundw
                  case rel => exact ⟨i + 1, by go_num, by omega, by rw [HLV2.out], rfl, rb8⟩
                  case measure => simp [intOf]; omega
            · have hilt' : ¬ (i : Int) < (k : Int) := by omega
              obtain rfl : i = k := by omega
              rw [HTK.out, HNL.out]
              have hP9 := hP5.down rb
              have hrl := rlive_any hP9.r
              rw [HAL.out] at hrl
              obtain ⟨LVV, HLVV⟩ : ∃ x, Hid (liveP qs = x) := ⟨_, rfl⟩
              rw [HLVV.out] at hrl ⊢
              have wb := hP9.be
              go_wp2_with (first
                | (go_at_call 15; refine hrl.mono ?_; clear hrl; rintro e wa1 ⟨rfl, ba1⟩; have wb := wb.trans (ba1.mono wb.size))
                | (go_at_call 5; refine (HA.out _).mono ?_; clear HA; rintro e wa2 ⟨rfl, ba2⟩; have wb := wb.trans (ba2.mono wb.size)))
              go_ret
              exact ⟨rfl, wb⟩
      · have hjl' : ¬ (j : Int) < (N : Int) := by omega
        go_upto_region 29 with (go_at_call 13; refine (refs_any hP.r).mono ?_; rintro e w5 ⟨vl, rfl, hOwn, b5⟩)
        rw [hA.refs] at hOwn
        have hP5 := hP.down b5
        clear hP b5 HCS
        obtain ⟨oaL, capL, hfl, hcL⟩ := hOwn.olds.hold
        subst hfl
        have HCL : Hid _ := hcL
        clear hcL hOwn
        have HAT : Hid _ := refs_at qs
        have HPR : Hid _ := refs_pre qs
        have HSU : Hid _ := refsP_succ qs
        have HSO : Hid _ := refsO_succ
        have HLV : Hid (∀ i, i ≤ k → 0 ≤ liveP (qs.take i) ∧ liveP (qs.take i) ≤ i * 1000) := fun i hi => live_bound qs hP5.s.len i (by rw [hn]; exact hi)
        have HRL : Hid (∀ i, i ≤ k → (refsP (qs.take i)).length ≤ i * 1000) := fun i hi => refsP_le qs hP5.s.len i (by rw [hn]; exact hi)
        have HLS : Hid _ := liveP_succ qs
        have HTK : Hid (qs.take k = qs) := by show _ = _; rw [← hn]; exact List.take_length
        have HAL : Hid (liveP ps = liveP qs) := hA.live
        obtain ⟨NL, HNL⟩ : ∃ x, Hid ((refsP qs).length = x) := ⟨_, rfl⟩
        rw [HNL.out] at HCL ⊢
        have rQ := hP5.s.room
        rw [hn] at rQ
        have cq := row_at rQ 0 (.slice (some ⟨b, 0, none⟩) k k) rfl
        have hNL : NL ≤ 32000 := by rw [← HNL.out]; have := HRL.out k (Nat.le_refl _); rw [HTK.out] at this; omega
        have hz33 := zero33
        have hz50 := zero50
        go_upto_region 30 with fail
        clear cq rQ
        go_loopw [14, 15, 132] (fun lv c d wr => ∃ i : Nat, d = .int .i64 i ∧ i ≤ k ∧ lv = .int .i64 (liveP (qs.take i)) ∧ c = .int .i64 ((refsP (qs.take i)).length : Nat) ∧ Below w5.heap.size w5 wr) (fun _ _ d _ => k - (intOf d).toNat)
        case atStart => exact ⟨0, rfl, by omega, rfl, rfl, Below.refl _ _⟩
        case round =>
          obtain ⟨i, rfl, hik, rfl, rfl, rb⟩ := hrel
          by_cases hilt : i < k
          · have hilt' : (i : Int) < (k : Int) := by omega
            obtain ⟨p, hp⟩ : ∃ p, qs[i]? = some p := ⟨qs[i]'(by rw [hn]; exact hilt), List.getElem?_eq_getElem (by rw [hn]; exact hilt)⟩
            have hpm := List.mem_of_getElem? hp
            have hP6 := hP5.down rb
            have hcell := hP6.s.at hp
            have hlen := hP6.s.len p hpm
            have ho := (hP6.s.olds p hpm).olds
            have HAT2 : Hid _ := HAT.out i p hp
            have hsu := HSU.out i p hp
            have hls := HLS.out i p hp
            have hlv := HLV.out i hik
            have hlv2 := HLV.out (i + 1) (by omega)
            have hrl2 := HRL.out i hik
            obtain ⟨lsn, pv, os⟩ := p
            simp only at hcell hlen ho HAT2 hsu hls
            obtain ⟨oa3, cap3, hpv, hcs⟩ := ho.hold
            subst hpv
            have HCO : Hid _ := hcs
            clear hcs hpm
            obtain ⟨m, HM⟩ : ∃ m, Hid (os.length = m) := ⟨_, rfl⟩
            have hle9 : os.length ≤ 1000000000 := by omega
            have HKP : Hid (∀ wr', Below wr.heap.size wr wr' → Calls Try.prog 7 #[.agg #[.int .u64 lsn, .slice oa3 m cap3]] wr' fun e w' => CopU wr' lsn os e w') := fun wr' hb => by
              have := kept_any lsn (.slice oa3 os.length cap3) os wr' (ho.keep hb) hle9
              rw [HM.out] at this; exact this
            have HLI : Hid (∀ wr' v', Olds wr' v' os → Calls Try.prog 14 #[.agg #[.int .u64 lsn, v']] wr' fun e w' => e = .returned (.int .i64 (liveN os)) ∧ Below wr'.heap.size wr' w') := fun wr' v' h => live_any lsn v' os wr' h hlen
            obtain ⟨LV, HLVi⟩ : ∃ x, Hid (liveP (qs.take i) = x) := ⟨_, rfl⟩
            obtain ⟨LV2, HLV2⟩ : ∃ x, Hid (liveP (qs.take (i + 1)) = x) := ⟨_, rfl⟩
            obtain ⟨ln, Hln⟩ : ∃ x, Hid (liveN os = x) := ⟨_, rfl⟩
            obtain ⟨GC, HGC⟩ : ∃ x, Hid ((refsP (qs.take i)).length = x) := ⟨_, rfl⟩
            rw [HLVi.out] at hlv hls ⊢
            rw [HLV2.out] at hlv2 hls
            rw [Hln.out] at hls HLI
            rw [HGC.out] at hrl2 HAT2 ⊢
            rw [HM.out] at HCO hlen hcell
            have HSUL : Hid ((refsP (qs.take (i + 1))).length = GC + (refsO i os).length) := by show _ = _; rw [hsu, List.length_append, HGC.out]
            have wl : IntKind.i64.wrap (LV + ln) = LV2 := by rw [IntKind.wrap_i64, hls]; omega
            have HH6 : Hid _ := hP6
            clear hsu hls ho hP6 hle9
            have r0 : Row (wr.alloc (.cells #[.int .u64 0, .slice none 0 0] 33)) wr.heap.size #[.int .u64 0, .slice none 0 0] 33 := Row.new _ _ _
            have r1 := r0.set #[.int .u64 lsn, .slice oa3 m cap3]
            have b1 : Below wr.heap.size wr ((wr.alloc (.cells #[.int .u64 0, .slice none 0 0] 33)).setRow wr.heap.size #[.int .u64 lsn, .slice oa3 m cap3]) := below_setRow ((Below.refl _ _).alloc (Nat.le_refl _) _) (Nat.le_refl _) _
            have tl : Hid (1 = 1) := rfl
            have ts : Hid (1 = 1) := rfl
            go_upto_region 32 with (first
              | (have hh := tl; clear hh tl; refine wpList_load_any rfl 33 (.tmp 135) rfl ⟨b, i * 2, none⟩ rfl [.int .u64 lsn, .slice oa3 m cap3] _ hcell Try.underlying33 rfl size33 ?_)
              | (have hh := ts; clear hh ts; refine store_cells rfl 33 (.tmp 18) (.tmp 136) rfl wr.heap.size #[.int .u64 lsn, .slice oa3 m cap3] rfl rfl 33 _ r0 2 size33 rfl rfl (by simp [Value.oneCell']) ?_))
            clear hcell r0
            generalize (wr.alloc (.cells #[.int .u64 0, .slice none 0 0] 33)).setRow wr.heap.size #[.int .u64 lsn, .slice oa3 m cap3] = W1 at r1 b1 ⊢
            obtain ⟨X1, hX1⟩ : ∃ x, wr.heap.size = x := ⟨_, rfl⟩
            rw [hX1] at r1 ⊢
            clear hX1
            have d0 := row_at r1 0 (.int .u64 lsn) rfl
            have d1 := row_at r1 1 (.slice oa3 m cap3) rfl
            go_upto_region 33 with (first
              | (go_at_call 7; refine (HKP.out _ b1).mono ?_; clear HKP; rintro e wk ⟨vk, rfl, hOk, bk⟩)
              | (go_at_call 14; refine (HLI.out _ _ hOk.olds).mono ?_; clear HLI; rintro e wm ⟨rfl, bm⟩))
            have r1 := (r1.below bk r1.lt)
            have r1 := (r1.below bm r1.lt)
            have bb1 := (b1.trans (bk.mono b1.size)).trans (bm.mono (Nat.le_trans b1.size bk.size))
            clear d0 d1 hOk bk bm b1 wl
            have d1 := row_at r1 1 (.slice oa3 m cap3) rfl
            have rb7 := rb.trans (bb1.mono rb.size)
            go_upto_region 34 with fail
            clear d1 r1
            go_loopw [15, 145] (fun c d wx => ∃ j : Nat, d = .int .i64 j ∧ j ≤ m ∧ c = .int .i64 ((GC + (refsO i (os.take j)).length : Nat) : Int) ∧ Below wm.heap.size wm wx) (fun _ d _ => m - (intOf d).toNat)
            case atStart => exact ⟨0, rfl, by omega, by simp [refsO], Below.refl _ _⟩
            case round =>
              obtain ⟨j, rfl, hj, rfl, rx⟩ := hrel
              by_cases hjm : j < m
              · have hjm' : (j : Int) < (m : Int) := by omega
                obtain ⟨A3, bb, pg, tt, np, ns, dl, hoa3, he, hcell⟩ := HCO.out j hjm
                subst hoa3
                have hcw : ∀ u x, [Value.bool bb, .int .u16 pg, .int .u32 tt, .int .u16 np, .int .u8 ns, .string dl][u]? = some x → wr.cell? ((A3.add (j * 6)).add u) = some x := fun u x hx => cell_keep (cell_keep (hcell u x hx) bb1) rx
                have hs := HSO.out i os j _ he
                have hat := HAT2.out j _ he
                simp only at hs hat
                obtain ⟨CJ, HCJ⟩ : ∃ x, Hid (GC + (refsO i (os.take j)).length = x) := ⟨_, rfl⟩
                have hle := refsO_le i (os.take j)
                have hle2 : (os.take j).length ≤ j := by simp; omega
                have hcj : CJ ≤ 40000 := by rw [← HCJ.out]; omega
                have HSL : Hid _ := congrArg List.length hs
                rw [HCJ.out] at hat ⊢
                clear hcell hs hle hle2 he
                have z0 : Row (wr.alloc (.cells #[.bool false, .int .u16 0, .int .u32 0, .int .u16 0, .int .u8 0, .string ByteArray.empty] 50)) wr.heap.size #[.bool false, .int .u16 0, .int .u32 0, .int .u16 0, .int .u8 0, .string ByteArray.empty] 50 := Row.new _ _ _
                have z1 := z0.set #[.bool bb, .int .u16 pg, .int .u32 tt, .int .u16 np, .int .u8 ns, .string dl]
                have y0 := row_at z1 0 (.bool bb) rfl
                have b3 : Below wr.heap.size wr ((wr.alloc (.cells #[.bool false, .int .u16 0, .int .u32 0, .int .u16 0, .int .u8 0, .string ByteArray.empty] 50)).setRow wr.heap.size #[.bool bb, .int .u16 pg, .int .u32 tt, .int .u16 np, .int .u8 ns, .string dl]) := below_setRow ((Below.refl _ _).alloc (Nat.le_refl _) _) (Nat.le_refl _) _
                have rx3 := rx.trans (b3.mono rx.size)
                have tl : Hid (1 = 1) := rfl
                have ts : Hid (1 = 1) := rfl
                go_upto_region 36 with (first
                  | (have hh := tl; clear hh tl; refine wpList_load_any rfl 50 (.tmp 148) rfl (A3.add (j * 6)) rfl [.bool bb, .int .u16 pg, .int .u32 tt, .int .u16 np, .int .u8 ns, .string dl] _ hcw Try.underlying50 rfl size50 ?_)
                  | (have hh := ts; clear hh ts; refine store_cells rfl 50 (.tmp 20) (.tmp 149) rfl wr.heap.size #[.bool bb, .int .u16 pg, .int .u32 tt, .int .u16 np, .int .u8 ns, .string dl] rfl rfl 50 _ z0 6 size50 rfl rfl (by simp [Value.oneCell']) ?_))
                clear hcw z0 z1 b3
                generalize (wr.alloc (.cells #[.bool false, .int .u16 0, .int .u32 0, .int .u16 0, .int .u8 0, .string ByteArray.empty] 50)).setRow wr.heap.size #[.bool bb, .int .u16 pg, .int .u32 tt, .int .u16 np, .int .u8 ns, .string dl] = W3 at y0 rx3 ⊢
                generalize wr.heap.size = X3 at y0 ⊢
                cases bb
                · have HE : Hid (GC + (refsO i (os.take (j + 1))).length = CJ) := by
                    show _ = _
                    have := HSL.out
                    simp at this
                    rw [this]; exact HCJ.out
                  clear hat HSL
                  go_wp2
                  go_roundw
                  case rel => exact ⟨j + 1, by go_num, by omega, by rw [HE.out], rx3⟩
                  case measure => simp [intOf]; omega
                · have HE : Hid (GC + (refsO i (os.take (j + 1))).length = CJ + 1) := by
                    show _ = _
                    have := HSL.out
                    simp at this
                    rw [this, ← HCJ.out]; omega
                  have hat := hat rfl
                  clear HSL
                  have hcl : CJ < NL := by rw [← HNL.out]; exact (List.getElem?_eq_some_iff.1 hat).1
                  obtain ⟨AL, x0, x1, hoL, hex, hceL⟩ := HCL.out CJ hcl
                  subst hoL
                  rw [hat] at hex
                  simp only [Option.some.injEq, Rf.O.mk.injEq] at hex
                  obtain ⟨hx0, hx1⟩ := hex
                  have q0 := cell_keep (cell_keep (hceL 0 _ rfl) rb7) rx3
                  have q1 := cell_keep (cell_keep (hceL 1 _ rfl) rb7) rx3
                  rw [← hx0, addr_zero] at q0
                  rw [← hx1, addr_one] at q1
                  have hcl' : ¬ (CJ : Int) ≥ (NL : Int) := by omega
                  have hcl2 : (CJ : Int) < (NL : Int) := by omega
                  have hcl3 : decide ((NL : Int) ≤ (CJ : Int)) = false := decide_eq_false (by omega)
                  have v1 : IntKind.u16.wrap ((i : Int) + 1) = (i : Int) + 1 := by rw [IntKind.wrap_u16]; omega
                  have v2 : IntKind.u8.wrap (j : Int) = (j : Int) % 256 := IntKind.wrap_u8 _
                  have v3 : IntKind.i64.wrap ((CJ : Int) + 1) = (CJ : Int) + 1 := by rw [IntKind.wrap_i64]; omega
                  have v4 : IntKind.i64.wrap ((i : Int) + 1) = (i : Int) + 1 := by rw [IntKind.wrap_i64]; omega
                  clear hat hceL hx0 hx1
                  go_wp2
                  go_roundw
                  case rel => exact ⟨j + 1, by go_num, by omega, by rw [HE.out]; push_cast; rfl, rx3⟩
                  case measure => simp [intOf]; omega
              · have hjm' : ¬ (j : Int) < (m : Int) := by omega
                obtain rfl : j = m := by omega
                have ht : os.take j = os := by rw [← HM.out, List.take_length]
                rw [ht]
                rw [← HSUL.out]
                have rb8 := rb7.trans (rx.mono rb7.size)
                go_wp2
                go_roundw
                case rel => exact ⟨i + 1, by go_num, by omega, by rw [HLV2.out], rfl, rb8⟩
                case measure => simp [intOf]; omega
          · have hilt' : ¬ (i : Int) < (k : Int) := by omega
            obtain rfl : i = k := by omega
            rw [HTK.out, HNL.out]
            have hP9 := hP5.down rb
            have hrl := rlive_any hP9.r
            rw [HAL.out] at hrl
            obtain ⟨LVV, HLVV⟩ : ∃ x, Hid (liveP qs = x) := ⟨_, rfl⟩
            rw [HLVV.out] at hrl ⊢
            have wb := hP9.be
            go_wp2_with (first
              | (go_at_call 15; refine hrl.mono ?_; clear hrl; rintro e wa1 ⟨rfl, ba1⟩; have wb := wb.trans (ba1.mono wb.size))
              | (go_at_call 5; refine (HA.out _).mono ?_; clear HA; rintro e wa2 ⟨rfl, ba2⟩; have wb := wb.trans (ba2.mono wb.size)))
            go_ret
            exact ⟨rfl, wb⟩
  · have hnew := new_none n hn w
    by_cases h1 : n < 1
    · clear hn
      go_enter Try.func3, Try.ntmps3
      go_wp2_with (first
        | (go_at_call 4; refine hnew.mono ?_; clear hnew; rintro e w1 ⟨rfl, rfl⟩)
        | (go_at_call 5; refine (HA.out _).mono ?_; rintro e w7 ⟨rfl, b7⟩))
      go_ret
      exact ⟨rfl, b7⟩
    · have h2 : n > 32 := by omega
      clear hn
      go_enter Try.func3, Try.ntmps3
      go_wp2_with (first
        | (go_at_call 4; refine hnew.mono ?_; clear hnew; rintro e w1 ⟨rfl, rfl⟩)
        | (go_at_call 5; refine (HA.out _).mono ?_; rintro e w7 ⟨rfl, b7⟩))
      go_ret
      exact ⟨rfl, b7⟩
end Go.Proofs.Ytddhjkgefninbaa
