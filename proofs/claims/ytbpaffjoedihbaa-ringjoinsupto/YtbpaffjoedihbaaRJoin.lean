/-
  Proved here: the document's Join: the stream that chunks hold, from the one with a number on.
-/
import Derived.Test.YtbpaffjoedihbaaJt
namespace Go.Proofs.Ytbpaffjoedihbaa
open Go.ChangeShapes Go.WideShapes Go.ChangeAt Go.RowKit
set_option linter.unusedVariables false
set_option linter.unusedSimpArgs false

theorem wpList_load_any {P : Program} {ops : Array Oper} {rest : List Oper} {op : Oper} {a : Act} {w : World} {Q : Exit → Act → World → Prop} (hgd : op.guard = none) (ty : TypeId) (x : Operand) (ho : op.op = .load ty x)
    (p : Addr) (hx : a.eval x = .pointer (some p)) (cs : List Value) (d : TypeDesc) (hc : ∀ j v, cs[j]? = some v → w.cell? (p.add j) = some v)
    (hu : P.underlying ty = some d) (hd : d.isRow = true) (hi : (P.info? ty).map (·.size) = some cs.length)
    (h : wpList P ops Q rest (a.put op.dst (.agg cs.toArray)) w) : wpList P ops Q (op :: rest) a w := by
  refine wpList_plain hgd fun K hK => ?_
  have hl : (loadCells p cs.length).run P w = .ok cs.toArray w := run_loadCells_list (P := P) w p cs hc
  have hrun : (loadVar ty p).run P w = .ok (.agg cs.toArray) w := by
    cases hq : P.info? ty with
    | none => simp [hq] at hi
    | some i =>
      have hs : i.size = cs.length := by simpa [hq] using hi
      have hagg : (isAgg ty).run P w = .ok true w := by
        unfold isAgg
        rw [Sem.run_bind, run_underlying hu w]
        cases d <;> simp_all
      simp [loadVar, Sem.run_bind, hagg, sizeOf, typeInfo, hq, hs, hl]
  unfold Oper.wp execOp
  simp only [ho, hx, Instr.loadAt, Instr.sureAddr, Sem.run_bind, Sem.run_pure, Result.andThen_ok, hrun]
  exact hK _ _ h
theorem first_next (f : Int) : (f + 1) % 4294967296 = (f + ((0 + 1 : Nat) : Int)) % 4294967296 := by omega
theorem Row.grown {w w' : World} {k : Nat} {cs : Array Value} {t : TypeId} {row : Option Nat} (h : Row w k cs t) (hg : w.grownBy w' row) (hk : row ≠ some k) : Row w' k cs t := (hg.block k h.lt (fun q => hk q.symm)).trans h
set_option maxRecDepth 20000 in
set_option maxHeartbeats 8000000 in
theorem rjoin_any (first : Int) (v : Value) (os : List Ck.O) (w : World) (ho : Ck.Olds w v os) (hn : os.length ≤ 100) (hf : 0 ≤ first ∧ first ≤ 4294967295) (hft : ∀ c ∈ os, c.Fits) (ht : tot os ≤ 1048576) :
    Calls Try.prog 20 #[.int .u32 first, v] w fun ex w' => Joined w first os ex w' := by
  obtain ⟨P, HP⟩ : ∃ P : Ending → World → Prop, Hid (P = Joined w first os) := ⟨_, rfl⟩
  rw [← HP.out]
  obtain ⟨oa, cap, rfl, hcs⟩ := ho.hold
  have HCS : Hid _ := hcs
  have HFT : Hid (∀ c ∈ os, c.Fits) := hft
  have HST : Hid (Inv first os 0 J0) := Inv.start first os ht
  clear hcs ho hft ht
  obtain ⟨n, HN⟩ : ∃ n, Hid (os.length = n) := ⟨_, rfl⟩
  rw [HN.out] at HCS hn ⊢
  have hz := zero25
  go_enter Try.func20, Try.ntmps20
  go_upto_region 4 with fail
  go_loopw [0, 8, 9, 10, 11, 12] (fun x0 x8 x9 x10 x11 d wr => ∃ (k : Nat) (j : J) (oa2 : Option Addr) (cap2 : Nat) (S : ByteArray), x0 = .int .u32 ((first + (k : Int)) % 4294967296) ∧ x8 = .int .u64 (if k = 0 then 0 else baseJ os) ∧ x9 = .string S ∧ x10 = .int .u32 j.ep ∧ x11 = .slice oa2 k cap2 ∧ d = .int .i64 k ∧ k ≤ n ∧ Below w.heap.size w wr ∧ St.Own wr w.heap.size (.slice oa2 k cap2) j.sts ∧ Hid (S = strOfNums j.str) ∧ Hid (Inv first os k j) ∧ Hid (k = 0 → j = J0)) (fun _ _ _ _ _ d _ => n - (intOf d).toNat)
  case atStart => exact ⟨0, J0, none, 0, strOfNums [], by rw [show (first + ((0 : Nat) : Int)) % 4294967296 = first by omega], by rw [if_pos rfl], rfl, rfl, rfl, rfl, by omega, Below.refl _ _, ⟨rfl, Or.inl ⟨rfl, rfl⟩⟩, rfl, HST, fun _ => rfl⟩
  case round =>
    clear HST
    obtain ⟨k, j, oa2, cap2, S, rfl, rfl, rfl, rfl, rfl, rfl, hk, rb, ro, HSS, HI, HJ0⟩ := hrel
    have HSL : Hid ((j.str.length : Int) = S.size) := by show _ = _; rw [HSS.out, strOfNums_size]
    have hSb : S.size ≤ 1048576 := by have h1 := HSL.out; have h2 := HI.out.room; omega
    by_cases hkn : k < n
    · have hkn' : (k : Int) < (n : Int) := by omega
      by_cases hk0 : k = 0
      · subst hk0
        rw [if_pos rfl, show (first + ((0 : Nat) : Int)) % 4294967296 = first by omega]
        have HJE : Hid (j.ep = 0) := by show _ = _; rw [HJ0.out rfl]; rfl
        have HBJ0 : Hid (∀ {c : Ck.O}, os[0]? = some c → baseJ os = c.off) := fun h => baseJ_at h
        rw [HJE.out]
        obtain ⟨a, e, nu, o, t, rfl, he, hc⟩ := HCS.out 0 hkn
        have HC : Hid (∀ j u, ([.int .u32 e, .int .u32 nu, .int .u64 o, .string t] : List Value)[j]? = some u → wr.cell? ((a.add (0 * 4)).add j) = some u) := fun j u hj => St.cell_keep (hc j u hj) rb
        have HE : Hid (os[0]? = some ⟨e, nu, o, t⟩) := he
        have HFC : Hid (Ck.O.Fits ⟨e, nu, o, t⟩) := HFT.out _ (List.mem_of_getElem? he)
        have fe : 0 ≤ e ∧ e ≤ 4294967295 := HFC.out.1
        have fn : 0 ≤ nu ∧ nu ≤ 4294967295 := HFC.out.2.1
        have fo : 0 ≤ o ∧ o ≤ 18446744073709551615 := HFC.out.2.2
        have HTX : Hid (t.size ≤ 1048576) := by have h1 := Ck.Olds.room he; have h2 := HI.out.room; show _ ≤ _; simp only at h1; omega
        clear he hc
        have q0 : Row (wr.alloc (.cells #[.int .u32 0, .int .u32 0, .int .u64 0, .string ByteArray.empty] 25)) wr.heap.size #[.int .u32 0, .int .u32 0, .int .u64 0, .string ByteArray.empty] 25 := Row.new _ _ _
        have tl : Hid (1 = 1) := rfl
        go_upto_region 7 with (first
          | (have hh := tl; clear hh tl; refine wpList_load_any rfl 25 (.tmp 22) rfl (a.add (0 * 4)) rfl [.int .u32 e, .int .u32 nu, .int .u64 o, .string t] _ HC.out Try.underlying25 rfl size25 ?_)
          | (refine store_cells rfl 25 (.tmp 13) (.tmp 23) rfl wr.heap.size #[.int .u32 e, .int .u32 nu, .int .u64 o, .string t] rfl rfl 25 _ q0 4 size25 rfl rfl (by simp [Value.oneCell']) ?_))
        have q1 := q0.set #[.int .u32 e, .int .u32 nu, .int .u64 o, .string t]
        have hgp : w.heap.size ≤ wr.heap.size := rb.size
        have rb1 := below_setRow (rb.alloc rb.size (.cells #[.int .u32 0, .int .u32 0, .int .u64 0, .string ByteArray.empty] 25)) rb.size #[.int .u32 e, .int .u32 nu, .int .u64 o, .string t]
        have ro1 := ro.keep (below_setRow ((Below.refl _ _).alloc (Nat.le_refl _) (.cells #[.int .u32 0, .int .u32 0, .int .u64 0, .string ByteArray.empty] 25)) (Nat.le_refl _) #[.int .u32 e, .int .u32 nu, .int .u64 o, .string t])
        have HGP : Hid (∀ kk, (Value.slice oa2 0 cap2).ownBlock = some kk → kk ≠ wr.heap.size) := fun kk hq => by have := (World.ownsRow.lt ro kk hq).2; omega
        clear q0 HC ro rb
        generalize (wr.alloc (.cells #[.int .u32 0, .int .u32 0, .int .u64 0, .string ByteArray.empty] 25)).setRow wr.heap.size #[.int .u32 e, .int .u32 nu, .int .u64 o, .string t] = wq at q1 rb1 ro1 ⊢
        generalize wr.heap.size = gp at q1 hgp HGP ⊢
        have c0 := row_at q1 0 _ rfl
        have c1 := row_at q1 1 _ rfl
        have c2 := row_at q1 2 _ rfl
        go_upto_region 9 with fail


        go_cut [53] from 28 to 53 (fun c wx => c = .bool (!okJ first (baseJ os) 0 j ⟨e, nu, o, t⟩) ∧ wx = wq)
        case first =>
          have HOK : Hid (okJ first (baseJ os) 0 j ⟨e, nu, o, t⟩ = decide (nu = first)) := ok_first hf HE.out HFC.out (by rw [HJE.out]; exact fe.1)
          by_cases h1 : nu = first
          · subst h1
            have h2 : ¬ e < 0 := by omega
            have h3 : ¬ o < o := by omega
            have h4 : ¬ (S.size : Int) < 0 := by omega
            go_wp2
            go_meet
            exact ⟨by rw [HOK.out]; simp, rfl⟩
          · go_wp2
            go_meet
            exact ⟨by rw [HOK.out, decide_eq_false h1]; rfl, rfl⟩
        case rest =>
          obtain ⟨rfl, rfl⟩ := hcut
          cases hok : okJ first (baseJ os) 0 j ⟨e, nu, o, t⟩
          · have HR : Hid (joinR first os = j) := HI.out.stop HE.out hok
            clear hok
            simp only [Bool.not_false]
            have hl0 : Hid (j.sts.length = 0) := HI.out.len
            go_wp2
            (try simp only [Exit.inBlock, Exit.then]); refine bodyPost_ret (results_tmp4 rfl _ _ _) rfl ?_
            rw [HP.out]
            refine ⟨.slice oa2 0 cap2, ?_, by rw [HR.out]; exact ro1, rb1⟩
            rw [joinB_is HR.out, HR.out, hl0.out, if_pos rfl, HSS.out, HJE.out]; rfl
          · have HN2 : Hid _ := HI.out.next HE.out HFC.out hok
            have HOK2 : Hid (okJ first (baseJ os) 0 j ⟨e, nu, o, t⟩ = true) := hok
            simp only [Bool.not_true]
            obtain ⟨D, hD⟩ : ∃ D : Nat, D = 0 := ⟨0, rfl⟩
            have hDs : (0 : Int) ≤ S.size := by omega
            have HD : Hid (o - baseJ os = ((0 : Nat) : Int)) := by show _ = _; rw [HBJ0.out HE.out]; simp
            clear hok
            go_upto_region 10 with fail
            refine wp_region_held_drew (S := fun w' => Row w' gp #[.int .u32 e, .int .u32 nu, .int .u64 o, .string t] 25) (by kernel_rfl) q1 fun hS => ?_
            refine wpAnyH_take (i := 0) (v := .string S) rfl (by kernel_rfl) (by kernel_rfl) (by kernel_rfl) (fun _ _ _ h => h) (Or.inl ⟨by rfl, fun w _ => by rfl⟩) hS ?_
            try simp only [Act.put, List.getElem_toArray, List.getElem_cons_zero, List.getElem_cons_succ, List.setIfInBounds_toArray, List.set_cons_zero, List.set_cons_succ]
            refine wpAnyH_take (i := 1) (v := .pointer (some ⟨gp, 2, none⟩)) rfl (by kernel_rfl) (by kernel_rfl) (by kernel_rfl) (fun _ _ _ h => h) (Or.inl ⟨by rfl, fun w _ => by go_simp⟩) hS ?_
            try simp only [Act.put, List.getElem_toArray, List.getElem_cons_zero, List.getElem_cons_succ, List.setIfInBounds_toArray, List.set_cons_zero, List.set_cons_succ]
            refine wpAnyH_take (i := 2) (v := .int .u64 o) rfl (by kernel_rfl) (by kernel_rfl) (by kernel_rfl) (fun _ _ _ h => h) (Or.inl ⟨by rfl, fun w h => by have c := row_at h 2 _ rfl; go_simp⟩) hS ?_
            try simp only [Act.put, List.getElem_toArray, List.getElem_cons_zero, List.getElem_cons_succ, List.setIfInBounds_toArray, List.set_cons_zero, List.set_cons_succ]
            refine wpAnyH_take (i := 3) (v := .int .u64 o) rfl (by kernel_rfl) (by kernel_rfl) (by kernel_rfl) (fun _ _ _ h => h) (Or.inl ⟨by rfl, fun w _ => by rfl⟩) hS ?_
            try simp only [Act.put, List.getElem_toArray, List.getElem_cons_zero, List.getElem_cons_succ, List.setIfInBounds_toArray, List.set_cons_zero, List.set_cons_succ]
            refine wpAnyH_take (i := 4) (v := .int .u64 0) rfl (by kernel_rfl) (by kernel_rfl) (by kernel_rfl) (fun _ _ _ h => h) (Or.inl ⟨by rfl, fun w _ => by first | (go_simp; done) | (go_simp; rfl)⟩) hS ?_
            try simp only [Act.put, List.getElem_toArray, List.getElem_cons_zero, List.getElem_cons_succ, List.setIfInBounds_toArray, List.set_cons_zero, List.set_cons_succ]
            refine wpAnyH_take (i := 5) (v := .string (S.extract 0 0)) rfl (by kernel_rfl) (by kernel_rfl) (by kernel_rfl) (fun _ _ _ h => h) (Or.inl ⟨by rfl, fun w _ => by go_simp⟩) hS ?_
            try simp only [Act.put, List.getElem_toArray, List.getElem_cons_zero, List.getElem_cons_succ, List.setIfInBounds_toArray, List.set_cons_zero, List.set_cons_succ]
            refine wpAnyH_take (i := 6) (v := .pointer (some ⟨gp, 3, none⟩)) rfl (by kernel_rfl) (by kernel_rfl) (by kernel_rfl) (fun _ _ _ h => h) (Or.inl ⟨by rfl, fun w _ => by go_simp⟩) hS ?_
            try simp only [Act.put, List.getElem_toArray, List.getElem_cons_zero, List.getElem_cons_succ, List.setIfInBounds_toArray, List.set_cons_zero, List.set_cons_succ]
            refine wpAnyH_take (i := 7) (v := .string t) rfl (by kernel_rfl) (by kernel_rfl) (by kernel_rfl) (fun _ _ _ h => h) (Or.inl ⟨by rfl, fun w h => by have c := row_at h 3 _ rfl; go_simp⟩) hS ?_
            try simp only [Act.put, List.getElem_toArray, List.getElem_cons_zero, List.getElem_cons_succ, List.setIfInBounds_toArray, List.set_cons_zero, List.set_cons_succ]
            refine wpAnyH_take (i := 8) (v := .string (S.extract 0 0 ++ t)) rfl (by kernel_rfl) (by kernel_rfl) (by kernel_rfl) (fun _ _ _ h => h) (Or.inl ⟨by rfl, fun w _ => by have htx := HTX.out; go_simp; first | omega | (simp; omega)⟩) hS ?_
            try simp only [Act.put, List.getElem_toArray, List.getElem_cons_zero, List.getElem_cons_succ, List.setIfInBounds_toArray, List.set_cons_zero, List.set_cons_succ]
            refine wpAnyH_take (i := 9) (v := .string (S.extract 0 0 ++ t)) rfl (by kernel_rfl) (by kernel_rfl) (by kernel_rfl) (fun _ _ _ h => h) (Or.inl ⟨by rfl, fun w _ => by go_simp⟩) hS ?_
            try simp only [Act.put, List.getElem_toArray, List.getElem_cons_zero, List.getElem_cons_succ, List.setIfInBounds_toArray, List.set_cons_zero, List.set_cons_succ]
            refine wpAnyH_done (by kernel_rfl) ?_ _
            have rb2 := rb1.drew
            have ro2 : St.Own wc.drew w.heap.size (.slice oa2 0 cap2) j.sts := ro1
            have hgd : w.heap.size ≤ wc.drew.heap.size := rb2.size
            generalize wc.drew = wd at hS rb2 ro2 hgd ⊢
            clear rb1 ro1 q1 c0 c1 c2
            have c0 := row_at hS 0 _ rfl
            have c1 := row_at hS 1 _ rfl
            have c2 := row_at hS 2 _ rfl
            obtain ⟨S2, HS2⟩ : ∃ S2, Hid (S.extract 0 0 ++ t = S2) := ⟨_, rfl⟩
            rw [HS2.out]
            have HS3 : Hid (S2 = strOfNums (nextJ (baseJ os) j ⟨e, nu, o, t⟩).str) := by show _ = _; rw [← HS2.out, HSS.out]; exact next_str j (baseJ os) ⟨e, nu, o, t⟩ 0 HD.out
            have l4 : Row (wd.alloc (.cells #[.int .u32 nu, .int .u64 o] 78)) wd.heap.size #[.int .u32 nu, .int .u64 o] 78 := Row.new _ _ _
            have ro3 := St.Own.alloc ro2 (.cells #[.int .u32 nu, .int .u64 o] 78)
            have q3 := hS.alloc (.cells #[.int .u32 nu, .int .u64 o] 78)
            have hr := fun ty => ro3.snocP ty wd.heap.size ⟨nu, o⟩ l4 (by simp; omega) (by rw [HI.out.len]; omega)
            have HHR : Hid _ := hr
            have HBK : Hid _ := St.Own.lands ro3
            have rb3 := rb2.alloc rb2.size (.cells #[.int .u32 nu, .int .u64 o] 78)
            have hb2 := built78two nu o
            have hne : Hid (∀ kk, (Value.slice oa2 0 cap2).ownBlock = some kk → kk ≠ gp) := fun kk hq => HGP.out kk hq
            clear hr ro3 ro2 l4
            go_wp2_with (first
              | (refine build_parts rfl 78 #[(0, .tmp 65), (1, .tmp 67)] rfl [(0, .int .u32 nu), (1, .int .u64 o)] rfl _ hb2 ?_)
              | (at_builtin; refine St.wpList_copy rfl (.tmp 63) (.tmp 69) 46 rfl (.slice oa2 0 cap2) (.slice (some ⟨wd.heap.size, 0, none⟩) 1 1) rfl rfl (T := fun v' w' => St.Own w' w.heap.size v' (j.sts ++ [⟨nu, o⟩]) ∧ (wd.alloc (.cells #[.int .u32 nu, .int .u64 o] 78)).grownBy w' (Value.slice oa2 0 cap2).ownBlock) (fun ty => HHR.out ty) ?_
                 rintro v2 w7 ⟨lo7, gr⟩
                 have eb : Below w.heap.size w w7 := rb3.grown gr rb3.size (fun jj q => HBK.out jj q)
                 have d0 := row_at (Row.grown q3 gr (fun q => hne.out _ q rfl)) 0 _ rfl
                 clear gr rb3 HHR HBK q3))
            obtain ⟨oa3, cap3, hf7⟩ := lo7.form
            have hl4 : (j.sts ++ [(⟨nu, o⟩ : St.O)]).length = 0 + 1 := by simp [HI.out.len]
            rw [hl4] at hf7
            subst hf7
            go_roundw
            case rel => exact ⟨0 + 1, nextJ (baseJ os) j ⟨e, nu, o, t⟩, oa3, cap3, S2, (by rw [first_next]), (by rw [if_neg (by omega), HBJ0.out HE.out]), rfl, rfl, rfl, by go_num, by omega, eb, lo7, HS3, HN2, fun q => absurd q (by omega)⟩
            case measure => simp [intOf]; omega
      · rw [if_neg hk0]
        obtain ⟨F, HFF⟩ : ∃ F, Hid ((first + (k : Int)) % 4294967296 = F) := ⟨_, rfl⟩
        obtain ⟨b, HBJ⟩ : ∃ b, Hid (baseJ os = b) := ⟨_, rfl⟩
        obtain ⟨E, HJE⟩ : ∃ E, Hid (j.ep = E) := ⟨_, rfl⟩
        have hF : 0 ≤ F ∧ F ≤ 4294967295 := by rw [← HFF.out]; omega
        have hE : 0 ≤ E ∧ E ≤ 4294967295 := by rw [← HJE.out]; exact HI.out.ep
        have hb : 0 ≤ b ∧ b ≤ 18446744073709551615 := by
          obtain ⟨_, e0, n0, o0, t0, _, he0, _⟩ := HCS.out 0 (by omega)
          rw [← HBJ.out, baseJ_at he0]
          exact (HFT.out _ (List.mem_of_getElem? he0)).2.2
        rw [HFF.out, HBJ.out, HJE.out]
        have hk0' : ¬ (k : Int) = 0 := by omega
        obtain ⟨a, e, nu, o, t, rfl, he, hc⟩ := HCS.out k hkn
        have HC : Hid (∀ j u, ([.int .u32 e, .int .u32 nu, .int .u64 o, .string t] : List Value)[j]? = some u → wr.cell? ((a.add (k * 4)).add j) = some u) := fun j u hj => St.cell_keep (hc j u hj) rb
        have HE : Hid (os[k]? = some ⟨e, nu, o, t⟩) := he
        have HFC : Hid (Ck.O.Fits ⟨e, nu, o, t⟩) := HFT.out _ (List.mem_of_getElem? he)
        have fe : 0 ≤ e ∧ e ≤ 4294967295 := HFC.out.1
        have fn : 0 ≤ nu ∧ nu ≤ 4294967295 := HFC.out.2.1
        have fo : 0 ≤ o ∧ o ≤ 18446744073709551615 := HFC.out.2.2
        have HTX : Hid (t.size ≤ 1048576) := by have h1 := Ck.Olds.room he; have h2 := HI.out.room; show _ ≤ _; simp only at h1; omega
        clear he hc
        have q0 : Row (wr.alloc (.cells #[.int .u32 0, .int .u32 0, .int .u64 0, .string ByteArray.empty] 25)) wr.heap.size #[.int .u32 0, .int .u32 0, .int .u64 0, .string ByteArray.empty] 25 := Row.new _ _ _
        have tl : Hid (1 = 1) := rfl
        go_upto_region 7 with (first
          | (have hh := tl; clear hh tl; refine wpList_load_any rfl 25 (.tmp 22) rfl (a.add (k * 4)) rfl [.int .u32 e, .int .u32 nu, .int .u64 o, .string t] _ HC.out Try.underlying25 rfl size25 ?_)
          | (refine store_cells rfl 25 (.tmp 13) (.tmp 23) rfl wr.heap.size #[.int .u32 e, .int .u32 nu, .int .u64 o, .string t] rfl rfl 25 _ q0 4 size25 rfl rfl (by simp [Value.oneCell']) ?_))
        have q1 := q0.set #[.int .u32 e, .int .u32 nu, .int .u64 o, .string t]
        have hgp : w.heap.size ≤ wr.heap.size := rb.size
        have rb1 := below_setRow (rb.alloc rb.size (.cells #[.int .u32 0, .int .u32 0, .int .u64 0, .string ByteArray.empty] 25)) rb.size #[.int .u32 e, .int .u32 nu, .int .u64 o, .string t]
        have ro1 := ro.keep (below_setRow ((Below.refl _ _).alloc (Nat.le_refl _) (.cells #[.int .u32 0, .int .u32 0, .int .u64 0, .string ByteArray.empty] 25)) (Nat.le_refl _) #[.int .u32 e, .int .u32 nu, .int .u64 o, .string t])
        have HGP : Hid (∀ kk, (Value.slice oa2 k cap2).ownBlock = some kk → kk ≠ wr.heap.size) := fun kk hq => by have := (World.ownsRow.lt ro kk hq).2; omega
        clear q0 HC ro rb
        generalize (wr.alloc (.cells #[.int .u32 0, .int .u32 0, .int .u64 0, .string ByteArray.empty] 25)).setRow wr.heap.size #[.int .u32 e, .int .u32 nu, .int .u64 o, .string t] = wq at q1 rb1 ro1 ⊢
        generalize wr.heap.size = gp at q1 hgp HGP ⊢
        have c0 := row_at q1 0 _ rfl
        have c1 := row_at q1 1 _ rfl
        have c2 := row_at q1 2 _ rfl
        go_upto_region 9 with fail
        have hkb : ((k : Int) == 0) = false := by simp; omega
        simp only [hkb]
        go_cut [53] from 28 to 53 (fun c wx => c = .bool (!okJ first (baseJ os) k j ⟨e, nu, o, t⟩) ∧ wx = wq)
        case first =>
          have HOK : Hid (okJ first (baseJ os) k j ⟨e, nu, o, t⟩ = decide (nu = F ∧ E ≤ e ∧ b ≤ o ∧ o - b ≤ S.size)) := by show _ = _; unfold okJ; rw [HFF.out, HJE.out, HBJ.out, HSL.out]
          by_cases h1 : nu = F
          · subst h1
            by_cases h2 : e < E
            · go_wp2
              go_meet
              exact ⟨by rw [HOK.out, decide_eq_false (fun q => by omega)]; rfl, rfl⟩
            · by_cases h3 : o < b
              · go_wp2
                go_meet
                exact ⟨by rw [HOK.out, decide_eq_false (fun q => by omega)]; rfl, rfl⟩
              · by_cases h4 : o - b > S.size
                · have h4' : (S.size : Int) < o - b := h4
                  go_wp2
                  go_meet
                  exact ⟨by rw [HOK.out, decide_eq_false (fun q => by omega)]; rfl, rfl⟩
                · have h4' : ¬ (S.size : Int) < o - b := h4
                  have HX : Hid (E ≤ e ∧ b ≤ o ∧ o - b ≤ S.size) := ⟨by omega, by omega, by omega⟩
                  go_wp2
                  go_meet
                  exact ⟨by rw [HOK.out, decide_eq_true ⟨trivial, HX.out⟩]; rfl, rfl⟩
          · go_wp2
            go_meet
            exact ⟨by rw [HOK.out, decide_eq_false (fun q => h1 q.1)]; rfl, rfl⟩
        case rest =>
          obtain ⟨rfl, rfl⟩ := hcut
          cases hok : okJ first (baseJ os) k j ⟨e, nu, o, t⟩
          · have HR : Hid (joinR first os = j) := HI.out.stop HE.out hok
            clear hok
            simp only [Bool.not_false]
            have hl0 : Hid (j.sts.length = k) := HI.out.len
            go_wp2
            (try simp only [Exit.inBlock, Exit.then]); refine bodyPost_ret (results_tmp4 rfl _ _ _) rfl ?_
            rw [HP.out]
            refine ⟨.slice oa2 k cap2, ?_, by rw [HR.out]; exact ro1, rb1⟩
            rw [joinB_is HR.out, HR.out, hl0.out, if_neg (by omega), HBJ.out, HSS.out, HJE.out]; rfl
          · have HN2 : Hid _ := HI.out.next HE.out HFC.out hok
            have HOK2 : Hid (okJ first (baseJ os) k j ⟨e, nu, o, t⟩ = true) := hok
            simp only [Bool.not_true]
            obtain ⟨D, hD⟩ : ∃ D : Nat, o - b = D := ⟨(o - b).toNat, by unfold okJ at hok; simp only [decide_eq_true_eq] at hok; rw [HBJ.out] at hok; omega⟩
            have hDs : D ≤ S.size := by unfold okJ at hok; simp only [decide_eq_true_eq] at hok; rw [HBJ.out, HSL.out] at hok; omega
            have HD : Hid (o - baseJ os = D) := by show _ = _; rw [HBJ.out]; exact hD
            have hDm : (o - b) % 18446744073709551616 = D := by omega
            have hDw : IntKind.u64.wrap (D : Int) = D := by rw [IntKind.wrap_u64]; omega
            have hDs' : ¬ (S.size : Int) < (D : Int) := by omega
            have hDs2 : (D : Int) ≤ (S.size : Int) := by omega
            clear hok
            go_upto_region 10 with fail
            refine wp_region_held_drew (S := fun w' => Row w' gp #[.int .u32 e, .int .u32 nu, .int .u64 o, .string t] 25) (by kernel_rfl) q1 fun hS => ?_
            refine wpAnyH_take (i := 0) (v := .string S) rfl (by kernel_rfl) (by kernel_rfl) (by kernel_rfl) (fun _ _ _ h => h) (Or.inl ⟨by rfl, fun w _ => by rfl⟩) hS ?_
            try simp only [Act.put, List.getElem_toArray, List.getElem_cons_zero, List.getElem_cons_succ, List.setIfInBounds_toArray, List.set_cons_zero, List.set_cons_succ]
            refine wpAnyH_take (i := 1) (v := .pointer (some ⟨gp, 2, none⟩)) rfl (by kernel_rfl) (by kernel_rfl) (by kernel_rfl) (fun _ _ _ h => h) (Or.inl ⟨by rfl, fun w _ => by go_simp⟩) hS ?_
            try simp only [Act.put, List.getElem_toArray, List.getElem_cons_zero, List.getElem_cons_succ, List.setIfInBounds_toArray, List.set_cons_zero, List.set_cons_succ]
            refine wpAnyH_take (i := 2) (v := .int .u64 o) rfl (by kernel_rfl) (by kernel_rfl) (by kernel_rfl) (fun _ _ _ h => h) (Or.inl ⟨by rfl, fun w h => by have c := row_at h 2 _ rfl; go_simp⟩) hS ?_
            try simp only [Act.put, List.getElem_toArray, List.getElem_cons_zero, List.getElem_cons_succ, List.setIfInBounds_toArray, List.set_cons_zero, List.set_cons_succ]
            refine wpAnyH_take (i := 3) (v := .int .u64 b) rfl (by kernel_rfl) (by kernel_rfl) (by kernel_rfl) (fun _ _ _ h => h) (Or.inl ⟨by rfl, fun w _ => by rfl⟩) hS ?_
            try simp only [Act.put, List.getElem_toArray, List.getElem_cons_zero, List.getElem_cons_succ, List.setIfInBounds_toArray, List.set_cons_zero, List.set_cons_succ]
            refine wpAnyH_take (i := 4) (v := .int .u64 D) rfl (by kernel_rfl) (by kernel_rfl) (by kernel_rfl) (fun _ _ _ h => h) (Or.inl ⟨by rfl, fun w _ => by first | (go_simp; done) | (go_simp; rfl)⟩) hS ?_
            try simp only [Act.put, List.getElem_toArray, List.getElem_cons_zero, List.getElem_cons_succ, List.setIfInBounds_toArray, List.set_cons_zero, List.set_cons_succ]
            refine wpAnyH_take (i := 5) (v := .string (S.extract 0 D)) rfl (by kernel_rfl) (by kernel_rfl) (by kernel_rfl) (fun _ _ _ h => h) (Or.inl ⟨by rfl, fun w _ => by go_simp⟩) hS ?_
            try simp only [Act.put, List.getElem_toArray, List.getElem_cons_zero, List.getElem_cons_succ, List.setIfInBounds_toArray, List.set_cons_zero, List.set_cons_succ]
            refine wpAnyH_take (i := 6) (v := .pointer (some ⟨gp, 3, none⟩)) rfl (by kernel_rfl) (by kernel_rfl) (by kernel_rfl) (fun _ _ _ h => h) (Or.inl ⟨by rfl, fun w _ => by go_simp⟩) hS ?_
            try simp only [Act.put, List.getElem_toArray, List.getElem_cons_zero, List.getElem_cons_succ, List.setIfInBounds_toArray, List.set_cons_zero, List.set_cons_succ]
            refine wpAnyH_take (i := 7) (v := .string t) rfl (by kernel_rfl) (by kernel_rfl) (by kernel_rfl) (fun _ _ _ h => h) (Or.inl ⟨by rfl, fun w h => by have c := row_at h 3 _ rfl; go_simp⟩) hS ?_
            try simp only [Act.put, List.getElem_toArray, List.getElem_cons_zero, List.getElem_cons_succ, List.setIfInBounds_toArray, List.set_cons_zero, List.set_cons_succ]
            refine wpAnyH_take (i := 8) (v := .string (S.extract 0 D ++ t)) rfl (by kernel_rfl) (by kernel_rfl) (by kernel_rfl) (fun _ _ _ h => h) (Or.inl ⟨by rfl, fun w _ => by have htx := HTX.out; go_simp; first | omega | (simp; omega)⟩) hS ?_
            try simp only [Act.put, List.getElem_toArray, List.getElem_cons_zero, List.getElem_cons_succ, List.setIfInBounds_toArray, List.set_cons_zero, List.set_cons_succ]
            refine wpAnyH_take (i := 9) (v := .string (S.extract 0 D ++ t)) rfl (by kernel_rfl) (by kernel_rfl) (by kernel_rfl) (fun _ _ _ h => h) (Or.inl ⟨by rfl, fun w _ => by go_simp⟩) hS ?_
            try simp only [Act.put, List.getElem_toArray, List.getElem_cons_zero, List.getElem_cons_succ, List.setIfInBounds_toArray, List.set_cons_zero, List.set_cons_succ]
            refine wpAnyH_done (by kernel_rfl) ?_ _
            have rb2 := rb1.drew
            have ro2 : St.Own wc.drew w.heap.size (.slice oa2 k cap2) j.sts := ro1
            have hgd : w.heap.size ≤ wc.drew.heap.size := rb2.size
            generalize wc.drew = wd at hS rb2 ro2 hgd ⊢
            clear rb1 ro1 q1 c0 c1 c2
            have c0 := row_at hS 0 _ rfl
            have c1 := row_at hS 1 _ rfl
            have c2 := row_at hS 2 _ rfl
            obtain ⟨S2, HS2⟩ : ∃ S2, Hid (S.extract 0 D ++ t = S2) := ⟨_, rfl⟩
            rw [HS2.out]
            have HS3 : Hid (S2 = strOfNums (nextJ (baseJ os) j ⟨e, nu, o, t⟩).str) := by show _ = _; rw [← HS2.out, HSS.out]; exact next_str j (baseJ os) ⟨e, nu, o, t⟩ D HD.out
            have l4 : Row (wd.alloc (.cells #[.int .u32 nu, .int .u64 o] 78)) wd.heap.size #[.int .u32 nu, .int .u64 o] 78 := Row.new _ _ _
            have ro3 := St.Own.alloc ro2 (.cells #[.int .u32 nu, .int .u64 o] 78)
            have q3 := hS.alloc (.cells #[.int .u32 nu, .int .u64 o] 78)
            have hr := fun ty => ro3.snocP ty wd.heap.size ⟨nu, o⟩ l4 (by simp; omega) (by rw [HI.out.len]; omega)
            have HHR : Hid _ := hr
            have HBK : Hid _ := St.Own.lands ro3
            have rb3 := rb2.alloc rb2.size (.cells #[.int .u32 nu, .int .u64 o] 78)
            have hb2 := built78two nu o
            have hne : Hid (∀ kk, (Value.slice oa2 k cap2).ownBlock = some kk → kk ≠ gp) := fun kk hq => HGP.out kk hq
            clear hr ro3 ro2 l4
            go_wp2_with (first
              | (refine build_parts rfl 78 #[(0, .tmp 65), (1, .tmp 67)] rfl [(0, .int .u32 nu), (1, .int .u64 o)] rfl _ hb2 ?_)
              | (at_builtin; refine St.wpList_copy rfl (.tmp 63) (.tmp 69) 46 rfl (.slice oa2 k cap2) (.slice (some ⟨wd.heap.size, 0, none⟩) 1 1) rfl rfl (T := fun v' w' => St.Own w' w.heap.size v' (j.sts ++ [⟨nu, o⟩]) ∧ (wd.alloc (.cells #[.int .u32 nu, .int .u64 o] 78)).grownBy w' (Value.slice oa2 k cap2).ownBlock) (fun ty => HHR.out ty) ?_
                 rintro v2 w7 ⟨lo7, gr⟩
                 have eb : Below w.heap.size w w7 := rb3.grown gr rb3.size (fun jj q => HBK.out jj q)
                 have d0 := row_at (Row.grown q3 gr (fun q => hne.out _ q rfl)) 0 _ rfl
                 clear gr rb3 HHR HBK q3))
            obtain ⟨oa3, cap3, hf7⟩ := lo7.form
            have hl4 : (j.sts ++ [(⟨nu, o⟩ : St.O)]).length = k + 1 := by simp [HI.out.len]
            rw [hl4] at hf7
            subst hf7
            go_roundw
            case rel => exact ⟨k + 1, nextJ (baseJ os) j ⟨e, nu, o, t⟩, oa3, cap3, S2, (by rw [← HFF.out, wrap_next]), (by rw [if_neg (by omega)]), rfl, rfl, rfl, by go_num, by omega, eb, lo7, HS3, HN2, fun q => absurd q (by omega)⟩
            case measure => simp [intOf]; omega
    · obtain rfl : k = n := by omega
      have hkn' : ¬ (k : Int) < (k : Int) := by omega
      have HR : Hid (joinR first os = j) := HI.out.done (by rw [HN.out]; omega)
      have hl0 : Hid (j.sts.length = k) := HI.out.len
      by_cases hk0 : k = 0
      · subst hk0
        rw [if_pos rfl]
        go_wp2
        (try simp only [Exit.inBlock, Exit.then]); refine bodyPost_ret (results_tmp4 rfl _ _ _) rfl ?_
        rw [HP.out]
        refine ⟨.slice oa2 0 cap2, ?_, by rw [HR.out]; exact ro, rb⟩
        rw [joinB_is HR.out, HR.out, hl0.out, if_pos rfl, HSS.out]; rfl
      · rw [if_neg hk0]
        have hk0' : ¬ (k : Int) = 0 := by omega
        go_wp2
        (try simp only [Exit.inBlock, Exit.then]); refine bodyPost_ret (results_tmp4 rfl _ _ _) rfl ?_
        rw [HP.out]
        refine ⟨.slice oa2 k cap2, ?_, by rw [HR.out]; exact ro, rb⟩
        rw [joinB_is HR.out, HR.out, hl0.out, if_neg hk0, HSS.out]; rfl
end Go.Proofs.Ytbpaffjoedihbaa
