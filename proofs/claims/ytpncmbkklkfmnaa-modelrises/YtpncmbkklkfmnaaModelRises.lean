/-
  Proved here: commits that write have timestamps one behind the other; who begins starts at the last one's; without a condition.
-/
import Derived.Test.YtpncmbkklkfmnaaMri
namespace Go.Proofs.Ytpncmbkklkfmnaa.modelRises
open Go.ChangeShapes Go.WideShapes Go.ChangeAt Go.RowKit
open Go.Deep
set_option linter.unusedVariables false
set_option linter.unusedSimpArgs false

theorem own : ownKnob Try.prog.godebug = none := by kernel_rfl

set_option maxRecDepth 20000

theorem wpList_num_one {ops : Array Oper} {rest : List Oper} {o : Oper} {a : Act} {w : World} {Q : Exit → Act → World → Prop} (hg : o.guard = none) (x : Operand) (ho : o.op = .buildSlice 51 1 #[(0, x)]) (n : Int) (hx : a.eval x = .int .u64 n)
    (h : wpList Try.prog ops Q rest (a.put o.dst (.slice (some ⟨w.heap.size, 0, none⟩) 1 1)) (w.alloc (.cells #[.int .u64 n] 32))) : wpList Try.prog ops Q (o :: rest) a w := by
  obtain ⟨i, hi, hz, hs, _⟩ := info_parts info32
  refine wpList_buildSlice hg 51 32 1 _ ho #[.int .u64 n] i _ Try.underlying51 hi hz (by rw [hs]; decide) (by rw [hs]; decide) ?_ h
  have e1 : (#[(0, x)].map fun (i, x) => (i, a.eval x)).toList = [(0, .int .u64 n)] := by simp [hx]
  rw [e1, fill_step _ _ 0 (.int .u64 n) _ 0 1 (by simp [hs]) rfl (by simp [hs])]
  unfold Instr.fill
  congr 1
  show (⟨splice _ 0 [.int .u64 n]⟩ : Array Value) = _
  unfold splice
  rw [List.take_zero, List.nil_append, List.length_singleton, List.drop_of_length_le (by simp [hs]), List.append_nil]
/-- What holds behind some calls. -/
structure RA (s : St) (L : List Int) (j : Nat) : Prop where
  ri : RI s L
  mx : s.max = 20
  bg : s.begun ≤ j
theorem RA.start : RA (newS 8 20) [] 0 := ⟨⟨fun t ht => (nomatch ht), fun x hx => (nomatch hx)⟩, rfl, Int.le_refl _⟩
theorem RA.step {s : St} {L : List Int} {j : Nat} (h : RA s L j) (ok : s.Ok) (c : Cal) : RA (doS s c) (nextL s c L) (j + 1) := ⟨h.ri.step ok c, (doS_max s c).trans h.mx, by have := (doS_begun s c).2; have := h.bg; omega⟩
set_option maxHeartbeats 16000000 in
theorem walk (w : World) (v : Value) (cs : List Cal) (hcs : Cals w v cs) :
    Calls Try.prog 7 #[v] w fun e w' => e = .returned (.bool true) ∧ Below w.heap.size w w' := by
  obtain ⟨oa, cap, rfl, hcap_oa, hlen_oa, hel_oa⟩ := hcs
  have HEL_oa : Hid (∀ i, i < cs.length → ∃ (a : Addr) (c : Cal), oa = some a ∧ cs[i]? = some c ∧ c.Ok ∧ ∀ j u, c.cells[j]? = some u → w.cell? ((a.add (i * 5)).add j) = some u) := hel_oa
  obtain ⟨n1, HN_oa⟩ : ∃ n1, Hid (Nat.min cs.length 40 = n1) := ⟨_, rfl⟩
  have HSM_oa : Hid (∀ W, Calls Try.prog 11 #[.slice oa cs.length cap] W fun r w' => r = .returned (.slice oa n1 cap) ∧ w' = W) := fun W => by
    have := small_any _ oa cs.length cap rfl hcap_oa (by omega) W
    rw [HN_oa.out] at this
    simpa using this
  have hn40_oa : n1 ≤ 40 := by rw [← HN_oa.out]; exact Nat.min_le_right _ _
  have HNL_oa : Hid (n1 ≤ cs.length) := by rw [← HN_oa.out]; exact Nat.min_le_left _ _
  clear hel_oa hlen_oa hcap_oa
  have HNW : Hid (∀ W, Calls Try.prog 9 #[.int .i64 8, .int .u32 20] W fun e w' => NewM W 8 20 e w') := fun W => new_some 8 (by decide) (by decide) 20 (by decide) (by decide) W
  have HAW : Hid (∀ W, Calls Try.prog 10 #[] W fun r w' => r = .returned (.bool true) ∧ Below W.heap.size W w') := fun W => awake_any W
  obtain ⟨PP, HPP⟩ : ∃ PP : Ending → World → Prop, Hid (PP = fun e w' => e = .returned (.bool true) ∧ Below w.heap.size w w') := ⟨_, rfl⟩
  rw [← HPP.out]
  have hz40 := zero40
  have HZS : Hid (Rep.zero.arr.size = 67) := rz
  generalize Rep.zero.arr = Z at hz40 HZS
  have hn := HNW.out w
  go_enter Try.func7, Try.ntmps7
  go_upto_region 6 with (first
    | (go_at_call 9; refine Calls.mono hn ?_; clear hn; rintro e W1 hnm; obtain ⟨g, rfl, ms0⟩ := MS.start hnm; clear hnm; have hs := HSM_oa.out W1)
    | (go_at_call 11; refine Calls.mono hs ?_; clear hs; rintro e W2 ⟨he, hww⟩; rw [hww]; clear hww W2; obtain rfl := he))
  generalize (fun k => w.heap.size ≤ k ∧ k < W1.heap.size) = F0 at ms0
  clear HSM_oa
  go_loopw [4, 6, 7, 8, 9, 16] (fun v4 _ _ _ _ i wr => ∃ (j : Nat) (s : St) (F : Nat → Prop) (L : List Int), i = .int .i64 j ∧ j ≤ n1 ∧ MS w F g s wr ∧ Num w F wr v4 L ∧ L.length ≤ j ∧ Hid (RA s L j)) (fun _ _ _ _ _ i _ => n1 - (intOf i).toNat)
  case atStart => exact ⟨0, _, _, [], rfl, Nat.zero_le _, ms0, Num.nil _ _ _, Nat.le_refl _, RA.start⟩
  case round =>
    clear ms0
    obtain ⟨j, s, F, L, rfl, hj, ms, nm, hLj, HA⟩ := hrel
    by_cases hlt : (j : Int) < n1
    · obtain ⟨a, c, rfl, hcj, hcok, hcell⟩ := HEL_oa.out j (by have := HNL_oa.out; omega)
      have hcell2 : ∀ i u, c.cells[i]? = some u → wr.cell? ((a.add (j * 5)).add i) = some u := fun i u h => cell_keep (hcell i u h) ms.bel
      have hz35 := zero35
      have rn : Row (wr.alloc (.cells #[.int .u8 0, .int .u64 0, .int .u16 0, .int .i64 0, .string ⟨#[]⟩] 35)) wr.heap.size #[.int .u8 0, .int .u64 0, .int .u16 0, .int .i64 0, .string ⟨#[]⟩] 35 := Row.new _ _ _
      obtain ⟨CE, HCE⟩ : ∃ CE, Hid (c.arr = CE) := ⟨_, rfl⟩
      have HAR : Hid (c.cells.toArray = CE) := by rw [← HCE.out]; rfl
      have HCS : Hid (CE.size = 5) := by rw [← HCE.out]; rfl
      have HCO : Hid (CE.all (·.oneCell') = true) := by rw [← HCE.out]; exact c.one
      have HC0 : Hid (CE[0]? = some (.int .u8 c.kind)) := by rw [← HCE.out]; rfl
      have HC1 : Hid (CE[1]? = some (.int .u64 c.txn)) := by rw [← HCE.out]; rfl
      have HOK : Hid c.Ok := hcok
      have b3 : Below wr.heap.size wr ((wr.alloc (.cells #[.int .u8 0, .int .u64 0, .int .u16 0, .int .i64 0, .string ⟨#[]⟩] 35)).setRow wr.heap.size CE) := below_setRow ((Below.refl _ _).alloc (Nat.le_refl _) _) (Nat.le_refl _) _
      have l_X : Loc F ((wr.alloc (.cells #[.int .u8 0, .int .u64 0, .int .u16 0, .int .i64 0, .string ⟨#[]⟩] 35)).setRow wr.heap.size CE) wr.heap.size CE 35 := ⟨rn.set _, ms.fresh⟩
      have ms3 := ms.below b3
      have nm3 := nm.below b3
      have hw1 : IntKind.i64.wrap ((j : Int) + 1) = ((j + 1 : Nat) : Int) := by rw [IntKind.wrap_i64]; omega
      clear hcell hcj hcok ms nm
      have tl : Hid (1 = 1) := rfl
      have ts : Hid (1 = 1) := rfl
      go_upto_region 8 with (first
        | (have hh := tl; clear hh tl; refine wpList_load_any rfl 35 (.tmp 18) rfl _ rfl c.cells _ hcell2 Try.underlying35 rfl (by rw [size35]; rfl) ?_; rw [HAR.out])
        | (have hh := ts; clear hh ts; refine store_cells rfl 35 (.tmp 6) (.tmp 19) rfl wr.heap.size CE rfl rfl 35 _ rn 5 size35 rfl HCS.out HCO.out ?_))
      clear rn hcell2 b3 hz35
      generalize (wr.alloc (.cells #[.int .u8 0, .int .u64 0, .int .u16 0, .int .i64 0, .string ⟨#[]⟩] 35)).setRow wr.heap.size CE = W3 at l_X ms3 nm3 ⊢
      generalize wr.heap.size = X at l_X ⊢
      have HSO : Hid s.Ok := ms3.at_.ok
      have hd := ms3.call c HOK.out (by have := HA.out.bg; have := hn40_oa; omega)
      rw [HCE.out] at hd
      obtain ⟨R, HDR⟩ : ∃ R, Hid ((doR s c).arr = R) := ⟨_, rfl⟩
      have HR : Hid (R.size = 67 ∧ R.all (·.oneCell') = true ∧ R[0]? = some (.int .i64 (doR s c).err) ∧ R[1]? = some (.int .u64 (doR s c).txn) ∧ R[2]? = some (.int .u32 (doR s c).ts)) := by rw [← HDR.out]; exact ⟨Rep.arr_size (doR_len HSO.out HOK.out), Rep.one _, rfl, rfl, rfl⟩
      rw [HDR.out] at hd
      have HRI2 : Hid (RA (doS s c) (nextL s c L) (j + 1)) := HA.out.step HSO.out c
      have HBE : Hid (c.kind = 0 → (doR s c).err = 0 → (doR s c).ts = s.last) := fun h1 h2 => rises_begin (by cases s.closed <;> simp) h1 h2
      have HLT : Hid (¬ c.kind = 3 → (doS s c).last = s.last) := fun h => rises_last h
      have HCM : Hid (c.kind = 3 → (doR s c).err = 0 → (c.txn ∈ L → (doR s c).ts = s.last + 1 ∧ (doS s c).last = s.last + 1) ∧ (c.txn ∉ L → (doR s c).ts ≤ s.last ∧ (doS s c).last = s.last)) := fun h1 h2 => rises_commit HA.out.ri HSO.out h1 h2
      have HNL : Hid (nextL s c L = if (doR s c).err = 0 ∧ c.kind = 2 then L ++ [c.txn] else L) := rfl
      have hls := HSO.out.lo
      have hlh : s.last ≤ 20 := by have := HSO.out.hi; rw [HA.out.mx] at this; exact this
      have hla := ms3.last
      obtain ⟨la, HLA⟩ : ∃ la, Hid (s.last = la) := ⟨_, rfl⟩
      obtain ⟨T, HT⟩ : ∃ T, Hid ((doR s c).ts = T) := ⟨_, rfl⟩
      obtain ⟨er, HER⟩ : ∃ er, Hid ((doR s c).err = er) := ⟨_, rfl⟩
      obtain ⟨s', HS'⟩ : ∃ s', Hid (doS s c = s') := ⟨_, rfl⟩
      rw [HLA.out] at hls hlh hla HBE HLT HCM
      rw [HT.out] at HR HBE HCM
      rw [HER.out] at HR HBE HCM HNL
      rw [HS'.out] at hd HRI2 HLT HCM
      have tl : Hid (1 = 1) := rfl
      have ts : Hid (1 = 1) := rfl
      have rX := l_X.1
      go_upto_region 10 with (first
        | (go_at_call 14; refine Calls.mono hla ?_; clear hla; rintro e Wx ⟨he, hww⟩; rw [hww]; clear hww Wx; obtain rfl := he)
        | (have hh := tl; clear hh tl; refine load_cells rfl 35 (.tmp 6) rfl X rfl 35 CE rX 5 Try.underlying35 rfl size35 HCS.out ?_)
        | (go_at_call 12; refine Calls.mono hd ?_; clear hd; rintro e X8 ⟨he, hst⟩; obtain rfl := he; have rn : Row (X8.alloc (.cells Z 40)) X8.heap.size Z 40 := Row.new _ _ _)
        | (have hh := ts; clear hh ts; refine store_cells rfl 40 (.tmp 8) (.tmp 24) rfl X8.heap.size R rfl rfl 40 _ rn 67 size40 HZS.out HR.out.1 HR.out.2.1 ?_))
      obtain ⟨F4, ms4, of4, ff4⟩ := hst
      have bn4 : Below X8.heap.size X8 ((X8.alloc (.cells Z 40)).setRow X8.heap.size R) := below_setRow ((Below.refl _ _).alloc (Nat.le_refl _) _) (Nat.le_refl _) _
      have l_k8 : Loc F4 ((X8.alloc (.cells Z 40)).setRow X8.heap.size R) X8.heap.size R 40 := ⟨rn.set _, ms4.fresh⟩
      have l_X := (l_X.step of4 ff4).below bn4
      have nm4 := (nm3.step of4 ff4).below bn4
      have ms4 := ms4.below bn4
      clear of4 ff4 rn bn4 ms3 nm3 rX
      generalize (X8.alloc (.cells Z 40)).setRow X8.heap.size R = Y8 at l_k8 l_X ms4 nm4 ⊢
      generalize X8.heap.size = k8 at l_k8 ⊢
      have e0 := row_at l_X.1 0 _ HC0.out
      have e1 := row_at l_X.1 1 _ HC1.out
      have f0 := row_at l_k8.1 0 _ HR.out.2.2.1
      have f2 := row_at l_k8.1 2 _ HR.out.2.2.2.2
      have hs20 : s'.last ≤ 20 := by have := ms4.at_.ok.hi; rw [HRI2.out.mx] at this; exact this
      by_cases h3 : c.kind = 3
      · have n0 : (c.kind == 0) = false := by rw [h3]; rfl
        have n2 : (c.kind == 2) = false := by rw [h3]; rfl
        have n3 : (c.kind == 3) = true := by rw [h3]; rfl
        have n3' : (c.kind != 3) = false := by rw [h3]; rfl
        have HCM2 := HCM.out h3
        have HNN : Hid (nextL s c L = L) := by show _ = _; rw [HNL.out, if_neg (by omega)]
        rw [HNN.out] at HRI2
        clear h3
        by_cases he0 : er = 0
        · have hcm : Hid _ := HCM2 he0
          subst he0
          clear HCM2
          obtain ⟨ob, cap4, hv4, hcel⟩ := nm4.form
          have hhas := has_loop u4 ob cap4 L c.txn Y8 hv4 (by have := hn40_oa; omega) hcel
          clear hcel hv4
          by_cases hin : c.txn ∈ L
          · rw [decide_eq_true hin] at hhas
            obtain ⟨hT, hL'⟩ := hcm.out.1 hin
            clear hin hcm
            have HLA2 : Hid (s'.last = la + 1) := hL'
            have hg20 : ¬ (la + 1) > 20 := by rw [hL'] at hs20; omega
            clear hL' hs20
            have hwr : IntKind.u32.wrap (la + 1) = la + 1 := by rw [IntKind.wrap_u32]; omega
            have hb1 : (T != la + 1) = false := by rw [hT]; simp
            have hb2 : ((la + 1) != T) = false := by rw [hT]; simp
            have HTT : Hid (T = la + 1) := hT
            clear hT
            go_upto_region 18 with (go_at_call 18; refine Calls.mono hhas ?_; clear hhas; rintro e Wx ⟨he, hww⟩; rw [hww]; clear hww Wx; obtain rfl := he)
            refine wp_region_held_drew (S := fun w' => MS w F4 g s' w' ∧ Loc F4 w' k8 R 40) (by kernel_rfl) ⟨ms4.below (below_drew _), l_k8.below (below_drew _)⟩ fun hS => ?_
            have nm5 := nm4.below (below_drew Y8)
            have lX5 := l_X.below (below_drew Y8)
            clear ms4 l_k8 nm4 l_X e0 e1 f0 f2
            refine wpAnyH_take (i := 0) (v := .bool true) rfl (by kernel_rfl) (by kernel_rfl) (by kernel_rfl) (fun _ _ _ h => h) (Or.inl ⟨by rfl, fun w _ => by rfl⟩) hS ?_
            try simp only [Act.put, List.getElem_toArray, List.getElem_cons_zero, List.getElem_cons_succ, List.setIfInBounds_toArray, List.set_cons_zero, List.set_cons_succ]
            refine wpAnyH_take (i := 1) (v := .bool true) rfl (by kernel_rfl) (by kernel_rfl) (by kernel_rfl) (fun _ _ _ h => h) (Or.inl ⟨by rfl, fun w _ => by rfl⟩) hS ?_
            try simp only [Act.put, List.getElem_toArray, List.getElem_cons_zero, List.getElem_cons_succ, List.setIfInBounds_toArray, List.set_cons_zero, List.set_cons_succ]
            refine wpAnyH_take (i := 2) (v := .pointer (some ⟨k8, 2, none⟩)) rfl (by kernel_rfl) (by kernel_rfl) (by kernel_rfl) (fun _ _ _ h => h) (Or.inl ⟨by rfl, fun w _ => by go_simp⟩) hS ?_
            try simp only [Act.put, List.getElem_toArray, List.getElem_cons_zero, List.getElem_cons_succ, List.setIfInBounds_toArray, List.set_cons_zero, List.set_cons_succ]
            refine wpAnyH_take (i := 3) (v := .int .u32 T) rfl (by kernel_rfl) (by kernel_rfl) (by kernel_rfl) (fun _ _ _ h => h) (Or.inl ⟨by rfl, fun w h => by have c : w.cell? ⟨k8, 2, none⟩ = some (.int .u32 T) := row_at h.2.1 2 _ HR.out.2.2.2.2; go_simp⟩) hS ?_
            try simp only [Act.put, List.getElem_toArray, List.getElem_cons_zero, List.getElem_cons_succ, List.setIfInBounds_toArray, List.set_cons_zero, List.set_cons_succ]
            refine wpAnyH_take (i := 4) (v := .int .u32 la) rfl (by kernel_rfl) (by kernel_rfl) (by kernel_rfl) (fun _ _ _ h => h) (Or.inl ⟨by rfl, fun w _ => by rfl⟩) hS ?_
            try simp only [Act.put, List.getElem_toArray, List.getElem_cons_zero, List.getElem_cons_succ, List.setIfInBounds_toArray, List.set_cons_zero, List.set_cons_succ]
            refine wpAnyH_take (i := 5) (v := .int .u32 (la + 1)) rfl (by kernel_rfl) (by kernel_rfl) (by kernel_rfl) (fun _ _ _ h => h) (Or.inl ⟨by rfl, fun w h => by have c := hwr; go_simp⟩) hS ?_
            try simp only [Act.put, List.getElem_toArray, List.getElem_cons_zero, List.getElem_cons_succ, List.setIfInBounds_toArray, List.set_cons_zero, List.set_cons_succ]
            refine wpAnyH_take (i := 6) (v := .bool false) rfl (by kernel_rfl) (by kernel_rfl) (by kernel_rfl) (fun _ _ _ h => h) (Or.inl ⟨by rfl, fun w h => by have c := hb1; go_simp⟩) hS ?_
            try simp only [Act.put, List.getElem_toArray, List.getElem_cons_zero, List.getElem_cons_succ, List.setIfInBounds_toArray, List.set_cons_zero, List.set_cons_succ]
            refine wpAnyH_take (i := 7) (v := .bool false) rfl (by kernel_rfl) (by kernel_rfl) (by kernel_rfl) (fun _ _ _ h => h) (Or.inl ⟨by rfl, fun w _ => by rfl⟩) hS ?_
            try simp only [Act.put, List.getElem_toArray, List.getElem_cons_zero, List.getElem_cons_succ, List.setIfInBounds_toArray, List.set_cons_zero, List.set_cons_succ]
            refine wpAnyH_take (i := 8) (v := .pointer (some ⟨g, 0, none⟩)) rfl (by kernel_rfl) (by kernel_rfl) (by kernel_rfl) (fun _ _ _ h => h) (Or.inl ⟨by rfl, fun w _ => by rfl⟩) hS ?_
            try simp only [Act.put, List.getElem_toArray, List.getElem_cons_zero, List.getElem_cons_succ, List.setIfInBounds_toArray, List.set_cons_zero, List.set_cons_succ]
            refine wpAnyH_take (i := 10) (v := .pointer (some ⟨k8, 2, none⟩)) rfl (by kernel_rfl) (by kernel_rfl) (by kernel_rfl) (fun _ _ _ h => h) (Or.inl ⟨by rfl, fun w _ => by go_simp⟩) hS ?_
            try simp only [Act.put, List.getElem_toArray, List.getElem_cons_zero, List.getElem_cons_succ, List.setIfInBounds_toArray, List.set_cons_zero, List.set_cons_succ]
            refine wpAnyH_take (i := 11) (v := .int .u32 T) rfl (by kernel_rfl) (by kernel_rfl) (by kernel_rfl) (fun _ _ _ h => h) (Or.inl ⟨by rfl, fun w h => by have c : w.cell? ⟨k8, 2, none⟩ = some (.int .u32 T) := row_at h.2.1 2 _ HR.out.2.2.2.2; go_simp⟩) hS ?_
            try simp only [Act.put, List.getElem_toArray, List.getElem_cons_zero, List.getElem_cons_succ, List.setIfInBounds_toArray, List.set_cons_zero, List.set_cons_succ]
            generalize Y8.drew = W8 at hS nm5 lX5 ⊢
            have hla := hS.1.last
            rw [HLA2.out] at hla
            refine wpAnyH_ready (rs := [9]) (by kernel_rfl) (by simp) ?_
            refine AllReadyH.cons rfl (fun K hK => ?_) AllReadyH.nil
            go_simp
            go_at_call 14
            refine Calls.mono hla ?_
            rintro e wc ⟨he, hww⟩
            obtain rfl := he
            rw [hww]
            clear hww wc hla
            refine hK.out _ _ hS fun hS => ?_
            try simp only [Act.put, List.getElem_toArray, List.getElem_cons_zero, List.getElem_cons_succ, List.setIfInBounds_toArray, List.set_cons_zero, List.set_cons_succ]
            refine wpAnyH_take (i := 12) (v := .bool false) rfl (by kernel_rfl) (by kernel_rfl) (by kernel_rfl) (fun _ _ _ h => h) (Or.inl ⟨by rfl, fun w h => by have c := hb2; go_simp⟩) hS ?_
            try simp only [Act.put, List.getElem_toArray, List.getElem_cons_zero, List.getElem_cons_succ, List.setIfInBounds_toArray, List.set_cons_zero, List.set_cons_succ]
            refine wpAnyH_take (i := 13) (v := .bool false) rfl (by kernel_rfl) (by kernel_rfl) (by kernel_rfl) (fun _ _ _ h => h) (Or.inl ⟨by rfl, fun w _ => by go_simp⟩) hS ?_
            try simp only [Act.put, List.getElem_toArray, List.getElem_cons_zero, List.getElem_cons_succ, List.setIfInBounds_toArray, List.set_cons_zero, List.set_cons_succ]
            refine wpAnyH_take (i := 14) (v := .bool false) rfl (by kernel_rfl) (by kernel_rfl) (by kernel_rfl) (fun _ _ _ h => h) (Or.inl ⟨by rfl, fun w _ => by go_simp⟩) hS ?_
            try simp only [Act.put, List.getElem_toArray, List.getElem_cons_zero, List.getElem_cons_succ, List.setIfInBounds_toArray, List.set_cons_zero, List.set_cons_succ]
            refine wpAnyH_take (i := 15) (v := .bool false) rfl (by kernel_rfl) (by kernel_rfl) (by kernel_rfl) (fun _ _ _ h => h) (Or.inl ⟨by rfl, fun w _ => by rfl⟩) hS ?_
            try simp only [Act.put, List.getElem_toArray, List.getElem_cons_zero, List.getElem_cons_succ, List.setIfInBounds_toArray, List.set_cons_zero, List.set_cons_succ]
            refine wpAnyH_take (i := 16) (v := .bool true) rfl (by kernel_rfl) (by kernel_rfl) (by kernel_rfl) (fun _ _ _ h => h) (Or.inl ⟨by rfl, fun w _ => by rfl⟩) hS ?_
            try simp only [Act.put, List.getElem_toArray, List.getElem_cons_zero, List.getElem_cons_succ, List.setIfInBounds_toArray, List.set_cons_zero, List.set_cons_succ]
            refine wpAnyH_take (i := 17) (v := .bool false) rfl (by kernel_rfl) (by kernel_rfl) (by kernel_rfl) (fun _ _ _ h => h) (Or.inl ⟨by rfl, fun w _ => by go_simp⟩) hS ?_
            try simp only [Act.put, List.getElem_toArray, List.getElem_cons_zero, List.getElem_cons_succ, List.setIfInBounds_toArray, List.set_cons_zero, List.set_cons_succ]
            refine wpAnyH_take (i := 18) (v := .bool false) rfl (by kernel_rfl) (by kernel_rfl) (by kernel_rfl) (fun _ _ _ h => h) (Or.inl ⟨by rfl, fun w _ => by rfl⟩) hS ?_
            try simp only [Act.put, List.getElem_toArray, List.getElem_cons_zero, List.getElem_cons_succ, List.setIfInBounds_toArray, List.set_cons_zero, List.set_cons_succ]
            refine wpAnyH_take (i := 19) (v := undef) rfl (by kernel_rfl) (by kernel_rfl) (by kernel_rfl) (fun _ _ _ h => h) (Or.inr ⟨by rfl, rfl⟩) hS ?_
            try simp only [Act.put, List.getElem_toArray, List.getElem_cons_zero, List.getElem_cons_succ, List.setIfInBounds_toArray, List.set_cons_zero, List.set_cons_succ]
            refine wpAnyH_take (i := 20) (v := undef) rfl (by kernel_rfl) (by kernel_rfl) (by kernel_rfl) (fun _ _ _ h => h) (Or.inr ⟨by rfl, rfl⟩) hS ?_
            try simp only [Act.put, List.getElem_toArray, List.getElem_cons_zero, List.getElem_cons_succ, List.setIfInBounds_toArray, List.set_cons_zero, List.set_cons_succ]
            refine wpAnyH_take (i := 21) (v := undef) rfl (by kernel_rfl) (by kernel_rfl) (by kernel_rfl) (fun _ _ _ h => h) (Or.inr ⟨by rfl, rfl⟩) hS ?_
            try simp only [Act.put, List.getElem_toArray, List.getElem_cons_zero, List.getElem_cons_succ, List.setIfInBounds_toArray, List.set_cons_zero, List.set_cons_succ]
            refine wpAnyH_take (i := 22) (v := undef) rfl (by kernel_rfl) (by kernel_rfl) (by kernel_rfl) (fun _ _ _ h => h) (Or.inr ⟨by rfl, rfl⟩) hS ?_
            try simp only [Act.put, List.getElem_toArray, List.getElem_cons_zero, List.getElem_cons_succ, List.setIfInBounds_toArray, List.set_cons_zero, List.set_cons_succ]
            refine wpAnyH_take (i := 23) (v := undef) rfl (by kernel_rfl) (by kernel_rfl) (by kernel_rfl) (fun _ _ _ h => h) (Or.inr ⟨by rfl, rfl⟩) hS ?_
            try simp only [Act.put, List.getElem_toArray, List.getElem_cons_zero, List.getElem_cons_succ, List.setIfInBounds_toArray, List.set_cons_zero, List.set_cons_succ]
            refine wpAnyH_take (i := 24) (v := undef) rfl (by kernel_rfl) (by kernel_rfl) (by kernel_rfl) (fun _ _ _ h => h) (Or.inr ⟨by rfl, rfl⟩) hS ?_
            try simp only [Act.put, List.getElem_toArray, List.getElem_cons_zero, List.getElem_cons_succ, List.setIfInBounds_toArray, List.set_cons_zero, List.set_cons_succ]
            refine wpAnyH_take (i := 25) (v := undef) rfl (by kernel_rfl) (by kernel_rfl) (by kernel_rfl) (fun _ _ _ h => h) (Or.inr ⟨by rfl, rfl⟩) hS ?_
            try simp only [Act.put, List.getElem_toArray, List.getElem_cons_zero, List.getElem_cons_succ, List.setIfInBounds_toArray, List.set_cons_zero, List.set_cons_succ]
            refine wpAnyH_take (i := 26) (v := undef) rfl (by kernel_rfl) (by kernel_rfl) (by kernel_rfl) (fun _ _ _ h => h) (Or.inr ⟨by rfl, rfl⟩) hS ?_
            try simp only [Act.put, List.getElem_toArray, List.getElem_cons_zero, List.getElem_cons_succ, List.setIfInBounds_toArray, List.set_cons_zero, List.set_cons_succ]
            refine wpAnyH_take (i := 27) (v := undef) rfl (by kernel_rfl) (by kernel_rfl) (by kernel_rfl) (fun _ _ _ h => h) (Or.inr ⟨by rfl, rfl⟩) hS ?_
            try simp only [Act.put, List.getElem_toArray, List.getElem_cons_zero, List.getElem_cons_succ, List.setIfInBounds_toArray, List.set_cons_zero, List.set_cons_succ]
            refine wpAnyH_take (i := 28) (v := undef) rfl (by kernel_rfl) (by kernel_rfl) (by kernel_rfl) (fun _ _ _ h => h) (Or.inr ⟨by rfl, rfl⟩) hS ?_
            try simp only [Act.put, List.getElem_toArray, List.getElem_cons_zero, List.getElem_cons_succ, List.setIfInBounds_toArray, List.set_cons_zero, List.set_cons_succ]
            refine wpAnyH_take (i := 29) (v := .bool false) rfl (by kernel_rfl) (by kernel_rfl) (by kernel_rfl) (fun _ _ _ h => h) (Or.inl ⟨by rfl, fun w _ => by go_simp⟩) hS ?_
            try simp only [Act.put, List.getElem_toArray, List.getElem_cons_zero, List.getElem_cons_succ, List.setIfInBounds_toArray, List.set_cons_zero, List.set_cons_succ]
            refine wpAnyH_take (i := 30) (v := .bool false) rfl (by kernel_rfl) (by kernel_rfl) (by kernel_rfl) (fun _ _ _ h => h) (Or.inl ⟨by rfl, fun w _ => by go_simp⟩) hS ?_
            try simp only [Act.put, List.getElem_toArray, List.getElem_cons_zero, List.getElem_cons_succ, List.setIfInBounds_toArray, List.set_cons_zero, List.set_cons_succ]
            refine wpAnyH_done (by kernel_rfl) ?_ _
            have e0 := row_at lX5.1 0 _ HC0.out
            obtain ⟨ms5, l5⟩ := hS
            clear hb1 hb2 hwr
            have hla := ms5.last
            rw [HLA2.out] at hla
            go_wp2_with (first
              | (go_at_call 14; refine Calls.mono hla ?_; rintro e Wx ⟨he, hww⟩; rw [hww]; clear hww Wx; obtain rfl := he))
            go_roundw
            case rel => exact ⟨j + 1, _, F4, L, by first | rfl | simp, by omega, ms5, nm5, by omega, HRI2.out⟩
            case measure => simp only [intOf]; omega
          · rw [decide_eq_false hin] at hhas
            obtain ⟨hT, hL'⟩ := hcm.out.2 hin
            clear hin hcm
            have HLA2 : Hid (s'.last = la) := hL'
            have hg20 : ¬ la > 20 := by omega
            clear hL' hs20
            have hb1 : ¬ T > la := by omega
            have hb2 : (la != la) = false := by simp
            go_upto_region 18 with (go_at_call 18; refine Calls.mono hhas ?_; clear hhas; rintro e Wx ⟨he, hww⟩; rw [hww]; clear hww Wx; obtain rfl := he)
            refine wp_region_held_drew (S := fun w' => MS w F4 g s' w' ∧ Loc F4 w' k8 R 40) (by kernel_rfl) ⟨ms4.below (below_drew _), l_k8.below (below_drew _)⟩ fun hS => ?_
            have nm5 := nm4.below (below_drew Y8)
            have lX5 := l_X.below (below_drew Y8)
            clear ms4 l_k8 nm4 l_X e0 e1 f0 f2
            refine wpAnyH_take (i := 0) (v := .bool false) rfl (by kernel_rfl) (by kernel_rfl) (by kernel_rfl) (fun _ _ _ h => h) (Or.inl ⟨by rfl, fun w _ => by rfl⟩) hS ?_
            try simp only [Act.put, List.getElem_toArray, List.getElem_cons_zero, List.getElem_cons_succ, List.setIfInBounds_toArray, List.set_cons_zero, List.set_cons_succ]
            refine wpAnyH_take (i := 1) (v := .bool false) rfl (by kernel_rfl) (by kernel_rfl) (by kernel_rfl) (fun _ _ _ h => h) (Or.inl ⟨by rfl, fun w _ => by rfl⟩) hS ?_
            try simp only [Act.put, List.getElem_toArray, List.getElem_cons_zero, List.getElem_cons_succ, List.setIfInBounds_toArray, List.set_cons_zero, List.set_cons_succ]
            refine wpAnyH_take (i := 2) (v := undef) rfl (by kernel_rfl) (by kernel_rfl) (by kernel_rfl) (fun _ _ _ h => h) (Or.inr ⟨by rfl, rfl⟩) hS ?_
            try simp only [Act.put, List.getElem_toArray, List.getElem_cons_zero, List.getElem_cons_succ, List.setIfInBounds_toArray, List.set_cons_zero, List.set_cons_succ]
            refine wpAnyH_take (i := 3) (v := undef) rfl (by kernel_rfl) (by kernel_rfl) (by kernel_rfl) (fun _ _ _ h => h) (Or.inr ⟨by rfl, rfl⟩) hS ?_
            try simp only [Act.put, List.getElem_toArray, List.getElem_cons_zero, List.getElem_cons_succ, List.setIfInBounds_toArray, List.set_cons_zero, List.set_cons_succ]
            refine wpAnyH_take (i := 4) (v := undef) rfl (by kernel_rfl) (by kernel_rfl) (by kernel_rfl) (fun _ _ _ h => h) (Or.inr ⟨by rfl, rfl⟩) hS ?_
            try simp only [Act.put, List.getElem_toArray, List.getElem_cons_zero, List.getElem_cons_succ, List.setIfInBounds_toArray, List.set_cons_zero, List.set_cons_succ]
            refine wpAnyH_take (i := 5) (v := undef) rfl (by kernel_rfl) (by kernel_rfl) (by kernel_rfl) (fun _ _ _ h => h) (Or.inr ⟨by rfl, rfl⟩) hS ?_
            try simp only [Act.put, List.getElem_toArray, List.getElem_cons_zero, List.getElem_cons_succ, List.setIfInBounds_toArray, List.set_cons_zero, List.set_cons_succ]
            refine wpAnyH_take (i := 6) (v := undef) rfl (by kernel_rfl) (by kernel_rfl) (by kernel_rfl) (fun _ _ _ h => h) (Or.inr ⟨by rfl, rfl⟩) hS ?_
            try simp only [Act.put, List.getElem_toArray, List.getElem_cons_zero, List.getElem_cons_succ, List.setIfInBounds_toArray, List.set_cons_zero, List.set_cons_succ]
            refine wpAnyH_take (i := 7) (v := undef) rfl (by kernel_rfl) (by kernel_rfl) (by kernel_rfl) (fun _ _ _ h => h) (Or.inr ⟨by rfl, rfl⟩) hS ?_
            try simp only [Act.put, List.getElem_toArray, List.getElem_cons_zero, List.getElem_cons_succ, List.setIfInBounds_toArray, List.set_cons_zero, List.set_cons_succ]
            refine wpAnyH_take (i := 8) (v := undef) rfl (by kernel_rfl) (by kernel_rfl) (by kernel_rfl) (fun _ _ _ h => h) (Or.inr ⟨by rfl, rfl⟩) hS ?_
            try simp only [Act.put, List.getElem_toArray, List.getElem_cons_zero, List.getElem_cons_succ, List.setIfInBounds_toArray, List.set_cons_zero, List.set_cons_succ]
            refine wpAnyH_take (i := 9) (v := undef) rfl (by kernel_rfl) (by kernel_rfl) (by kernel_rfl) (fun _ _ _ h => h) (Or.inr ⟨by rfl, rfl⟩) hS ?_
            try simp only [Act.put, List.getElem_toArray, List.getElem_cons_zero, List.getElem_cons_succ, List.setIfInBounds_toArray, List.set_cons_zero, List.set_cons_succ]
            refine wpAnyH_take (i := 10) (v := undef) rfl (by kernel_rfl) (by kernel_rfl) (by kernel_rfl) (fun _ _ _ h => h) (Or.inr ⟨by rfl, rfl⟩) hS ?_
            try simp only [Act.put, List.getElem_toArray, List.getElem_cons_zero, List.getElem_cons_succ, List.setIfInBounds_toArray, List.set_cons_zero, List.set_cons_succ]
            refine wpAnyH_take (i := 11) (v := undef) rfl (by kernel_rfl) (by kernel_rfl) (by kernel_rfl) (fun _ _ _ h => h) (Or.inr ⟨by rfl, rfl⟩) hS ?_
            try simp only [Act.put, List.getElem_toArray, List.getElem_cons_zero, List.getElem_cons_succ, List.setIfInBounds_toArray, List.set_cons_zero, List.set_cons_succ]
            refine wpAnyH_take (i := 12) (v := undef) rfl (by kernel_rfl) (by kernel_rfl) (by kernel_rfl) (fun _ _ _ h => h) (Or.inr ⟨by rfl, rfl⟩) hS ?_
            try simp only [Act.put, List.getElem_toArray, List.getElem_cons_zero, List.getElem_cons_succ, List.setIfInBounds_toArray, List.set_cons_zero, List.set_cons_succ]
            refine wpAnyH_take (i := 13) (v := undef) rfl (by kernel_rfl) (by kernel_rfl) (by kernel_rfl) (fun _ _ _ h => h) (Or.inr ⟨by rfl, rfl⟩) hS ?_
            try simp only [Act.put, List.getElem_toArray, List.getElem_cons_zero, List.getElem_cons_succ, List.setIfInBounds_toArray, List.set_cons_zero, List.set_cons_succ]
            refine wpAnyH_take (i := 14) (v := .bool false) rfl (by kernel_rfl) (by kernel_rfl) (by kernel_rfl) (fun _ _ _ h => h) (Or.inl ⟨by rfl, fun w _ => by go_simp⟩) hS ?_
            try simp only [Act.put, List.getElem_toArray, List.getElem_cons_zero, List.getElem_cons_succ, List.setIfInBounds_toArray, List.set_cons_zero, List.set_cons_succ]
            refine wpAnyH_take (i := 15) (v := .bool false) rfl (by kernel_rfl) (by kernel_rfl) (by kernel_rfl) (fun _ _ _ h => h) (Or.inl ⟨by rfl, fun w _ => by rfl⟩) hS ?_
            try simp only [Act.put, List.getElem_toArray, List.getElem_cons_zero, List.getElem_cons_succ, List.setIfInBounds_toArray, List.set_cons_zero, List.set_cons_succ]
            refine wpAnyH_take (i := 16) (v := .bool false) rfl (by kernel_rfl) (by kernel_rfl) (by kernel_rfl) (fun _ _ _ h => h) (Or.inl ⟨by rfl, fun w _ => by rfl⟩) hS ?_
            try simp only [Act.put, List.getElem_toArray, List.getElem_cons_zero, List.getElem_cons_succ, List.setIfInBounds_toArray, List.set_cons_zero, List.set_cons_succ]
            refine wpAnyH_take (i := 17) (v := .bool true) rfl (by kernel_rfl) (by kernel_rfl) (by kernel_rfl) (fun _ _ _ h => h) (Or.inl ⟨by rfl, fun w _ => by go_simp⟩) hS ?_
            try simp only [Act.put, List.getElem_toArray, List.getElem_cons_zero, List.getElem_cons_succ, List.setIfInBounds_toArray, List.set_cons_zero, List.set_cons_succ]
            refine wpAnyH_take (i := 18) (v := .bool true) rfl (by kernel_rfl) (by kernel_rfl) (by kernel_rfl) (fun _ _ _ h => h) (Or.inl ⟨by rfl, fun w _ => by rfl⟩) hS ?_
            try simp only [Act.put, List.getElem_toArray, List.getElem_cons_zero, List.getElem_cons_succ, List.setIfInBounds_toArray, List.set_cons_zero, List.set_cons_succ]
            refine wpAnyH_take (i := 19) (v := .pointer (some ⟨k8, 2, none⟩)) rfl (by kernel_rfl) (by kernel_rfl) (by kernel_rfl) (fun _ _ _ h => h) (Or.inl ⟨by rfl, fun w _ => by go_simp⟩) hS ?_
            try simp only [Act.put, List.getElem_toArray, List.getElem_cons_zero, List.getElem_cons_succ, List.setIfInBounds_toArray, List.set_cons_zero, List.set_cons_succ]
            refine wpAnyH_take (i := 20) (v := .int .u32 T) rfl (by kernel_rfl) (by kernel_rfl) (by kernel_rfl) (fun _ _ _ h => h) (Or.inl ⟨by rfl, fun w h => by have c : w.cell? ⟨k8, 2, none⟩ = some (.int .u32 T) := row_at h.2.1 2 _ HR.out.2.2.2.2; go_simp⟩) hS ?_
            try simp only [Act.put, List.getElem_toArray, List.getElem_cons_zero, List.getElem_cons_succ, List.setIfInBounds_toArray, List.set_cons_zero, List.set_cons_succ]
            refine wpAnyH_take (i := 21) (v := .int .u32 la) rfl (by kernel_rfl) (by kernel_rfl) (by kernel_rfl) (fun _ _ _ h => h) (Or.inl ⟨by rfl, fun w _ => by rfl⟩) hS ?_
            try simp only [Act.put, List.getElem_toArray, List.getElem_cons_zero, List.getElem_cons_succ, List.setIfInBounds_toArray, List.set_cons_zero, List.set_cons_succ]
            refine wpAnyH_take (i := 22) (v := .bool false) rfl (by kernel_rfl) (by kernel_rfl) (by kernel_rfl) (fun _ _ _ h => h) (Or.inl ⟨by rfl, fun w h => by have c := hb1; go_simp⟩) hS ?_
            try simp only [Act.put, List.getElem_toArray, List.getElem_cons_zero, List.getElem_cons_succ, List.setIfInBounds_toArray, List.set_cons_zero, List.set_cons_succ]
            refine wpAnyH_take (i := 23) (v := .bool false) rfl (by kernel_rfl) (by kernel_rfl) (by kernel_rfl) (fun _ _ _ h => h) (Or.inl ⟨by rfl, fun w _ => by rfl⟩) hS ?_
            try simp only [Act.put, List.getElem_toArray, List.getElem_cons_zero, List.getElem_cons_succ, List.setIfInBounds_toArray, List.set_cons_zero, List.set_cons_succ]
            refine wpAnyH_take (i := 24) (v := .pointer (some ⟨g, 0, none⟩)) rfl (by kernel_rfl) (by kernel_rfl) (by kernel_rfl) (fun _ _ _ h => h) (Or.inl ⟨by rfl, fun w _ => by rfl⟩) hS ?_
            try simp only [Act.put, List.getElem_toArray, List.getElem_cons_zero, List.getElem_cons_succ, List.setIfInBounds_toArray, List.set_cons_zero, List.set_cons_succ]
            refine wpAnyH_take (i := 26) (v := .int .u32 la) rfl (by kernel_rfl) (by kernel_rfl) (by kernel_rfl) (fun _ _ _ h => h) (Or.inl ⟨by rfl, fun w _ => by rfl⟩) hS ?_
            try simp only [Act.put, List.getElem_toArray, List.getElem_cons_zero, List.getElem_cons_succ, List.setIfInBounds_toArray, List.set_cons_zero, List.set_cons_succ]
            generalize Y8.drew = W8 at hS nm5 lX5 ⊢
            have hla := hS.1.last
            rw [HLA2.out] at hla
            refine wpAnyH_ready (rs := [25]) (by kernel_rfl) (by simp) ?_
            refine AllReadyH.cons rfl (fun K hK => ?_) AllReadyH.nil
            go_simp
            go_at_call 14
            refine Calls.mono hla ?_
            rintro e wc ⟨he, hww⟩
            obtain rfl := he
            rw [hww]
            clear hww wc hla
            refine hK.out _ _ hS fun hS => ?_
            try simp only [Act.put, List.getElem_toArray, List.getElem_cons_zero, List.getElem_cons_succ, List.setIfInBounds_toArray, List.set_cons_zero, List.set_cons_succ]
            refine wpAnyH_take (i := 27) (v := .bool false) rfl (by kernel_rfl) (by kernel_rfl) (by kernel_rfl) (fun _ _ _ h => h) (Or.inl ⟨by rfl, fun w h => by have c := hb2; go_simp⟩) hS ?_
            try simp only [Act.put, List.getElem_toArray, List.getElem_cons_zero, List.getElem_cons_succ, List.setIfInBounds_toArray, List.set_cons_zero, List.set_cons_succ]
            refine wpAnyH_take (i := 28) (v := .bool false) rfl (by kernel_rfl) (by kernel_rfl) (by kernel_rfl) (fun _ _ _ h => h) (Or.inl ⟨by rfl, fun w _ => by go_simp⟩) hS ?_
            try simp only [Act.put, List.getElem_toArray, List.getElem_cons_zero, List.getElem_cons_succ, List.setIfInBounds_toArray, List.set_cons_zero, List.set_cons_succ]
            refine wpAnyH_take (i := 29) (v := .bool false) rfl (by kernel_rfl) (by kernel_rfl) (by kernel_rfl) (fun _ _ _ h => h) (Or.inl ⟨by rfl, fun w _ => by go_simp⟩) hS ?_
            try simp only [Act.put, List.getElem_toArray, List.getElem_cons_zero, List.getElem_cons_succ, List.setIfInBounds_toArray, List.set_cons_zero, List.set_cons_succ]
            refine wpAnyH_take (i := 30) (v := .bool false) rfl (by kernel_rfl) (by kernel_rfl) (by kernel_rfl) (fun _ _ _ h => h) (Or.inl ⟨by rfl, fun w _ => by go_simp⟩) hS ?_
            try simp only [Act.put, List.getElem_toArray, List.getElem_cons_zero, List.getElem_cons_succ, List.setIfInBounds_toArray, List.set_cons_zero, List.set_cons_succ]
            refine wpAnyH_done (by kernel_rfl) ?_ _
            have e0 := row_at lX5.1 0 _ HC0.out
            obtain ⟨ms5, l5⟩ := hS
            clear hb1 hb2 hT
            have hla := ms5.last
            rw [HLA2.out] at hla
            go_wp2_with (first
              | (go_at_call 14; refine Calls.mono hla ?_; rintro e Wx ⟨he, hww⟩; rw [hww]; clear hww Wx; obtain rfl := he))
            go_roundw
            case rel => exact ⟨j + 1, _, F4, L, by first | rfl | simp, by omega, ms5, nm5, by omega, HRI2.out⟩
            case measure => simp only [intOf]; omega
        · have hne : (er != 0) = true := by simpa using he0
          have hg20 : ¬ s'.last > 20 := by omega
          obtain ⟨lb, HLA2⟩ : ∃ lb, Hid (s'.last = lb) := ⟨_, rfl⟩
          rw [HLA2.out] at hg20
          clear he0 HCM2 hs20
          have hla := ms4.last
          rw [HLA2.out] at hla
          go_wp2_with (first
            | (go_at_call 14; refine Calls.mono hla ?_; rintro e Wx ⟨he, hww⟩; rw [hww]; clear hww Wx; obtain rfl := he))
          go_roundw
          case rel => exact ⟨j + 1, _, F4, L, by first | rfl | simp, by omega, ms4, nm4, by omega, HRI2.out⟩
          case measure => simp only [intOf]; omega
      · have n3 : (c.kind == 3) = false := by simpa using h3
        have n3' : (c.kind != 3) = true := by simpa using h3
        have HLA2 : Hid (s'.last = la) := HLT.out h3
        have hg20 : ¬ la > 20 := by omega
        have hb2 : (la != la) = false := by simp
        clear h3 hs20
        by_cases he0 : er = 0
        · subst he0
          by_cases h0 : c.kind = 0
          · have n0 : (c.kind == 0) = true := by rw [h0]; rfl
            have hT : T = la := HBE.out h0 rfl
            have HNN : Hid (nextL s c L = L) := by show _ = _; rw [HNL.out, if_neg (by omega)]
            rw [HNN.out] at HRI2
            rw [hT] at f2
            clear h0 hT
            have hla := ms4.last
            rw [HLA2.out] at hla
            go_wp2_with (first
              | (go_at_call 14; refine Calls.mono hla ?_; rintro e Wx ⟨he, hww⟩; rw [hww]; clear hww Wx; obtain rfl := he))
            go_roundw
            case rel => exact ⟨j + 1, _, F4, L, by first | rfl | simp, by omega, ms4, nm4, by omega, HRI2.out⟩
            case measure => simp only [intOf]; omega
          · have n0 : (c.kind == 0) = false := by simpa using h0
            clear h0
            by_cases h2 : c.kind = 2
            · have n2 : (c.kind == 2) = true := by rw [h2]; rfl
              have HNN : Hid (nextL s c L = L ++ [c.txn]) := by show _ = _; rw [HNL.out, if_pos ⟨rfl, h2⟩]
              rw [HNN.out] at HRI2
              clear h2
              obtain ⟨i32, hi32, hz32, hs32, hb32⟩ := info_parts info32
              have a2 : Below Y8.heap.size Y8 (Y8.alloc (.cells #[.int .u64 c.txn] 32)) := (Below.refl _ _).alloc (Nat.le_refl _) _
              have nm5 := nm4.below a2
              have ms5 := ms4.below a2
              have lX5 := l_X.below a2
              have own5 := nm5.own
              have HNW5 : Hid (∀ jj u, [Value.int .u64 c.txn][jj]? = some u → (Y8.alloc (.cells #[.int .u64 c.txn] 32)).cell? ((⟨Y8.heap.size, 0, none⟩ : Addr).add jj) = some u) := fun jj u hu => World.news_of_block (Row.new Y8 #[.int .u64 c.txn] 32) jj u hu
              have hbs : w.heap.size ≤ (Y8.alloc (.cells #[.int .u64 c.txn] 32)).heap.size := Nat.le_trans ms4.bel.size a2.size
              have hLb : L.length + 1 ≤ 1000 := by have := hn40_oa; omega
              have HAFT : Hid (∀ (gb cap : Nat) (w3 : World), w3.ownsRow w.heap.size 32 1 (.slice (some ⟨gb, 0, none⟩) (L.length + 1) cap) (L.length + 1) (L.map (Value.int .u64) ++ [.int .u64 c.txn]) → (Y8.alloc (.cells #[.int .u64 c.txn] 32)).grownBy w3 u4.ownBlock → (u4.ownBlock = some gb ∨ gb = (Y8.alloc (.cells #[.int .u64 c.txn] 32)).heap.size) → MS w F4 g s' w3 ∧ Num w F4 w3 (.slice (some ⟨gb, 0, none⟩) (L.length + 1) cap) (L ++ [c.txn]) ∧ w3.cell? ⟨X, 0, none⟩ = some (.int .u8 c.kind)) := fun gb cap w3 q1 q2 q3 => by
                have O : Off (fun k => u4.ownBlock = some k) (Y8.alloc (.cells #[.int .u64 c.txn] 32)) w3 := Off.of_grown q2 (fun k hk => hk)
                refine ⟨ms5.off O (fun k hk => ⟨(World.ownsRow.lt own5 k hk).1, nm5.far k hk⟩), nm5.snoc (fun k hk => ms5.at_.lt hk) q1 (by rcases q3 with q | q; exact Or.inl q; exact Or.inr (by omega)), ?_⟩
                have r := lX5.1.off O (fun hk => by
                  rcases own5.2 with ⟨e, _⟩ | ⟨g', cap', cur, e, _, hc, _⟩
                  · have hk' : u4.ownBlock = some X := hk
                    rw [e] at hk'; cases hk'
                  · have hk' : u4.ownBlock = some X := hk
                    rw [e] at hk'; cases hk'
                    exact ne_types (w := Y8.alloc (.cells #[.int .u64 c.txn] 32)) ⟨cur, hc⟩ (row_is lX5.1) (by decide) rfl)
                exact row_at r 0 _ HC0.out
              clear nm5 ms5 lX5 a2 nm4 ms4 l_X l_k8
              have t1 : Hid (1 = 1) := rfl
              have t2 : Hid (1 = 1) := rfl
              go_upto_region 20 with (first
                | (have hh := t1; clear hh t1; refine wpList_num_one rfl (.tmp 43) rfl c.txn rfl ?_)
                | (have hh := t2; clear hh t2; refine wpList_append_lies _ rfl _ _ 51 rfl w.heap.size 32 i32 (.int .u64 0) 1 8 Try.underlying51 hi32 hz32 hs32 hb32 rfl (by omega) u4 L.length _ rfl own5 ⟨Y8.heap.size, 0, none⟩ 1 1 [.int .u64 c.txn] rfl rfl HNW5.out (fun u hu => by simp at hu; subst hu; rfl) (by omega) (by unfold maxLen; omega) (by omega) hbs _ rfl ?_; intro gb cap5 w3 hown3 hg3 hat3 hlt3; obtain ⟨ms6, nm6, e6⟩ := HAFT.out gb cap5 w3 hown3 hg3 hat3; clear hown3 hg3 hat3 own5 HNW5 HAFT))
              clear e0 e1 f0 f2
              have hla := ms6.last
              rw [HLA2.out] at hla
              go_wp2_with (first
                | (go_at_call 14; refine Calls.mono hla ?_; rintro e Wx ⟨he, hww⟩; rw [hww]; clear hww Wx; obtain rfl := he))
              go_roundw
              case rel => exact ⟨j + 1, _, F4, (L ++ [c.txn]), by first | rfl | simp, by omega, ms6, nm6, by rw [List.length_append]; simp; omega, HRI2.out⟩
              case measure => simp only [intOf]; omega
            · have n2 : (c.kind == 2) = false := by simpa using h2
              have HNN : Hid (nextL s c L = L) := by show _ = _; rw [HNL.out, if_neg (by omega)]
              rw [HNN.out] at HRI2
              clear h2
              have hla := ms4.last
              rw [HLA2.out] at hla
              go_wp2_with (first
                | (go_at_call 14; refine Calls.mono hla ?_; rintro e Wx ⟨he, hww⟩; rw [hww]; clear hww Wx; obtain rfl := he))
              go_roundw
              case rel => exact ⟨j + 1, _, F4, L, by first | rfl | simp, by omega, ms4, nm4, by omega, HRI2.out⟩
              case measure => simp only [intOf]; omega
        · have hne : (er != 0) = true := by simpa using he0
          have HNN : Hid (nextL s c L = L) := by show _ = _; rw [HNL.out, if_neg (by omega)]
          rw [HNN.out] at HRI2
          clear he0
          have hla := ms4.last
          rw [HLA2.out] at hla
          go_wp2_with (first
            | (go_at_call 14; refine Calls.mono hla ?_; rintro e Wx ⟨he, hww⟩; rw [hww]; clear hww Wx; obtain rfl := he))
          go_roundw
          case rel => exact ⟨j + 1, _, F4, L, by first | rfl | simp, by omega, ms4, nm4, by omega, HRI2.out⟩
          case measure => simp only [intOf]; omega
    · have haw := HAW.out wr
      go_wp2_with (go_at_call 10; refine Calls.mono haw ?_; clear haw; rintro e W9 ⟨he, hb9⟩; obtain rfl := he)
      rw [HPP.out]
      exact ⟨rfl, ms.bel.trans (hb9.mono ms.bel.size)⟩

set_option maxRecDepth 100000 in
theorem lifted (os : Os) (started : os.Started) (H : Type) (enc : TypeId × Value → H) :
    ReturnsInHanded {} Try.checked os 7 .any (Rows.modelRisesSpec.pre6 enc Try.prog Try.f7 Rows.modelRisesRow.domain false) (Rows.modelRisesSpec.post enc Try.prog Try.f7 false true false false) := by
  refine returnsInHanded_of_change_sized (C := Try.checked) own started (by kernel_rfl) Try.func7
    (ChangeSpec.witness6 (enc := enc) (C := Try.checked) false ⟨#[], #[.slice none 0 0], []⟩ 8 (by kernel_rfl) (by kernel_rfl) (by kernel_rfl) (by kernel_rfl)) ?_
  intro W base args ds gs before hval0 hW hcnd hsz0 _
  have hval : ∀ (j : Nat) t v, Try.f7.params[j]? = some t → args[j]? = some v → Value.okWide Try.prog W .any base t v := hval0
  have hW' := hW
  obtain ⟨p, q, hA0, hV, rfl, hfz, hnd⟩ := hW
  have hA : DataW.TrodAll enc Try.prog W 0 (fun _ => true) true Try.f7.params.toList args.toList ds p := hA0
  have hsz : (DataW.weightsEach Try.prog (Try.f7.params.toList ++ []) (ds ++ gs)).all (· ≤ reachBytes) = true := hsz0
  rw [Try.params7] at hA hval hsz
  obtain ⟨v0, vs0, d0, ds0, p0, q0, hargs, rfl, rfl, h0, r0⟩ := trodAll_cons hA
  obtain ⟨rfl, rfl, rfl⟩ := trodAll_nil r0
  obtain rfl : args = #[v0] := by cases args; simp_all
  obtain ⟨rfl, rfl⟩ := trodVars_none hV
  simp only [List.append_nil] at hsz
  have hlt : ∀ x ∈ (p0 ++ []), x.block < W.heap.size := fun x hx => hW'.lt x (by simpa using hx)
  have hw0 : (d0.weights Try.prog 23).all (· ≤ reachBytes) = true := List.all_eq_true.2 fun m hm => List.all_eq_true.1 hsz m (by simp [DataW.weightsEach, hm])
  have k0 := h0
  obtain ⟨a0, w0⟩ := open_mcals (hval 0 23 v0 rfl rfl) h0 hw0
  clear hA0 hval0
  simp only [List.append_nil] at hW'
  refine (walk W v0 a0 w0).mono fun e W' ⟨he, hg⟩ => ?_
  subst he
  exact ⟨_, rfl, ⟨_, _, _, [], (p0 ++ []), [], hW', (trodAll_cons_mk (shut_bool Try.underlying4 _) trodAll_mk0), (trodAll_cons_mk (Below.trod laidOut (by kernel_rfl) (of_decide_eq_true (by kernel_rfl)) k0 hg (fun x hx => hlt x (by simp [hx]))) trodAll_mk0), rfl,
    hg.frame _, fun h => by cases h⟩⟩

theorem over : Rows.modelRisesRow.holds Try.pinned (OpenSpec.ofChange Rows.modelRisesSpec) :=
  OpenClaim.holds_of_wide 7 Try.f7 rfl rfl rfl rfl rfl rfl rfl ⟨rfl, rfl, rfl, rfl, rfl⟩ rfl rfl rfl rfl rfl (by kernel_rfl) Try.func7 (by kernel_rfl)
    (of_decide_eq_true (by kernel_rfl)) (by unfold Func.isWrapper; first | (rw [if_pos (by decide +kernel)]; kernel_rfl) | (rw [if_neg (by decide +kernel)]; exact ⟨rfl, rfl⟩))
    (fun os started H enc _ => lifted os started H enc)

/-- The statement. -/
theorem proved : Rows.ModelRisesSaid :=
  over
#print axioms proved
end Go.Proofs.Ytpncmbkklkfmnaa.modelRises
