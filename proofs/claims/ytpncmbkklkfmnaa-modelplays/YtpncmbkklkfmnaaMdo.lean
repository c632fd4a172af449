/-
  Proved here: what Do answers, and makes of a machine.
-/
import Derived.Test.YtpncmbkklkfmnaaMus
namespace Go.Proofs.Ytpncmbkklkfmnaa
open Go.ChangeShapes Go.WideShapes Go.ChangeAt Go.RowKit
open Go.Deep Go.Maps
set_option linter.unusedVariables false
set_option linter.unusedSimpArgs false
set_option maxRecDepth 20000


set_option maxHeartbeats 1000000 in
theorem do_nil (cl : Cal) (w : World) : Calls Try.prog 12 #[.pointer none, .agg cl.arr] w fun r w' => r = .returned (.agg (Rep.fail 12).arr) ∧ Below w.heap.size w w' := by
  obtain ⟨PP, HPP⟩ : ∃ PP : Ending → World → Prop, Hid (PP = fun r w' => r = .returned (.agg (Rep.fail 12).arr) ∧ Below w.heap.size w w') := ⟨_, rfl⟩
  rw [← HPP.out]
  have hz40 := zero40
  have HZS : Hid (Rep.zero.arr.size = 67) := rz
  generalize Rep.zero.arr = Z at hz40 HZS
  have ab : Below w.heap.size w (w.alloc (.cells #[.int .u8 cl.kind, .int .u64 cl.txn, .int .u16 cl.page, .int .i64 cl.off, .string cl.str] 35)) := (Below.refl _ _).alloc (Nat.le_refl _) _
  have rx : Row (w.alloc (.cells #[.int .u8 cl.kind, .int .u64 cl.txn, .int .u16 cl.page, .int .i64 cl.off, .string cl.str] 35)) w.heap.size #[.int .u8 cl.kind, .int .u64 cl.txn, .int .u16 cl.page, .int .i64 cl.off, .string cl.str] 35 := Row.new _ _ _
  have e1 : (w.alloc (.cells #[.int .u8 cl.kind, .int .u64 cl.txn, .int .u16 cl.page, .int .i64 cl.off, .string cl.str] 35)).heap.size = w.heap.size + 1 := Array.size_push ..
  have ab1 : Below w.heap.size w ((w.alloc (.cells #[.int .u8 cl.kind, .int .u64 cl.txn, .int .u16 cl.page, .int .i64 cl.off, .string cl.str] 35)).alloc (.cells Z 40)) := ab.alloc ab.size _
  have r40 : Row ((w.alloc (.cells #[.int .u8 cl.kind, .int .u64 cl.txn, .int .u16 cl.page, .int .i64 cl.off, .string cl.str] 35)).alloc (.cells Z 40)) (w.alloc (.cells #[.int .u8 cl.kind, .int .u64 cl.txn, .int .u16 cl.page, .int .i64 cl.off, .string cl.str] 35)).heap.size Z 40 := Row.new _ _ _
  have rx1 := rx.alloc (.cells Z 40)
  rw [e1] at r40
  unfold Cal.arr
  clear rx ab e1
  go_enter Try.func12, Try.ntmps12
  go_upto_region 1 with fail
  generalize (w.alloc (.cells #[.int .u8 cl.kind, .int .u64 cl.txn, .int .u16 cl.page, .int .i64 cl.off, .string cl.str] 35)).alloc (.cells Z 40) = W at ab1 r40 rx1 ⊢
  obtain ⟨A0, HA0⟩ : ∃ A0, Hid (w.heap.size = A0) := ⟨_, rfl⟩
  rw [HA0.out] at r40 rx1 ⊢
  have ho := only_any 12 W
  have HFS : Hid ((Rep.fail 12).arr.size = 67) := Rep.arr_size (zs_length _)
  have fo := (Rep.fail 12).one
  obtain ⟨FA, HFA⟩ : ∃ FA, Hid ((Rep.fail 12).arr = FA) := ⟨_, rfl⟩
  rw [HFA.out] at ho HFS fo
  have ts : Hid (1 = 1) := rfl
  go_wp2_with (first
    | (go_at_call 19; refine ho.mono ?_; clear ho; rintro e wd ⟨he, hcb⟩; obtain rfl := he; have r9 := r40.below hcb r40.lt; have ab9 := ab1.trans (hcb.mono ab1.size))
    | (have hh := ts; clear hh ts; refine store_cells rfl 40 (.tmp 4) (.tmp 13) rfl (A0 + 1) FA rfl rfl 40 _ r9 67 size40 HZS.out HFS.out fo ?_))
  refine bodyPost_ret (v := .agg FA) (ret_cell (fn := Try.f12) rfl _ _ (A0 + 1) 40 FA _ rfl (r9.set _) Try.underlying40 rfl (by rw [size40, HFS.out])) rfl ?_
  rw [HPP.out]
  exact ⟨by rw [HFA.out], below_setRow ab9 (by rw [HA0.out]; exact Nat.le_succ _) _⟩

set_option maxHeartbeats 1000000 in
theorem do_closed {w : World} {F : Nat → Prop} {g : Nat} {m : M} (c : MA w F g m) (cl : Cal) (hco : m.closed = true) : Calls Try.prog 12 #[.pointer (some ⟨g, 0, none⟩), .agg cl.arr] w fun r w' => r = .returned (.agg (Rep.fail 12).arr) ∧ Below w.heap.size w w' := by
  have HCO : Hid _ := hco
  clear hco
  obtain ⟨PP, HPP⟩ : ∃ PP : Ending → World → Prop, Hid (PP = fun r w' => r = .returned (.agg (Rep.fail 12).arr) ∧ Below w.heap.size w w') := ⟨_, rfl⟩
  rw [← HPP.out]
  have hz40 := zero40
  have HZS : Hid (Rep.zero.arr.size = 67) := rz
  generalize Rep.zero.arr = Z at hz40 HZS
  have HCC : Hid (MA w F g m) := c
  have ab : Below w.heap.size w (w.alloc (.cells #[.int .u8 cl.kind, .int .u64 cl.txn, .int .u16 cl.page, .int .i64 cl.off, .string cl.str] 35)) := (Below.refl _ _).alloc (Nat.le_refl _) _
  have rx : Row (w.alloc (.cells #[.int .u8 cl.kind, .int .u64 cl.txn, .int .u16 cl.page, .int .i64 cl.off, .string cl.str] 35)) w.heap.size #[.int .u8 cl.kind, .int .u64 cl.txn, .int .u16 cl.page, .int .i64 cl.off, .string cl.str] 35 := Row.new _ _ _
  have e1 : (w.alloc (.cells #[.int .u8 cl.kind, .int .u64 cl.txn, .int .u16 cl.page, .int .i64 cl.off, .string cl.str] 35)).heap.size = w.heap.size + 1 := Array.size_push ..
  have ab1 : Below w.heap.size w ((w.alloc (.cells #[.int .u8 cl.kind, .int .u64 cl.txn, .int .u16 cl.page, .int .i64 cl.off, .string cl.str] 35)).alloc (.cells Z 40)) := ab.alloc ab.size _
  have r40 : Row ((w.alloc (.cells #[.int .u8 cl.kind, .int .u64 cl.txn, .int .u16 cl.page, .int .i64 cl.off, .string cl.str] 35)).alloc (.cells Z 40)) (w.alloc (.cells #[.int .u8 cl.kind, .int .u64 cl.txn, .int .u16 cl.page, .int .i64 cl.off, .string cl.str] 35)).heap.size Z 40 := Row.new _ _ _
  have rx1 := rx.alloc (.cells Z 40)
  rw [e1] at r40
  unfold Cal.arr
  clear c rx ab e1
  go_enter Try.func12, Try.ntmps12
  go_upto_region 1 with fail
  generalize (w.alloc (.cells #[.int .u8 cl.kind, .int .u64 cl.txn, .int .u16 cl.page, .int .i64 cl.off, .string cl.str] 35)).alloc (.cells Z 40) = W at ab1 r40 rx1 ⊢
  obtain ⟨A0, HA0⟩ : ∃ A0, Hid (w.heap.size = A0) := ⟨_, rfl⟩
  rw [HA0.out] at r40 rx1 ⊢
  have hcl5 := (HCC.out.below ab1).at_.c5
  rw [HCO.out] at hcl5
  have ho := only_any 12 W
  have HFS : Hid ((Rep.fail 12).arr.size = 67) := Rep.arr_size (zs_length _)
  have fo := (Rep.fail 12).one
  obtain ⟨FA, HFA⟩ : ∃ FA, Hid ((Rep.fail 12).arr = FA) := ⟨_, rfl⟩
  rw [HFA.out] at ho HFS fo
  have ts : Hid (1 = 1) := rfl
  go_wp2_with (first
    | (go_at_call 19; refine ho.mono ?_; clear ho; rintro e wd ⟨he, hcb⟩; obtain rfl := he; have r9 := r40.below hcb r40.lt; have ab9 := ab1.trans (hcb.mono ab1.size))
    | (have hh := ts; clear hh ts; refine store_cells rfl 40 (.tmp 4) (.tmp 13) rfl (A0 + 1) FA rfl rfl 40 _ r9 67 size40 HZS.out HFS.out fo ?_))
  refine bodyPost_ret (v := .agg FA) (ret_cell (fn := Try.f12) rfl _ _ (A0 + 1) 40 FA _ rfl (r9.set _) Try.underlying40 rfl (by rw [size40, HFS.out])) rfl ?_
  rw [HPP.out]
  exact ⟨by rw [HFA.out], below_setRow ab9 (by rw [HA0.out]; exact Nat.le_succ _) _⟩

theorem beginR_len (s : St) : (beginR s).body.length = 64 := by unfold beginR; split <;> exact zs_length _
theorem commitR_len (s : St) (a : Int) (ws : List (Int × List Int)) : (commitR s a ws).body.length = 64 := by
  unfold commitR
  split
  · exact zs_length _
  · split
    · exact zs_length _
    · split <;> exact zs_length _
theorem endR_len (s : St) (cl : Cal) : (endR s cl).body.length = 64 := by
  unfold endR
  cases findL s.live cl.txn with
  | none => exact zs_length _
  | some t =>
    show (if cl.kind = 4 then Rep.zero else _).body.length = 64
    split
    · exact zs_length _
    · exact commitR_len _ _ _
theorem St.Ok.page {s : St} (h : s.Ok) {k : Int} (h0 : 0 ≤ k) (h1 : k < s.pages.length) : VsOk s.last (s.page k) := by
  have hk : k.toNat < s.pages.length := by omega
  unfold St.page
  rw [List.getD_eq_getElem?_getD, List.getElem?_eq_getElem hk]
  exact h.vs _ (List.getElem_mem hk)
theorem findL_some {l : List Live} {k : Int} {t : Live} (h : findL l k = some t) : t ∈ l ∧ t.1 = k := ⟨List.mem_of_find?_eq_some h, by simpa using List.find?_some h⟩
theorem useR_len {s : St} (h : s.Ok) {cl : Cal} (hcl : cl.Ok) : (useR s cl).body.length = 64 := by
  unfold useR
  split
  · exact zs_length _
  · rename_i hb
    cases hf : findL s.live cl.txn with
    | none => exact zs_length _
    | some t =>
      show (if cl.kind = 1 then Rep.mk 0 0 _ _ else if full t.2.2 cl.page = true then Rep.fail 10 else Rep.zero).body.length = 64
      split
      · have hp : cl.page < s.pages.length := by
          unfold badU at hb
          by_cases q : cl.page < s.pages.length
          · exact q
          · simp [q] at hb
        have ht := h.tx t (findL_some hf).1
        have hl := h.hi
        have hm := h.mx
        exact (seenV_ok ht.2.2.2.2 (h.page hcl.p.1 hp) ht.2.2.1 (by omega) _).wr.1
      · split <;> exact zs_length _
theorem begin_any {w : World} {F : Nat → Prop} {g : Nat} {m : M} (c : MA w F g m) (hbig : m.begun < 1000000000000) : Calls Try.prog 20 #[.pointer (some ⟨g, 0, none⟩)] w fun r w' => r = .returned (.agg (beginR m.abs).arr) ∧ Went w F g (beginS m.abs) w' := by
  by_cases h : m.L.length < 8
  · have h' : m.abs.live.length < 8 := by simp only [M.abs, List.length_map]; exact h
    have er : beginR m.abs = ⟨0, m.begun + 1, m.last, zs 64⟩ := if_pos h'
    rw [er]
    exact begin_some c h hbig
  · have h' : ¬ m.abs.live.length < 8 := by simp only [M.abs, List.length_map]; exact h
    have er : beginR m.abs = Rep.fail 10 := if_neg h'
    have es : beginS m.abs = m.abs := if_neg h'
    rw [er, es]
    exact (begin_full c h).mono fun r w' q => ⟨q.1, Went.same ⟨m, rfl, c⟩ q.2⟩

set_option maxHeartbeats 1000000 in
theorem do_begin {w : World} {F : Nat → Prop} {g : Nat} {m : M} (c : MA w F g m) (cl : Cal) (hcl : cl.Ok) (hco : m.closed = false) (hkd : cl.kind = 0) (hbig : m.begun < 1000000000000) : Calls Try.prog 12 #[.pointer (some ⟨g, 0, none⟩), .agg cl.arr] w fun r w' => r = .returned (.agg (beginR m.abs).arr) ∧ Went w F g (beginS m.abs) w' := by
  have HCO : Hid _ := hco
  have HCF : Hid (∀ k, F k → k < w.heap.size) := c.lt
  have HCL : Hid cl.Ok := hcl
  clear hco
  have HKD : Hid (cl.kind = 0) := hkd
  clear hkd
  have HBG : Hid _ := hbig
  clear hbig
  have HBL : Hid ((beginR m.abs).body.length = 64) := beginR_len _
  obtain ⟨PP, HPP⟩ : ∃ PP : Ending → World → Prop, Hid (PP = fun r w' => r = .returned (.agg (beginR m.abs).arr) ∧ Went w F g (beginS m.abs) w') := ⟨_, rfl⟩
  rw [← HPP.out]
  have hz40 := zero40
  have HZS : Hid (Rep.zero.arr.size = 67) := rz
  generalize Rep.zero.arr = Z at hz40 HZS
  have HCC : Hid (MA w F g m) := c
  have ab : Below w.heap.size w (w.alloc (.cells #[.int .u8 cl.kind, .int .u64 cl.txn, .int .u16 cl.page, .int .i64 cl.off, .string cl.str] 35)) := (Below.refl _ _).alloc (Nat.le_refl _) _
  have rx : Row (w.alloc (.cells #[.int .u8 cl.kind, .int .u64 cl.txn, .int .u16 cl.page, .int .i64 cl.off, .string cl.str] 35)) w.heap.size #[.int .u8 cl.kind, .int .u64 cl.txn, .int .u16 cl.page, .int .i64 cl.off, .string cl.str] 35 := Row.new _ _ _
  have e1 : (w.alloc (.cells #[.int .u8 cl.kind, .int .u64 cl.txn, .int .u16 cl.page, .int .i64 cl.off, .string cl.str] 35)).heap.size = w.heap.size + 1 := Array.size_push ..
  have ab1 : Below w.heap.size w ((w.alloc (.cells #[.int .u8 cl.kind, .int .u64 cl.txn, .int .u16 cl.page, .int .i64 cl.off, .string cl.str] 35)).alloc (.cells Z 40)) := ab.alloc ab.size _
  have r40 : Row ((w.alloc (.cells #[.int .u8 cl.kind, .int .u64 cl.txn, .int .u16 cl.page, .int .i64 cl.off, .string cl.str] 35)).alloc (.cells Z 40)) (w.alloc (.cells #[.int .u8 cl.kind, .int .u64 cl.txn, .int .u16 cl.page, .int .i64 cl.off, .string cl.str] 35)).heap.size Z 40 := Row.new _ _ _
  have rx1 := rx.alloc (.cells Z 40)
  rw [e1] at r40
  unfold Cal.arr
  clear c rx ab e1
  go_enter Try.func12, Try.ntmps12
  go_upto_region 1 with fail
  generalize (w.alloc (.cells #[.int .u8 cl.kind, .int .u64 cl.txn, .int .u16 cl.page, .int .i64 cl.off, .string cl.str] 35)).alloc (.cells Z 40) = W at ab1 r40 rx1 ⊢
  obtain ⟨A0, HA0⟩ : ∃ A0, Hid (w.heap.size = A0) := ⟨_, rfl⟩
  rw [HA0.out] at r40 rx1 ⊢
  have hcl5 := (HCC.out.below ab1).at_.c5
  rw [HCO.out] at hcl5
  have e0 := row_at rx1 0 _ rfl
  rw [HKD.out] at e0
  have hcon := begin_any (HCC.out.below ab1) HBG.out
  have HFS : Hid (((beginR m.abs)).arr.size = 67) := Rep.arr_size HBL.out
  have fo := ((beginR m.abs)).one
  obtain ⟨FA, HFA⟩ : ∃ FA, Hid (((beginR m.abs)).arr = FA) := ⟨_, rfl⟩
  rw [HFA.out] at hcon HFS fo
  obtain ⟨SS, HSS⟩ : ∃ SS, Hid ((beginS m.abs) = SS) := ⟨_, rfl⟩
  rw [HSS.out] at hcon
  have hnF : ¬ F (A0 + 1) := fun q => by have := HCF.out _ q; rw [HA0.out] at this; omega
  have ts : Hid (1 = 1) := rfl
  have tm : Hid (1 = 1) := rfl
  go_wp2_with (first
    | (go_at_call 20; refine Calls.mono hcon ?_; clear hcon; rintro e wd ⟨he, hwd⟩; obtain rfl := he; have r9 := r40.off hwd.1 hnF; have HWD : Hid (Went W F g SS wd) := hwd; clear hwd)
    | (have hh := ts; clear hh ts; refine store_cells rfl 40 (.tmp 4) (.tmp 19) rfl (A0 + 1) FA rfl rfl 40 _ r9 67 size40 HZS.out HFS.out fo ?_))
  refine bodyPost_ret (v := .agg FA) (ret_cell (fn := Try.f12) rfl _ _ (A0 + 1) 40 FA _ rfl (r9.set _) Try.underlying40 rfl (by rw [size40, HFS.out])) rfl ?_
  rw [HPP.out]
  exact ⟨by rw [HFA.out], by rw [HSS.out]; exact Went.close HCF.out (Off.of_below ab1) HWD.out r40.lt (by rw [HA0.out]; exact Nat.le_succ _) (Off.of_setRow wd (A0 + 1) FA rfl)⟩

set_option maxHeartbeats 1000000 in
theorem do_read {w : World} {F : Nat → Prop} {g : Nat} {m : M} (c : MA w F g m) (cl : Cal) (hcl : cl.Ok) (hco : m.closed = false) (hkd : cl.kind = 1) : Calls Try.prog 12 #[.pointer (some ⟨g, 0, none⟩), .agg cl.arr] w fun r w' => r = .returned (.agg (useR m.abs cl).arr) ∧ Went w F g (useS m.abs cl) w' := by
  have HCO : Hid _ := hco
  have HCF : Hid (∀ k, F k → k < w.heap.size) := c.lt
  have HCL : Hid cl.Ok := hcl
  clear hco
  have HKD : Hid (cl.kind = 1) := hkd
  clear hkd
  have HBL : Hid ((useR m.abs cl).body.length = 64) := useR_len c.ok hcl
  obtain ⟨PP, HPP⟩ : ∃ PP : Ending → World → Prop, Hid (PP = fun r w' => r = .returned (.agg (useR m.abs cl).arr) ∧ Went w F g (useS m.abs cl) w') := ⟨_, rfl⟩
  rw [← HPP.out]
  have hz40 := zero40
  have HZS : Hid (Rep.zero.arr.size = 67) := rz
  generalize Rep.zero.arr = Z at hz40 HZS
  have HCC : Hid (MA w F g m) := c
  have ab : Below w.heap.size w (w.alloc (.cells #[.int .u8 cl.kind, .int .u64 cl.txn, .int .u16 cl.page, .int .i64 cl.off, .string cl.str] 35)) := (Below.refl _ _).alloc (Nat.le_refl _) _
  have rx : Row (w.alloc (.cells #[.int .u8 cl.kind, .int .u64 cl.txn, .int .u16 cl.page, .int .i64 cl.off, .string cl.str] 35)) w.heap.size #[.int .u8 cl.kind, .int .u64 cl.txn, .int .u16 cl.page, .int .i64 cl.off, .string cl.str] 35 := Row.new _ _ _
  have e1 : (w.alloc (.cells #[.int .u8 cl.kind, .int .u64 cl.txn, .int .u16 cl.page, .int .i64 cl.off, .string cl.str] 35)).heap.size = w.heap.size + 1 := Array.size_push ..
  have ab1 : Below w.heap.size w ((w.alloc (.cells #[.int .u8 cl.kind, .int .u64 cl.txn, .int .u16 cl.page, .int .i64 cl.off, .string cl.str] 35)).alloc (.cells Z 40)) := ab.alloc ab.size _
  have r40 : Row ((w.alloc (.cells #[.int .u8 cl.kind, .int .u64 cl.txn, .int .u16 cl.page, .int .i64 cl.off, .string cl.str] 35)).alloc (.cells Z 40)) (w.alloc (.cells #[.int .u8 cl.kind, .int .u64 cl.txn, .int .u16 cl.page, .int .i64 cl.off, .string cl.str] 35)).heap.size Z 40 := Row.new _ _ _
  have rx1 := rx.alloc (.cells Z 40)
  rw [e1] at r40
  unfold Cal.arr
  clear c rx ab e1
  go_enter Try.func12, Try.ntmps12
  go_upto_region 1 with fail
  generalize (w.alloc (.cells #[.int .u8 cl.kind, .int .u64 cl.txn, .int .u16 cl.page, .int .i64 cl.off, .string cl.str] 35)).alloc (.cells Z 40) = W at ab1 r40 rx1 ⊢
  obtain ⟨A0, HA0⟩ : ∃ A0, Hid (w.heap.size = A0) := ⟨_, rfl⟩
  rw [HA0.out] at r40 rx1 ⊢
  have hcl5 := (HCC.out.below ab1).at_.c5
  rw [HCO.out] at hcl5
  have e0 := row_at rx1 0 _ rfl
  rw [HKD.out] at e0
  have hcon := use_any (HCC.out.below ab1) cl HCL.out (Or.inl HKD.out)
  have HFS : Hid (((useR m.abs cl)).arr.size = 67) := Rep.arr_size HBL.out
  have fo := ((useR m.abs cl)).one
  obtain ⟨FA, HFA⟩ : ∃ FA, Hid (((useR m.abs cl)).arr = FA) := ⟨_, rfl⟩
  rw [HFA.out] at hcon HFS fo
  obtain ⟨SS, HSS⟩ : ∃ SS, Hid ((useS m.abs cl) = SS) := ⟨_, rfl⟩
  rw [HSS.out] at hcon
  unfold Cal.arr at hcon
  obtain ⟨CE, HCE⟩ : ∃ CE, Hid ((#[.int .u8 cl.kind, .int .u64 cl.txn, .int .u16 cl.page, .int .i64 cl.off, .string cl.str] : Array Value) = CE) := ⟨_, rfl⟩
  have HCS : Hid (CE.size = 5) := by rw [← HCE.out]; rfl
  rw [HCE.out] at rx1 hcon
  have hnF : ¬ F (A0 + 1) := fun q => by have := HCF.out _ q; rw [HA0.out] at this; omega
  have ts : Hid (1 = 1) := rfl
  have tm : Hid (1 = 1) := rfl
  go_wp2_with (first
    | (have hh := tm; clear hh tm; refine load_cells rfl 35 (.tmp 3) rfl A0 rfl 35 CE rx1 5 Try.underlying35 rfl size35 HCS.out ?_)
    | (go_at_call 21; refine Calls.mono hcon ?_; clear hcon; rintro e wd ⟨he, hwd⟩; obtain rfl := he; have r9 := r40.off hwd.1 hnF; have HWD : Hid (Went W F g SS wd) := hwd; clear hwd)
    | (have hh := ts; clear hh ts; refine store_cells rfl 40 (.tmp 4) (.tmp 25) rfl (A0 + 1) FA rfl rfl 40 _ r9 67 size40 HZS.out HFS.out fo ?_))
  refine bodyPost_ret (v := .agg FA) (ret_cell (fn := Try.f12) rfl _ _ (A0 + 1) 40 FA _ rfl (r9.set _) Try.underlying40 rfl (by rw [size40, HFS.out])) rfl ?_
  rw [HPP.out]
  exact ⟨by rw [HFA.out], by rw [HSS.out]; exact Went.close HCF.out (Off.of_below ab1) HWD.out r40.lt (by rw [HA0.out]; exact Nat.le_succ _) (Off.of_setRow wd (A0 + 1) FA rfl)⟩

set_option maxHeartbeats 1000000 in
theorem do_write {w : World} {F : Nat → Prop} {g : Nat} {m : M} (c : MA w F g m) (cl : Cal) (hcl : cl.Ok) (hco : m.closed = false) (hkd : cl.kind = 2) : Calls Try.prog 12 #[.pointer (some ⟨g, 0, none⟩), .agg cl.arr] w fun r w' => r = .returned (.agg (useR m.abs cl).arr) ∧ Went w F g (useS m.abs cl) w' := by
  have HCO : Hid _ := hco
  have HCF : Hid (∀ k, F k → k < w.heap.size) := c.lt
  have HCL : Hid cl.Ok := hcl
  clear hco
  have HKD : Hid (cl.kind = 2) := hkd
  clear hkd
  have HBL : Hid ((useR m.abs cl).body.length = 64) := useR_len c.ok hcl
  obtain ⟨PP, HPP⟩ : ∃ PP : Ending → World → Prop, Hid (PP = fun r w' => r = .returned (.agg (useR m.abs cl).arr) ∧ Went w F g (useS m.abs cl) w') := ⟨_, rfl⟩
  rw [← HPP.out]
  have hz40 := zero40
  have HZS : Hid (Rep.zero.arr.size = 67) := rz
  generalize Rep.zero.arr = Z at hz40 HZS
  have HCC : Hid (MA w F g m) := c
  have ab : Below w.heap.size w (w.alloc (.cells #[.int .u8 cl.kind, .int .u64 cl.txn, .int .u16 cl.page, .int .i64 cl.off, .string cl.str] 35)) := (Below.refl _ _).alloc (Nat.le_refl _) _
  have rx : Row (w.alloc (.cells #[.int .u8 cl.kind, .int .u64 cl.txn, .int .u16 cl.page, .int .i64 cl.off, .string cl.str] 35)) w.heap.size #[.int .u8 cl.kind, .int .u64 cl.txn, .int .u16 cl.page, .int .i64 cl.off, .string cl.str] 35 := Row.new _ _ _
  have e1 : (w.alloc (.cells #[.int .u8 cl.kind, .int .u64 cl.txn, .int .u16 cl.page, .int .i64 cl.off, .string cl.str] 35)).heap.size = w.heap.size + 1 := Array.size_push ..
  have ab1 : Below w.heap.size w ((w.alloc (.cells #[.int .u8 cl.kind, .int .u64 cl.txn, .int .u16 cl.page, .int .i64 cl.off, .string cl.str] 35)).alloc (.cells Z 40)) := ab.alloc ab.size _
  have r40 : Row ((w.alloc (.cells #[.int .u8 cl.kind, .int .u64 cl.txn, .int .u16 cl.page, .int .i64 cl.off, .string cl.str] 35)).alloc (.cells Z 40)) (w.alloc (.cells #[.int .u8 cl.kind, .int .u64 cl.txn, .int .u16 cl.page, .int .i64 cl.off, .string cl.str] 35)).heap.size Z 40 := Row.new _ _ _
  have rx1 := rx.alloc (.cells Z 40)
  rw [e1] at r40
  unfold Cal.arr
  clear c rx ab e1
  go_enter Try.func12, Try.ntmps12
  go_upto_region 1 with fail
  generalize (w.alloc (.cells #[.int .u8 cl.kind, .int .u64 cl.txn, .int .u16 cl.page, .int .i64 cl.off, .string cl.str] 35)).alloc (.cells Z 40) = W at ab1 r40 rx1 ⊢
  obtain ⟨A0, HA0⟩ : ∃ A0, Hid (w.heap.size = A0) := ⟨_, rfl⟩
  rw [HA0.out] at r40 rx1 ⊢
  have hcl5 := (HCC.out.below ab1).at_.c5
  rw [HCO.out] at hcl5
  have e0 := row_at rx1 0 _ rfl
  rw [HKD.out] at e0
  have hcon := use_any (HCC.out.below ab1) cl HCL.out (Or.inr HKD.out)
  have HFS : Hid (((useR m.abs cl)).arr.size = 67) := Rep.arr_size HBL.out
  have fo := ((useR m.abs cl)).one
  obtain ⟨FA, HFA⟩ : ∃ FA, Hid (((useR m.abs cl)).arr = FA) := ⟨_, rfl⟩
  rw [HFA.out] at hcon HFS fo
  obtain ⟨SS, HSS⟩ : ∃ SS, Hid ((useS m.abs cl) = SS) := ⟨_, rfl⟩
  rw [HSS.out] at hcon
  unfold Cal.arr at hcon
  obtain ⟨CE, HCE⟩ : ∃ CE, Hid ((#[.int .u8 cl.kind, .int .u64 cl.txn, .int .u16 cl.page, .int .i64 cl.off, .string cl.str] : Array Value) = CE) := ⟨_, rfl⟩
  have HCS : Hid (CE.size = 5) := by rw [← HCE.out]; rfl
  rw [HCE.out] at rx1 hcon
  have hnF : ¬ F (A0 + 1) := fun q => by have := HCF.out _ q; rw [HA0.out] at this; omega
  have ts : Hid (1 = 1) := rfl
  have tm : Hid (1 = 1) := rfl
  go_wp2_with (first
    | (have hh := tm; clear hh tm; refine load_cells rfl 35 (.tmp 3) rfl A0 rfl 35 CE rx1 5 Try.underlying35 rfl size35 HCS.out ?_)
    | (go_at_call 21; refine Calls.mono hcon ?_; clear hcon; rintro e wd ⟨he, hwd⟩; obtain rfl := he; have r9 := r40.off hwd.1 hnF; have HWD : Hid (Went W F g SS wd) := hwd; clear hwd)
    | (have hh := ts; clear hh ts; refine store_cells rfl 40 (.tmp 4) (.tmp 25) rfl (A0 + 1) FA rfl rfl 40 _ r9 67 size40 HZS.out HFS.out fo ?_))
  refine bodyPost_ret (v := .agg FA) (ret_cell (fn := Try.f12) rfl _ _ (A0 + 1) 40 FA _ rfl (r9.set _) Try.underlying40 rfl (by rw [size40, HFS.out])) rfl ?_
  rw [HPP.out]
  exact ⟨by rw [HFA.out], by rw [HSS.out]; exact Went.close HCF.out (Off.of_below ab1) HWD.out r40.lt (by rw [HA0.out]; exact Nat.le_succ _) (Off.of_setRow wd (A0 + 1) FA rfl)⟩

set_option maxHeartbeats 1000000 in
theorem do_commit {w : World} {F : Nat → Prop} {g : Nat} {m : M} (c : MA w F g m) (cl : Cal) (hcl : cl.Ok) (hco : m.closed = false) (hkd : cl.kind = 3) : Calls Try.prog 12 #[.pointer (some ⟨g, 0, none⟩), .agg cl.arr] w fun r w' => r = .returned (.agg (endR m.abs cl).arr) ∧ Went w F g (endS m.abs cl) w' := by
  have HCO : Hid _ := hco
  have HCF : Hid (∀ k, F k → k < w.heap.size) := c.lt
  have HCL : Hid cl.Ok := hcl
  clear hco
  have HKD : Hid (cl.kind = 3) := hkd
  clear hkd
  have HBL : Hid ((endR m.abs cl).body.length = 64) := endR_len _ _
  obtain ⟨PP, HPP⟩ : ∃ PP : Ending → World → Prop, Hid (PP = fun r w' => r = .returned (.agg (endR m.abs cl).arr) ∧ Went w F g (endS m.abs cl) w') := ⟨_, rfl⟩
  rw [← HPP.out]
  have hz40 := zero40
  have HZS : Hid (Rep.zero.arr.size = 67) := rz
  generalize Rep.zero.arr = Z at hz40 HZS
  have HCC : Hid (MA w F g m) := c
  have ab : Below w.heap.size w (w.alloc (.cells #[.int .u8 cl.kind, .int .u64 cl.txn, .int .u16 cl.page, .int .i64 cl.off, .string cl.str] 35)) := (Below.refl _ _).alloc (Nat.le_refl _) _
  have rx : Row (w.alloc (.cells #[.int .u8 cl.kind, .int .u64 cl.txn, .int .u16 cl.page, .int .i64 cl.off, .string cl.str] 35)) w.heap.size #[.int .u8 cl.kind, .int .u64 cl.txn, .int .u16 cl.page, .int .i64 cl.off, .string cl.str] 35 := Row.new _ _ _
  have e1 : (w.alloc (.cells #[.int .u8 cl.kind, .int .u64 cl.txn, .int .u16 cl.page, .int .i64 cl.off, .string cl.str] 35)).heap.size = w.heap.size + 1 := Array.size_push ..
  have ab1 : Below w.heap.size w ((w.alloc (.cells #[.int .u8 cl.kind, .int .u64 cl.txn, .int .u16 cl.page, .int .i64 cl.off, .string cl.str] 35)).alloc (.cells Z 40)) := ab.alloc ab.size _
  have r40 : Row ((w.alloc (.cells #[.int .u8 cl.kind, .int .u64 cl.txn, .int .u16 cl.page, .int .i64 cl.off, .string cl.str] 35)).alloc (.cells Z 40)) (w.alloc (.cells #[.int .u8 cl.kind, .int .u64 cl.txn, .int .u16 cl.page, .int .i64 cl.off, .string cl.str] 35)).heap.size Z 40 := Row.new _ _ _
  have rx1 := rx.alloc (.cells Z 40)
  rw [e1] at r40
  unfold Cal.arr
  clear c rx ab e1
  go_enter Try.func12, Try.ntmps12
  go_upto_region 1 with fail
  generalize (w.alloc (.cells #[.int .u8 cl.kind, .int .u64 cl.txn, .int .u16 cl.page, .int .i64 cl.off, .string cl.str] 35)).alloc (.cells Z 40) = W at ab1 r40 rx1 ⊢
  obtain ⟨A0, HA0⟩ : ∃ A0, Hid (w.heap.size = A0) := ⟨_, rfl⟩
  rw [HA0.out] at r40 rx1 ⊢
  have hcl5 := (HCC.out.below ab1).at_.c5
  rw [HCO.out] at hcl5
  have e0 := row_at rx1 0 _ rfl
  rw [HKD.out] at e0
  have hcon := end_any (HCC.out.below ab1) cl HCL.out
  have HFS : Hid (((endR m.abs cl)).arr.size = 67) := Rep.arr_size HBL.out
  have fo := ((endR m.abs cl)).one
  obtain ⟨FA, HFA⟩ : ∃ FA, Hid (((endR m.abs cl)).arr = FA) := ⟨_, rfl⟩
  rw [HFA.out] at hcon HFS fo
  obtain ⟨SS, HSS⟩ : ∃ SS, Hid ((endS m.abs cl) = SS) := ⟨_, rfl⟩
  rw [HSS.out] at hcon
  unfold Cal.arr at hcon
  obtain ⟨CE, HCE⟩ : ∃ CE, Hid ((#[.int .u8 cl.kind, .int .u64 cl.txn, .int .u16 cl.page, .int .i64 cl.off, .string cl.str] : Array Value) = CE) := ⟨_, rfl⟩
  have HCS : Hid (CE.size = 5) := by rw [← HCE.out]; rfl
  rw [HCE.out] at rx1 hcon
  have hnF : ¬ F (A0 + 1) := fun q => by have := HCF.out _ q; rw [HA0.out] at this; omega
  have ts : Hid (1 = 1) := rfl
  have tm : Hid (1 = 1) := rfl
  go_wp2_with (first
    | (have hh := tm; clear hh tm; refine load_cells rfl 35 (.tmp 3) rfl A0 rfl 35 CE rx1 5 Try.underlying35 rfl size35 HCS.out ?_)
    | (go_at_call 22; refine Calls.mono hcon ?_; clear hcon; rintro e wd ⟨he, hwd⟩; obtain rfl := he; have r9 := r40.off hwd.1 hnF; have HWD : Hid (Went W F g SS wd) := hwd; clear hwd)
    | (have hh := ts; clear hh ts; refine store_cells rfl 40 (.tmp 4) (.tmp 31) rfl (A0 + 1) FA rfl rfl 40 _ r9 67 size40 HZS.out HFS.out fo ?_))
  refine bodyPost_ret (v := .agg FA) (ret_cell (fn := Try.f12) rfl _ _ (A0 + 1) 40 FA _ rfl (r9.set _) Try.underlying40 rfl (by rw [size40, HFS.out])) rfl ?_
  rw [HPP.out]
  exact ⟨by rw [HFA.out], by rw [HSS.out]; exact Went.close HCF.out (Off.of_below ab1) HWD.out r40.lt (by rw [HA0.out]; exact Nat.le_succ _) (Off.of_setRow wd (A0 + 1) FA rfl)⟩

set_option maxHeartbeats 1000000 in
theorem do_abort {w : World} {F : Nat → Prop} {g : Nat} {m : M} (c : MA w F g m) (cl : Cal) (hcl : cl.Ok) (hco : m.closed = false) (hkd : cl.kind = 4) : Calls Try.prog 12 #[.pointer (some ⟨g, 0, none⟩), .agg cl.arr] w fun r w' => r = .returned (.agg (endR m.abs cl).arr) ∧ Went w F g (endS m.abs cl) w' := by
  have HCO : Hid _ := hco
  have HCF : Hid (∀ k, F k → k < w.heap.size) := c.lt
  have HCL : Hid cl.Ok := hcl
  clear hco
  have HKD : Hid (cl.kind = 4) := hkd
  clear hkd
  have HBL : Hid ((endR m.abs cl).body.length = 64) := endR_len _ _
  obtain ⟨PP, HPP⟩ : ∃ PP : Ending → World → Prop, Hid (PP = fun r w' => r = .returned (.agg (endR m.abs cl).arr) ∧ Went w F g (endS m.abs cl) w') := ⟨_, rfl⟩
  rw [← HPP.out]
  have hz40 := zero40
  have HZS : Hid (Rep.zero.arr.size = 67) := rz
  generalize Rep.zero.arr = Z at hz40 HZS
  have HCC : Hid (MA w F g m) := c
  have ab : Below w.heap.size w (w.alloc (.cells #[.int .u8 cl.kind, .int .u64 cl.txn, .int .u16 cl.page, .int .i64 cl.off, .string cl.str] 35)) := (Below.refl _ _).alloc (Nat.le_refl _) _
  have rx : Row (w.alloc (.cells #[.int .u8 cl.kind, .int .u64 cl.txn, .int .u16 cl.page, .int .i64 cl.off, .string cl.str] 35)) w.heap.size #[.int .u8 cl.kind, .int .u64 cl.txn, .int .u16 cl.page, .int .i64 cl.off, .string cl.str] 35 := Row.new _ _ _
  have e1 : (w.alloc (.cells #[.int .u8 cl.kind, .int .u64 cl.txn, .int .u16 cl.page, .int .i64 cl.off, .string cl.str] 35)).heap.size = w.heap.size + 1 := Array.size_push ..
  have ab1 : Below w.heap.size w ((w.alloc (.cells #[.int .u8 cl.kind, .int .u64 cl.txn, .int .u16 cl.page, .int .i64 cl.off, .string cl.str] 35)).alloc (.cells Z 40)) := ab.alloc ab.size _
  have r40 : Row ((w.alloc (.cells #[.int .u8 cl.kind, .int .u64 cl.txn, .int .u16 cl.page, .int .i64 cl.off, .string cl.str] 35)).alloc (.cells Z 40)) (w.alloc (.cells #[.int .u8 cl.kind, .int .u64 cl.txn, .int .u16 cl.page, .int .i64 cl.off, .string cl.str] 35)).heap.size Z 40 := Row.new _ _ _
  have rx1 := rx.alloc (.cells Z 40)
  rw [e1] at r40
  unfold Cal.arr
  clear c rx ab e1
  go_enter Try.func12, Try.ntmps12
  go_upto_region 1 with fail
  generalize (w.alloc (.cells #[.int .u8 cl.kind, .int .u64 cl.txn, .int .u16 cl.page, .int .i64 cl.off, .string cl.str] 35)).alloc (.cells Z 40) = W at ab1 r40 rx1 ⊢
  obtain ⟨A0, HA0⟩ : ∃ A0, Hid (w.heap.size = A0) := ⟨_, rfl⟩
  rw [HA0.out] at r40 rx1 ⊢
  have hcl5 := (HCC.out.below ab1).at_.c5
  rw [HCO.out] at hcl5
  have e0 := row_at rx1 0 _ rfl
  rw [HKD.out] at e0
  have hcon := end_any (HCC.out.below ab1) cl HCL.out
  have HFS : Hid (((endR m.abs cl)).arr.size = 67) := Rep.arr_size HBL.out
  have fo := ((endR m.abs cl)).one
  obtain ⟨FA, HFA⟩ : ∃ FA, Hid (((endR m.abs cl)).arr = FA) := ⟨_, rfl⟩
  rw [HFA.out] at hcon HFS fo
  obtain ⟨SS, HSS⟩ : ∃ SS, Hid ((endS m.abs cl) = SS) := ⟨_, rfl⟩
  rw [HSS.out] at hcon
  unfold Cal.arr at hcon
  obtain ⟨CE, HCE⟩ : ∃ CE, Hid ((#[.int .u8 cl.kind, .int .u64 cl.txn, .int .u16 cl.page, .int .i64 cl.off, .string cl.str] : Array Value) = CE) := ⟨_, rfl⟩
  have HCS : Hid (CE.size = 5) := by rw [← HCE.out]; rfl
  rw [HCE.out] at rx1 hcon
  have hnF : ¬ F (A0 + 1) := fun q => by have := HCF.out _ q; rw [HA0.out] at this; omega
  have ts : Hid (1 = 1) := rfl
  have tm : Hid (1 = 1) := rfl
  go_wp2_with (first
    | (have hh := tm; clear hh tm; refine load_cells rfl 35 (.tmp 3) rfl A0 rfl 35 CE rx1 5 Try.underlying35 rfl size35 HCS.out ?_)
    | (go_at_call 22; refine Calls.mono hcon ?_; clear hcon; rintro e wd ⟨he, hwd⟩; obtain rfl := he; have r9 := r40.off hwd.1 hnF; have HWD : Hid (Went W F g SS wd) := hwd; clear hwd)
    | (have hh := ts; clear hh ts; refine store_cells rfl 40 (.tmp 4) (.tmp 31) rfl (A0 + 1) FA rfl rfl 40 _ r9 67 size40 HZS.out HFS.out fo ?_))
  refine bodyPost_ret (v := .agg FA) (ret_cell (fn := Try.f12) rfl _ _ (A0 + 1) 40 FA _ rfl (r9.set _) Try.underlying40 rfl (by rw [size40, HFS.out])) rfl ?_
  rw [HPP.out]
  exact ⟨by rw [HFA.out], by rw [HSS.out]; exact Went.close HCF.out (Off.of_below ab1) HWD.out r40.lt (by rw [HA0.out]; exact Nat.le_succ _) (Off.of_setRow wd (A0 + 1) FA rfl)⟩

set_option maxHeartbeats 1000000 in
theorem do_vacuum {w : World} {F : Nat → Prop} {g : Nat} {m : M} (c : MA w F g m) (cl : Cal) (hco : m.closed = false) (hkd : cl.kind = 5) : Calls Try.prog 12 #[.pointer (some ⟨g, 0, none⟩), .agg cl.arr] w fun r w' => r = .returned (.agg Rep.zero.arr) ∧ Below w.heap.size w w' := by
  have HCO : Hid _ := hco
  clear hco
  have HKD : Hid (cl.kind = 5) := hkd
  clear hkd
  obtain ⟨PP, HPP⟩ : ∃ PP : Ending → World → Prop, Hid (PP = fun r w' => r = .returned (.agg Rep.zero.arr) ∧ Below w.heap.size w w') := ⟨_, rfl⟩
  rw [← HPP.out]
  have hz40 := zero40
  have HZS : Hid (Rep.zero.arr.size = 67) := rz
  generalize Rep.zero.arr = Z at hz40 HZS
  have HCC : Hid (MA w F g m) := c
  have ab : Below w.heap.size w (w.alloc (.cells #[.int .u8 cl.kind, .int .u64 cl.txn, .int .u16 cl.page, .int .i64 cl.off, .string cl.str] 35)) := (Below.refl _ _).alloc (Nat.le_refl _) _
  have rx : Row (w.alloc (.cells #[.int .u8 cl.kind, .int .u64 cl.txn, .int .u16 cl.page, .int .i64 cl.off, .string cl.str] 35)) w.heap.size #[.int .u8 cl.kind, .int .u64 cl.txn, .int .u16 cl.page, .int .i64 cl.off, .string cl.str] 35 := Row.new _ _ _
  have e1 : (w.alloc (.cells #[.int .u8 cl.kind, .int .u64 cl.txn, .int .u16 cl.page, .int .i64 cl.off, .string cl.str] 35)).heap.size = w.heap.size + 1 := Array.size_push ..
  have ab1 : Below w.heap.size w ((w.alloc (.cells #[.int .u8 cl.kind, .int .u64 cl.txn, .int .u16 cl.page, .int .i64 cl.off, .string cl.str] 35)).alloc (.cells Z 40)) := ab.alloc ab.size _
  have r40 : Row ((w.alloc (.cells #[.int .u8 cl.kind, .int .u64 cl.txn, .int .u16 cl.page, .int .i64 cl.off, .string cl.str] 35)).alloc (.cells Z 40)) (w.alloc (.cells #[.int .u8 cl.kind, .int .u64 cl.txn, .int .u16 cl.page, .int .i64 cl.off, .string cl.str] 35)).heap.size Z 40 := Row.new _ _ _
  have rx1 := rx.alloc (.cells Z 40)
  rw [e1] at r40
  unfold Cal.arr
  clear c rx ab e1
  go_enter Try.func12, Try.ntmps12
  go_upto_region 1 with fail
  generalize (w.alloc (.cells #[.int .u8 cl.kind, .int .u64 cl.txn, .int .u16 cl.page, .int .i64 cl.off, .string cl.str] 35)).alloc (.cells Z 40) = W at ab1 r40 rx1 ⊢
  obtain ⟨A0, HA0⟩ : ∃ A0, Hid (w.heap.size = A0) := ⟨_, rfl⟩
  rw [HA0.out] at r40 rx1 ⊢
  have hcl5 := (HCC.out.below ab1).at_.c5
  rw [HCO.out] at hcl5
  have e0 := row_at rx1 0 _ rfl
  rw [HKD.out] at e0
  have bu := built40_none
  have HFS : Hid (Rep.zero.arr.size = 67) := rz
  have fo := Rep.zero.one
  obtain ⟨FA, HFA⟩ : ∃ FA, Hid (Rep.zero.arr = FA) := ⟨_, rfl⟩
  rw [HFA.out] at bu HFS fo
  have tb : Hid (1 = 1) := rfl
  have ts : Hid (1 = 1) := rfl
  go_wp2_with (first
    | (have hh := tb; clear hh tb; refine build_cells rfl 40 #[] rfl _ rfl FA bu ?_)
    | (have hh := ts; clear hh ts; refine store_cells rfl 40 (.tmp 4) (.tmp 35) rfl (A0 + 1) FA rfl rfl 40 _ r40 67 size40 HZS.out HFS.out fo ?_))
  refine bodyPost_ret (v := .agg FA) (ret_cell (fn := Try.f12) rfl _ _ (A0 + 1) 40 FA _ rfl (r40.set _) Try.underlying40 rfl (by rw [size40, HFS.out])) rfl ?_
  rw [HPP.out]
  exact ⟨by rw [HFA.out], below_setRow ab1 (by rw [HA0.out]; exact Nat.le_succ _) _⟩

set_option maxHeartbeats 1000000 in
theorem do_check {w : World} {F : Nat → Prop} {g : Nat} {m : M} (c : MA w F g m) (cl : Cal) (hco : m.closed = false) (hkd : cl.kind = 6) : Calls Try.prog 12 #[.pointer (some ⟨g, 0, none⟩), .agg cl.arr] w fun r w' => r = .returned (.agg Rep.zero.arr) ∧ Below w.heap.size w w' := by
  have HCO : Hid _ := hco
  clear hco
  have HKD : Hid (cl.kind = 6) := hkd
  clear hkd
  obtain ⟨PP, HPP⟩ : ∃ PP : Ending → World → Prop, Hid (PP = fun r w' => r = .returned (.agg Rep.zero.arr) ∧ Below w.heap.size w w') := ⟨_, rfl⟩
  rw [← HPP.out]
  have hz40 := zero40
  have HZS : Hid (Rep.zero.arr.size = 67) := rz
  generalize Rep.zero.arr = Z at hz40 HZS
  have HCC : Hid (MA w F g m) := c
  have ab : Below w.heap.size w (w.alloc (.cells #[.int .u8 cl.kind, .int .u64 cl.txn, .int .u16 cl.page, .int .i64 cl.off, .string cl.str] 35)) := (Below.refl _ _).alloc (Nat.le_refl _) _
  have rx : Row (w.alloc (.cells #[.int .u8 cl.kind, .int .u64 cl.txn, .int .u16 cl.page, .int .i64 cl.off, .string cl.str] 35)) w.heap.size #[.int .u8 cl.kind, .int .u64 cl.txn, .int .u16 cl.page, .int .i64 cl.off, .string cl.str] 35 := Row.new _ _ _
  have e1 : (w.alloc (.cells #[.int .u8 cl.kind, .int .u64 cl.txn, .int .u16 cl.page, .int .i64 cl.off, .string cl.str] 35)).heap.size = w.heap.size + 1 := Array.size_push ..
  have ab1 : Below w.heap.size w ((w.alloc (.cells #[.int .u8 cl.kind, .int .u64 cl.txn, .int .u16 cl.page, .int .i64 cl.off, .string cl.str] 35)).alloc (.cells Z 40)) := ab.alloc ab.size _
  have r40 : Row ((w.alloc (.cells #[.int .u8 cl.kind, .int .u64 cl.txn, .int .u16 cl.page, .int .i64 cl.off, .string cl.str] 35)).alloc (.cells Z 40)) (w.alloc (.cells #[.int .u8 cl.kind, .int .u64 cl.txn, .int .u16 cl.page, .int .i64 cl.off, .string cl.str] 35)).heap.size Z 40 := Row.new _ _ _
  have rx1 := rx.alloc (.cells Z 40)
  rw [e1] at r40
  unfold Cal.arr
  clear c rx ab e1
  go_enter Try.func12, Try.ntmps12
  go_upto_region 1 with fail
  generalize (w.alloc (.cells #[.int .u8 cl.kind, .int .u64 cl.txn, .int .u16 cl.page, .int .i64 cl.off, .string cl.str] 35)).alloc (.cells Z 40) = W at ab1 r40 rx1 ⊢
  obtain ⟨A0, HA0⟩ : ∃ A0, Hid (w.heap.size = A0) := ⟨_, rfl⟩
  rw [HA0.out] at r40 rx1 ⊢
  have hcl5 := (HCC.out.below ab1).at_.c5
  rw [HCO.out] at hcl5
  have e0 := row_at rx1 0 _ rfl
  rw [HKD.out] at e0
  have bu := built40_none
  have HFS : Hid (Rep.zero.arr.size = 67) := rz
  have fo := Rep.zero.one
  obtain ⟨FA, HFA⟩ : ∃ FA, Hid (Rep.zero.arr = FA) := ⟨_, rfl⟩
  rw [HFA.out] at bu HFS fo
  have tb : Hid (1 = 1) := rfl
  have ts : Hid (1 = 1) := rfl
  go_wp2_with (first
    | (have hh := tb; clear hh tb; refine build_cells rfl 40 #[] rfl _ rfl FA bu ?_)
    | (have hh := ts; clear hh ts; refine store_cells rfl 40 (.tmp 4) (.tmp 35) rfl (A0 + 1) FA rfl rfl 40 _ r40 67 size40 HZS.out HFS.out fo ?_))
  refine bodyPost_ret (v := .agg FA) (ret_cell (fn := Try.f12) rfl _ _ (A0 + 1) 40 FA _ rfl (r40.set _) Try.underlying40 rfl (by rw [size40, HFS.out])) rfl ?_
  rw [HPP.out]
  exact ⟨by rw [HFA.out], below_setRow ab1 (by rw [HA0.out]; exact Nat.le_succ _) _⟩

theorem closed_ok {m : M} (ok : m.abs.Ok) : (M.abs { m with last := m.last, begun := m.begun, closed := true }).Ok := { n0 := ok.n0, n1 := ok.n1, vs := ok.vs, lo := ok.lo, hi := ok.hi, mx := ok.mx, pos := ok.pos, keys := ok.keys, few := ok.few, tx := ok.tx }
set_option maxHeartbeats 1000000 in
theorem do_close {w : World} {F : Nat → Prop} {g : Nat} {m : M} (c : MA w F g m) (cl : Cal) (hco : m.closed = false) (hkd : cl.kind = 7) : Calls Try.prog 12 #[.pointer (some ⟨g, 0, none⟩), .agg cl.arr] w fun r w' => r = .returned (.agg Rep.zero.arr) ∧ Went w F g (M.abs { m with last := m.last, begun := m.begun, closed := true }) w' := by
  have HCO : Hid _ := hco
  have HCF : Hid (∀ k, F k → k < w.heap.size) := c.lt
  clear hco
  have HKD : Hid (cl.kind = 7) := hkd
  clear hkd
  obtain ⟨PP, HPP⟩ : ∃ PP : Ending → World → Prop, Hid (PP = fun r w' => r = .returned (.agg Rep.zero.arr) ∧ Went w F g (M.abs { m with last := m.last, begun := m.begun, closed := true }) w') := ⟨_, rfl⟩
  rw [← HPP.out]
  have hz40 := zero40
  have HZS : Hid (Rep.zero.arr.size = 67) := rz
  generalize Rep.zero.arr = Z at hz40 HZS
  have HCC : Hid (MA w F g m) := c
  have ab : Below w.heap.size w (w.alloc (.cells #[.int .u8 cl.kind, .int .u64 cl.txn, .int .u16 cl.page, .int .i64 cl.off, .string cl.str] 35)) := (Below.refl _ _).alloc (Nat.le_refl _) _
  have rx : Row (w.alloc (.cells #[.int .u8 cl.kind, .int .u64 cl.txn, .int .u16 cl.page, .int .i64 cl.off, .string cl.str] 35)) w.heap.size #[.int .u8 cl.kind, .int .u64 cl.txn, .int .u16 cl.page, .int .i64 cl.off, .string cl.str] 35 := Row.new _ _ _
  have e1 : (w.alloc (.cells #[.int .u8 cl.kind, .int .u64 cl.txn, .int .u16 cl.page, .int .i64 cl.off, .string cl.str] 35)).heap.size = w.heap.size + 1 := Array.size_push ..
  have ab1 : Below w.heap.size w ((w.alloc (.cells #[.int .u8 cl.kind, .int .u64 cl.txn, .int .u16 cl.page, .int .i64 cl.off, .string cl.str] 35)).alloc (.cells Z 40)) := ab.alloc ab.size _
  have r40 : Row ((w.alloc (.cells #[.int .u8 cl.kind, .int .u64 cl.txn, .int .u16 cl.page, .int .i64 cl.off, .string cl.str] 35)).alloc (.cells Z 40)) (w.alloc (.cells #[.int .u8 cl.kind, .int .u64 cl.txn, .int .u16 cl.page, .int .i64 cl.off, .string cl.str] 35)).heap.size Z 40 := Row.new _ _ _
  have rx1 := rx.alloc (.cells Z 40)
  rw [e1] at r40
  unfold Cal.arr
  clear c rx ab e1
  go_enter Try.func12, Try.ntmps12
  go_upto_region 1 with fail
  generalize (w.alloc (.cells #[.int .u8 cl.kind, .int .u64 cl.txn, .int .u16 cl.page, .int .i64 cl.off, .string cl.str] 35)).alloc (.cells Z 40) = W at ab1 r40 rx1 ⊢
  obtain ⟨A0, HA0⟩ : ∃ A0, Hid (w.heap.size = A0) := ⟨_, rfl⟩
  rw [HA0.out] at r40 rx1 ⊢
  have hcl5 := (HCC.out.below ab1).at_.c5
  rw [HCO.out] at hcl5
  have e0 := row_at rx1 0 _ rfl
  rw [HKD.out] at e0
  have C1 := HCC.out.below ab1
  have f5 := row_frozen C1.at_.row 5
  have O1 : Off (· = g) W (W.setCell ⟨g, 5, none⟩ (.bool true)) := Off.of_setCell _ _ _ rfl
  have R1 : Row (W.setCell ⟨g, 5, none⟩ (.bool true)) g (M.cells { m with last := m.last, begun := m.begun, closed := true }) 58 := row_set C1.at_.row 5 _
  have C2 := C1.turn m.last m.begun true O1 R1 (closed_ok HCC.out.ok)
  have hgF : F g := HCC.out.foot _ (Or.inl rfl)
  have r41 : Row (W.setCell ⟨g, 5, none⟩ (.bool true)) (A0 + 1) Z 40 := r40.off O1 (fun q => ne_types (row_is r40) C1.at_.kg (by decide) q)
  have F1 : Off F w (W.setCell ⟨g, 5, none⟩ (.bool true)) := (Off.of_below ab1).trans O1 (fun j q => Or.inl (by cases q; exact hgF))
  have bu := built40_none
  have HFS : Hid (Rep.zero.arr.size = 67) := rz
  have fo := Rep.zero.one
  obtain ⟨FA, HFA⟩ : ∃ FA, Hid (Rep.zero.arr = FA) := ⟨_, rfl⟩
  rw [HFA.out] at bu HFS fo
  have HWC : Hid (Went w F g (M.abs { m with last := m.last, begun := m.begun, closed := true }) ((W.setCell ⟨g, 5, none⟩ (.bool true)).setRow (A0 + 1) FA)) := Went.close HCF.out F1 (Went.same (w := W.setCell ⟨g, 5, none⟩ (.bool true)) ⟨_, rfl, C2⟩ (Below.refl _ _)) r41.lt (by rw [HA0.out]; exact Nat.le_succ _) (Off.of_setRow _ (A0 + 1) FA rfl)
  clear C1 C2 O1 R1 F1
  have tb : Hid (1 = 1) := rfl
  have ts : Hid (1 = 1) := rfl
  go_wp2_with (first
    | (have hh := tb; clear hh tb; refine build_cells rfl 40 #[] rfl _ rfl FA bu ?_)
    | (have hh := ts; clear hh ts; refine store_cells rfl 40 (.tmp 4) (.tmp 41) rfl (A0 + 1) FA rfl rfl 40 _ r41 67 size40 HZS.out HFS.out fo ?_))
  refine bodyPost_ret (v := .agg FA) (ret_cell (fn := Try.f12) rfl _ _ (A0 + 1) 40 FA _ rfl (r41.set _) Try.underlying40 rfl (by rw [size40, HFS.out])) rfl ?_
  rw [HPP.out]
  exact ⟨by rw [HFA.out], HWC.out⟩
set_option maxHeartbeats 1000000 in
theorem do_none {w : World} {F : Nat → Prop} {g : Nat} {m : M} (c : MA w F g m) (cl : Cal) (hco : m.closed = false) (hkd : 8 ≤ cl.kind) : Calls Try.prog 12 #[.pointer (some ⟨g, 0, none⟩), .agg cl.arr] w fun r w' => r = .returned (.agg (Rep.fail 1).arr) ∧ Below w.heap.size w w' := by
  have HCO : Hid _ := hco
  clear hco
  have k0 : (cl.kind == 0) = false := by simp; omega
  have k1 : (cl.kind == 1) = false := by simp; omega
  have k2 : (cl.kind == 2) = false := by simp; omega
  have k3 : (cl.kind == 3) = false := by simp; omega
  have k4 : (cl.kind == 4) = false := by simp; omega
  have k5 : (cl.kind == 5) = false := by simp; omega
  have k6 : (cl.kind == 6) = false := by simp; omega
  have k7 : (cl.kind == 7) = false := by simp; omega
  have HKD : Hid _ := hkd
  clear hkd
  obtain ⟨PP, HPP⟩ : ∃ PP : Ending → World → Prop, Hid (PP = fun r w' => r = .returned (.agg (Rep.fail 1).arr) ∧ Below w.heap.size w w') := ⟨_, rfl⟩
  rw [← HPP.out]
  have hz40 := zero40
  have HZS : Hid (Rep.zero.arr.size = 67) := rz
  generalize Rep.zero.arr = Z at hz40 HZS
  have HCC : Hid (MA w F g m) := c
  have ab : Below w.heap.size w (w.alloc (.cells #[.int .u8 cl.kind, .int .u64 cl.txn, .int .u16 cl.page, .int .i64 cl.off, .string cl.str] 35)) := (Below.refl _ _).alloc (Nat.le_refl _) _
  have rx : Row (w.alloc (.cells #[.int .u8 cl.kind, .int .u64 cl.txn, .int .u16 cl.page, .int .i64 cl.off, .string cl.str] 35)) w.heap.size #[.int .u8 cl.kind, .int .u64 cl.txn, .int .u16 cl.page, .int .i64 cl.off, .string cl.str] 35 := Row.new _ _ _
  have e1 : (w.alloc (.cells #[.int .u8 cl.kind, .int .u64 cl.txn, .int .u16 cl.page, .int .i64 cl.off, .string cl.str] 35)).heap.size = w.heap.size + 1 := Array.size_push ..
  have ab1 : Below w.heap.size w ((w.alloc (.cells #[.int .u8 cl.kind, .int .u64 cl.txn, .int .u16 cl.page, .int .i64 cl.off, .string cl.str] 35)).alloc (.cells Z 40)) := ab.alloc ab.size _
  have r40 : Row ((w.alloc (.cells #[.int .u8 cl.kind, .int .u64 cl.txn, .int .u16 cl.page, .int .i64 cl.off, .string cl.str] 35)).alloc (.cells Z 40)) (w.alloc (.cells #[.int .u8 cl.kind, .int .u64 cl.txn, .int .u16 cl.page, .int .i64 cl.off, .string cl.str] 35)).heap.size Z 40 := Row.new _ _ _
  have rx1 := rx.alloc (.cells Z 40)
  rw [e1] at r40
  unfold Cal.arr
  clear c rx ab e1
  go_enter Try.func12, Try.ntmps12
  go_upto_region 1 with fail
  generalize (w.alloc (.cells #[.int .u8 cl.kind, .int .u64 cl.txn, .int .u16 cl.page, .int .i64 cl.off, .string cl.str] 35)).alloc (.cells Z 40) = W at ab1 r40 rx1 ⊢
  obtain ⟨A0, HA0⟩ : ∃ A0, Hid (w.heap.size = A0) := ⟨_, rfl⟩
  rw [HA0.out] at r40 rx1 ⊢
  have hcl5 := (HCC.out.below ab1).at_.c5
  rw [HCO.out] at hcl5
  have e0 := row_at rx1 0 _ rfl
  have ho := only_any 1 W
  have HFS : Hid ((Rep.fail 1).arr.size = 67) := Rep.arr_size (zs_length _)
  have fo := (Rep.fail 1).one
  obtain ⟨FA, HFA⟩ : ∃ FA, Hid ((Rep.fail 1).arr = FA) := ⟨_, rfl⟩
  rw [HFA.out] at ho HFS fo
  have ts : Hid (1 = 1) := rfl
  go_wp2_with (first
    | (go_at_call 19; refine ho.mono ?_; clear ho; rintro e wd ⟨he, hcb⟩; obtain rfl := he; have r9 := r40.below hcb r40.lt; have ab9 := ab1.trans (hcb.mono ab1.size))
    | (have hh := ts; clear hh ts; refine store_cells rfl 40 (.tmp 4) (.tmp 42) rfl (A0 + 1) FA rfl rfl 40 _ r9 67 size40 HZS.out HFS.out fo ?_))
  refine bodyPost_ret (v := .agg FA) (ret_cell (fn := Try.f12) rfl _ _ (A0 + 1) 40 FA _ rfl (r9.set _) Try.underlying40 rfl (by rw [size40, HFS.out])) rfl ?_
  rw [HPP.out]
  exact ⟨by rw [HFA.out], below_setRow ab9 (by rw [HA0.out]; exact Nat.le_succ _) _⟩

theorem do_any {w : World} {F : Nat → Prop} {g : Nat} {s : St} (c : MAt w F g s) (cl : Cal) (hcl : cl.Ok) (hbig : s.begun < 1000000000000) : Calls Try.prog 12 #[.pointer (some ⟨g, 0, none⟩), .agg cl.arr] w fun r w' => r = .returned (.agg (doR s cl).arr) ∧ Went w F g (doS s cl) w' := by
  obtain ⟨m, rfl, c⟩ := c
  have cm : MAt w F g m.abs := ⟨m, rfl, c⟩
  cases hco : m.closed with
  | true =>
    have hc2 : m.abs.closed = true := hco
    have er : doR m.abs cl = Rep.fail 12 := if_pos hc2
    have es : doS m.abs cl = m.abs := if_pos hc2
    rw [er, es]
    exact (do_closed c cl hco).mono fun r w' h => ⟨h.1, Went.same cm h.2⟩
  | false =>
    have hc2 : ¬ m.abs.closed = true := by show ¬ m.closed = true; rw [hco]; simp
    have hk := hcl.k
    by_cases h0 : cl.kind = 0
    · have er : doR m.abs cl = beginR m.abs := by unfold doR; rw [if_neg hc2, if_pos h0]
      have es : doS m.abs cl = beginS m.abs := by unfold doS; rw [if_neg hc2, if_pos h0]
      rw [er, es]
      exact do_begin c cl hcl hco h0 hbig
    · by_cases h1 : cl.kind = 1 ∨ cl.kind = 2
      · have er : doR m.abs cl = useR m.abs cl := by unfold doR; rw [if_neg hc2, if_neg h0, if_pos h1]
        have es : doS m.abs cl = useS m.abs cl := by unfold doS; rw [if_neg hc2, if_neg h0, if_pos h1]
        rw [er, es]
        rcases h1 with h | h
        · exact do_read c cl hcl hco h
        · exact do_write c cl hcl hco h
      · by_cases h2 : cl.kind = 3 ∨ cl.kind = 4
        · have er : doR m.abs cl = endR m.abs cl := by unfold doR; rw [if_neg hc2, if_neg h0, if_neg h1, if_pos h2]
          have es : doS m.abs cl = endS m.abs cl := by unfold doS; rw [if_neg hc2, if_neg h0, if_neg h1, if_pos h2]
          rw [er, es]
          rcases h2 with h | h
          · exact do_commit c cl hcl hco h
          · exact do_abort c cl hcl hco h
        · by_cases h3 : cl.kind = 5 ∨ cl.kind = 6 ∨ cl.kind = 7
          · have er : doR m.abs cl = Rep.zero := by unfold doR; rw [if_neg hc2, if_neg h0, if_neg h1, if_neg h2, if_pos h3]
            rw [er]
            rcases h3 with h | h | h
            · have es : doS m.abs cl = m.abs := by unfold doS; rw [if_neg hc2, if_neg h0, if_neg h1, if_neg h2, if_neg (by omega)]
              rw [es]
              exact (do_vacuum c cl hco h).mono fun r w' h => ⟨h.1, Went.same cm h.2⟩
            · have es : doS m.abs cl = m.abs := by unfold doS; rw [if_neg hc2, if_neg h0, if_neg h1, if_neg h2, if_neg (by omega)]
              rw [es]
              exact (do_check c cl hco h).mono fun r w' h => ⟨h.1, Went.same cm h.2⟩
            · have es : doS m.abs cl = M.abs { m with last := m.last, begun := m.begun, closed := true } := by unfold doS; rw [if_neg hc2, if_neg h0, if_neg h1, if_neg h2, if_pos h]; rfl
              rw [es]
              exact do_close c cl hco h
          · have er : doR m.abs cl = Rep.fail 1 := by unfold doR; rw [if_neg hc2, if_neg h0, if_neg h1, if_neg h2, if_neg h3]
            have es : doS m.abs cl = m.abs := by unfold doS; rw [if_neg hc2, if_neg h0, if_neg h1, if_neg h2, if_neg (by omega)]
            rw [er, es]
            exact (do_none c cl hco (by omega)).mono fun r w' h => ⟨h.1, Went.same cm h.2⟩
end Go.Proofs.Ytpncmbkklkfmnaa
