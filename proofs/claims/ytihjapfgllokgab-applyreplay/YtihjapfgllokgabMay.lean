/-
  Proved here: whether there may be an undo page (page.May).
-/
import Derived.Test.YtihjapfgllokgabQMi
namespace Go.Proofs.Ytihjapfgllokgab
open Go.ChangeShapes Go.WideShapes Go.ChangeAt Go.RowKit
set_option linter.unusedVariables false
set_option linter.unusedSimpArgs false
set_option maxRecDepth 20000

theorem range_two {w : World} {g : Nat} {v0 v1 : Value} {t : TypeId} (h : Row w g #[v0, v1] t) : w.rangeAt g 0 [v0, v1] := by
  intro j v hv
  rw [cell_of_row w g _ _ _ _ h, Nat.zero_add]
  simpa using hv
theorem ret_bool {a b : Bool} (h : a = b) : Ending.returned (.bool a) = Ending.returned (.bool b) := by rw [h]
theorem okO_zero : okO O.zero = true := by
  unfold okO
  rw [decide_eq_true (p := O.zero = O.zero) rfl]
  rfl
theorem may_at {os : List O} {k : Nat} {o : O} (h : os[k]? = some o) (hk : okO o = false) : may os = false := by
  have : os.all okO = false := by
    rw [Bool.eq_false_iff]; intro q
    have := List.all_eq_true.1 q o (List.mem_of_getElem? h)
    rw [hk] at this; cases this
  unfold may; rw [this]; simp
theorem all_succ {os : List O} {k : Nat} {o : O} (h : os[k]? = some o) (h1 : (os.take k).all okO = true) (h2 : okO o = true) : (os.take (k + 1)).all okO = true := by
  rw [List.take_add_one, h, List.all_append, h1]; simp [h2]
theorem lastLive_succ {os : List O} {m : Nat} (hl : os.length = m + 1) {o : O} (h : os[m]? = some o) : lastLive os = o.live := by
  unfold lastLive
  rw [List.getLast?_eq_getElem?, hl, Nat.add_sub_cancel, h]
theorem may_small {os : List O} (h : may os = true) : os.length ≤ 15 ∧ lastLive os = true ∧ (∀ o ∈ os, okO o = true) ∧ psize os ≤ 224 := by
  unfold may at h
  simp only [Bool.and_eq_true, decide_eq_true_eq] at h
  exact ⟨h.1.1.1, h.1.1.2, fun o ho => List.all_eq_true.1 h.1.2 o ho, h.2⟩

set_option maxHeartbeats 2000000 in
theorem may_any (lsn : Int) (v : Value) (os : List O) (w : World) (ho : Olds w v os) :
    Calls Try.prog 45 #[.agg #[.int .u64 lsn, v]] w fun e w' => e = .returned (.bool (may os)) ∧ Below w.heap.size w w' := by
  have hsz := fun (wa : World) (hb : Below w.heap.size w wa) => size_any lsn v os wa (ho.keep hb)
  obtain ⟨oa, cap, rfl, hcs⟩ := ho.hold
  have HCS : Hid _ := hcs
  have HSZ : Hid _ := hsz
  clear hcs ho hsz
  obtain ⟨n, HN⟩ : ∃ n, Hid (os.length = n) := ⟨_, rfl⟩
  rw [HN.out] at HCS HSZ ⊢
  have hz := zero35
  have ab : Below w.heap.size w (w.alloc (.cells #[.int .u64 lsn, .slice oa n cap] 64)) := (Below.refl _ _).alloc (Nat.le_refl _) _
  have main : n ≤ 15 → lastLive os = true → ∀ (x : Value), x = .bool false → True := fun _ _ _ _ => trivial
  clear main
  by_cases h15 : n ≤ 15
  · have h15' : ¬ (n : Int) > 15 := by omega
    go_enter Try.func45, Try.ntmps45
    go_upto_region 2 with fail
    go_cut [24] from 6 to 49 (fun c wr => c = .bool (!lastLive os) ∧ wr = w.alloc (.cells #[.int .u64 lsn, .slice oa n cap] 64))
    case first =>
      cases n with
      | zero =>
        have hll : lastLive os = true := by
          have : os = [] := List.eq_nil_of_length_eq_zero HN.out
          rw [this]; rfl
        go_wp2
        go_meet
        exact ⟨by rw [hll]; rfl, rfl⟩
      | succ m =>
        have hm1 : (m : Int) + 1 > 0 := by omega
        have hm4 : ¬ (m : Int) + 1 > 15 := by omega
        clear h15'
        have hm2 : IntKind.i64.wrap ((m : Int) + 1 - 1) = m := by rw [IntKind.wrap_i64]; omega
        have hm3 : (m : Int) < (m : Int) + 1 := by omega
        obtain ⟨a, l, p, t, np, ns, dl, rfl, he, hcell⟩ := HCS.out m (by omega)
        have hcw := cell_keep (hcell 0 _ rfl) ab
        rw [add_zero] at hcw
        have HE := show Hid _ from he
        clear he hcell
        go_wp2
        go_meet
        exact ⟨by rw [lastLive_succ HN.out HE.out], rfl⟩
    case rest =>
      obtain ⟨rfl, rfl⟩ := hcut
      cases hll : lastLive os
      · have hm : may os = false := by unfold may; rw [hll]; simp
        simp only [Bool.not_false]
        go_wp2
        go_ret
        exact ⟨rfl, ab⟩
      · simp only [Bool.not_true]
        go_wp2
        go_loopw [28] (fun d wr => ∃ (k : Nat), d = .int .i64 k ∧ k ≤ n ∧ Hid ((os.take k).all okO = true) ∧ Below w.heap.size w wr ∧ Row wr w.heap.size #[.int .u64 lsn, .slice oa n cap] 64) (fun d _ => n - (intOf d).toNat)
        case atStart => exact ⟨0, rfl, by omega, rfl, ab, Row.new _ _ _⟩
        case round =>
          clear ab
          obtain ⟨k, rfl, hk, HO, rb, r0⟩ := hrel
          by_cases hkn : k < n
          · have hkn' : (k : Int) < (n : Int) := by omega
            obtain ⟨a, l, p, t, np, ns, dl, rfl, he, hcell⟩ := HCS.out k hkn
            have hcw : ∀ j u, [Value.bool l, .int .u16 p, .int .u32 t, .int .u16 np, .int .u8 ns, .string dl][j]? = some u → wr.cell? ((a.add (k * 6)).add j) = some u := fun j u hj => cell_keep (hcell j u hj) rb
            have heq : ∀ w, (Op.equalIn 10000 35 (.agg #[.bool l, .int .u16 p, .int .u32 t, .int .u16 np, .int .u8 ns, .string dl]) (.agg #[.bool false, .int .u16 0, .int .u32 0, .int .u16 0, .int .u8 0, .string ByteArray.empty])).run Try.prog w = .ok (decide ((⟨l, p, t, np, ns, dl⟩ : O) = O.zero)) w := fun w => equal35 ⟨l, p, t, np, ns, dl⟩ O.zero w
            have tl : Hid (1 = 1) := rfl
            have HE := show Hid _ from he
            clear he hcell
            cases l
            · by_cases hzo : (⟨false, p, t, np, ns, dl⟩ : O) = O.zero
              · have hok : okO (⟨false, p, t, np, ns, dl⟩ : O) = true := by rw [hzo]; exact okO_zero
                have HA := show Hid _ from all_succ HE.out HO.out hok
                have HOK := show Hid _ from hok
                rw [decide_eq_true hzo] at heq
                have hdl : (dl.size : Int) = 0 := by
                  have : dl = ByteArray.empty := congrArg O.delta hzo
                  rw [this]; rfl
                clear hzo hok
                go_wp2_with (first
                  | (have hh := tl; clear hh tl; refine wpList_load_any rfl 35 (.tmp 30) rfl (a.add (k * 6)) rfl [.bool false, .int .u16 p, .int .u32 t, .int .u16 np, .int .u8 ns, .string dl] _ hcw Try.underlying35 rfl size35 ?_)
                  | (refine build_none_g rfl 35 rfl _ built35 ?_))
                go_roundw
                case rel => exact ⟨k + 1, by go_num, by omega, HA.out, rb.alloc rb.size _, r0.alloc _⟩
                case measure => simp [intOf]; omega
              · have hok : okO (⟨false, p, t, np, ns, dl⟩ : O) = false := by unfold okO; rw [decide_eq_false hzo]; rfl
                have HM := show Hid _ from may_at HE.out hok
                rw [decide_eq_false hzo] at heq
                clear hzo hok
                go_wp2_with (first
                  | (have hh := tl; clear hh tl; refine wpList_load_any rfl 35 (.tmp 30) rfl (a.add (k * 6)) rfl [.bool false, .int .u16 p, .int .u32 t, .int .u16 np, .int .u8 ns, .string dl] _ hcw Try.underlying35 rfl size35 ?_)
                  | (refine build_none_g rfl 35 rfl _ built35 ?_))
                go_ret
                exact ⟨ret_bool HM.out.symm, rb.alloc rb.size _⟩
            · by_cases hd : dl.size ≤ 66
              · have hok : okO (⟨true, p, t, np, ns, dl⟩ : O) = true := by unfold okO; simp [hd]
                have HA := show Hid _ from all_succ HE.out HO.out hok
                have hdl : ¬ (dl.size : Int) > 66 := by omega
                clear hok heq
                go_wp2_with (have hh := tl; clear hh tl; refine wpList_load_any rfl 35 (.tmp 30) rfl (a.add (k * 6)) rfl [.bool true, .int .u16 p, .int .u32 t, .int .u16 np, .int .u8 ns, .string dl] _ hcw Try.underlying35 rfl size35 ?_)
                go_roundw
                case rel => exact ⟨k + 1, by go_num, by omega, HA.out, rb.alloc rb.size _, r0.alloc _⟩
                case measure => simp [intOf]; omega
              · have hok : okO (⟨true, p, t, np, ns, dl⟩ : O) = false := by unfold okO; simp; omega
                have HM := show Hid _ from may_at HE.out hok
                have hdl : (dl.size : Int) > 66 := by omega
                clear hok heq
                go_wp2_with (have hh := tl; clear hh tl; refine wpList_load_any rfl 35 (.tmp 30) rfl (a.add (k * 6)) rfl [.bool true, .int .u16 p, .int .u32 t, .int .u16 np, .int .u8 ns, .string dl] _ hcw Try.underlying35 rfl size35 ?_)
                go_ret
                exact ⟨ret_bool HM.out.symm, rb.alloc rb.size _⟩
          · obtain rfl : k = n := by omega
            have hkn' : ¬ (k : Int) < (k : Int) := by omega
            have ht : os.take k = os := by rw [← HN.out, List.take_length]
            have hall : os.all okO = true := by have := HO.out; rwa [ht] at this
            have hms : may os = decide (psize os ≤ 224) := by unfold may; rw [HN.out, hll, hall, decide_eq_true h15]; simp
            have hsz := HSZ.out wr rb (by omega) (fun o ho => by
              have := List.all_eq_true.1 hall o ho
              unfold okO at this
              simp at this
              omega)
            go_wp2_with (first
              | (refine wpList_load_mid rfl 64 (.tmp 1) rfl w.heap.size 0 rfl [.int .u64 lsn, .slice oa k cap] _ (range_two r0) Try.underlying64 rfl size64 ?_)
              | (go_at_call 63; refine hsz.mono ?_; rintro e w2 ⟨rfl, b2⟩))
            go_ret
            exact ⟨ret_bool hms.symm, rb.trans (b2.mono rb.size)⟩
  · have hm : may os = false := by unfold may; rw [HN.out, decide_eq_false h15]; simp
    have h15' : (n : Int) > 15 := by omega
    rw [hm]
    go_enter Try.func45, Try.ntmps45
    go_wp2
    go_ret
    exact ⟨rfl, ab⟩
end Go.Proofs.Ytihjapfgllokgab
