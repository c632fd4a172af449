/-
  Proved here: a live record by its slot (slot.Get); a page without a record (slot.Free); a page in which nothing follows one (slot.Cut).
-/
import Derived.Test.YtihjapfgllokgaaQSpare
namespace Go.Proofs.Ytihjapfgllokgaa
open Go.ChangeShapes Go.WideShapes Go.ChangeAt Go.RowKit
set_option linter.unusedVariables false
set_option linter.unusedSimpArgs false
set_option maxRecDepth 20000

/-- Which record is told, and whether. -/
def got (os : List O) (s : Nat) : O × Bool := match os[s]? with
  | some o => if may os && o.live then (o, true) else (O.zero, false)
  | none => (O.zero, false)
theorem got_cases (os : List O) (s : Nat) : got os s = (O.zero, false) ∨ ∃ o, os[s]? = some o ∧ may os = true ∧ o.live = true ∧ got os s = (o, true) := by
  unfold got
  cases h : os[s]? with
  | none => exact Or.inl rfl
  | some o =>
    by_cases q : (may os && o.live) = true
    · have q' := q
      simp only [Bool.and_eq_true] at q'
      exact Or.inr ⟨o, rfl, q'.1, q'.2, by simp only; rw [if_pos q]⟩
    · exact Or.inl (by simp only; rw [if_neg q])
theorem row6 {w : World} {g : Nat} {cs : Array Value} {t : TypeId} (h : Row w g cs t) : True := trivial
def Got (w : World) (r : O × Bool) (e : Ending) (w' : World) : Prop := e = .returned (.tuple #[.agg r.1.arr, .bool r.2]) ∧ Below w.heap.size w w'

set_option maxHeartbeats 2000000 in
theorem gets_any (lsn : Int) (v : Value) (os : List O) (s : Nat) (hs : s < 256) (w : World) (ho : Olds w v os) :
    Calls Try.prog 87 #[.agg #[.int .u64 lsn, v], .int .u8 s] w fun e w' => Got w (got os s) e w' := by
  have hmy := fun (wa : World) (hb : Below w.heap.size w wa) => may_any lsn v os wa (ho.keep hb)
  obtain ⟨oa, cap, rfl, hcs⟩ := ho.hold
  have HCS : Hid _ := hcs
  have HMY : Hid _ := hmy
  clear hcs ho hmy
  obtain ⟨n, HN⟩ : ∃ n, Hid (os.length = n) := ⟨_, rfl⟩
  rw [HN.out] at HCS HMY ⊢
  have hz := zero31
  have hws : IntKind.i64.wrap (s : Int) = s := by rw [IntKind.wrap_i64]; omega
  have r0 : Row ((w.alloc (.cells #[.int .u64 lsn, .slice oa n cap] 82)).alloc (.cells #[.bool false, .int .u16 0, .int .u32 0, .int .u16 0, .int .u8 0, .string ByteArray.empty] 31)) w.heap.size #[.int .u64 lsn, .slice oa n cap] 82 := (Row.new _ _ _).alloc _
  have r1 : Row ((w.alloc (.cells #[.int .u64 lsn, .slice oa n cap] 82)).alloc (.cells #[.bool false, .int .u16 0, .int .u32 0, .int .u16 0, .int .u8 0, .string ByteArray.empty] 31)) (w.heap.size + 1) #[.bool false, .int .u16 0, .int .u32 0, .int .u16 0, .int .u8 0, .string ByteArray.empty] 31 := by have := Row.new (w.alloc (.cells #[.int .u64 lsn, .slice oa n cap] 82)) #[.bool false, .int .u16 0, .int .u32 0, .int .u16 0, .int .u8 0, .string ByteArray.empty] 31; simpa using this
  have ab : Below w.heap.size w ((w.alloc (.cells #[.int .u64 lsn, .slice oa n cap] 82)).alloc (.cells #[.bool false, .int .u16 0, .int .u32 0, .int .u16 0, .int .u8 0, .string ByteArray.empty] 31)) := ((Below.refl _ _).alloc (Nat.le_refl _) _).alloc (by simp) _
  go_enter Try.func87, Try.ntmps87
  go_upto_region 1 with fail
  generalize (w.alloc (.cells #[.int .u64 lsn, .slice oa n cap] 82)).alloc (.cells #[.bool false, .int .u16 0, .int .u32 0, .int .u16 0, .int .u8 0, .string ByteArray.empty] 31) = w1 at r0 r1 ab ⊢
  have hm := HMY.out w1 ab
  have rg := range_two r0
  have tl : Hid (1 = 1) := rfl
  have none_ : got os s = (O.zero, false) → ∀ w2, Below w.heap.size w w2 → Row w2 (w.heap.size + 1) #[.bool false, .int .u16 0, .int .u32 0, .int .u16 0, .int .u8 0, .string ByteArray.empty] 31 → True := fun _ _ _ _ => trivial
  clear none_
  go_cut [25] from 6 to 25 (fun c wx => c = .bool (!(got os s).2) ∧ Below w.heap.size w wx ∧ Row wx w.heap.size #[.int .u64 lsn, .slice oa n cap] 82 ∧ Row wx (w.heap.size + 1) #[.bool false, .int .u16 0, .int .u32 0, .int .u16 0, .int .u8 0, .string ByteArray.empty] 31)
  case first =>
    cases hmo : may os
    · have hg : (got os s).2 = false := by unfold got; rw [hmo]; split <;> rfl
      rw [hmo] at hm
      go_wp2_with (first
        | (have hh := tl; clear hh tl; refine wpList_load_mid rfl 82 (.tmp 2) rfl w.heap.size 0 rfl [.int .u64 lsn, .slice oa n cap] _ rg Try.underlying82 rfl size82 ?_)
        | (go_at_call 76; refine hm.mono ?_; rintro e w2 ⟨rfl, b2⟩))
      go_meet
      exact ⟨by rw [hg]; rfl, ab.trans (b2.mono ab.size), r0.below b2 r0.lt, r1.below b2 r1.lt⟩
    · rw [hmo] at hm
      by_cases hsn : s < n
      · have hsn' : (s : Int) < (n : Int) := by omega
        have hsn2 : ¬ (n : Int) ≤ (s : Int) := by omega
        obtain ⟨a, l, p, t, np, ns, dl, rfl, he, hcell⟩ := HCS.out s hsn
        have hc0 := hcell 0 _ rfl
        rw [add_zero] at hc0
        have hg : (got os s).2 = l := by unfold got; rw [he, hmo]; cases l <;> rfl
        have HG := show Hid _ from hg
        have HC0 := show Hid _ from hc0
        clear hg he hcell hc0
        go_wp2_with (first
          | (have hh := tl; clear hh tl; refine wpList_load_mid rfl 82 (.tmp 2) rfl w.heap.size 0 rfl [.int .u64 lsn, .slice (some a) n cap] _ rg Try.underlying82 rfl size82 ?_)
          | (go_at_call 76; refine hm.mono ?_; rintro e w2 ⟨rfl, b2⟩
             have c1 := row_at (r0.below b2 r0.lt) 1 _ rfl
             have cc := cell_keep HC0.out (ab.trans (b2.mono ab.size))))
        go_meet
        exact ⟨by rw [HG.out, decide_eq_false (show ¬ n ≤ s by omega), Bool.false_or], ab.trans (b2.mono ab.size), r0.below b2 r0.lt, r1.below b2 r1.lt⟩
      · have hsn' : (s : Int) ≥ (n : Int) := by omega
        have hg : (got os s).2 = false := by unfold got; rw [List.getElem?_eq_none (by rw [HN.out]; omega)]
        have HG := show Hid _ from hg
        clear hg
        go_wp2_with (first
          | (have hh := tl; clear hh tl; refine wpList_load_mid rfl 82 (.tmp 2) rfl w.heap.size 0 rfl [.int .u64 lsn, .slice oa n cap] _ rg Try.underlying82 rfl size82 ?_)
          | (go_at_call 76; refine hm.mono ?_; rintro e w2 ⟨rfl, b2⟩
             have c1 := row_at (r0.below b2 r0.lt) 1 _ rfl))
        go_meet
        exact ⟨by rw [HG.out]; rfl, ab.trans (b2.mono ab.size), r0.below b2 r0.lt, r1.below b2 r1.lt⟩
  case rest =>
    obtain ⟨rfl, bx, s0, s1⟩ := hcut
    clear r0 r1 ab rg hm
    rcases got_cases os s with hg | ⟨o, he0, _, hl, hg⟩
    · rw [hg]
      simp only [Bool.not_false]
      have HG := show Hid _ from hg
      clear hg
      go_wp2_with (first
        | (refine build_none rfl 31 rfl _ built31 ?_)
        | (refine store_cells rfl 31 (.tmp 4) (.tmp 26) rfl (w.heap.size + 1) #[.bool false, .int .u16 0, .int .u32 0, .int .u16 0, .int .u8 0, .string ByteArray.empty] rfl rfl 31 _ s1 6 size31 rfl rfl (by simp [Value.oneCell']) ?_))
      refine bodyPost_ret (v := .tuple #[.agg O.zero.arr, .bool false]) ?_ rfl ⟨by rw [HG.out], below_setRow bx (by omega) _⟩
      exact ret_cell2 (fn := Try.f87) rfl _ _ (w.heap.size + 1) 31 _ _ _ rfl rfl (s1.set _) Try.underlying31 rfl size31
    · rw [hg]
      simp only [Bool.not_true]
      have hsn : s < n := by rw [← HN.out]; exact (List.getElem?_eq_some_iff.1 he0).1
      have hsn' : (s : Int) < (n : Int) := by omega
      obtain ⟨a, l, p, t, np, ns, dl, rfl, he, hcell⟩ := HCS.out s hsn
      rw [he0] at he
      obtain rfl : o = ⟨l, p, t, np, ns, dl⟩ := by simpa using he
      obtain rfl : l = true := hl
      have HG := show Hid _ from hg
      have hcw : ∀ j u, [Value.bool true, .int .u16 p, .int .u32 t, .int .u16 np, .int .u8 ns, .string dl][j]? = some u → wc.cell? ((a.add (s * 6)).add j) = some u := fun j u hj => cell_keep (hcell j u hj) bx
      have c1 := row_at s0 1 _ rfl
      clear hg he he0 hcell
      go_wp2_with (first
        | (have hh := tl; clear hh tl; refine wpList_load_any rfl 31 (.tmp 30) rfl (a.add (s * 6)) rfl [.bool true, .int .u16 p, .int .u32 t, .int .u16 np, .int .u8 ns, .string dl] _ hcw Try.underlying31 rfl size31 ?_)
        | (refine store_cells rfl 31 (.tmp 4) (.tmp 31) rfl (w.heap.size + 1) #[.bool true, .int .u16 p, .int .u32 t, .int .u16 np, .int .u8 ns, .string dl] rfl rfl 31 _ s1 6 size31 rfl rfl (by simp [Value.oneCell']) ?_))
      refine bodyPost_ret (v := .tuple #[.agg (O.arr ⟨true, p, t, np, ns, dl⟩), .bool true]) ?_ rfl ⟨by rw [HG.out], below_setRow bx (by omega) _⟩
      exact ret_cell2 (fn := Try.f87) rfl _ _ (w.heap.size + 1) 31 _ _ _ rfl rfl (s1.set _) Try.underlying31 rfl size31
end Go.Proofs.Ytihjapfgllokgaa
