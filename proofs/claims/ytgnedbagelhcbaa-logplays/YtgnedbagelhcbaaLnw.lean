/-
  Proved here: log.follow, log.New.
-/
import Derived.Test.YtgnedbagelhcbaaLkp
import Derived.Test.YtgnedbagelhcbaaLgy
namespace Go.Proofs.Ytgnedbagelhcbaa
open Go.ChangeShapes Go.WideShapes Go.ChangeAt Go.RowKit
set_option linter.unusedVariables false
set_option linter.unusedSimpArgs false
set_option maxRecDepth 20000
theorem zero104 (w : World) : (zeroValue 104).run Try.prog w = .ok (.agg #[.int .u32 0, .int .u64 0]) w := (zero_of_info (P := Try.prog) (t := 104) (v := .agg #[.int .u32 0, .int .u64 0]) (n := 2) (by kernel_rfl)).1 w
def folS (num fin : Int) (n : Nat) : Nat → Int → List St.O → Bool
  | _, _, [] => true
  | i, least, o :: r => if o.num = IntKind.u32.wrap (num - ((n : Int) - i)) ∧ least ≤ o.off ∧ o.off ≤ fin then folS num fin n (i + 1) o.off r else false
def folL (num fin : Int) (os : List St.O) : Bool := folS num fin os.length 0 0 os
set_option maxHeartbeats 4000000 in
theorem follow_any (num fin : Int) (v : Value) (os : List St.O) (w : World) (ho : St.Olds w v os) (hn : os.length ≤ 1000) :
    Calls Try.prog 43 #[v, .int .u32 num, .int .u64 fin] w fun e w' => e = .returned (.bool (folL num fin os)) ∧ Below w.heap.size w w' := by
  obtain ⟨oa, cap, rfl, hcs⟩ := ho.hold
  have HCS : Hid _ := hcs
  clear hcs ho
  obtain ⟨n, HN⟩ : ∃ n, Hid (os.length = n) := ⟨_, rfl⟩
  rw [HN.out] at HCS hn ⊢
  have HB : Hid (folL num fin os = folS num fin n 0 0 (os.drop 0)) := by show _ = _; unfold folL; rw [HN.out]; rfl
  generalize folL num fin os = FL at HB ⊢
  have hz104 := zero104
  go_enter Try.func43, Try.ntmps43
  go_wp2
  go_loopw [7, 12] (fun le i wr => ∃ (k : Nat) (least : Int), le = .int .u64 least ∧ i = .int .i64 k ∧ k ≤ n ∧ Below w.heap.size w wr ∧ Hid (FL = folS num fin n k least (os.drop k))) (fun _ i _ => n - (intOf i).toNat)
  case atStart => exact ⟨0, 0, rfl, rfl, by omega, Below.refl _ _, HB.out⟩
  case round =>
    clear HB
    obtain ⟨k, least, rfl, rfl, hk, rb, HF⟩ := hrel
    by_cases hkn : k < n
    · have hkn' : (k : Int) < (n : Int) := by omega
      have hk0 : (0 : Int) ≤ (k : Int) := by omega
      obtain ⟨a, p, t, rfl, he, hc1⟩ := HCS.out k hkn
      have hcc : ∀ j u, (St.O.cells ⟨p, t⟩)[j]? = some u → wr.cell? ((a.add (k * 2)).add j) = some u := fun j u hj => Ck.cell_keep (hc1 j u hj) rb
      have HD : Hid (FL = if p = IntKind.u32.wrap (num - ((n : Int) - k)) ∧ least ≤ t ∧ t ≤ fin then folS num fin n (k + 1) t (os.drop (k + 1)) else false) := by
        show _ = _
        rw [HF.out]
        have e1 : os.drop k = ⟨p, t⟩ :: os.drop (k + 1) := List.drop_eq_getElem?_toList_append.trans (by rw [he]; rfl)
        rw [e1]; rfl
      clear he hc1 HF
      have v1 : IntKind.i64.wrap ((n : Int) - k) = (n : Int) - k := by rw [IntKind.wrap_i64]; omega
      have v2 : IntKind.u32.wrap ((n : Int) - k) = (n : Int) - k := by rw [IntKind.wrap_u32]; omega
      generalize hwv : IntKind.u32.wrap (num - ((n : Int) - k)) = wv at HD
      have tl : Hid (1 = 1) := rfl
      have q9 : Row (wr.alloc (.cells #[.int .u32 0, .int .u64 0] 104)) wr.heap.size #[.int .u32 0, .int .u64 0] 104 := Row.new _ _ _
      go_upto_region 5 with (first
        | (have hh := tl; clear hh tl; refine load_any_g rfl 104 (.tmp 15) rfl (a.add (k * 2)) rfl (St.O.cells ⟨p, t⟩) _ hcc Try.underlying104 rfl St.size104 ?_)
        | (refine store_cells rfl 104 (.tmp 9) (.tmp 16) rfl wr.heap.size #[.int .u32 p, .int .u64 t] rfl rfl 104 _ q9 2 St.size104 rfl rfl (by simp [Value.oneCell']) ?_))
      have s9 := q9.set #[.int .u32 p, .int .u64 t]
      have sb := rb.trans (below_setRow ((Below.refl wr.heap.size wr).alloc (Nat.le_refl _) (.cells #[.int .u32 0, .int .u64 0] 104)) (Nat.le_refl _) #[.int .u32 p, .int .u64 t] |>.mono rb.size)
      clear q9 hcc rb
      generalize (wr.alloc (.cells #[.int .u32 0, .int .u64 0] 104)).setRow wr.heap.size #[.int .u32 p, .int .u64 t] = w7 at s9 sb ⊢
      generalize wr.heap.size = g9 at s9 ⊢
      have c0 := row_at s9 0 _ rfl
      have c1 := row_at s9 1 _ rfl
      by_cases h1 : p = wv
      · subst h1
        have h1' : (p != p) = false := by simp
        by_cases h2 : t < least
        · have HR : Hid (FL = false) := by show _ = _; rw [HD.out, if_neg (fun q => by omega)]
          clear HD
          go_wp2
          try go_ret
          exact ⟨by rw [HR.out]; rfl, sb⟩
        · by_cases h3 : fin < t
          · have HR : Hid (FL = false) := by show _ = _; rw [HD.out, if_neg (fun q => by omega)]
            clear HD
            go_wp2
            try go_ret
            exact ⟨by rw [HR.out]; rfl, sb⟩
          · have HR : Hid (FL = folS num fin n (k + 1) t (os.drop (k + 1))) := by show _ = _; rw [HD.out, if_pos ⟨rfl, by omega, by omega⟩]
            clear HD
            go_wp2
            go_roundw
            case rel => exact ⟨k + 1, t, rfl, by go_num, by omega, sb, HR.out⟩
            case measure => simp [intOf]; omega
      · have h1' : (p != wv) = true := by simp [h1]
        have HR : Hid (FL = false) := by show _ = _; rw [HD.out, if_neg (fun q => h1 q.1)]
        clear HD
        go_wp2
        try go_ret
        exact ⟨by rw [HR.out]; rfl, sb⟩
    · obtain rfl : n = k := by omega
      have hkn' : ¬ (n : Int) < (n : Int) := by omega
      have HR : Hid (FL = true) := by
        show _ = _
        rw [HF.out, List.drop_of_length_le (by rw [HN.out]; exact Nat.le_refl _)]; rfl
      clear HF
      go_wp2
      try go_ret
      exact ⟨by rw [HR.out]; rfl, rb⟩
def MadeS (w : World) (x : Option Addr) (a z ep num fin : Int) (os : List St.O) (ok : Bool) (e : Ending) (w' : World) : Prop :=
  Below w.heap.size w w' ∧ (ok = false → e = .returned (.pointer none)) ∧ (ok = true → ∃ gl vl, w.heap.size ≤ gl ∧ e = .returned (.pointer (some ⟨gl, 0, none⟩)) ∧ Row w' gl (lcells (.pointer x) vl (.slice none 0 0) ⟨a, z, ep, os.map (·.off), [], ByteArray.empty, num, true, fin, fin⟩) 102 ∧ OwnU w' (gl + 1) vl (os.map (·.off)))
def okN (a z n num fin : Int) (os : List St.O) : Bool := okR a z n && decide ((os.length : Int) ≤ z) && folL num fin os
def NLoop (w : World) (x : Option Addr) (a z ep num fin : Int) (os : List St.O) (gl k : Nat) (wr : World) : Prop :=
  ∃ vl, w.heap.size ≤ gl ∧ Row wr gl (lcells (.pointer x) vl (.slice none 0 0) ⟨a, z, ep, (os.take k).map (·.off), [], ByteArray.empty, num, true, fin, fin⟩) 102 ∧ OwnU wr (gl + 1) vl ((os.take k).map (·.off)) ∧ Below w.heap.size w wr
theorem own_not104 {w : World} {base g : Nat} {v : Value} {xs : List Int} {cs : Array Value} (h : OwnU w base v xs) (hb : v.ownBlock = some g) (hr : Row w g cs 104) : False := by
  rcases h.2 with ⟨rfl, _⟩ | ⟨g', cap, cur, rfl, _, hc, _⟩
  · cases hb
  · cases hb
    unfold Row at hr
    rw [hc] at hr
    simp at hr
set_option maxHeartbeats 8000000 in
theorem lnew_any (x : Option Addr) (a z ep num fin n : Int) (v : Value) (os : List St.O) (w : World) (ho : St.Olds w v os) (hl : os.length ≤ 1000) (hz : -9223372036854775808 ≤ z ∧ z ≤ 9223372036854775807) (hn : 0 ≤ n ∧ n ≤ 2048) (hs : ∀ wa, Below w.heap.size w wa → Calls Try.prog 70 #[.pointer x] wa fun e w' => e = .returned (.int .i64 n) ∧ w' = wa) :
    Calls Try.prog 11 #[.pointer x, .int .i64 a, .int .i64 z, .int .u32 ep, v, .int .u32 num, .int .u64 fin] w fun e w' => MadeS w x a z ep num fin os (okN a z n num fin os) e w' := by
  obtain ⟨PP, HPP⟩ : ∃ PP : Ending → World → Prop, Hid (PP = fun e w' => MadeS w x a z ep num fin os (okN a z n num fin os) e w') := ⟨_, rfl⟩
  rw [← HPP.out]
  have HOL : Hid (∀ wx, Below w.heap.size w wx → St.Olds wx v os) := fun wx hb => ho.keep hb
  obtain ⟨oa, cap, rfl, hcs⟩ := ho.hold
  have HCS : Hid _ := hcs
  clear hcs ho
  have HRT : Hid (∀ wa, Below w.heap.size w wa → Calls Try.prog 42 #[.agg #[.pointer x, .int .i64 a, .int .i64 z]] wa fun e w' => e = .returned (.bool (okR a z n)) ∧ Below wa.heap.size wa w') := fun wa hb => right_any _ a z n wa hz.2 (by omega) (fun wb hb' => hs wb (hb.trans (hb'.mono hb.size)))
  have HFO : Hid (∀ wx, Below w.heap.size w wx → Calls Try.prog 43 #[.slice oa os.length cap, .int .u32 num, .int .u64 fin] wx fun e w' => e = .returned (.bool (folL num fin os)) ∧ Below wx.heap.size wx w') := fun wx hb => follow_any num fin _ os wx (HOL.out wx hb) hl
  have HNO : Hid (okN a z n num fin os = false → ∀ w', Below w.heap.size w w' → PP (.returned (.pointer none)) w') := fun h w' hb => by
    rw [HPP.out, h]; exact ⟨hb, fun _ => rfl, fun q => by cases q⟩
  have HYE : Hid (okN a z n num fin os = true → ∀ gl w', NLoop w x a z ep num fin os gl os.length w' → PP (.returned (.pointer (some ⟨gl, 0, none⟩))) w') := fun h gl w' hb => by
    rw [HPP.out, h]
    obtain ⟨vl, h1, h2, h3, h4⟩ := hb
    rw [List.take_length] at h2 h3
    exact ⟨h4, (fun q => by cases q), fun _ => ⟨gl, vl, h1, rfl, h2, h3⟩⟩
  have HOK : Hid (okN a z n num fin os = (okR a z n && decide ((os.length : Int) ≤ z) && folL num fin os)) := rfl
  generalize okN a z n num fin os = OK at HNO HYE HOK
  clear HPP HOL
  obtain ⟨m, HM⟩ : ∃ m, Hid (os.length = m) := ⟨_, rfl⟩
  rw [HM.out] at HCS hl HFO HYE HOK ⊢
  generalize folL num fin os = FL at HFO HOK
  generalize okR a z n = RT at HRT HOK
  have hz98 := zero98
  have hz104 := zero104
  have q0 : Row (w.alloc (.cells #[.pointer none, .int .i64 0, .int .i64 0] 98)) w.heap.size #[.pointer none, .int .i64 0, .int .i64 0] 98 := Row.new _ _ _
  have qb : Below w.heap.size w (w.alloc (.cells #[.pointer none, .int .i64 0, .int .i64 0] 98)) := (Below.refl _ _).alloc (Nat.le_refl _) _
  go_enter Try.func11, Try.ntmps11
  go_upto_region 2 with (first
    | (refine build_parts rfl 98 #[(0, .tmp 19), (1, .tmp 20), (2, .tmp 21)] rfl [(0, .pointer x), (1, .int .i64 a), (2, .int .i64 z)] rfl _ (built98 _ a z) ?_)
    | (refine store_cells rfl 98 (.tmp 15) (.tmp 22) rfl w.heap.size #[.pointer x, .int .i64 a, .int .i64 z] rfl rfl 98 _ q0 3 size98 rfl rfl (by simp [Value.oneCell']) ?_))
  have r0 := q0.set #[.pointer x, .int .i64 a, .int .i64 z]
  have rb := below_setRow qb (Nat.le_refl _) #[.pointer x, .int .i64 a, .int .i64 z]
  clear q0 qb
  generalize (w.alloc (.cells #[.pointer none, .int .i64 0, .int .i64 0] 98)).setRow w.heap.size #[.pointer x, .int .i64 a, .int .i64 z] = w1 at r0 rb ⊢
  cases RT with
  | false =>
    have HK : Hid _ := HNO.out (by rw [HOK.out]; rfl)
    clear HNO HYE HOK
    go_wp2_with (first
      | (refine load_cells rfl 98 (.tmp 15) rfl w.heap.size rfl 98 _ r0 3 Try.underlying98 rfl size98 rfl ?_)
      | (go_at_call 42; refine Calls.mono (HRT.out _ rb) ?_; clear HRT; rintro e w2 ⟨rfl, h2⟩))
    try go_ret
    exact HK.out _ (rb.trans (h2.mono rb.size))
  | true =>
    by_cases hmz : z < (m : Int)
    · have HK : Hid _ := HNO.out (by rw [HOK.out, decide_eq_false (by omega)]; rfl)
      clear HNO HYE HOK
      go_wp2_with (first
        | (refine load_cells rfl 98 (.tmp 15) rfl w.heap.size rfl 98 _ r0 3 Try.underlying98 rfl size98 rfl ?_)
        | (go_at_call 42; refine Calls.mono (HRT.out _ rb) ?_; clear HRT; rintro e w2 ⟨rfl, h2⟩))
      try go_ret
      exact HK.out _ (rb.trans (h2.mono rb.size))
    · cases FL with
      | false =>
        have HK : Hid _ := HNO.out (by rw [HOK.out]; simp)
        clear HNO HYE HOK
        go_wp2_with (first
          | (refine load_cells rfl 98 (.tmp 15) rfl w.heap.size rfl 98 _ r0 3 Try.underlying98 rfl size98 rfl ?_)
          | (go_at_call 42; refine Calls.mono (HRT.out _ rb) ?_; clear HRT; rintro e w2 ⟨rfl, h2⟩; have rb2 := rb.trans (h2.mono rb.size))
          | (go_at_call 43; refine Calls.mono (HFO.out _ rb2) ?_; clear HFO; rintro e w3 ⟨rfl, h3⟩))
        try go_ret
        exact HK.out _ (rb2.trans (h3.mono rb2.size))
      | true =>
        have HK : Hid _ := HYE.out (by rw [HOK.out, decide_eq_true (by omega)]; rfl)
        clear HNO HYE HOK
        go_upto_region 4 with (first
          | (refine load_cells rfl 98 (.tmp 15) rfl w.heap.size rfl 98 _ r0 3 Try.underlying98 rfl size98 rfl ?_)
          | (go_at_call 42; refine Calls.mono (HRT.out _ rb) ?_; clear HRT; rintro e w2 ⟨rfl, h2⟩; have rb2 := rb.trans (h2.mono rb.size); have r2 := r0.below h2 r0.lt)
          | (go_at_call 43; refine Calls.mono (HFO.out _ rb2) ?_; clear HFO; rintro e w3 ⟨rfl, h3⟩; have rb3 := rb2.trans (h3.mono rb2.size); have r3 := r2.below h3 r2.lt))
        clear r0 rb h2 rb2 r2 h3
        go_upto_region 5 with (first
          | (refine load_cells rfl 98 (.tmp 15) rfl w.heap.size rfl 98 _ r3 3 Try.underlying98 rfl size98 rfl ?_)
          | (refine build_parts rfl 102 #[(0, .tmp 39), (1, .tmp 40), (5, .tmp 41), (6, .const (.bool true)), (7, .tmp 42), (8, .tmp 43)] rfl [(0, .agg #[.pointer x, .int .i64 a, .int .i64 z]), (1, .int .u32 ep), (5, .int .u32 num), (6, .bool true), (7, .int .u64 fin), (8, .int .u64 fin)] rfl _ (built102 _ a z ep num fin) ?_))
        have HL0 : Hid (NLoop w x a z ep num fin os w3.heap.size 0 (w3.alloc (.cells (lcells (.pointer x) (.slice none 0 0) (.slice none 0 0) ⟨a, z, ep, [], [], ByteArray.empty, num, true, fin, fin⟩) 102))) := ⟨_, rb3.size, Row.new _ _ _, OwnU.nil _ _, rb3.alloc rb3.size _⟩
        have hg3 := rb3.size
        clear rb3 r3
        generalize w3.alloc (.cells (lcells (.pointer x) (.slice none 0 0) (.slice none 0 0) ⟨a, z, ep, [], [], ByteArray.empty, num, true, fin, fin⟩) 102) = w4 at HL0 ⊢
        generalize w3.heap.size = gl at HL0 hg3 ⊢
        go_wp2
        go_loopw [48] (fun i wr => ∃ (k : Nat), k ≤ m ∧ i = .int .i64 k ∧ NLoop w x a z ep num fin os gl k wr) (fun i _ => m - (intOf i).toNat)
        case atStart => exact ⟨0, by omega, rfl, HL0.out⟩
        case round =>
          clear HL0
          obtain ⟨k, hk, rfl, vl1, _, hR, hU, hb⟩ := hrel
          by_cases hkm : k < m
          · have hkm' : (k : Int) < (m : Int) := by omega
            have hk0 : (0 : Int) ≤ (k : Int) := by omega
            obtain ⟨pa, p, t, rfl, he, hc1⟩ := HCS.out k hkm
            have hcc : ∀ j u, (St.O.cells ⟨p, t⟩)[j]? = some u → wr.cell? ((pa.add (k * 2)).add j) = some u := fun j u hj => Ck.cell_keep (hc1 j u hj) hb
            have tl : Hid (1 = 1) := rfl
            have q18 : Row (wr.alloc (.cells #[.int .u32 0, .int .u64 0] 104)) wr.heap.size #[.int .u32 0, .int .u64 0] 104 := Row.new _ _ _
            have hglr : gl < wr.heap.size := hR.lt
            go_upto_region 8 with (first
              | (have hh := tl; clear hh tl; refine load_any_g rfl 104 (.tmp 50) rfl (pa.add (k * 2)) rfl (St.O.cells ⟨p, t⟩) _ hcc Try.underlying104 rfl St.size104 ?_)
              | (refine store_cells rfl 104 (.tmp 18) (.tmp 51) rfl wr.heap.size #[.int .u32 p, .int .u64 t] rfl rfl 104 _ q18 2 St.size104 rfl rfl (by simp [Value.oneCell']) ?_))
            have s8 := q18.set #[.int .u32 p, .int .u64 t]
            have sb := below_setRow ((Below.refl wr.heap.size wr).alloc (Nat.le_refl _) (.cells #[.int .u32 0, .int .u64 0] 104)) (Nat.le_refl _) #[.int .u32 p, .int .u64 t]
            clear q18 hcc hc1
            generalize (wr.alloc (.cells #[.int .u32 0, .int .u64 0] 104)).setRow wr.heap.size #[.int .u32 p, .int .u64 t] = w7 at s8 sb ⊢
            have R7 : Row w7 gl #[.pointer x, .int .i64 a, .int .i64 z, .int .u32 ep, vl1, .slice none 0 0, .string ByteArray.empty, .int .u32 num, .bool true, .int .u64 fin, .int .u64 fin] 102 := hR.below sb hR.lt
            have U7 := hU.keep sb
            have HB7 : Hid (Below w.heap.size w w7) := hb.trans (sb.mono hb.size)
            have HUL : Hid (∀ j, vl1.ownBlock = some j → gl + 1 ≤ j) := fun j q => (World.ownsRow.lt U7 j q).1
            have HLN : Hid (((os.take k).map (·.off)).length ≤ 1000000) := by
              show _ ≤ _
              have h3 := HM.out
              rw [List.length_map, List.length_take]; omega
            have HTK : Hid ((os.take k).map (·.off) ++ [t] = (os.take (k + 1)).map (·.off)) := by
              show _ = _
              rw [List.take_add_one, he, List.map_append]; rfl
            clear hR hU hb he
            generalize (os.take k).map (·.off) = xs at U7 HLN HTK
            refine wp_region_last (S := fun w' => Row w' gl #[.pointer x, .int .i64 a, .int .i64 z, .int .u32 ep, vl1, .slice none 0 0, .string ByteArray.empty, .int .u32 num, .bool true, .int .u64 fin, .int .u64 fin] 102 ∧ Row w' wr.heap.size #[.int .u32 p, .int .u64 t] 104 ∧ Off (fun j => j = gl ∨ vl1.ownBlock = some j) w7 w') 11 (by kernel_rfl) ⟨R7, s8, (Off.refl _ _).drew⟩ fun hS => ?_
            refine wpAnyL_take (i := 0) (v := .pointer (some ⟨gl, 0, none⟩)) rfl (by kernel_rfl) (by kernel_rfl) (by kernel_rfl) (by kernel_rfl) (fun _ _ _ h => h) (Or.inl ⟨by rfl, fun w _ => by rfl⟩) hS ?_
            try simp only [Act.put, nz0, nz1, nz2, nz3, nz4, nz5]
            refine wpAnyL_take (i := 1) (v := .pointer (some ⟨gl, 0, none⟩)) rfl (by kernel_rfl) (by kernel_rfl) (by kernel_rfl) (by kernel_rfl) (fun _ _ _ h => h) (Or.inl ⟨by rfl, fun w _ => by rfl⟩) hS ?_
            try simp only [Act.put, nz0, nz1, nz2, nz3, nz4, nz5]
            refine wpAnyL_take (i := 2) (v := .pointer (some ⟨gl, 0, none⟩)) rfl (by kernel_rfl) (by kernel_rfl) (by kernel_rfl) (by kernel_rfl) (fun _ _ _ h => h) (Or.inl ⟨by rfl, fun w _ => by go_simp⟩) hS ?_
            try simp only [Act.put, nz0, nz1, nz2, nz3, nz4, nz5]
            refine wpAnyL_take (i := 3) (v := .pointer (some ⟨gl, 4, none⟩)) rfl (by kernel_rfl) (by kernel_rfl) (by kernel_rfl) (by kernel_rfl) (fun _ _ _ h => h) (Or.inl ⟨by rfl, fun w _ => by go_simp⟩) hS ?_
            try simp only [Act.put, nz0, nz1, nz2, nz3, nz4, nz5]
            refine wpAnyL_take (i := 4) (v := vl1) rfl (by kernel_rfl) (by kernel_rfl) (by kernel_rfl) (by kernel_rfl) (fun _ _ _ h => h) (Or.inl ⟨by rfl, fun w h => by have c := row_at h.1 4 _ rfl; go_simp⟩) hS ?_
            try simp only [Act.put, nz0, nz1, nz2, nz3, nz4, nz5]
            refine wpAnyL_take (i := 5) (v := .pointer (some ⟨wr.heap.size, 1, none⟩)) rfl (by kernel_rfl) (by kernel_rfl) (by kernel_rfl) (by kernel_rfl) (fun _ _ _ h => h) (Or.inl ⟨by rfl, fun w _ => by go_simp⟩) hS ?_
            try simp only [Act.put, nz0, nz1, nz2, nz3, nz4, nz5]
            refine wpAnyL_take (i := 6) (v := .int .u64 t) rfl (by kernel_rfl) (by kernel_rfl) (by kernel_rfl) (by kernel_rfl) (fun _ _ _ h => h) (Or.inl ⟨by rfl, fun w h => by have c := row_at h.2.1 1 _ rfl; go_simp⟩) hS ?_
            try simp only [Act.put, nz0, nz1, nz2, nz3, nz4, nz5]
            have own1 : OwnU w7.drew (gl + 1) vl1 xs := U7
            clear R7 s8 U7
            generalize w7.drew = W0 at hS own1 ⊢
            refine wpAnyL_ready (rs := [7]) (by kernel_rfl) (by simp) ?_
            refine AllReadyL.cons rfl (fun K hK => ?_) AllReadyL.nil
            have ab : Below W0.heap.size W0 (W0.alloc (.cells #[.int .u64 t] 25)) := (Below.refl _ _).alloc (Nat.le_refl _) _
            have rX : Row (W0.alloc (.cells #[.int .u64 t] 25)) W0.heap.size #[.int .u64 t] 25 := Row.new _ _ _
            have own2 := own1.keep ab
            have hS2 : Row (W0.alloc (.cells #[.int .u64 t] 25)) gl #[.pointer x, .int .i64 a, .int .i64 z, .int .u32 ep, vl1, .slice none 0 0, .string ByteArray.empty, .int .u32 num, .bool true, .int .u64 fin, .int .u64 fin] 102 ∧ Row (W0.alloc (.cells #[.int .u64 t] 25)) wr.heap.size #[.int .u32 p, .int .u64 t] 104 ∧ Off (fun j => j = gl ∨ vl1.ownBlock = some j) w7 (W0.alloc (.cells #[.int .u64 t] 25)) := ⟨hS.1.alloc _, hS.2.1.alloc _, hS.2.2.trans (Off.of_below (F := fun _ => False) ab) (fun _ q => q.elim)⟩
            have hrW : gl + 1 ≤ W0.heap.size := hS.1.lt
            have hab := ab.size
            go_simp
            refine hK.out _ _ (fun _ => hS2) ?_
            try simp only [Act.put, nz0, nz1, nz2, nz3, nz4, nz5]
            clear hS ab own1
            generalize W0.alloc (.cells #[.int .u64 t] 25) = W1 at rX hS2 hab own2 ⊢
            generalize W0.heap.size = X at rX hab hrW ⊢
            have hS := hS2
            clear hS2
            have HRA : Hid (∀ ty, ∃ v' w', (Builtin.append_ #[100, 100] ty #[vl1, .slice (some ⟨X, 0, none⟩) 1 1]).run Try.prog W1 = .ok v' w' ∧ (OwnU w' (gl + 1) v' (xs ++ [t]) ∧ W1.grownBy w' vl1.ownBlock ∧ (v'.ownBlock = vl1.ownBlock ∨ v'.ownBlock = some W1.heap.size))) := fun ty => OwnU.snocQ own2 ty X t rX (by omega) HLN.out
            refine wpAnyL_ready (rs := [8]) (by kernel_rfl) (by simp) ?_
            refine AllReadyL.cons rfl (fun K hK => step_ofL rfl (Ck.wp_copy (.tmp 56) (.tmp 59) 100 rfl _ _ rfl rfl (fun ty => HRA.out ty) ?_)) AllReadyL.nil
            rintro v15 w15 ⟨own15, gr15, hv15⟩
            have o15 : Off (fun j => vl1.ownBlock = some j) W1 w15 := Off.of_grown gr15 (fun k hk => hk)
            have R15 : Row w15 gl #[.pointer x, .int .i64 a, .int .i64 z, .int .u32 ep, vl1, .slice none 0 0, .string ByteArray.empty, .int .u32 num, .bool true, .int .u64 fin, .int .u64 fin] 102 := hS.1.off o15 (fun q => by have := HUL.out gl q; omega)
            have C15 : Row w15 wr.heap.size #[.int .u32 p, .int .u64 t] 104 := hS.2.1.off o15 (fun q => own_not104 own2 q hS.2.1)
            have O15 : Off (fun j => j = gl ∨ vl1.ownBlock = some j) w7 w15 := hS.2.2.trans o15 (fun j q => Or.inl (Or.inr q))
            have hS15 : Row w15 gl #[.pointer x, .int .i64 a, .int .i64 z, .int .u32 ep, vl1, .slice none 0 0, .string ByteArray.empty, .int .u32 num, .bool true, .int .u64 fin, .int .u64 fin] 102 ∧ Row w15 wr.heap.size #[.int .u32 p, .int .u64 t] 104 ∧ Off (fun j => j = gl ∨ vl1.ownBlock = some j) w7 w15 := ⟨R15, C15, O15⟩
            refine hK.out _ _ (fun _ => hS15) ?_
            try simp only [Act.put, nz0, nz1, nz2, nz3, nz4, nz5]
            clear hS HRA own2 gr15 o15 R15 C15 O15 rX hv15
            have hS := hS15
            clear hS15
            refine wpAnyL_ready (rs := [9]) (by kernel_rfl) (by simp) ?_
            refine AllReadyL.cons rfl (fun K hK => ?_) AllReadyL.nil
            go_simp
            refine hK.out _ _ (fun _ => hS) ?_
            try simp only [Act.put, nz0, nz1, nz2, nz3, nz4, nz5]
            refine wpAnyL_ready (rs := [10]) (by kernel_rfl) (by simp) ?_
            refine AllReadyL.cons rfl (fun K hK => ?_) AllReadyL.nil
            go_simp
            refine hK.out _ _ (fun _ => hS) ?_
            try simp only [Act.put, nz0, nz1, nz2, nz3, nz4, nz5]
            refine wpAnyL_ready (rs := [11]) (by kernel_rfl) (by simp) ?_
            refine AllReadyL.cons rfl (fun K hK => ?_) AllReadyL.nil
            have c9 := row_at hS.1 4 _ rfl
            have f9 := row_frozen hS.1 4
            obtain ⟨oc, cc, hf15⟩ := own15.form
            have hlen : (xs ++ [t]).length = xs.length + 1 := by rw [List.length_append]; rfl
            rw [hlen] at hf15
            clear hlen
            have HFL : Hid (NLoop w x a z ep num fin os gl (k + 1) (w15.setCell ⟨gl, 4, none⟩ v15)) := by
              have O1 : Off (· = gl) w15 (w15.setCell ⟨gl, 4, none⟩ v15) := Off.of_setCell w15 ⟨gl, 4, none⟩ v15 rfl
              refine ⟨v15, hg3, row_set hS.1 4 v15, ?_, ?_⟩
              · rw [← HTK.out]; exact own15.off O1 (fun j q q2 => by have := (World.ownsRow.lt own15 j q).1; omega)
              · have h7 := HB7.out
                have O2 := hS.2.2.trans O1 (fun j q => Or.inl (Or.inl q))
                refine h7.trans (O2.below h7.size (fun j q => ?_))
                rcases q with q | q
                · omega
                · have := HUL.out j q; omega
            subst hf15
            go_simp
            refine hK.out _ _ (fun q => absurd rfl q) ?_
            try simp only [Act.put, nz0, nz1, nz2, nz3, nz4, nz5]
            clear hS c9 f9 own15 HB7 HTK HLN HUL
            generalize w15.setCell ⟨gl, 4, none⟩ (.slice oc (xs.length + 1) cc) = w16 at HFL ⊢
            refine wpAnyL_done (by kernel_rfl) ?_ _
            go_wp2
            go_roundw
            case rel => exact ⟨k + 1, by omega, by go_num, HFL.out⟩
            case measure => simp [intOf]; omega
          · obtain rfl : m = k := by omega
            have hkk' : ¬ (m : Int) < (m : Int) := by omega
            have HK2 : Hid _ := HK.out gl wr ⟨vl1, hg3, hR, hU, hb⟩
            clear HK hR hU hb
            go_wp2
            try go_ret
            exact HK2.out
end Go.Proofs.Ytgnedbagelhcbaa
