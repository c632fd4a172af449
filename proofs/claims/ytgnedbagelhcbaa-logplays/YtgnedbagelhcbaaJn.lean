/-
  Proved here: the document's New. Plain facts: the program's log and the document's log tell the same. Plain facts: what stays true of a log whatever is asked of it. Both logs and both disks in memory, side by side. Plain facts on the statement's arguments: starts and calls as values that came in. The document's Trim and Plan. Plain facts for LogPlays: both sides at the beginning; counts behind a flush; what a round leaves. Both logs and both disks in memory, beside the statement's own call.
-/
import Derived.Test.YtgnedbagelhcbaaJm
import Derived.Test.YtgnedbagelhcbaaLnw
import Derived.Test.YtgnedbagelhcbaaLtr
import Derived.Test.YtgnedbagelhcbaaJg
import Derived.ChangeSlices
namespace Go.Proofs.Ytgnedbagelhcbaa
open Go.ChangeShapes Go.WideShapes Go.ChangeAt Go.RowKit
set_option linter.unusedVariables false
set_option linter.unusedSimpArgs false
set_option maxRecDepth 20000
theorem built65M (n o : Int) : Try.prog.built 65 [(1, .int .u32 n), (2, .int .u64 o)] = some #[.int .u32 0, .int .u32 n, .int .u64 o, .string ByteArray.empty] := by kernel_rfl
def toC (s : St.O) : Ck.O := ⟨0, s.num, s.off, ByteArray.empty⟩
theorem own_not104M {w : World} {g : Nat} {v : Value} {os : List Ck.O} {cs : Array Value} (h : MOwn w v os) (hb : v.ownBlock = some g) (hr : Row w g cs 104) : False := by
  rcases h with ⟨rfl, _⟩ | ⟨g', off, cap, cur, rfl, hc, _⟩
  · cases hb
  · cases hb
    unfold Row at hr
    rw [hc] at hr
    cases hr
def NLoopM (w : World) (r : Nat) (a z ep fs fin : Int) (n : Nat) (os : List St.O) (gm k : Nat) (wr : World) : Prop :=
  ∃ vb, Row wr gm (rlcells (.pointer (some ⟨r, 0, none⟩)) vb ⟨a, z, ep, fs, (os.take k).map toC, n, ByteArray.empty, fin, fin, false⟩) 49 ∧ MOwn wr vb ((os.take k).map toC) ∧ vb.ownBlock ≠ some gm ∧ (∀ j, vb.ownBlock = some j → w.heap.size ≤ j) ∧ Below w.heap.size w wr
def RMade (w : World) (r : Nat) (a z ep num fin : Int) (os : List St.O) (ok : Bool) (e : Ending) (w' : World) : Prop :=
  (ok = false → e = .returned (.pointer none) ∧ Below w.heap.size w w') ∧ (ok = true → ∃ gm, w.heap.size ≤ gm ∧ e = .returned (.pointer (some ⟨gm, 0, none⟩)) ∧ NLoopM w r a z ep (IntKind.u32.wrap (num - os.length)) fin os.length os gm os.length w')
theorem fol_no {num fin : Int} {n i : Nat} {l : Int} {o : St.O} {r : List St.O} (h : ¬ (o.num = IntKind.u32.wrap (num - ((n : Int) - i)) ∧ l ≤ o.off ∧ o.off ≤ fin)) : folS num fin n i l (o :: r) = false := by show (if _ then _ else _) = _; rw [if_neg h]
theorem fol_yes {num fin : Int} {n i : Nat} {l : Int} {o : St.O} {r : List St.O} (h : o.num = IntKind.u32.wrap (num - ((n : Int) - i)) ∧ l ≤ o.off ∧ o.off ≤ fin) : folS num fin n i l (o :: r) = folS num fin n (i + 1) o.off r := by show (if _ then _ else _) = _; rw [if_pos h]
def lstS (os : List St.O) : Nat → Int
  | 0 => 0
  | k + 1 => match os[k]? with | some c => c.off | none => 0
set_option maxHeartbeats 16000000 in
theorem rnew_any (r : Nat) (a z ep num fin n0 : Int) (v : Value) (os : List St.O) (w : World) (ho : St.Olds w v os) (hfit : ∀ s ∈ os, 0 ≤ s.off) (hl : os.length ≤ 800) (ha : -9223372036854775808 ≤ a ∧ a ≤ 9223372036854775807) (hz : -9223372036854775808 ≤ z ∧ z ≤ 9223372036854775807) (hn0 : 0 ≤ n0 ∧ n0 ≤ 2048) (hc0 : w.cell? ⟨r, 0, none⟩ = some (.int .i64 n0)) :
    Calls Try.prog 12 #[.pointer (some ⟨r, 0, none⟩), .int .i64 a, .int .i64 z, .int .u32 ep, v, .int .u32 num, .int .u64 fin] w fun e w' => RMade w r a z ep num fin os (okN a z n0 num fin os) e w' := by
  obtain ⟨PP, HPP⟩ : ∃ PP : Ending → World → Prop, Hid (PP = fun e w' => RMade w r a z ep num fin os (okN a z n0 num fin os) e w') := ⟨_, rfl⟩
  rw [← HPP.out]
  obtain ⟨oa, cap, rfl, hcs⟩ := ho.hold
  obtain ⟨n, HN⟩ : ∃ n, Hid (os.length = n) := ⟨_, rfl⟩
  rw [HN.out] at hcs hl ⊢
  have HCS : Hid _ := hcs
  have HNO : Hid (okN a z n0 num fin os = false → ∀ w', Below w.heap.size w w' → PP (.returned (.pointer none)) w') := fun h w' b => by
    rw [HPP.out, h]; exact ⟨fun _ => ⟨rfl, b⟩, fun q => by cases q⟩
  have HYES : Hid (okN a z n0 num fin os = true → ∀ gm w', w.heap.size ≤ gm → NLoopM w r a z ep (IntKind.u32.wrap (num - n)) fin n os gm n w' → PP (.returned (.pointer (some ⟨gm, 0, none⟩))) w') := fun h gm w' hg k => by
    rw [HPP.out, h]; refine ⟨(fun q => by cases q), fun _ => ⟨gm, hg, rfl, ?_⟩⟩
    rw [HN.out]; exact k
  have HOK : Hid (okN a z n0 num fin os = (okR a z n0 && decide ((n : Int) ≤ z) && folS num fin n 0 0 os)) := by show _ = _; rw [← HN.out]; rfl
  clear HPP hcs ho
  by_cases h1 : a < 0
  · have hf : okN a z n0 num fin os = false := by rw [HOK.out]; unfold okR; rw [decide_eq_false (show ¬ 0 ≤ a by omega)]; rfl
    have HK : Hid _ := HNO.out hf w (Below.refl _ _)
    go_enter Try.func12, Try.ntmps12
    go_wp2
    try go_ret
    exact HK.out
  have h1' : ¬ a < 0 := h1
  by_cases h2 : z < 1
  · have hf : okN a z n0 num fin os = false := by rw [HOK.out]; unfold okR; rw [decide_eq_false (show ¬ 1 ≤ z by omega)]; simp
    have HK : Hid _ := HNO.out hf w (Below.refl _ _)
    go_enter Try.func12, Try.ntmps12
    go_wp2
    try go_ret
    exact HK.out
  have h2' : ¬ z < 1 := h2
  by_cases h3 : n0 < z
  · have hf : okN a z n0 num fin os = false := by rw [HOK.out]; unfold okR; rw [decide_eq_false (show ¬ a ≤ n0 - z by omega)]; simp
    have HK : Hid _ := HNO.out hf w (Below.refl _ _)
    go_enter Try.func12, Try.ntmps12
    go_wp2
    try go_ret
    exact HK.out
  have h3' : ¬ n0 < z := h3
  have v0 : IntKind.i64.wrap (n0 - z) = n0 - z := by rw [IntKind.wrap_i64]; omega
  by_cases h4 : n0 - z < a
  · have hf : okN a z n0 num fin os = false := by rw [HOK.out]; unfold okR; rw [decide_eq_false (show ¬ a ≤ n0 - z by omega)]; simp
    have HK : Hid _ := HNO.out hf w (Below.refl _ _)
    go_enter Try.func12, Try.ntmps12
    go_wp2
    try go_ret
    exact HK.out
  have h4' : ¬ n0 - z < a := h4
  by_cases h5 : z < (n : Int)
  · have hf : okN a z n0 num fin os = false := by rw [HOK.out, decide_eq_false (show ¬ (n : Int) ≤ z by omega)]; simp
    have HK : Hid _ := HNO.out hf w (Below.refl _ _)
    go_enter Try.func12, Try.ntmps12
    go_wp2
    try go_ret
    exact HK.out
  have h5' : ¬ z < (n : Int) := h5
  have HOK2 : Hid (okN a z n0 num fin os = folS num fin n 0 0 os) := by
    show _ = _
    rw [HOK.out]; unfold okR; rw [decide_eq_true (show 0 ≤ a by omega), decide_eq_true (show 1 ≤ z by omega), decide_eq_true (show a ≤ n0 - z by omega), decide_eq_true (show (n : Int) ≤ z by omega)]; rfl
  rw [HOK2.out] at HNO HYES
  clear HOK HOK2
  obtain ⟨fs, Hfs⟩ : ∃ fs, Hid (IntKind.u32.wrap (num - n) = fs) := ⟨_, rfl⟩
  have vn : IntKind.u32.wrap (n : Int) = n := by rw [IntKind.wrap_u32]; omega
  have vfs : IntKind.u32.wrap (num - (n : Int)) = fs := Hfs.out
  rw [Hfs.out] at HYES
  have HNUM : Hid (∀ k : Nat, IntKind.u32.wrap (fs + (k : Int)) = IntKind.u32.wrap (num - ((n : Int) - k))) := fun k => by rw [← Hfs.out, IntKind.wrap_u32, IntKind.wrap_u32, IntKind.wrap_u32]; omega
  have q0 : Row (w.alloc (.cells #[.pointer (some ⟨r, 0, none⟩), .int .i64 a, .int .i64 z, .int .u32 ep, .int .u32 fs, .slice none 0 0, .int .i64 n, .string { data := #[] }, .int .u64 fin, .int .u64 fin, .bool false] 49)) w.heap.size #[.pointer (some ⟨r, 0, none⟩), .int .i64 a, .int .i64 z, .int .u32 ep, .int .u32 fs, .slice none 0 0, .int .i64 n, .string { data := #[] }, .int .u64 fin, .int .u64 fin, .bool false] 49 := Row.new _ _ _
  have qb : Below w.heap.size w (w.alloc (.cells #[.pointer (some ⟨r, 0, none⟩), .int .i64 a, .int .i64 z, .int .u32 ep, .int .u32 fs, .slice none 0 0, .int .i64 n, .string { data := #[] }, .int .u64 fin, .int .u64 fin, .bool false] 49)) := (Below.refl _ _).alloc (Nat.le_refl _) _
  have HL0 : Hid (NLoopM w r a z ep fs fin n os w.heap.size 0 (w.alloc (.cells #[.pointer (some ⟨r, 0, none⟩), .int .i64 a, .int .i64 z, .int .u32 ep, .int .u32 fs, .slice none 0 0, .int .i64 n, .string { data := #[] }, .int .u64 fin, .int .u64 fin, .bool false] 49))) := ⟨_, q0, MOwn.nil _, (fun q => by cases q), (fun j q => by cases q), qb⟩
  have takeS : ∀ (k : Nat) (c : St.O), os[k]? = some c → (os.take (k + 1)).map toC = (os.take k).map toC ++ [⟨0, c.num, c.off, ByteArray.empty⟩] := fun k c h => by rw [List.take_add_one, h, List.map_append]; rfl
  clear q0 qb
  go_enter Try.func12, Try.ntmps12
  go_upto_region 4 with fail
  clear hc0
  generalize w.alloc (.cells #[.pointer (some ⟨r, 0, none⟩), .int .i64 a, .int .i64 z, .int .u32 ep, .int .u32 fs, .slice none 0 0, .int .i64 n, .string { data := #[] }, .int .u64 fin, .int .u64 fin, .bool false] 49) = w1 at HL0 ⊢
  obtain ⟨gm, Hgm⟩ : ∃ gm, Hid (w.heap.size = gm) := ⟨_, rfl⟩
  have hgmw : w.heap.size ≤ gm := by rw [Hgm.out]; exact Nat.le_refl _
  rw [Hgm.out] at HL0
  have egm : (Value.pointer (some ⟨w.heap.size, 0, none⟩)) = .pointer (some ⟨gm, 0, none⟩) := by rw [Hgm.out]
  rw [egm]
  clear egm
  go_wp2
  go_loopw [16] (fun i wr => ∃ (k : Nat), k ≤ n ∧ i = .int .i64 k ∧ NLoopM w r a z ep fs fin n os gm k wr ∧ Hid (folS num fin n 0 0 os = folS num fin n k (lstS os k) (os.drop k))) (fun i _ => n - (intOf i).toNat)
  case atStart => exact ⟨0, by omega, rfl, HL0.out, rfl⟩
  case round =>
    clear HL0
    obtain ⟨k, hk, rfl, hst, HF⟩ := hrel
    obtain ⟨vb, q0, qo, qng, qge, qB⟩ := hst
    by_cases hkn : k < n
    · have hkn' : (k : Int) < (n : Int) := by omega
      have hk0 : (0 : Int) ≤ (k : Int) := by omega
      obtain ⟨a0, p, t, hoa, he, hc1⟩ := HCS.out k hkn
      have hcc : ∀ j u, (St.O.cells ⟨p, t⟩)[j]? = some u → wr.cell? ((a0.add (k * 2)).add j) = some u := fun j u hj => Ck.cell_keep (hc1 j u hj) qB
      have htp : 0 ≤ t := hfit ⟨p, t⟩ (List.mem_of_getElem? he)
      have e1 : os.drop k = ⟨p, t⟩ :: os.drop (k + 1) := List.drop_eq_getElem?_toList_append.trans (by rw [he]; rfl)
      have hlst1 : Hid (lstS os (k + 1) = t) := by
        show (match os[k]? with | some c => c.off | none => 0) = t
        rw [he]
      have HPV : Hid (∀ j, k = j + 1 → wr.cell? ⟨(a0.add (j * 2)).block, (a0.add (j * 2)).off + 1, none⟩ = some (.int .u64 (lstS os k))) := fun j hj => by
        obtain ⟨a1, p1, t1, ho1, he1, hc2⟩ := HCS.out j (by omega)
        rw [hoa] at ho1
        cases ho1
        have el : lstS os k = t1 := by rw [hj]; show (match os[j]? with | some c => c.off | none => 0) = t1; rw [he1]
        rw [el]
        exact Ck.cell_keep (hc2 1 (.int .u64 t1) rfl) qB
      subst hoa
      have vk0 : IntKind.u32.wrap (k : Int) = k := by rw [IntKind.wrap_u32]; omega
      have v7 : IntKind.i64.wrap ((k : Int) + 1) = (k : Int) + 1 := by rw [IntKind.wrap_i64]; omega
      obtain ⟨wv, hwv⟩ : ∃ wv, IntKind.u32.wrap (fs + (k : Int)) = wv := ⟨_, rfl⟩
      have vk : Hid (wv = IntKind.u32.wrap (num - ((n : Int) - k))) := by show _ = _; rw [← hwv]; exact HNUM.out k
      obtain ⟨ob, cb, hv⟩ := qo.form
      have hlk : ((os.take k).map toC).length = k := by rw [List.length_map, List.length_take, HN.out]; omega
      rw [hlk] at hv
      subst hv
      clear hlk
      have q0 : Row wr gm #[.pointer (some ⟨r, 0, none⟩), .int .i64 a, .int .i64 z, .int .u32 ep, .int .u32 fs, .slice ob k cb, .int .i64 n, .string { data := #[] }, .int .u64 fin, .int .u64 fin, .bool false] 49 := q0
      have HLT : Hid (∀ b, (Value.slice ob k cb).ownBlock = some b → b ≠ gm) := fun b hb q => qng (q ▸ hb)
      have HGE : Hid (∀ j, (Value.slice ob k cb).ownBlock = some j → w.heap.size ≤ j) := qge
      have hck : Hid (os[k]? = some ⟨p, t⟩) := he
      have tl : Hid (1 = 1) := rfl
      have q9 : Row (wr.alloc (.cells #[.int .u32 0, .int .u64 0] 104)) wr.heap.size #[.int .u32 0, .int .u64 0] 104 := Row.new _ _ _
      have hz104 := zero104
      clear he hc1 qng qge
      go_upto_region 8 with (first
        | (have hh := tl; clear hh tl; refine load_any_g rfl 104 (.tmp 75) rfl (a0.add (k * 2)) rfl (St.O.cells ⟨p, t⟩) _ hcc Try.underlying104 rfl St.size104 ?_)
        | (refine store_cells rfl 104 (.tmp 17) (.tmp 76) rfl wr.heap.size #[.int .u32 p, .int .u64 t] rfl rfl 104 _ q9 2 St.size104 rfl rfl (by simp [Value.oneCell']) ?_))
      have qs := q9.set #[.int .u32 p, .int .u64 t]
      have ab9 := below_setRow ((Below.refl wr.heap.size wr).alloc (Nat.le_refl _) (.cells #[.int .u32 0, .int .u64 0] 104)) (Nat.le_refl _) #[.int .u32 p, .int .u64 t]
      have q0 := q0.below ab9 q0.lt
      have qo := qo.keep ab9
      have HPV2 : Hid (∀ j, k = j + 1 → ((wr.alloc (.cells #[.int .u32 0, .int .u64 0] 104)).setRow wr.heap.size #[.int .u32 p, .int .u64 t]).cell? ⟨(a0.add (j * 2)).block, (a0.add (j * 2)).off + 1, none⟩ = some (.int .u64 (lstS os k))) := fun j hj => Ck.cell_keep (HPV.out j hj) ab9
      have qB := qB.trans (ab9.mono qB.size)
      clear q9 hcc HPV
      generalize (wr.alloc (.cells #[.int .u32 0, .int .u64 0] 104)).setRow wr.heap.size #[.int .u32 p, .int .u64 t] = w7 at qs q0 qo qB HPV2 ⊢
      clear ab9
      generalize wr.heap.size = gs at qs ⊢
      have c0 := row_at qs 0 _ rfl
      have c1 := row_at qs 1 _ rfl
      have c4 := row_at q0 4 _ rfl
      clear c0 c1 c4
      by_cases hA : p = wv
      · subst hA
        by_cases hB : fin < t
        · have HK2 : Hid (∀ w', Below w.heap.size w w' → PP (.returned (.pointer none)) w') := fun w' b => HNO.out (by rw [HF.out, e1]; exact fol_no (fun q => by have : t ≤ fin := q.2.2; omega)) w' b
          clear HPV2 HF e1
          refine wp_region_held_drew (S := fun w' => Row w' gm #[.pointer (some ⟨r, 0, none⟩), .int .i64 a, .int .i64 z, .int .u32 ep, .int .u32 fs, .slice ob k cb, .int .i64 n, .string { data := #[] }, .int .u64 fin, .int .u64 fin, .bool false] 49 ∧ Row w' gs #[.int .u32 p, .int .u64 t] 104 ∧ Below w7.heap.size w7 w') (by kernel_rfl) ⟨q0, qs, (Below.refl w7.heap.size w7).drew⟩ fun hS => ?_
          generalize w7.drew = W8 at hS ⊢
          refine wpAnyH_take (i := 0) (v := .pointer (some ⟨gs, 0, none⟩)) rfl (by kernel_rfl) (by kernel_rfl) (by kernel_rfl) (fun _ _ _ h => h) (Or.inl ⟨by rfl, fun w _ => by go_simp⟩) hS ?_
          try simp only [Act.put, nz0, nz1, nz2, nz3, nz4, nz5]
          refine wpAnyH_take (i := 1) (v := .int .u32 p) rfl (by kernel_rfl) (by kernel_rfl) (by kernel_rfl) (fun _ _ _ h => h) (Or.inl ⟨by rfl, fun w h => by have c := row_at h.2.1 0 _ rfl; go_simp⟩) hS ?_
          try simp only [Act.put, nz0, nz1, nz2, nz3, nz4, nz5]
          refine wpAnyH_take (i := 2) (v := .pointer (some ⟨gm, 0, none⟩)) rfl (by kernel_rfl) (by kernel_rfl) (by kernel_rfl) (fun _ _ _ h => h) (Or.inl ⟨by rfl, fun w _ => by go_simp⟩) hS ?_
          try simp only [Act.put, nz0, nz1, nz2, nz3, nz4, nz5]
          refine wpAnyH_take (i := 3) (v := .pointer (some ⟨gm, 0, none⟩)) rfl (by kernel_rfl) (by kernel_rfl) (by kernel_rfl) (fun _ _ _ h => h) (Or.inl ⟨by rfl, fun w _ => by go_simp⟩) hS ?_
          try simp only [Act.put, nz0, nz1, nz2, nz3, nz4, nz5]
          refine wpAnyH_take (i := 4) (v := .pointer (some ⟨gm, 4, none⟩)) rfl (by kernel_rfl) (by kernel_rfl) (by kernel_rfl) (fun _ _ _ h => h) (Or.inl ⟨by rfl, fun w _ => by go_simp⟩) hS ?_
          try simp only [Act.put, nz0, nz1, nz2, nz3, nz4, nz5]
          refine wpAnyH_take (i := 5) (v := .int .u32 fs) rfl (by kernel_rfl) (by kernel_rfl) (by kernel_rfl) (fun _ _ _ h => h) (Or.inl ⟨by rfl, fun w h => by have c := row_at h.1 4 _ rfl; go_simp⟩) hS ?_
          try simp only [Act.put, nz0, nz1, nz2, nz3, nz4, nz5]
          refine wpAnyH_take (i := 6) (v := .int .i64 (k : Int)) rfl (by kernel_rfl) (by kernel_rfl) (by kernel_rfl) (fun _ _ _ h => h) (Or.inl ⟨by rfl, fun w _ => by go_simp⟩) hS ?_
          try simp only [Act.put, nz0, nz1, nz2, nz3, nz4, nz5]
          refine wpAnyH_take (i := 7) (v := .int .u32 (k : Int)) rfl (by kernel_rfl) (by kernel_rfl) (by kernel_rfl) (fun _ _ _ h => h) (Or.inl ⟨by rfl, fun w _ => by go_simp⟩) hS ?_
          try simp only [Act.put, nz0, nz1, nz2, nz3, nz4, nz5]
          refine wpAnyH_take (i := 8) (v := .int .u32 p) rfl (by kernel_rfl) (by kernel_rfl) (by kernel_rfl) (fun _ _ _ h => h) (Or.inl ⟨by rfl, fun w _ => by go_simp⟩) hS ?_
          try simp only [Act.put, nz0, nz1, nz2, nz3, nz4, nz5]
          refine wpAnyH_take (i := 9) (v := .bool false) rfl (by kernel_rfl) (by kernel_rfl) (by kernel_rfl) (fun _ _ _ h => h) (Or.inl ⟨by rfl, fun w _ => by go_simp⟩) hS ?_
          try simp only [Act.put, nz0, nz1, nz2, nz3, nz4, nz5]
          refine wpAnyH_take (i := 10) (v := .bool false) rfl (by kernel_rfl) (by kernel_rfl) (by kernel_rfl) (fun _ _ _ h => h) (Or.inl ⟨by rfl, fun w _ => by go_simp⟩) hS ?_
          try simp only [Act.put, nz0, nz1, nz2, nz3, nz4, nz5]
          refine wpAnyH_take (i := 11) (v := .pointer (some ⟨gs, 1, none⟩)) rfl (by kernel_rfl) (by kernel_rfl) (by kernel_rfl) (fun _ _ _ h => h) (Or.inl ⟨by rfl, fun w _ => by go_simp⟩) hS ?_
          try simp only [Act.put, nz0, nz1, nz2, nz3, nz4, nz5]
          refine wpAnyH_take (i := 12) (v := .int .u64 t) rfl (by kernel_rfl) (by kernel_rfl) (by kernel_rfl) (fun _ _ _ h => h) (Or.inl ⟨by rfl, fun w h => by have c := row_at h.2.1 1 _ rfl; go_simp⟩) hS ?_
          try simp only [Act.put, nz0, nz1, nz2, nz3, nz4, nz5]
          refine wpAnyH_take (i := 13) (v := .int .u64 fin) rfl (by kernel_rfl) (by kernel_rfl) (by kernel_rfl) (fun _ _ _ h => h) (Or.inl ⟨by rfl, fun w _ => by go_simp⟩) hS ?_
          try simp only [Act.put, nz0, nz1, nz2, nz3, nz4, nz5]
          refine wpAnyH_take (i := 14) (v := .bool true) rfl (by kernel_rfl) (by kernel_rfl) (by kernel_rfl) (fun _ _ _ h => h) (Or.inl ⟨by rfl, fun w _ => by go_simp⟩) hS ?_
          try simp only [Act.put, nz0, nz1, nz2, nz3, nz4, nz5]
          refine wpAnyH_take (i := 15) (v := .bool true) rfl (by kernel_rfl) (by kernel_rfl) (by kernel_rfl) (fun _ _ _ h => h) (Or.inl ⟨by rfl, fun w _ => by go_simp⟩) hS ?_
          try simp only [Act.put, nz0, nz1, nz2, nz3, nz4, nz5]
          refine wpAnyH_take (i := 16) (v := .bool true) rfl (by kernel_rfl) (by kernel_rfl) (by kernel_rfl) (fun _ _ _ h => h) (Or.inl ⟨by rfl, fun w _ => by go_simp⟩) hS ?_
          try simp only [Act.put, nz0, nz1, nz2, nz3, nz4, nz5]
          refine wpAnyH_take (i := 17) (v := undef) rfl (by kernel_rfl) (by kernel_rfl) (by kernel_rfl) (fun _ _ _ h => h) (Or.inr ⟨by rfl, rfl⟩) hS ?_
          try simp only [Act.put, nz0, nz1, nz2, nz3, nz4, nz5]
          refine wpAnyH_take (i := 18) (v := undef) rfl (by kernel_rfl) (by kernel_rfl) (by kernel_rfl) (fun _ _ _ h => h) (Or.inr ⟨by rfl, rfl⟩) hS ?_
          try simp only [Act.put, nz0, nz1, nz2, nz3, nz4, nz5]
          refine wpAnyH_take (i := 19) (v := undef) rfl (by kernel_rfl) (by kernel_rfl) (by kernel_rfl) (fun _ _ _ h => h) (Or.inr ⟨by rfl, rfl⟩) hS ?_
          try simp only [Act.put, nz0, nz1, nz2, nz3, nz4, nz5]
          refine wpAnyH_take (i := 20) (v := undef) rfl (by kernel_rfl) (by kernel_rfl) (by kernel_rfl) (fun _ _ _ h => h) (Or.inr ⟨by rfl, rfl⟩) hS ?_
          try simp only [Act.put, nz0, nz1, nz2, nz3, nz4, nz5]
          refine wpAnyH_take (i := 21) (v := undef) rfl (by kernel_rfl) (by kernel_rfl) (by kernel_rfl) (fun _ _ _ h => h) (Or.inr ⟨by rfl, rfl⟩) hS ?_
          try simp only [Act.put, nz0, nz1, nz2, nz3, nz4, nz5]
          refine wpAnyH_take (i := 22) (v := undef) rfl (by kernel_rfl) (by kernel_rfl) (by kernel_rfl) (fun _ _ _ h => h) (Or.inr ⟨by rfl, rfl⟩) hS ?_
          try simp only [Act.put, nz0, nz1, nz2, nz3, nz4, nz5]
          refine wpAnyH_take (i := 23) (v := undef) rfl (by kernel_rfl) (by kernel_rfl) (by kernel_rfl) (fun _ _ _ h => h) (Or.inr ⟨by rfl, rfl⟩) hS ?_
          try simp only [Act.put, nz0, nz1, nz2, nz3, nz4, nz5]
          refine wpAnyH_take (i := 24) (v := undef) rfl (by kernel_rfl) (by kernel_rfl) (by kernel_rfl) (fun _ _ _ h => h) (Or.inr ⟨by rfl, rfl⟩) hS ?_
          try simp only [Act.put, nz0, nz1, nz2, nz3, nz4, nz5]
          refine wpAnyH_take (i := 25) (v := undef) rfl (by kernel_rfl) (by kernel_rfl) (by kernel_rfl) (fun _ _ _ h => h) (Or.inr ⟨by rfl, rfl⟩) hS ?_
          try simp only [Act.put, nz0, nz1, nz2, nz3, nz4, nz5]
          refine wpAnyH_take (i := 26) (v := undef) rfl (by kernel_rfl) (by kernel_rfl) (by kernel_rfl) (fun _ _ _ h => h) (Or.inr ⟨by rfl, rfl⟩) hS ?_
          try simp only [Act.put, nz0, nz1, nz2, nz3, nz4, nz5]
          refine wpAnyH_take (i := 27) (v := undef) rfl (by kernel_rfl) (by kernel_rfl) (by kernel_rfl) (fun _ _ _ h => h) (Or.inr ⟨by rfl, rfl⟩) hS ?_
          try simp only [Act.put, nz0, nz1, nz2, nz3, nz4, nz5]
          refine wpAnyH_take (i := 28) (v := undef) rfl (by kernel_rfl) (by kernel_rfl) (by kernel_rfl) (fun _ _ _ h => h) (Or.inr ⟨by rfl, rfl⟩) hS ?_
          try simp only [Act.put, nz0, nz1, nz2, nz3, nz4, nz5]
          refine wpAnyH_take (i := 29) (v := undef) rfl (by kernel_rfl) (by kernel_rfl) (by kernel_rfl) (fun _ _ _ h => h) (Or.inr ⟨by rfl, rfl⟩) hS ?_
          try simp only [Act.put, nz0, nz1, nz2, nz3, nz4, nz5]
          refine wpAnyH_take (i := 30) (v := .bool true) rfl (by kernel_rfl) (by kernel_rfl) (by kernel_rfl) (fun _ _ _ h => h) (Or.inl ⟨by rfl, fun w _ => by go_simp⟩) hS ?_
          try simp only [Act.put, nz0, nz1, nz2, nz3, nz4, nz5]
          refine wpAnyH_done (by kernel_rfl) ?_ _
          go_wp2
          try go_ret
          exact HK2.out _ (qB.trans (hS.2.2.mono qB.size))
        · rcases Nat.eq_zero_or_pos k with hk00 | hkp
          · have hC2 : ¬ (0 : Int) < (k : Int) := by omega
            have hfol : Hid (folS num fin n 0 0 os = folS num fin n (k + 1) (lstS os (k + 1)) (os.drop (k + 1))) := by
              show _ = _
              rw [HF.out, e1, hlst1.out]
              exact fol_yes ⟨vk.out, by show lstS os k ≤ t; rw [hk00]; exact htp, by show t ≤ fin; omega⟩
            have Hk0 : Hid (k = 0) := hk00
            clear HPV2 HF e1 hk00
            refine wp_region_held_drew (S := fun w' => Row w' gm #[.pointer (some ⟨r, 0, none⟩), .int .i64 a, .int .i64 z, .int .u32 ep, .int .u32 fs, .slice ob k cb, .int .i64 n, .string { data := #[] }, .int .u64 fin, .int .u64 fin, .bool false] 49 ∧ Row w' gs #[.int .u32 p, .int .u64 t] 104 ∧ Below w7.heap.size w7 w') (by kernel_rfl) ⟨q0, qs, (Below.refl w7.heap.size w7).drew⟩ fun hS => ?_
            generalize w7.drew = W8 at hS ⊢
            refine wpAnyH_take (i := 0) (v := .pointer (some ⟨gs, 0, none⟩)) rfl (by kernel_rfl) (by kernel_rfl) (by kernel_rfl) (fun _ _ _ h => h) (Or.inl ⟨by rfl, fun w _ => by go_simp⟩) hS ?_
            try simp only [Act.put, nz0, nz1, nz2, nz3, nz4, nz5]
            refine wpAnyH_take (i := 1) (v := .int .u32 p) rfl (by kernel_rfl) (by kernel_rfl) (by kernel_rfl) (fun _ _ _ h => h) (Or.inl ⟨by rfl, fun w h => by have c := row_at h.2.1 0 _ rfl; go_simp⟩) hS ?_
            try simp only [Act.put, nz0, nz1, nz2, nz3, nz4, nz5]
            refine wpAnyH_take (i := 2) (v := .pointer (some ⟨gm, 0, none⟩)) rfl (by kernel_rfl) (by kernel_rfl) (by kernel_rfl) (fun _ _ _ h => h) (Or.inl ⟨by rfl, fun w _ => by go_simp⟩) hS ?_
            try simp only [Act.put, nz0, nz1, nz2, nz3, nz4, nz5]
            refine wpAnyH_take (i := 3) (v := .pointer (some ⟨gm, 0, none⟩)) rfl (by kernel_rfl) (by kernel_rfl) (by kernel_rfl) (fun _ _ _ h => h) (Or.inl ⟨by rfl, fun w _ => by go_simp⟩) hS ?_
            try simp only [Act.put, nz0, nz1, nz2, nz3, nz4, nz5]
            refine wpAnyH_take (i := 4) (v := .pointer (some ⟨gm, 4, none⟩)) rfl (by kernel_rfl) (by kernel_rfl) (by kernel_rfl) (fun _ _ _ h => h) (Or.inl ⟨by rfl, fun w _ => by go_simp⟩) hS ?_
            try simp only [Act.put, nz0, nz1, nz2, nz3, nz4, nz5]
            refine wpAnyH_take (i := 5) (v := .int .u32 fs) rfl (by kernel_rfl) (by kernel_rfl) (by kernel_rfl) (fun _ _ _ h => h) (Or.inl ⟨by rfl, fun w h => by have c := row_at h.1 4 _ rfl; go_simp⟩) hS ?_
            try simp only [Act.put, nz0, nz1, nz2, nz3, nz4, nz5]
            refine wpAnyH_take (i := 6) (v := .int .i64 (k : Int)) rfl (by kernel_rfl) (by kernel_rfl) (by kernel_rfl) (fun _ _ _ h => h) (Or.inl ⟨by rfl, fun w _ => by go_simp⟩) hS ?_
            try simp only [Act.put, nz0, nz1, nz2, nz3, nz4, nz5]
            refine wpAnyH_take (i := 7) (v := .int .u32 (k : Int)) rfl (by kernel_rfl) (by kernel_rfl) (by kernel_rfl) (fun _ _ _ h => h) (Or.inl ⟨by rfl, fun w _ => by go_simp⟩) hS ?_
            try simp only [Act.put, nz0, nz1, nz2, nz3, nz4, nz5]
            refine wpAnyH_take (i := 8) (v := .int .u32 p) rfl (by kernel_rfl) (by kernel_rfl) (by kernel_rfl) (fun _ _ _ h => h) (Or.inl ⟨by rfl, fun w _ => by go_simp⟩) hS ?_
            try simp only [Act.put, nz0, nz1, nz2, nz3, nz4, nz5]
            refine wpAnyH_take (i := 9) (v := .bool false) rfl (by kernel_rfl) (by kernel_rfl) (by kernel_rfl) (fun _ _ _ h => h) (Or.inl ⟨by rfl, fun w _ => by go_simp⟩) hS ?_
            try simp only [Act.put, nz0, nz1, nz2, nz3, nz4, nz5]
            refine wpAnyH_take (i := 10) (v := .bool false) rfl (by kernel_rfl) (by kernel_rfl) (by kernel_rfl) (fun _ _ _ h => h) (Or.inl ⟨by rfl, fun w _ => by go_simp⟩) hS ?_
            try simp only [Act.put, nz0, nz1, nz2, nz3, nz4, nz5]
            refine wpAnyH_take (i := 11) (v := .pointer (some ⟨gs, 1, none⟩)) rfl (by kernel_rfl) (by kernel_rfl) (by kernel_rfl) (fun _ _ _ h => h) (Or.inl ⟨by rfl, fun w _ => by go_simp⟩) hS ?_
            try simp only [Act.put, nz0, nz1, nz2, nz3, nz4, nz5]
            refine wpAnyH_take (i := 12) (v := .int .u64 t) rfl (by kernel_rfl) (by kernel_rfl) (by kernel_rfl) (fun _ _ _ h => h) (Or.inl ⟨by rfl, fun w h => by have c := row_at h.2.1 1 _ rfl; go_simp⟩) hS ?_
            try simp only [Act.put, nz0, nz1, nz2, nz3, nz4, nz5]
            refine wpAnyH_take (i := 13) (v := .int .u64 fin) rfl (by kernel_rfl) (by kernel_rfl) (by kernel_rfl) (fun _ _ _ h => h) (Or.inl ⟨by rfl, fun w _ => by go_simp⟩) hS ?_
            try simp only [Act.put, nz0, nz1, nz2, nz3, nz4, nz5]
            refine wpAnyH_take (i := 14) (v := .bool false) rfl (by kernel_rfl) (by kernel_rfl) (by kernel_rfl) (fun _ _ _ h => h) (Or.inl ⟨by rfl, fun w _ => by go_simp⟩) hS ?_
            try simp only [Act.put, nz0, nz1, nz2, nz3, nz4, nz5]
            refine wpAnyH_take (i := 15) (v := .bool false) rfl (by kernel_rfl) (by kernel_rfl) (by kernel_rfl) (fun _ _ _ h => h) (Or.inl ⟨by rfl, fun w _ => by go_simp⟩) hS ?_
            try simp only [Act.put, nz0, nz1, nz2, nz3, nz4, nz5]
            refine wpAnyH_take (i := 16) (v := .bool false) rfl (by kernel_rfl) (by kernel_rfl) (by kernel_rfl) (fun _ _ _ h => h) (Or.inl ⟨by rfl, fun w _ => by go_simp⟩) hS ?_
            try simp only [Act.put, nz0, nz1, nz2, nz3, nz4, nz5]
            refine wpAnyH_take (i := 17) (v := .int .i64 (k : Int)) rfl (by kernel_rfl) (by kernel_rfl) (by kernel_rfl) (fun _ _ _ h => h) (Or.inl ⟨by rfl, fun w _ => by go_simp⟩) hS ?_
            try simp only [Act.put, nz0, nz1, nz2, nz3, nz4, nz5]
            refine wpAnyH_take (i := 18) (v := .bool false) rfl (by kernel_rfl) (by kernel_rfl) (by kernel_rfl) (fun _ _ _ h => h) (Or.inl ⟨by rfl, fun w _ => by go_simp <;> first | exact Hk0.out | omega⟩) hS ?_
            try simp only [Act.put, nz0, nz1, nz2, nz3, nz4, nz5]
            refine wpAnyH_take (i := 19) (v := .bool false) rfl (by kernel_rfl) (by kernel_rfl) (by kernel_rfl) (fun _ _ _ h => h) (Or.inl ⟨by rfl, fun w _ => by go_simp⟩) hS ?_
            try simp only [Act.put, nz0, nz1, nz2, nz3, nz4, nz5]
            refine wpAnyH_take (i := 20) (v := undef) rfl (by kernel_rfl) (by kernel_rfl) (by kernel_rfl) (fun _ _ _ h => h) (Or.inr ⟨by rfl, rfl⟩) hS ?_
            try simp only [Act.put, nz0, nz1, nz2, nz3, nz4, nz5]
            refine wpAnyH_take (i := 21) (v := undef) rfl (by kernel_rfl) (by kernel_rfl) (by kernel_rfl) (fun _ _ _ h => h) (Or.inr ⟨by rfl, rfl⟩) hS ?_
            try simp only [Act.put, nz0, nz1, nz2, nz3, nz4, nz5]
            refine wpAnyH_take (i := 22) (v := undef) rfl (by kernel_rfl) (by kernel_rfl) (by kernel_rfl) (fun _ _ _ h => h) (Or.inr ⟨by rfl, rfl⟩) hS ?_
            try simp only [Act.put, nz0, nz1, nz2, nz3, nz4, nz5]
            refine wpAnyH_take (i := 23) (v := undef) rfl (by kernel_rfl) (by kernel_rfl) (by kernel_rfl) (fun _ _ _ h => h) (Or.inr ⟨by rfl, rfl⟩) hS ?_
            try simp only [Act.put, nz0, nz1, nz2, nz3, nz4, nz5]
            refine wpAnyH_take (i := 24) (v := undef) rfl (by kernel_rfl) (by kernel_rfl) (by kernel_rfl) (fun _ _ _ h => h) (Or.inr ⟨by rfl, rfl⟩) hS ?_
            try simp only [Act.put, nz0, nz1, nz2, nz3, nz4, nz5]
            refine wpAnyH_take (i := 25) (v := undef) rfl (by kernel_rfl) (by kernel_rfl) (by kernel_rfl) (fun _ _ _ h => h) (Or.inr ⟨by rfl, rfl⟩) hS ?_
            try simp only [Act.put, nz0, nz1, nz2, nz3, nz4, nz5]
            refine wpAnyH_take (i := 26) (v := undef) rfl (by kernel_rfl) (by kernel_rfl) (by kernel_rfl) (fun _ _ _ h => h) (Or.inr ⟨by rfl, rfl⟩) hS ?_
            try simp only [Act.put, nz0, nz1, nz2, nz3, nz4, nz5]
            refine wpAnyH_take (i := 27) (v := undef) rfl (by kernel_rfl) (by kernel_rfl) (by kernel_rfl) (fun _ _ _ h => h) (Or.inr ⟨by rfl, rfl⟩) hS ?_
            try simp only [Act.put, nz0, nz1, nz2, nz3, nz4, nz5]
            refine wpAnyH_take (i := 28) (v := undef) rfl (by kernel_rfl) (by kernel_rfl) (by kernel_rfl) (fun _ _ _ h => h) (Or.inr ⟨by rfl, rfl⟩) hS ?_
            try simp only [Act.put, nz0, nz1, nz2, nz3, nz4, nz5]
            refine wpAnyH_take (i := 29) (v := .bool false) rfl (by kernel_rfl) (by kernel_rfl) (by kernel_rfl) (fun _ _ _ h => h) (Or.inl ⟨by rfl, fun w _ => by go_simp⟩) hS ?_
            try simp only [Act.put, nz0, nz1, nz2, nz3, nz4, nz5]
            refine wpAnyH_take (i := 30) (v := .bool false) rfl (by kernel_rfl) (by kernel_rfl) (by kernel_rfl) (fun _ _ _ h => h) (Or.inl ⟨by rfl, fun w _ => by go_simp⟩) hS ?_
            try simp only [Act.put, nz0, nz1, nz2, nz3, nz4, nz5]
            refine wpAnyH_done (by kernel_rfl) ?_ _
            have q0 := hS.1
            have qs := hS.2.1
            have qo := qo.keep hS.2.2
            have qB := qB.trans (hS.2.2.mono qB.size)
            clear hS
            go_upto_region 10 with fail
            obtain ⟨c, Hc⟩ : ∃ c : St.O, Hid (c = ⟨p, t⟩) := ⟨_, rfl⟩
            have hckc : os[k]? = some c := by rw [Hc.out]; exact hck.out
            have ec1 : p = c.num := by rw [Hc.out]
            have ec2 : t = c.off := by rw [Hc.out]
            clear Hc
            rw [ec1, ec2] at qs
            refine wp_region_last (S := fun w' => Row w' gm #[.pointer (some ⟨r, 0, none⟩), .int .i64 a, .int .i64 z, .int .u32 ep, .int .u32 fs, .slice ob k cb, .int .i64 n, .string { data := #[] }, .int .u64 fin, .int .u64 fin, .bool false] 49 ∧ Row w' gs #[.int .u32 c.num, .int .u64 c.off] 104 ∧ Below w.heap.size w w') 14 (by kernel_rfl) ⟨q0, qs, qB.drew⟩ fun hS => ?_
            refine wpAnyL_take (i := 0) (v := .pointer (some ⟨gm, 0, none⟩)) rfl (by kernel_rfl) (by kernel_rfl) (by kernel_rfl) (by kernel_rfl) (fun _ _ _ h => h) (Or.inl ⟨by rfl, fun w _ => by go_simp⟩) hS ?_
            try simp only [Act.put, nz0, nz1, nz2, nz3, nz4, nz5]
            refine wpAnyL_take (i := 1) (v := .pointer (some ⟨gm, 0, none⟩)) rfl (by kernel_rfl) (by kernel_rfl) (by kernel_rfl) (by kernel_rfl) (fun _ _ _ h => h) (Or.inl ⟨by rfl, fun w _ => by go_simp⟩) hS ?_
            try simp only [Act.put, nz0, nz1, nz2, nz3, nz4, nz5]
            refine wpAnyL_take (i := 2) (v := .pointer (some ⟨gm, 0, none⟩)) rfl (by kernel_rfl) (by kernel_rfl) (by kernel_rfl) (by kernel_rfl) (fun _ _ _ h => h) (Or.inl ⟨by rfl, fun w _ => by go_simp⟩) hS ?_
            try simp only [Act.put, nz0, nz1, nz2, nz3, nz4, nz5]
            refine wpAnyL_take (i := 3) (v := .pointer (some ⟨gm, 5, none⟩)) rfl (by kernel_rfl) (by kernel_rfl) (by kernel_rfl) (by kernel_rfl) (fun _ _ _ h => h) (Or.inl ⟨by rfl, fun w _ => by go_simp⟩) hS ?_
            try simp only [Act.put, nz0, nz1, nz2, nz3, nz4, nz5]
            refine wpAnyL_take (i := 4) (v := .slice ob k cb) rfl (by kernel_rfl) (by kernel_rfl) (by kernel_rfl) (by kernel_rfl) (fun _ _ _ h => h) (Or.inl ⟨by rfl, fun w h => by have c := row_at h.1 5 _ rfl; go_simp⟩) hS ?_
            try simp only [Act.put, nz0, nz1, nz2, nz3, nz4, nz5]
            refine wpAnyL_take (i := 5) (v := .pointer (some ⟨gs, 0, none⟩)) rfl (by kernel_rfl) (by kernel_rfl) (by kernel_rfl) (by kernel_rfl) (fun _ _ _ h => h) (Or.inl ⟨by rfl, fun w _ => by go_simp⟩) hS ?_
            try simp only [Act.put, nz0, nz1, nz2, nz3, nz4, nz5]
            refine wpAnyL_take (i := 6) (v := .int .u32 c.num) rfl (by kernel_rfl) (by kernel_rfl) (by kernel_rfl) (by kernel_rfl) (fun _ _ _ h => h) (Or.inl ⟨by rfl, fun w h => by have c := row_at h.2.1 0 _ rfl; go_simp⟩) hS ?_
            try simp only [Act.put, nz0, nz1, nz2, nz3, nz4, nz5]
            refine wpAnyL_take (i := 7) (v := .pointer (some ⟨gs, 1, none⟩)) rfl (by kernel_rfl) (by kernel_rfl) (by kernel_rfl) (by kernel_rfl) (fun _ _ _ h => h) (Or.inl ⟨by rfl, fun w _ => by go_simp⟩) hS ?_
            try simp only [Act.put, nz0, nz1, nz2, nz3, nz4, nz5]
            refine wpAnyL_take (i := 8) (v := .int .u64 c.off) rfl (by kernel_rfl) (by kernel_rfl) (by kernel_rfl) (by kernel_rfl) (fun _ _ _ h => h) (Or.inl ⟨by rfl, fun w h => by have c := row_at h.2.1 1 _ rfl; go_simp⟩) hS ?_
            try simp only [Act.put, nz0, nz1, nz2, nz3, nz4, nz5]
            refine wpAnyL_take (i := 9) (v := .agg #[.int .u32 0, .int .u32 c.num, .int .u64 c.off, .string ByteArray.empty]) rfl (by kernel_rfl) (by kernel_rfl) (by kernel_rfl) (by kernel_rfl) (fun _ _ _ h => h) (yields_buildL (by rfl) 65 #[(1, .tmp 114), (2, .tmp 116)] rfl [(1, .int .u32 c.num), (2, .int .u64 c.off)] (by rfl) _ (built65M c.num c.off)) hS ?_
            try simp only [Act.put, nz0, nz1, nz2, nz3, nz4, nz5]
            have own1 : MOwn W8.drew (.slice ob k cb) ((os.take k).map toC) := qo
            clear qo q0 qs qB
            generalize W8.drew = W0 at hS own1 ⊢
            refine wpAnyL_ready (rs := [10]) (by kernel_rfl) (by simp) ?_
            refine AllReadyL.cons rfl (fun K hK => ?_) AllReadyL.nil
            have ab : Below W0.heap.size W0 (W0.alloc (.cells #[.int .u32 0, .int .u32 c.num, .int .u64 c.off, .string ByteArray.empty] 65)) := (Below.refl _ _).alloc (Nat.le_refl _) _
            have rX : Row (W0.alloc (.cells #[.int .u32 0, .int .u32 c.num, .int .u64 c.off, .string ByteArray.empty] 65)) W0.heap.size (Ck.O.arr ⟨0, c.num, c.off, ByteArray.empty⟩) 65 := Row.new _ _ _
            have own2 := own1.keep ab
            have hS2 : Row (W0.alloc (.cells #[.int .u32 0, .int .u32 c.num, .int .u64 c.off, .string ByteArray.empty] 65)) gm #[.pointer (some ⟨r, 0, none⟩), .int .i64 a, .int .i64 z, .int .u32 ep, .int .u32 fs, .slice ob k cb, .int .i64 n, .string { data := #[] }, .int .u64 fin, .int .u64 fin, .bool false] 49 ∧ Row (W0.alloc (.cells #[.int .u32 0, .int .u32 c.num, .int .u64 c.off, .string ByteArray.empty] 65)) gs #[.int .u32 c.num, .int .u64 c.off] 104 ∧ Below w.heap.size w (W0.alloc (.cells #[.int .u32 0, .int .u32 c.num, .int .u64 c.off, .string ByteArray.empty] 65)) := ⟨hS.1.alloc _, hS.2.1.alloc _, hS.2.2.trans (ab.mono hS.2.2.size)⟩
            have HWX : Hid (w.heap.size ≤ W0.heap.size) := hS.2.2.size
            have hab := ab.size
            go_simp
            refine hK.out _ _ (fun _ => hS2) ?_
            try simp only [Act.put, nz0, nz1, nz2, nz3, nz4, nz5]
            clear hS ab own1
            generalize W0.alloc (.cells #[.int .u32 0, .int .u32 c.num, .int .u64 c.off, .string ByteArray.empty] 65) = W1 at rX hS2 own2 hab ⊢
            generalize W0.heap.size = X at rX HWX hab ⊢
            have hS := hS2
            clear hS2
            have HR : Hid (∀ ty, ∃ v' w', (Builtin.append_ #[47, 47] ty #[.slice ob k cb, .slice (some ⟨X, 0, none⟩) 1 1]).run Try.prog W1 = .ok v' w' ∧ (MOwn w' v' ((os.take k).map toC ++ [⟨0, c.num, c.off, ByteArray.empty⟩]) ∧ Off (fun j => (Value.slice ob k cb).ownBlock = some j) W1 w' ∧ ∀ j, v'.ownBlock = some j → (Value.slice ob k cb).ownBlock = some j ∨ W1.heap.size ≤ j)) := fun ty => MOwn.snoc own2 ty X ⟨0, c.num, c.off, ByteArray.empty⟩ rX (by rw [List.length_map, List.length_take]; omega)
            refine wpAnyL_ready (rs := [11]) (by kernel_rfl) (by simp) ?_
            refine AllReadyL.cons rfl (fun K hK => step_ofL rfl (Ck.wp_copy (.tmp 112) (.tmp 118) 47 rfl _ _ rfl rfl (fun ty => HR.out ty) ?_)) AllReadyL.nil
            rintro v15 w15 ⟨own15, o15, hv15⟩
            have R15 : Row w15 gm #[.pointer (some ⟨r, 0, none⟩), .int .i64 a, .int .i64 z, .int .u32 ep, .int .u32 fs, .slice ob k cb, .int .i64 n, .string { data := #[] }, .int .u64 fin, .int .u64 fin, .bool false] 49 := hS.1.off o15 (fun q => HLT.out gm q rfl)
            have G15 : Row w15 gs #[.int .u32 c.num, .int .u64 c.off] 104 := hS.2.1.off o15 (fun q => own_not104M own2 q hS.2.1)
            have B15 : Below w.heap.size w w15 := hS.2.2.trans (o15.below hS.2.2.size (fun j q => HGE.out j q))
            have HNG : Hid (v15.ownBlock ≠ some gm) := fun q => by
              rcases hv15 gm q with r | r
              · exact HLT.out gm r rfl
              · have := hS.1.lt; omega
            have HGE2 : Hid (∀ j, v15.ownBlock = some j → w.heap.size ≤ j) := fun j q => by
              rcases hv15 j q with r | r
              · exact HGE.out j r
              · have := hS.2.2.size; omega
            obtain ⟨oc, cc, hf15⟩ := own15.form
            have hlen : ((os.take k).map toC ++ [⟨0, c.num, c.off, ByteArray.empty⟩] : List Ck.O).length = k + 1 := by rw [List.length_append, List.length_map, List.length_take, HN.out]; show min k n + 1 = k + 1; omega
            rw [hlen] at hf15
            subst hf15
            have hS15 : Row w15 gm #[.pointer (some ⟨r, 0, none⟩), .int .i64 a, .int .i64 z, .int .u32 ep, .int .u32 fs, .slice ob k cb, .int .i64 n, .string { data := #[] }, .int .u64 fin, .int .u64 fin, .bool false] 49 ∧ Row w15 gs #[.int .u32 c.num, .int .u64 c.off] 104 ∧ Below w.heap.size w w15 := ⟨R15, G15, B15⟩
            refine hK.out _ _ (fun _ => hS15) ?_
            try simp only [Act.put, nz0, nz1, nz2, nz3, nz4, nz5]
            clear hS HR own2 o15 R15 G15 B15 rX hv15 hab
            have hS := hS15
            clear hS15
            refine wpAnyL_ready (rs := [12]) (by kernel_rfl) (by simp) ?_
            refine AllReadyL.cons rfl (fun K hK => ?_) AllReadyL.nil
            go_simp
            refine hK.out _ _ (fun _ => hS) ?_
            try simp only [Act.put, nz0, nz1, nz2, nz3, nz4, nz5]
            refine wpAnyL_ready (rs := [13]) (by kernel_rfl) (by simp) ?_
            refine AllReadyL.cons rfl (fun K hK => ?_) AllReadyL.nil
            go_simp
            refine hK.out _ _ (fun _ => hS) ?_
            try simp only [Act.put, nz0, nz1, nz2, nz3, nz4, nz5]
            refine wpAnyL_ready (rs := [14]) (by kernel_rfl) (by simp) ?_
            refine AllReadyL.cons rfl (fun K hK => ?_) AllReadyL.nil
            have c9 := row_at hS.1 5 _ rfl
            have f9 := row_frozen hS.1 5
            have RR : Row (w15.setCell ⟨gm, 5, none⟩ (.slice oc (k + 1) cc)) gm #[.pointer (some ⟨r, 0, none⟩), .int .i64 a, .int .i64 z, .int .u32 ep, .int .u32 fs, .slice oc (k + 1) cc, .int .i64 n, .string { data := #[] }, .int .u64 fin, .int .u64 fin, .bool false] 49 := row_set hS.1 5 _
            have own9 : MOwn (w15.setCell ⟨gm, 5, none⟩ (.slice oc (k + 1) cc)) (.slice oc (k + 1) cc) ((os.take k).map toC ++ [⟨0, c.num, c.off, ByteArray.empty⟩]) := own15.off (Off.of_setCell (F := (· = gm)) _ _ _ rfl) (fun j q q2 => HNG.out (q2 ▸ q))
            have O9 := hS.2.2.trans ((Off.of_setCell (F := (· = gm)) w15 ⟨gm, 5, none⟩ (.slice oc (k + 1) cc) rfl).below hS.2.2.size (fun j q => by rw [q]; exact hgmw))
            go_simp
            refine hK.out _ _ (fun q => absurd rfl q) ?_
            try simp only [Act.put, nz0, nz1, nz2, nz3, nz4, nz5]
            generalize w15.setCell ⟨gm, 5, none⟩ (.slice oc (k + 1) cc) = w16 at RR own9 O9 ⊢
            refine wpAnyL_done (by kernel_rfl) ?_ _
            clear hS c9 f9 own15 hlen
            have hst : NLoopM w r a z ep fs fin n os gm (k + 1) w16 := ⟨_, by rw [takeS k c hckc]; exact ⟨by unfold rlcells; exact RR, own9, HNG.out, HGE2.out, O9⟩⟩
            clear RR own9 O9
            go_wp2
            go_roundw
            case rel => exact ⟨k + 1, by omega, by go_num, hst, by first | rfl | exact hfol⟩
            case measure => simp [intOf]; omega
          · have hC2 : (0 : Int) < (k : Int) := by omega
            obtain ⟨j, Hj⟩ : ∃ j, Hid (k = j + 1) := ⟨k - 1, by show k = k - 1 + 1; omega⟩
            have hpv := HPV2.out j Hj.out
            have hj1 : (0 : Int) ≤ (j : Int) := by omega
            have hj2 : (j : Int) < (n : Int) := by have := Hj.out; omega
            have vj : IntKind.i64.wrap ((k : Int) - 1) = j := by rw [IntKind.wrap_i64]; have := Hj.out; omega
            obtain ⟨le, Hle⟩ : ∃ le, Hid (lstS os k = le) := ⟨_, rfl⟩
            rw [Hle.out] at hpv
            by_cases hD : t < le
            · have HK2 : Hid (∀ w', Below w.heap.size w w' → PP (.returned (.pointer none)) w') := fun w' b => HNO.out (by rw [HF.out, e1]; exact fol_no (fun q => by have : lstS os k ≤ t := q.2.1; rw [Hle.out] at this; omega)) w' b
              clear HPV2 HF e1
              refine wp_region_held_drew (S := fun w' => Row w' gm #[.pointer (some ⟨r, 0, none⟩), .int .i64 a, .int .i64 z, .int .u32 ep, .int .u32 fs, .slice ob k cb, .int .i64 n, .string { data := #[] }, .int .u64 fin, .int .u64 fin, .bool false] 49 ∧ Row w' gs #[.int .u32 p, .int .u64 t] 104 ∧ Below w7.heap.size w7 w') (by kernel_rfl) ⟨q0, qs, (Below.refl w7.heap.size w7).drew⟩ fun hS => ?_
              generalize w7.drew = W8 at hS ⊢
              refine wpAnyH_take (i := 0) (v := .pointer (some ⟨gs, 0, none⟩)) rfl (by kernel_rfl) (by kernel_rfl) (by kernel_rfl) (fun _ _ _ h => h) (Or.inl ⟨by rfl, fun w _ => by go_simp⟩) hS ?_
              try simp only [Act.put, nz0, nz1, nz2, nz3, nz4, nz5]
              refine wpAnyH_take (i := 1) (v := .int .u32 p) rfl (by kernel_rfl) (by kernel_rfl) (by kernel_rfl) (fun _ _ _ h => h) (Or.inl ⟨by rfl, fun w h => by have c := row_at h.2.1 0 _ rfl; go_simp⟩) hS ?_
              try simp only [Act.put, nz0, nz1, nz2, nz3, nz4, nz5]
              refine wpAnyH_take (i := 2) (v := .pointer (some ⟨gm, 0, none⟩)) rfl (by kernel_rfl) (by kernel_rfl) (by kernel_rfl) (fun _ _ _ h => h) (Or.inl ⟨by rfl, fun w _ => by go_simp⟩) hS ?_
              try simp only [Act.put, nz0, nz1, nz2, nz3, nz4, nz5]
              refine wpAnyH_take (i := 3) (v := .pointer (some ⟨gm, 0, none⟩)) rfl (by kernel_rfl) (by kernel_rfl) (by kernel_rfl) (fun _ _ _ h => h) (Or.inl ⟨by rfl, fun w _ => by go_simp⟩) hS ?_
              try simp only [Act.put, nz0, nz1, nz2, nz3, nz4, nz5]
              refine wpAnyH_take (i := 4) (v := .pointer (some ⟨gm, 4, none⟩)) rfl (by kernel_rfl) (by kernel_rfl) (by kernel_rfl) (fun _ _ _ h => h) (Or.inl ⟨by rfl, fun w _ => by go_simp⟩) hS ?_
              try simp only [Act.put, nz0, nz1, nz2, nz3, nz4, nz5]
              refine wpAnyH_take (i := 5) (v := .int .u32 fs) rfl (by kernel_rfl) (by kernel_rfl) (by kernel_rfl) (fun _ _ _ h => h) (Or.inl ⟨by rfl, fun w h => by have c := row_at h.1 4 _ rfl; go_simp⟩) hS ?_
              try simp only [Act.put, nz0, nz1, nz2, nz3, nz4, nz5]
              refine wpAnyH_take (i := 6) (v := .int .i64 (k : Int)) rfl (by kernel_rfl) (by kernel_rfl) (by kernel_rfl) (fun _ _ _ h => h) (Or.inl ⟨by rfl, fun w _ => by go_simp⟩) hS ?_
              try simp only [Act.put, nz0, nz1, nz2, nz3, nz4, nz5]
              refine wpAnyH_take (i := 7) (v := .int .u32 (k : Int)) rfl (by kernel_rfl) (by kernel_rfl) (by kernel_rfl) (fun _ _ _ h => h) (Or.inl ⟨by rfl, fun w _ => by go_simp⟩) hS ?_
              try simp only [Act.put, nz0, nz1, nz2, nz3, nz4, nz5]
              refine wpAnyH_take (i := 8) (v := .int .u32 p) rfl (by kernel_rfl) (by kernel_rfl) (by kernel_rfl) (fun _ _ _ h => h) (Or.inl ⟨by rfl, fun w _ => by go_simp⟩) hS ?_
              try simp only [Act.put, nz0, nz1, nz2, nz3, nz4, nz5]
              refine wpAnyH_take (i := 9) (v := .bool false) rfl (by kernel_rfl) (by kernel_rfl) (by kernel_rfl) (fun _ _ _ h => h) (Or.inl ⟨by rfl, fun w _ => by go_simp⟩) hS ?_
              try simp only [Act.put, nz0, nz1, nz2, nz3, nz4, nz5]
              refine wpAnyH_take (i := 10) (v := .bool false) rfl (by kernel_rfl) (by kernel_rfl) (by kernel_rfl) (fun _ _ _ h => h) (Or.inl ⟨by rfl, fun w _ => by go_simp⟩) hS ?_
              try simp only [Act.put, nz0, nz1, nz2, nz3, nz4, nz5]
              refine wpAnyH_take (i := 11) (v := .pointer (some ⟨gs, 1, none⟩)) rfl (by kernel_rfl) (by kernel_rfl) (by kernel_rfl) (fun _ _ _ h => h) (Or.inl ⟨by rfl, fun w _ => by go_simp⟩) hS ?_
              try simp only [Act.put, nz0, nz1, nz2, nz3, nz4, nz5]
              refine wpAnyH_take (i := 12) (v := .int .u64 t) rfl (by kernel_rfl) (by kernel_rfl) (by kernel_rfl) (fun _ _ _ h => h) (Or.inl ⟨by rfl, fun w h => by have c := row_at h.2.1 1 _ rfl; go_simp⟩) hS ?_
              try simp only [Act.put, nz0, nz1, nz2, nz3, nz4, nz5]
              refine wpAnyH_take (i := 13) (v := .int .u64 fin) rfl (by kernel_rfl) (by kernel_rfl) (by kernel_rfl) (fun _ _ _ h => h) (Or.inl ⟨by rfl, fun w _ => by go_simp⟩) hS ?_
              try simp only [Act.put, nz0, nz1, nz2, nz3, nz4, nz5]
              refine wpAnyH_take (i := 14) (v := .bool false) rfl (by kernel_rfl) (by kernel_rfl) (by kernel_rfl) (fun _ _ _ h => h) (Or.inl ⟨by rfl, fun w _ => by go_simp⟩) hS ?_
              try simp only [Act.put, nz0, nz1, nz2, nz3, nz4, nz5]
              refine wpAnyH_take (i := 15) (v := .bool false) rfl (by kernel_rfl) (by kernel_rfl) (by kernel_rfl) (fun _ _ _ h => h) (Or.inl ⟨by rfl, fun w _ => by go_simp⟩) hS ?_
              try simp only [Act.put, nz0, nz1, nz2, nz3, nz4, nz5]
              refine wpAnyH_take (i := 16) (v := .bool false) rfl (by kernel_rfl) (by kernel_rfl) (by kernel_rfl) (fun _ _ _ h => h) (Or.inl ⟨by rfl, fun w _ => by go_simp⟩) hS ?_
              try simp only [Act.put, nz0, nz1, nz2, nz3, nz4, nz5]
              refine wpAnyH_take (i := 17) (v := .int .i64 (k : Int)) rfl (by kernel_rfl) (by kernel_rfl) (by kernel_rfl) (fun _ _ _ h => h) (Or.inl ⟨by rfl, fun w _ => by go_simp⟩) hS ?_
              try simp only [Act.put, nz0, nz1, nz2, nz3, nz4, nz5]
              refine wpAnyH_take (i := 18) (v := .bool true) rfl (by kernel_rfl) (by kernel_rfl) (by kernel_rfl) (fun _ _ _ h => h) (Or.inl ⟨by rfl, fun w _ => by go_simp <;> first | exact Hk0.out | omega⟩) hS ?_
              try simp only [Act.put, nz0, nz1, nz2, nz3, nz4, nz5]
              refine wpAnyH_take (i := 19) (v := .bool true) rfl (by kernel_rfl) (by kernel_rfl) (by kernel_rfl) (fun _ _ _ h => h) (Or.inl ⟨by rfl, fun w _ => by go_simp⟩) hS ?_
              try simp only [Act.put, nz0, nz1, nz2, nz3, nz4, nz5]
              refine wpAnyH_take (i := 20) (v := .pointer (some ⟨gs, 1, none⟩)) rfl (by kernel_rfl) (by kernel_rfl) (by kernel_rfl) (fun _ _ _ h => h) (Or.inl ⟨by rfl, fun w _ => by go_simp⟩) hS ?_
              try simp only [Act.put, nz0, nz1, nz2, nz3, nz4, nz5]
              refine wpAnyH_take (i := 21) (v := .int .u64 t) rfl (by kernel_rfl) (by kernel_rfl) (by kernel_rfl) (fun _ _ _ h => h) (Or.inl ⟨by rfl, fun w h => by have c := row_at h.2.1 1 _ rfl; go_simp⟩) hS ?_
              try simp only [Act.put, nz0, nz1, nz2, nz3, nz4, nz5]
              refine wpAnyH_take (i := 22) (v := .slice (some a0) n cap) rfl (by kernel_rfl) (by kernel_rfl) (by kernel_rfl) (fun _ _ _ h => h) (Or.inl ⟨by rfl, fun w _ => by go_simp⟩) hS ?_
              try simp only [Act.put, nz0, nz1, nz2, nz3, nz4, nz5]
              refine wpAnyH_take (i := 23) (v := .int .i64 (k : Int)) rfl (by kernel_rfl) (by kernel_rfl) (by kernel_rfl) (fun _ _ _ h => h) (Or.inl ⟨by rfl, fun w _ => by go_simp⟩) hS ?_
              try simp only [Act.put, nz0, nz1, nz2, nz3, nz4, nz5]
              refine wpAnyH_take (i := 24) (v := .int .i64 (j : Int)) rfl (by kernel_rfl) (by kernel_rfl) (by kernel_rfl) (fun _ _ _ h => h) (Or.inl ⟨by rfl, fun w _ => by go_simp⟩) hS ?_
              try simp only [Act.put, nz0, nz1, nz2, nz3, nz4, nz5]
              refine wpAnyH_take (i := 25) (v := .pointer (some (a0.add (j * 2)))) rfl (by kernel_rfl) (by kernel_rfl) (by kernel_rfl) (fun _ _ _ h => h) (Or.inl ⟨by rfl, fun w _ => by go_simp⟩) hS ?_
              try simp only [Act.put, nz0, nz1, nz2, nz3, nz4, nz5]
              refine wpAnyH_take (i := 26) (v := .pointer (some ⟨(a0.add (j * 2)).block, (a0.add (j * 2)).off + 1, none⟩)) rfl (by kernel_rfl) (by kernel_rfl) (by kernel_rfl) (fun _ _ _ h => h) (Or.inl ⟨by rfl, fun w _ => by go_simp⟩) hS ?_
              try simp only [Act.put, nz0, nz1, nz2, nz3, nz4, nz5]
              refine wpAnyH_take (i := 27) (v := .int .u64 le) rfl (by kernel_rfl) (by kernel_rfl) (by kernel_rfl) (fun _ _ _ h => h) (Or.inl ⟨by rfl, fun w h => by have c := Ck.cell_keep hpv h.2.2; go_simp⟩) hS ?_
              try simp only [Act.put, nz0, nz1, nz2, nz3, nz4, nz5]
              refine wpAnyH_take (i := 28) (v := .bool true) rfl (by kernel_rfl) (by kernel_rfl) (by kernel_rfl) (fun _ _ _ h => h) (Or.inl ⟨by rfl, fun w _ => by go_simp⟩) hS ?_
              try simp only [Act.put, nz0, nz1, nz2, nz3, nz4, nz5]
              refine wpAnyH_take (i := 29) (v := .bool true) rfl (by kernel_rfl) (by kernel_rfl) (by kernel_rfl) (fun _ _ _ h => h) (Or.inl ⟨by rfl, fun w _ => by go_simp⟩) hS ?_
              try simp only [Act.put, nz0, nz1, nz2, nz3, nz4, nz5]
              refine wpAnyH_take (i := 30) (v := .bool true) rfl (by kernel_rfl) (by kernel_rfl) (by kernel_rfl) (fun _ _ _ h => h) (Or.inl ⟨by rfl, fun w _ => by go_simp⟩) hS ?_
              try simp only [Act.put, nz0, nz1, nz2, nz3, nz4, nz5]
              refine wpAnyH_done (by kernel_rfl) ?_ _
              go_wp2
              try go_ret
              exact HK2.out _ (qB.trans (hS.2.2.mono qB.size))
            · have hfol : Hid (folS num fin n 0 0 os = folS num fin n (k + 1) (lstS os (k + 1)) (os.drop (k + 1))) := by
                show _ = _
                rw [HF.out, e1, hlst1.out]
                exact fol_yes ⟨vk.out, by show lstS os k ≤ t; rw [Hle.out]; omega, by show t ≤ fin; omega⟩
              clear HPV2 HF e1
              refine wp_region_held_drew (S := fun w' => Row w' gm #[.pointer (some ⟨r, 0, none⟩), .int .i64 a, .int .i64 z, .int .u32 ep, .int .u32 fs, .slice ob k cb, .int .i64 n, .string { data := #[] }, .int .u64 fin, .int .u64 fin, .bool false] 49 ∧ Row w' gs #[.int .u32 p, .int .u64 t] 104 ∧ Below w7.heap.size w7 w') (by kernel_rfl) ⟨q0, qs, (Below.refl w7.heap.size w7).drew⟩ fun hS => ?_
              generalize w7.drew = W8 at hS ⊢
              refine wpAnyH_take (i := 0) (v := .pointer (some ⟨gs, 0, none⟩)) rfl (by kernel_rfl) (by kernel_rfl) (by kernel_rfl) (fun _ _ _ h => h) (Or.inl ⟨by rfl, fun w _ => by go_simp⟩) hS ?_
              try simp only [Act.put, nz0, nz1, nz2, nz3, nz4, nz5]
              refine wpAnyH_take (i := 1) (v := .int .u32 p) rfl (by kernel_rfl) (by kernel_rfl) (by kernel_rfl) (fun _ _ _ h => h) (Or.inl ⟨by rfl, fun w h => by have c := row_at h.2.1 0 _ rfl; go_simp⟩) hS ?_
              try simp only [Act.put, nz0, nz1, nz2, nz3, nz4, nz5]
              refine wpAnyH_take (i := 2) (v := .pointer (some ⟨gm, 0, none⟩)) rfl (by kernel_rfl) (by kernel_rfl) (by kernel_rfl) (fun _ _ _ h => h) (Or.inl ⟨by rfl, fun w _ => by go_simp⟩) hS ?_
              try simp only [Act.put, nz0, nz1, nz2, nz3, nz4, nz5]
              refine wpAnyH_take (i := 3) (v := .pointer (some ⟨gm, 0, none⟩)) rfl (by kernel_rfl) (by kernel_rfl) (by kernel_rfl) (fun _ _ _ h => h) (Or.inl ⟨by rfl, fun w _ => by go_simp⟩) hS ?_
              try simp only [Act.put, nz0, nz1, nz2, nz3, nz4, nz5]
              refine wpAnyH_take (i := 4) (v := .pointer (some ⟨gm, 4, none⟩)) rfl (by kernel_rfl) (by kernel_rfl) (by kernel_rfl) (fun _ _ _ h => h) (Or.inl ⟨by rfl, fun w _ => by go_simp⟩) hS ?_
              try simp only [Act.put, nz0, nz1, nz2, nz3, nz4, nz5]
              refine wpAnyH_take (i := 5) (v := .int .u32 fs) rfl (by kernel_rfl) (by kernel_rfl) (by kernel_rfl) (fun _ _ _ h => h) (Or.inl ⟨by rfl, fun w h => by have c := row_at h.1 4 _ rfl; go_simp⟩) hS ?_
              try simp only [Act.put, nz0, nz1, nz2, nz3, nz4, nz5]
              refine wpAnyH_take (i := 6) (v := .int .i64 (k : Int)) rfl (by kernel_rfl) (by kernel_rfl) (by kernel_rfl) (fun _ _ _ h => h) (Or.inl ⟨by rfl, fun w _ => by go_simp⟩) hS ?_
              try simp only [Act.put, nz0, nz1, nz2, nz3, nz4, nz5]
              refine wpAnyH_take (i := 7) (v := .int .u32 (k : Int)) rfl (by kernel_rfl) (by kernel_rfl) (by kernel_rfl) (fun _ _ _ h => h) (Or.inl ⟨by rfl, fun w _ => by go_simp⟩) hS ?_
              try simp only [Act.put, nz0, nz1, nz2, nz3, nz4, nz5]
              refine wpAnyH_take (i := 8) (v := .int .u32 p) rfl (by kernel_rfl) (by kernel_rfl) (by kernel_rfl) (fun _ _ _ h => h) (Or.inl ⟨by rfl, fun w _ => by go_simp⟩) hS ?_
              try simp only [Act.put, nz0, nz1, nz2, nz3, nz4, nz5]
              refine wpAnyH_take (i := 9) (v := .bool false) rfl (by kernel_rfl) (by kernel_rfl) (by kernel_rfl) (fun _ _ _ h => h) (Or.inl ⟨by rfl, fun w _ => by go_simp⟩) hS ?_
              try simp only [Act.put, nz0, nz1, nz2, nz3, nz4, nz5]
              refine wpAnyH_take (i := 10) (v := .bool false) rfl (by kernel_rfl) (by kernel_rfl) (by kernel_rfl) (fun _ _ _ h => h) (Or.inl ⟨by rfl, fun w _ => by go_simp⟩) hS ?_
              try simp only [Act.put, nz0, nz1, nz2, nz3, nz4, nz5]
              refine wpAnyH_take (i := 11) (v := .pointer (some ⟨gs, 1, none⟩)) rfl (by kernel_rfl) (by kernel_rfl) (by kernel_rfl) (fun _ _ _ h => h) (Or.inl ⟨by rfl, fun w _ => by go_simp⟩) hS ?_
              try simp only [Act.put, nz0, nz1, nz2, nz3, nz4, nz5]
              refine wpAnyH_take (i := 12) (v := .int .u64 t) rfl (by kernel_rfl) (by kernel_rfl) (by kernel_rfl) (fun _ _ _ h => h) (Or.inl ⟨by rfl, fun w h => by have c := row_at h.2.1 1 _ rfl; go_simp⟩) hS ?_
              try simp only [Act.put, nz0, nz1, nz2, nz3, nz4, nz5]
              refine wpAnyH_take (i := 13) (v := .int .u64 fin) rfl (by kernel_rfl) (by kernel_rfl) (by kernel_rfl) (fun _ _ _ h => h) (Or.inl ⟨by rfl, fun w _ => by go_simp⟩) hS ?_
              try simp only [Act.put, nz0, nz1, nz2, nz3, nz4, nz5]
              refine wpAnyH_take (i := 14) (v := .bool false) rfl (by kernel_rfl) (by kernel_rfl) (by kernel_rfl) (fun _ _ _ h => h) (Or.inl ⟨by rfl, fun w _ => by go_simp⟩) hS ?_
              try simp only [Act.put, nz0, nz1, nz2, nz3, nz4, nz5]
              refine wpAnyH_take (i := 15) (v := .bool false) rfl (by kernel_rfl) (by kernel_rfl) (by kernel_rfl) (fun _ _ _ h => h) (Or.inl ⟨by rfl, fun w _ => by go_simp⟩) hS ?_
              try simp only [Act.put, nz0, nz1, nz2, nz3, nz4, nz5]
              refine wpAnyH_take (i := 16) (v := .bool false) rfl (by kernel_rfl) (by kernel_rfl) (by kernel_rfl) (fun _ _ _ h => h) (Or.inl ⟨by rfl, fun w _ => by go_simp⟩) hS ?_
              try simp only [Act.put, nz0, nz1, nz2, nz3, nz4, nz5]
              refine wpAnyH_take (i := 17) (v := .int .i64 (k : Int)) rfl (by kernel_rfl) (by kernel_rfl) (by kernel_rfl) (fun _ _ _ h => h) (Or.inl ⟨by rfl, fun w _ => by go_simp⟩) hS ?_
              try simp only [Act.put, nz0, nz1, nz2, nz3, nz4, nz5]
              refine wpAnyH_take (i := 18) (v := .bool true) rfl (by kernel_rfl) (by kernel_rfl) (by kernel_rfl) (fun _ _ _ h => h) (Or.inl ⟨by rfl, fun w _ => by go_simp <;> first | exact Hk0.out | omega⟩) hS ?_
              try simp only [Act.put, nz0, nz1, nz2, nz3, nz4, nz5]
              refine wpAnyH_take (i := 19) (v := .bool true) rfl (by kernel_rfl) (by kernel_rfl) (by kernel_rfl) (fun _ _ _ h => h) (Or.inl ⟨by rfl, fun w _ => by go_simp⟩) hS ?_
              try simp only [Act.put, nz0, nz1, nz2, nz3, nz4, nz5]
              refine wpAnyH_take (i := 20) (v := .pointer (some ⟨gs, 1, none⟩)) rfl (by kernel_rfl) (by kernel_rfl) (by kernel_rfl) (fun _ _ _ h => h) (Or.inl ⟨by rfl, fun w _ => by go_simp⟩) hS ?_
              try simp only [Act.put, nz0, nz1, nz2, nz3, nz4, nz5]
              refine wpAnyH_take (i := 21) (v := .int .u64 t) rfl (by kernel_rfl) (by kernel_rfl) (by kernel_rfl) (fun _ _ _ h => h) (Or.inl ⟨by rfl, fun w h => by have c := row_at h.2.1 1 _ rfl; go_simp⟩) hS ?_
              try simp only [Act.put, nz0, nz1, nz2, nz3, nz4, nz5]
              refine wpAnyH_take (i := 22) (v := .slice (some a0) n cap) rfl (by kernel_rfl) (by kernel_rfl) (by kernel_rfl) (fun _ _ _ h => h) (Or.inl ⟨by rfl, fun w _ => by go_simp⟩) hS ?_
              try simp only [Act.put, nz0, nz1, nz2, nz3, nz4, nz5]
              refine wpAnyH_take (i := 23) (v := .int .i64 (k : Int)) rfl (by kernel_rfl) (by kernel_rfl) (by kernel_rfl) (fun _ _ _ h => h) (Or.inl ⟨by rfl, fun w _ => by go_simp⟩) hS ?_
              try simp only [Act.put, nz0, nz1, nz2, nz3, nz4, nz5]
              refine wpAnyH_take (i := 24) (v := .int .i64 (j : Int)) rfl (by kernel_rfl) (by kernel_rfl) (by kernel_rfl) (fun _ _ _ h => h) (Or.inl ⟨by rfl, fun w _ => by go_simp⟩) hS ?_
              try simp only [Act.put, nz0, nz1, nz2, nz3, nz4, nz5]
              refine wpAnyH_take (i := 25) (v := .pointer (some (a0.add (j * 2)))) rfl (by kernel_rfl) (by kernel_rfl) (by kernel_rfl) (fun _ _ _ h => h) (Or.inl ⟨by rfl, fun w _ => by go_simp⟩) hS ?_
              try simp only [Act.put, nz0, nz1, nz2, nz3, nz4, nz5]
              refine wpAnyH_take (i := 26) (v := .pointer (some ⟨(a0.add (j * 2)).block, (a0.add (j * 2)).off + 1, none⟩)) rfl (by kernel_rfl) (by kernel_rfl) (by kernel_rfl) (fun _ _ _ h => h) (Or.inl ⟨by rfl, fun w _ => by go_simp⟩) hS ?_
              try simp only [Act.put, nz0, nz1, nz2, nz3, nz4, nz5]
              refine wpAnyH_take (i := 27) (v := .int .u64 le) rfl (by kernel_rfl) (by kernel_rfl) (by kernel_rfl) (fun _ _ _ h => h) (Or.inl ⟨by rfl, fun w h => by have c := Ck.cell_keep hpv h.2.2; go_simp⟩) hS ?_
              try simp only [Act.put, nz0, nz1, nz2, nz3, nz4, nz5]
              refine wpAnyH_take (i := 28) (v := .bool false) rfl (by kernel_rfl) (by kernel_rfl) (by kernel_rfl) (fun _ _ _ h => h) (Or.inl ⟨by rfl, fun w _ => by go_simp⟩) hS ?_
              try simp only [Act.put, nz0, nz1, nz2, nz3, nz4, nz5]
              refine wpAnyH_take (i := 29) (v := .bool false) rfl (by kernel_rfl) (by kernel_rfl) (by kernel_rfl) (fun _ _ _ h => h) (Or.inl ⟨by rfl, fun w _ => by go_simp⟩) hS ?_
              try simp only [Act.put, nz0, nz1, nz2, nz3, nz4, nz5]
              refine wpAnyH_take (i := 30) (v := .bool false) rfl (by kernel_rfl) (by kernel_rfl) (by kernel_rfl) (fun _ _ _ h => h) (Or.inl ⟨by rfl, fun w _ => by go_simp⟩) hS ?_
              try simp only [Act.put, nz0, nz1, nz2, nz3, nz4, nz5]
              refine wpAnyH_done (by kernel_rfl) ?_ _
              have q0 := hS.1
              have qs := hS.2.1
              have qo := qo.keep hS.2.2
              have qB := qB.trans (hS.2.2.mono qB.size)
              clear hS
              go_upto_region 10 with fail
              obtain ⟨c, Hc⟩ : ∃ c : St.O, Hid (c = ⟨p, t⟩) := ⟨_, rfl⟩
              have hckc : os[k]? = some c := by rw [Hc.out]; exact hck.out
              have ec1 : p = c.num := by rw [Hc.out]
              have ec2 : t = c.off := by rw [Hc.out]
              clear Hc
              rw [ec1, ec2] at qs
              refine wp_region_last (S := fun w' => Row w' gm #[.pointer (some ⟨r, 0, none⟩), .int .i64 a, .int .i64 z, .int .u32 ep, .int .u32 fs, .slice ob k cb, .int .i64 n, .string { data := #[] }, .int .u64 fin, .int .u64 fin, .bool false] 49 ∧ Row w' gs #[.int .u32 c.num, .int .u64 c.off] 104 ∧ Below w.heap.size w w') 14 (by kernel_rfl) ⟨q0, qs, qB.drew⟩ fun hS => ?_
              refine wpAnyL_take (i := 0) (v := .pointer (some ⟨gm, 0, none⟩)) rfl (by kernel_rfl) (by kernel_rfl) (by kernel_rfl) (by kernel_rfl) (fun _ _ _ h => h) (Or.inl ⟨by rfl, fun w _ => by go_simp⟩) hS ?_
              try simp only [Act.put, nz0, nz1, nz2, nz3, nz4, nz5]
              refine wpAnyL_take (i := 1) (v := .pointer (some ⟨gm, 0, none⟩)) rfl (by kernel_rfl) (by kernel_rfl) (by kernel_rfl) (by kernel_rfl) (fun _ _ _ h => h) (Or.inl ⟨by rfl, fun w _ => by go_simp⟩) hS ?_
              try simp only [Act.put, nz0, nz1, nz2, nz3, nz4, nz5]
              refine wpAnyL_take (i := 2) (v := .pointer (some ⟨gm, 0, none⟩)) rfl (by kernel_rfl) (by kernel_rfl) (by kernel_rfl) (by kernel_rfl) (fun _ _ _ h => h) (Or.inl ⟨by rfl, fun w _ => by go_simp⟩) hS ?_
              try simp only [Act.put, nz0, nz1, nz2, nz3, nz4, nz5]
              refine wpAnyL_take (i := 3) (v := .pointer (some ⟨gm, 5, none⟩)) rfl (by kernel_rfl) (by kernel_rfl) (by kernel_rfl) (by kernel_rfl) (fun _ _ _ h => h) (Or.inl ⟨by rfl, fun w _ => by go_simp⟩) hS ?_
              try simp only [Act.put, nz0, nz1, nz2, nz3, nz4, nz5]
              refine wpAnyL_take (i := 4) (v := .slice ob k cb) rfl (by kernel_rfl) (by kernel_rfl) (by kernel_rfl) (by kernel_rfl) (fun _ _ _ h => h) (Or.inl ⟨by rfl, fun w h => by have c := row_at h.1 5 _ rfl; go_simp⟩) hS ?_
              try simp only [Act.put, nz0, nz1, nz2, nz3, nz4, nz5]
              refine wpAnyL_take (i := 5) (v := .pointer (some ⟨gs, 0, none⟩)) rfl (by kernel_rfl) (by kernel_rfl) (by kernel_rfl) (by kernel_rfl) (fun _ _ _ h => h) (Or.inl ⟨by rfl, fun w _ => by go_simp⟩) hS ?_
              try simp only [Act.put, nz0, nz1, nz2, nz3, nz4, nz5]
              refine wpAnyL_take (i := 6) (v := .int .u32 c.num) rfl (by kernel_rfl) (by kernel_rfl) (by kernel_rfl) (by kernel_rfl) (fun _ _ _ h => h) (Or.inl ⟨by rfl, fun w h => by have c := row_at h.2.1 0 _ rfl; go_simp⟩) hS ?_
              try simp only [Act.put, nz0, nz1, nz2, nz3, nz4, nz5]
              refine wpAnyL_take (i := 7) (v := .pointer (some ⟨gs, 1, none⟩)) rfl (by kernel_rfl) (by kernel_rfl) (by kernel_rfl) (by kernel_rfl) (fun _ _ _ h => h) (Or.inl ⟨by rfl, fun w _ => by go_simp⟩) hS ?_
              try simp only [Act.put, nz0, nz1, nz2, nz3, nz4, nz5]
              refine wpAnyL_take (i := 8) (v := .int .u64 c.off) rfl (by kernel_rfl) (by kernel_rfl) (by kernel_rfl) (by kernel_rfl) (fun _ _ _ h => h) (Or.inl ⟨by rfl, fun w h => by have c := row_at h.2.1 1 _ rfl; go_simp⟩) hS ?_
              try simp only [Act.put, nz0, nz1, nz2, nz3, nz4, nz5]
              refine wpAnyL_take (i := 9) (v := .agg #[.int .u32 0, .int .u32 c.num, .int .u64 c.off, .string ByteArray.empty]) rfl (by kernel_rfl) (by kernel_rfl) (by kernel_rfl) (by kernel_rfl) (fun _ _ _ h => h) (yields_buildL (by rfl) 65 #[(1, .tmp 114), (2, .tmp 116)] rfl [(1, .int .u32 c.num), (2, .int .u64 c.off)] (by rfl) _ (built65M c.num c.off)) hS ?_
              try simp only [Act.put, nz0, nz1, nz2, nz3, nz4, nz5]
              have own1 : MOwn W8.drew (.slice ob k cb) ((os.take k).map toC) := qo
              clear qo q0 qs qB
              generalize W8.drew = W0 at hS own1 ⊢
              refine wpAnyL_ready (rs := [10]) (by kernel_rfl) (by simp) ?_
              refine AllReadyL.cons rfl (fun K hK => ?_) AllReadyL.nil
              have ab : Below W0.heap.size W0 (W0.alloc (.cells #[.int .u32 0, .int .u32 c.num, .int .u64 c.off, .string ByteArray.empty] 65)) := (Below.refl _ _).alloc (Nat.le_refl _) _
              have rX : Row (W0.alloc (.cells #[.int .u32 0, .int .u32 c.num, .int .u64 c.off, .string ByteArray.empty] 65)) W0.heap.size (Ck.O.arr ⟨0, c.num, c.off, ByteArray.empty⟩) 65 := Row.new _ _ _
              have own2 := own1.keep ab
              have hS2 : Row (W0.alloc (.cells #[.int .u32 0, .int .u32 c.num, .int .u64 c.off, .string ByteArray.empty] 65)) gm #[.pointer (some ⟨r, 0, none⟩), .int .i64 a, .int .i64 z, .int .u32 ep, .int .u32 fs, .slice ob k cb, .int .i64 n, .string { data := #[] }, .int .u64 fin, .int .u64 fin, .bool false] 49 ∧ Row (W0.alloc (.cells #[.int .u32 0, .int .u32 c.num, .int .u64 c.off, .string ByteArray.empty] 65)) gs #[.int .u32 c.num, .int .u64 c.off] 104 ∧ Below w.heap.size w (W0.alloc (.cells #[.int .u32 0, .int .u32 c.num, .int .u64 c.off, .string ByteArray.empty] 65)) := ⟨hS.1.alloc _, hS.2.1.alloc _, hS.2.2.trans (ab.mono hS.2.2.size)⟩
              have HWX : Hid (w.heap.size ≤ W0.heap.size) := hS.2.2.size
              have hab := ab.size
              go_simp
              refine hK.out _ _ (fun _ => hS2) ?_
              try simp only [Act.put, nz0, nz1, nz2, nz3, nz4, nz5]
              clear hS ab own1
              generalize W0.alloc (.cells #[.int .u32 0, .int .u32 c.num, .int .u64 c.off, .string ByteArray.empty] 65) = W1 at rX hS2 own2 hab ⊢
              generalize W0.heap.size = X at rX HWX hab ⊢
              have hS := hS2
              clear hS2
              have HR : Hid (∀ ty, ∃ v' w', (Builtin.append_ #[47, 47] ty #[.slice ob k cb, .slice (some ⟨X, 0, none⟩) 1 1]).run Try.prog W1 = .ok v' w' ∧ (MOwn w' v' ((os.take k).map toC ++ [⟨0, c.num, c.off, ByteArray.empty⟩]) ∧ Off (fun j => (Value.slice ob k cb).ownBlock = some j) W1 w' ∧ ∀ j, v'.ownBlock = some j → (Value.slice ob k cb).ownBlock = some j ∨ W1.heap.size ≤ j)) := fun ty => MOwn.snoc own2 ty X ⟨0, c.num, c.off, ByteArray.empty⟩ rX (by rw [List.length_map, List.length_take]; omega)
              refine wpAnyL_ready (rs := [11]) (by kernel_rfl) (by simp) ?_
              refine AllReadyL.cons rfl (fun K hK => step_ofL rfl (Ck.wp_copy (.tmp 112) (.tmp 118) 47 rfl _ _ rfl rfl (fun ty => HR.out ty) ?_)) AllReadyL.nil
              rintro v15 w15 ⟨own15, o15, hv15⟩
              have R15 : Row w15 gm #[.pointer (some ⟨r, 0, none⟩), .int .i64 a, .int .i64 z, .int .u32 ep, .int .u32 fs, .slice ob k cb, .int .i64 n, .string { data := #[] }, .int .u64 fin, .int .u64 fin, .bool false] 49 := hS.1.off o15 (fun q => HLT.out gm q rfl)
              have G15 : Row w15 gs #[.int .u32 c.num, .int .u64 c.off] 104 := hS.2.1.off o15 (fun q => own_not104M own2 q hS.2.1)
              have B15 : Below w.heap.size w w15 := hS.2.2.trans (o15.below hS.2.2.size (fun j q => HGE.out j q))
              have HNG : Hid (v15.ownBlock ≠ some gm) := fun q => by
                rcases hv15 gm q with r | r
                · exact HLT.out gm r rfl
                · have := hS.1.lt; omega
              have HGE2 : Hid (∀ j, v15.ownBlock = some j → w.heap.size ≤ j) := fun j q => by
                rcases hv15 j q with r | r
                · exact HGE.out j r
                · have := hS.2.2.size; omega
              obtain ⟨oc, cc, hf15⟩ := own15.form
              have hlen : ((os.take k).map toC ++ [⟨0, c.num, c.off, ByteArray.empty⟩] : List Ck.O).length = k + 1 := by rw [List.length_append, List.length_map, List.length_take, HN.out]; show min k n + 1 = k + 1; omega
              rw [hlen] at hf15
              subst hf15
              have hS15 : Row w15 gm #[.pointer (some ⟨r, 0, none⟩), .int .i64 a, .int .i64 z, .int .u32 ep, .int .u32 fs, .slice ob k cb, .int .i64 n, .string { data := #[] }, .int .u64 fin, .int .u64 fin, .bool false] 49 ∧ Row w15 gs #[.int .u32 c.num, .int .u64 c.off] 104 ∧ Below w.heap.size w w15 := ⟨R15, G15, B15⟩
              refine hK.out _ _ (fun _ => hS15) ?_
              try simp only [Act.put, nz0, nz1, nz2, nz3, nz4, nz5]
              clear hS HR own2 o15 R15 G15 B15 rX hv15 hab
              have hS := hS15
              clear hS15
              refine wpAnyL_ready (rs := [12]) (by kernel_rfl) (by simp) ?_
              refine AllReadyL.cons rfl (fun K hK => ?_) AllReadyL.nil
              go_simp
              refine hK.out _ _ (fun _ => hS) ?_
              try simp only [Act.put, nz0, nz1, nz2, nz3, nz4, nz5]
              refine wpAnyL_ready (rs := [13]) (by kernel_rfl) (by simp) ?_
              refine AllReadyL.cons rfl (fun K hK => ?_) AllReadyL.nil
              go_simp
              refine hK.out _ _ (fun _ => hS) ?_
              try simp only [Act.put, nz0, nz1, nz2, nz3, nz4, nz5]
              refine wpAnyL_ready (rs := [14]) (by kernel_rfl) (by simp) ?_
              refine AllReadyL.cons rfl (fun K hK => ?_) AllReadyL.nil
              have c9 := row_at hS.1 5 _ rfl
              have f9 := row_frozen hS.1 5
              have RR : Row (w15.setCell ⟨gm, 5, none⟩ (.slice oc (k + 1) cc)) gm #[.pointer (some ⟨r, 0, none⟩), .int .i64 a, .int .i64 z, .int .u32 ep, .int .u32 fs, .slice oc (k + 1) cc, .int .i64 n, .string { data := #[] }, .int .u64 fin, .int .u64 fin, .bool false] 49 := row_set hS.1 5 _
              have own9 : MOwn (w15.setCell ⟨gm, 5, none⟩ (.slice oc (k + 1) cc)) (.slice oc (k + 1) cc) ((os.take k).map toC ++ [⟨0, c.num, c.off, ByteArray.empty⟩]) := own15.off (Off.of_setCell (F := (· = gm)) _ _ _ rfl) (fun j q q2 => HNG.out (q2 ▸ q))
              have O9 := hS.2.2.trans ((Off.of_setCell (F := (· = gm)) w15 ⟨gm, 5, none⟩ (.slice oc (k + 1) cc) rfl).below hS.2.2.size (fun j q => by rw [q]; exact hgmw))
              go_simp
              refine hK.out _ _ (fun q => absurd rfl q) ?_
              try simp only [Act.put, nz0, nz1, nz2, nz3, nz4, nz5]
              generalize w15.setCell ⟨gm, 5, none⟩ (.slice oc (k + 1) cc) = w16 at RR own9 O9 ⊢
              refine wpAnyL_done (by kernel_rfl) ?_ _
              clear hS c9 f9 own15 hlen
              have hst : NLoopM w r a z ep fs fin n os gm (k + 1) w16 := ⟨_, by rw [takeS k c hckc]; exact ⟨by unfold rlcells; exact RR, own9, HNG.out, HGE2.out, O9⟩⟩
              clear RR own9 O9
              go_wp2
              go_roundw
              case rel => exact ⟨k + 1, by omega, by go_num, hst, by first | rfl | exact hfol⟩
              case measure => simp [intOf]; omega
      · have HK2 : Hid (∀ w', Below w.heap.size w w' → PP (.returned (.pointer none)) w') := fun w' b => HNO.out (by rw [HF.out, e1]; exact fol_no (fun q => hA (by rw [vk.out]; exact q.1))) w' b
        clear HPV2 HF e1
        refine wp_region_held_drew (S := fun w' => Row w' gm #[.pointer (some ⟨r, 0, none⟩), .int .i64 a, .int .i64 z, .int .u32 ep, .int .u32 fs, .slice ob k cb, .int .i64 n, .string { data := #[] }, .int .u64 fin, .int .u64 fin, .bool false] 49 ∧ Row w' gs #[.int .u32 p, .int .u64 t] 104 ∧ Below w7.heap.size w7 w') (by kernel_rfl) ⟨q0, qs, (Below.refl w7.heap.size w7).drew⟩ fun hS => ?_
        generalize w7.drew = W8 at hS ⊢
        refine wpAnyH_take (i := 0) (v := .pointer (some ⟨gs, 0, none⟩)) rfl (by kernel_rfl) (by kernel_rfl) (by kernel_rfl) (fun _ _ _ h => h) (Or.inl ⟨by rfl, fun w _ => by go_simp⟩) hS ?_
        try simp only [Act.put, nz0, nz1, nz2, nz3, nz4, nz5]
        refine wpAnyH_take (i := 1) (v := .int .u32 p) rfl (by kernel_rfl) (by kernel_rfl) (by kernel_rfl) (fun _ _ _ h => h) (Or.inl ⟨by rfl, fun w h => by have c := row_at h.2.1 0 _ rfl; go_simp⟩) hS ?_
        try simp only [Act.put, nz0, nz1, nz2, nz3, nz4, nz5]
        refine wpAnyH_take (i := 2) (v := .pointer (some ⟨gm, 0, none⟩)) rfl (by kernel_rfl) (by kernel_rfl) (by kernel_rfl) (fun _ _ _ h => h) (Or.inl ⟨by rfl, fun w _ => by go_simp⟩) hS ?_
        try simp only [Act.put, nz0, nz1, nz2, nz3, nz4, nz5]
        refine wpAnyH_take (i := 3) (v := .pointer (some ⟨gm, 0, none⟩)) rfl (by kernel_rfl) (by kernel_rfl) (by kernel_rfl) (fun _ _ _ h => h) (Or.inl ⟨by rfl, fun w _ => by go_simp⟩) hS ?_
        try simp only [Act.put, nz0, nz1, nz2, nz3, nz4, nz5]
        refine wpAnyH_take (i := 4) (v := .pointer (some ⟨gm, 4, none⟩)) rfl (by kernel_rfl) (by kernel_rfl) (by kernel_rfl) (fun _ _ _ h => h) (Or.inl ⟨by rfl, fun w _ => by go_simp⟩) hS ?_
        try simp only [Act.put, nz0, nz1, nz2, nz3, nz4, nz5]
        refine wpAnyH_take (i := 5) (v := .int .u32 fs) rfl (by kernel_rfl) (by kernel_rfl) (by kernel_rfl) (fun _ _ _ h => h) (Or.inl ⟨by rfl, fun w h => by have c := row_at h.1 4 _ rfl; go_simp⟩) hS ?_
        try simp only [Act.put, nz0, nz1, nz2, nz3, nz4, nz5]
        refine wpAnyH_take (i := 6) (v := .int .i64 (k : Int)) rfl (by kernel_rfl) (by kernel_rfl) (by kernel_rfl) (fun _ _ _ h => h) (Or.inl ⟨by rfl, fun w _ => by go_simp⟩) hS ?_
        try simp only [Act.put, nz0, nz1, nz2, nz3, nz4, nz5]
        refine wpAnyH_take (i := 7) (v := .int .u32 (k : Int)) rfl (by kernel_rfl) (by kernel_rfl) (by kernel_rfl) (fun _ _ _ h => h) (Or.inl ⟨by rfl, fun w _ => by go_simp⟩) hS ?_
        try simp only [Act.put, nz0, nz1, nz2, nz3, nz4, nz5]
        refine wpAnyH_take (i := 8) (v := .int .u32 wv) rfl (by kernel_rfl) (by kernel_rfl) (by kernel_rfl) (fun _ _ _ h => h) (Or.inl ⟨by rfl, fun w _ => by go_simp⟩) hS ?_
        try simp only [Act.put, nz0, nz1, nz2, nz3, nz4, nz5]
        refine wpAnyH_take (i := 9) (v := .bool true) rfl (by kernel_rfl) (by kernel_rfl) (by kernel_rfl) (fun _ _ _ h => h) (Or.inl ⟨by rfl, fun w _ => by go_simp⟩) hS ?_
        try simp only [Act.put, nz0, nz1, nz2, nz3, nz4, nz5]
        refine wpAnyH_take (i := 10) (v := .bool true) rfl (by kernel_rfl) (by kernel_rfl) (by kernel_rfl) (fun _ _ _ h => h) (Or.inl ⟨by rfl, fun w _ => by go_simp⟩) hS ?_
        try simp only [Act.put, nz0, nz1, nz2, nz3, nz4, nz5]
        refine wpAnyH_take (i := 11) (v := undef) rfl (by kernel_rfl) (by kernel_rfl) (by kernel_rfl) (fun _ _ _ h => h) (Or.inr ⟨by rfl, rfl⟩) hS ?_
        try simp only [Act.put, nz0, nz1, nz2, nz3, nz4, nz5]
        refine wpAnyH_take (i := 12) (v := undef) rfl (by kernel_rfl) (by kernel_rfl) (by kernel_rfl) (fun _ _ _ h => h) (Or.inr ⟨by rfl, rfl⟩) hS ?_
        try simp only [Act.put, nz0, nz1, nz2, nz3, nz4, nz5]
        refine wpAnyH_take (i := 13) (v := undef) rfl (by kernel_rfl) (by kernel_rfl) (by kernel_rfl) (fun _ _ _ h => h) (Or.inr ⟨by rfl, rfl⟩) hS ?_
        try simp only [Act.put, nz0, nz1, nz2, nz3, nz4, nz5]
        refine wpAnyH_take (i := 14) (v := undef) rfl (by kernel_rfl) (by kernel_rfl) (by kernel_rfl) (fun _ _ _ h => h) (Or.inr ⟨by rfl, rfl⟩) hS ?_
        try simp only [Act.put, nz0, nz1, nz2, nz3, nz4, nz5]
        refine wpAnyH_take (i := 15) (v := .bool true) rfl (by kernel_rfl) (by kernel_rfl) (by kernel_rfl) (fun _ _ _ h => h) (Or.inl ⟨by rfl, fun w _ => by go_simp⟩) hS ?_
        try simp only [Act.put, nz0, nz1, nz2, nz3, nz4, nz5]
        refine wpAnyH_take (i := 16) (v := .bool true) rfl (by kernel_rfl) (by kernel_rfl) (by kernel_rfl) (fun _ _ _ h => h) (Or.inl ⟨by rfl, fun w _ => by go_simp⟩) hS ?_
        try simp only [Act.put, nz0, nz1, nz2, nz3, nz4, nz5]
        refine wpAnyH_take (i := 17) (v := undef) rfl (by kernel_rfl) (by kernel_rfl) (by kernel_rfl) (fun _ _ _ h => h) (Or.inr ⟨by rfl, rfl⟩) hS ?_
        try simp only [Act.put, nz0, nz1, nz2, nz3, nz4, nz5]
        refine wpAnyH_take (i := 18) (v := undef) rfl (by kernel_rfl) (by kernel_rfl) (by kernel_rfl) (fun _ _ _ h => h) (Or.inr ⟨by rfl, rfl⟩) hS ?_
        try simp only [Act.put, nz0, nz1, nz2, nz3, nz4, nz5]
        refine wpAnyH_take (i := 19) (v := undef) rfl (by kernel_rfl) (by kernel_rfl) (by kernel_rfl) (fun _ _ _ h => h) (Or.inr ⟨by rfl, rfl⟩) hS ?_
        try simp only [Act.put, nz0, nz1, nz2, nz3, nz4, nz5]
        refine wpAnyH_take (i := 20) (v := undef) rfl (by kernel_rfl) (by kernel_rfl) (by kernel_rfl) (fun _ _ _ h => h) (Or.inr ⟨by rfl, rfl⟩) hS ?_
        try simp only [Act.put, nz0, nz1, nz2, nz3, nz4, nz5]
        refine wpAnyH_take (i := 21) (v := undef) rfl (by kernel_rfl) (by kernel_rfl) (by kernel_rfl) (fun _ _ _ h => h) (Or.inr ⟨by rfl, rfl⟩) hS ?_
        try simp only [Act.put, nz0, nz1, nz2, nz3, nz4, nz5]
        refine wpAnyH_take (i := 22) (v := undef) rfl (by kernel_rfl) (by kernel_rfl) (by kernel_rfl) (fun _ _ _ h => h) (Or.inr ⟨by rfl, rfl⟩) hS ?_
        try simp only [Act.put, nz0, nz1, nz2, nz3, nz4, nz5]
        refine wpAnyH_take (i := 23) (v := undef) rfl (by kernel_rfl) (by kernel_rfl) (by kernel_rfl) (fun _ _ _ h => h) (Or.inr ⟨by rfl, rfl⟩) hS ?_
        try simp only [Act.put, nz0, nz1, nz2, nz3, nz4, nz5]
        refine wpAnyH_take (i := 24) (v := undef) rfl (by kernel_rfl) (by kernel_rfl) (by kernel_rfl) (fun _ _ _ h => h) (Or.inr ⟨by rfl, rfl⟩) hS ?_
        try simp only [Act.put, nz0, nz1, nz2, nz3, nz4, nz5]
        refine wpAnyH_take (i := 25) (v := undef) rfl (by kernel_rfl) (by kernel_rfl) (by kernel_rfl) (fun _ _ _ h => h) (Or.inr ⟨by rfl, rfl⟩) hS ?_
        try simp only [Act.put, nz0, nz1, nz2, nz3, nz4, nz5]
        refine wpAnyH_take (i := 26) (v := undef) rfl (by kernel_rfl) (by kernel_rfl) (by kernel_rfl) (fun _ _ _ h => h) (Or.inr ⟨by rfl, rfl⟩) hS ?_
        try simp only [Act.put, nz0, nz1, nz2, nz3, nz4, nz5]
        refine wpAnyH_take (i := 27) (v := undef) rfl (by kernel_rfl) (by kernel_rfl) (by kernel_rfl) (fun _ _ _ h => h) (Or.inr ⟨by rfl, rfl⟩) hS ?_
        try simp only [Act.put, nz0, nz1, nz2, nz3, nz4, nz5]
        refine wpAnyH_take (i := 28) (v := undef) rfl (by kernel_rfl) (by kernel_rfl) (by kernel_rfl) (fun _ _ _ h => h) (Or.inr ⟨by rfl, rfl⟩) hS ?_
        try simp only [Act.put, nz0, nz1, nz2, nz3, nz4, nz5]
        refine wpAnyH_take (i := 29) (v := undef) rfl (by kernel_rfl) (by kernel_rfl) (by kernel_rfl) (fun _ _ _ h => h) (Or.inr ⟨by rfl, rfl⟩) hS ?_
        try simp only [Act.put, nz0, nz1, nz2, nz3, nz4, nz5]
        refine wpAnyH_take (i := 30) (v := .bool true) rfl (by kernel_rfl) (by kernel_rfl) (by kernel_rfl) (fun _ _ _ h => h) (Or.inl ⟨by rfl, fun w _ => by go_simp⟩) hS ?_
        try simp only [Act.put, nz0, nz1, nz2, nz3, nz4, nz5]
        refine wpAnyH_done (by kernel_rfl) ?_ _
        go_wp2
        try go_ret
        exact HK2.out _ (qB.trans (hS.2.2.mono qB.size))
    · obtain rfl : n = k := by omega
      have hkn' : ¬ (n : Int) < (n : Int) := by omega
      have hdr : os.drop n = [] := List.drop_of_length_le (by rw [HN.out]; exact Nat.le_refl _)
      have HK : Hid _ := HYES.out (by rw [HF.out, hdr]; rfl) gm wr hgmw ⟨vb, q0, qo, qng, qge, qB⟩
      go_wp2
      try go_ret
      exact HK.out
end Go.Proofs.Ytgnedbagelhcbaa
namespace Go.Proofs.Ytgnedbagelhcbaa
open Go.ChangeShapes Go.WideShapes Go.ChangeAt Go.RowKit
set_option linter.unusedVariables false
set_option linter.unusedSimpArgs false
set_option maxRecDepth 20000
structure LRel (l : Lg) (m : RLg) : Prop where
  at_ : m.at_ = l.at_
  sz : m.size = l.size
  ep : m.ep = l.ep
  la : m.lasting = l.last.length
  le : m.lasting ≤ m.blocks.length
  off : (m.blocks.take m.lasting).map (·.off) = l.last
  sld : m.blocks.drop m.lasting = l.sealed
  op : m.open_ = l.open_
  fin : m.fin = l.fin
  dur : m.dur = l.dur
  old : m.old = !l.fresh
  next : l.next = IntKind.u32.wrap (m.first + m.blocks.length)
  first : 0 ≤ m.first ∧ m.first ≤ 4294967295
theorem LRel.len {l : Lg} {m : RLg} (h : LRel l m) : m.blocks.length = l.last.length + l.sealed.length := by
  have := congrArg List.length h.sld
  rw [List.length_drop] at this
  have h1 := h.la
  have h2 := h.le
  omega
theorem LRel.seal {l : Lg} {m : RLg} (h : LRel l m) (n : Nat) : LRel (l.seal n) (m.cut n) := by
  refine ⟨h.at_, h.sz, h.ep, h.la, ?_, ?_, ?_, ?_, h.fin, h.dur, h.old, ?_, h.first⟩
  · show m.lasting ≤ (m.blocks ++ [_]).length
    rw [List.length_append]; have := h.le; omega
  · show ((m.blocks ++ [_]).take m.lasting).map (fun x : Ck.O => x.off) = l.last
    rw [List.take_append_of_le_length h.le]; exact h.off
  · show (m.blocks ++ [_]).drop m.lasting = l.sealed ++ [_]
    rw [List.drop_append_of_le_length h.le, h.sld, h.ep, h.next, h.fin, h.op]
  · show m.open_.extract n m.open_.size = l.open_.extract n l.open_.size
    rw [h.op]
  · show IntKind.u32.wrap (l.next + 1) = IntKind.u32.wrap (m.first + (((m.blocks ++ [_]).length : Nat) : Int))
    rw [h.next, List.length_append, IntKind.wrap_u32, IntKind.wrap_u32, IntKind.wrap_u32]
    simp only [List.length_singleton]
    push_cast
    omega
theorem LRel.sealN {l : Lg} {m : RLg} (h : LRel l m) : ∀ k, LRel (l.sealN k) (m.cutN k)
  | 0 => h
  | k + 1 => (h.sealN k).seal 214
theorem LRel.more {l : Lg} {m : RLg} (h : LRel l m) (F : ByteArray) : LRel (l.more F) (m.more F) :=
  ⟨h.at_, h.sz, h.ep, h.la, h.le, h.off, h.sld, by show m.open_ ++ F = l.open_ ++ F; rw [h.op], by show m.fin + _ = l.fin + _; rw [h.fin], h.dur, h.old, h.next, h.first⟩
theorem LRel.full {l : Lg} {m : RLg} (h : LRel l m) (F : ByteArray) : fullM m F = fullA l F := by
  unfold fullM fullA
  have e : ((l.last.length + l.sealed.length : Nat) : Int) = (l.last.length : Int) + l.sealed.length := by omega
  rw [h.sz, h.op, h.len, e]
theorem LRel.app {l : Lg} {m : RLg} (h : LRel l m) (s : ByteArray) : appEM m s = appE l s ∧ appAM m s = appA l s ∧ LRel (appL l s) (appLM m s) := by
  unfold appEM appE appAM appA appLM appL okA
  rw [h.full (frS s), h.fin]
  cases hk : okF s with
  | false => simp; exact h
  | true =>
    cases hf : fullA l (frS s) with
    | true => simp; exact h
    | false =>
      simp
      unfold Lg.app RLg.app
      rw [h.op]
      exact (h.more (frS s)).sealN _
theorem LRel.closed {l : Lg} {m : RLg} (h : LRel l m) : LRel l.closed m.closed := by
  unfold Lg.closed RLg.closed
  rw [h.op]
  by_cases h0 : l.open_.size = 0
  · rw [if_pos h0, if_pos h0]; exact h
  · rw [if_neg h0, if_neg h0]; exact h.seal _
theorem rel_wrS {a z : Int} : ∀ (cs : List Ck.O) {d : Dsk} {R : RD}, Rel d R → (rwrS a z cs R).1 = (wrS a z cs d).1 ∧ Rel (wrS a z cs d).2 (rwrS a z cs R).2
  | [], d, R, h => ⟨rfl, h⟩
  | c :: cs, d, R, h => by
    obtain ⟨h1, h2⟩ := rel_write h (placeV a z c.num) (blkC c)
    rw [rwrS_cons, wrS_cons, h1]
    by_cases h0 : (writ d (placeV a z c.num) (blkC c)).1 = 0
    · rw [if_pos h0, if_pos h0]; exact rel_wrS cs h2
    · rw [if_neg h0, if_neg h0]; exact ⟨h1, h2⟩
theorem rel_lay {a z : Int} (cs : List Ck.O) {d : Dsk} {R : RD} (h : Rel d R) : (rlayR a z cs R).1 = (layR a z cs d).1 ∧ Rel (layR a z cs d).2 (rlayR a z cs R).2 := by
  unfold rlayR layR
  by_cases hc : cs = []
  · rw [if_pos hc, if_pos hc]; exact ⟨rfl, h⟩
  · rw [if_neg hc, if_neg hc]
    obtain ⟨h1, h2⟩ := rel_wrS (a := a) (z := z) cs h
    rw [h1]
    by_cases h0 : (wrS a z cs d).1 = 0
    · rw [if_pos h0, if_pos h0]; exact rel_sync h2
    · rw [if_neg h0, if_neg h0]; exact ⟨h1, h2⟩
theorem take_all (cs : List Ck.O) (f : Nat) : (cs.drop f).take (cs.length - f) = cs.drop f := List.take_of_length_le (by rw [List.length_drop]; omega)
theorem rel_rest {c : Lg} {x : RLg} (h : LRel c x) {d : Dsk} {R : RD} (hr : Rel d R) (k : Nat) (hk : k ≤ c.sealed.length) :
    (rrestR x (x.lasting + k) R).1 = (restR c k d).1 ∧ LRel (restR c k d).2.1 (rrestR x (x.lasting + k) R).2.1 ∧ Rel (restR c k d).2.2 (rrestR x (x.lasting + k) R).2.2 := by
  have hd : (x.blocks.drop (x.lasting + k)).take (x.blocks.length - (x.lasting + k)) = c.sealed.drop k := by
    rw [take_all, ← List.drop_drop, h.sld]
  have e1 : rlayR x.at_ x.size ((x.blocks.drop (x.lasting + k)).take (x.blocks.length - (x.lasting + k))) R = rlayR c.at_ c.size (c.sealed.drop k) R := by rw [hd, h.at_, h.sz]
  unfold rrestR restR
  rw [e1]
  obtain ⟨h1, h2⟩ := rel_lay (a := c.at_) (z := c.size) (c.sealed.drop k) hr
  rw [h1]
  by_cases h0 : (layR c.at_ c.size (c.sealed.drop k) d).1 = 0
  · rw [if_pos h0, if_pos h0]
    refine ⟨rfl, ⟨h.at_, h.sz, h.ep, ?_, Nat.le_refl _, ?_, ?_, h.op, h.fin, h.fin, h.old, h.next, h.first⟩, h2⟩
    · show x.blocks.length = (c.last ++ c.sealed.map (·.off)).length
      rw [List.length_append, List.length_map]; exact h.len
    · show (x.blocks.take x.blocks.length).map (·.off) = c.last ++ c.sealed.map (·.off)
      rw [List.take_length, ← h.off, ← h.sld, ← List.map_append, List.take_append_drop]
    · show x.blocks.drop x.blocks.length = []
      rw [List.drop_length]
  · rw [if_neg h0, if_neg h0]; exact ⟨rfl, h, h2⟩
theorem rel_flush {l : Lg} {m : RLg} (h : LRel l m) {d : Dsk} {R : RD} (hr : Rel d R) (hdf : l.sealed = [] → l.open_.size = 0 → l.dur = l.fin) :
    (rflushR m R).1 = (flushR l d).1 ∧ LRel (flushR l d).2.1 (rflushR m R).2.1 ∧ Rel (flushR l d).2.2 (rflushR m R).2.2 := by
  have hc := h.closed
  unfold rflushR flushR
  have hdc : l.closed.sealed = [] → l.closed.dur = l.closed.fin := fun q => by
    unfold Lg.closed at q ⊢
    by_cases h0 : l.open_.size = 0
    · rw [if_pos h0] at q ⊢; exact hdf q h0
    · rw [if_neg h0] at q
      have : l.sealed ++ [_] = [] := q
      simp at this
  generalize l.closed = c at hc hdc
  generalize m.closed = x at hc
  unfold rflushC flushC
  by_cases hs : c.sealed = []
  · have hl : x.lasting = x.blocks.length := by have := hc.len; have := hc.la; rw [hs] at *; simp at *; omega
    rw [if_pos hl, if_neg (by rw [hs]; simp)]
    have e : restR c 0 d = (0, c.flushed, d) := by
      unfold restR
      have e0 : layR c.at_ c.size (c.sealed.drop 0) d = (0, d) := by unfold layR; rw [if_pos (by rw [hs]; rfl)]
      rw [e0]; rfl
    rw [e]
    refine ⟨rfl, ⟨hc.at_, hc.sz, hc.ep, ?_, hc.le, ?_, ?_, hc.op, hc.fin, ?_, hc.old, hc.next, hc.first⟩, hr⟩
    · show x.lasting = (c.last ++ c.sealed.map (·.off)).length
      rw [hs, List.map_nil, List.append_nil]; exact hc.la
    · show _ = c.last ++ c.sealed.map (·.off)
      rw [hs, List.map_nil, List.append_nil]; exact hc.off
    · show x.blocks.drop x.lasting = []
      rw [hc.sld, hs]
    · show x.dur = c.fin
      rw [hc.dur, hdc hs]
  · have hpos : 1 ≤ c.sealed.length := by cases hq : c.sealed with | nil => exact absurd hq hs | cons a r => simp
    have hl : ¬ x.lasting = x.blocks.length := by have := hc.len; have := hc.la; omega
    rw [if_neg hl]
    cases hf : c.fresh with
    | false =>
      have ho : x.old = true := by rw [hc.old, hf]; rfl
      rw [if_pos ho, if_neg (by simp)]
      have := rel_rest hc hr 0 (Nat.zero_le _)
      rw [Nat.add_zero] at this; exact this
    | true =>
      have ho : ¬ x.old = true := by rw [hc.old, hf]; decide
      rw [if_neg ho]
      rw [if_pos (show true = true ∧ c.sealed ≠ [] from ⟨rfl, hs⟩)]
      have hd : (x.blocks.drop x.lasting).take (x.lasting + 1 - x.lasting) = c.sealed.take 1 := by
        rw [hc.sld, show x.lasting + 1 - x.lasting = 1 by omega]
      have e1 : rlayR x.at_ x.size ((x.blocks.drop x.lasting).take (x.lasting + 1 - x.lasting)) R = rlayR c.at_ c.size (c.sealed.take 1) R := by rw [hd, hc.at_, hc.sz]
      rw [e1]
      obtain ⟨h1, h2⟩ := rel_lay (a := c.at_) (z := c.size) (c.sealed.take 1) hr
      rw [h1]
      by_cases h0 : (layR c.at_ c.size (c.sealed.take 1) d).1 = 0
      · rw [if_pos h0, if_pos h0]
        have hx : LRel { c with fresh := false } { x with old := true } := ⟨hc.at_, hc.sz, hc.ep, hc.la, hc.le, hc.off, hc.sld, hc.op, hc.fin, hc.dur, rfl, hc.next, hc.first⟩
        have := rel_rest hx h2 1 hpos
        exact this
      · rw [if_neg h0, if_neg h0]; exact ⟨rfl, hc, h2⟩
theorem LRel.free {l : Lg} {m : RLg} (h : LRel l m) (hop : l.open_.size < 214) : l.size - ((l.last.length : Int) + l.sealed.length) - wantN l.open_.size = freeM m := by
  unfold freeM wantN
  rw [h.op, h.sz, h.len]
  by_cases h0 : l.open_.size = 0
  · rw [if_pos h0, h0]; push_cast; omega
  · rw [if_neg h0]; push_cast; omega
theorem LRel.tail {l : Lg} {m : RLg} (h : LRel l m) : IntKind.u32.wrap (l.next - ((l.last.length : Int) + l.sealed.length)) = m.first := by
  have := h.first
  rw [h.next, h.len, IntKind.wrap_u32, IntKind.wrap_u32]; push_cast; omega
theorem LRel.spent {l : Lg} {m : RLg} (h : LRel l m) (lsn : Int) : spentM m lsn = spentL l.dur lsn l.last := by unfold spentM; rw [h.off, h.dur]
theorem LRel.from {l : Lg} {m : RLg} (h : LRel l m) (lsn : Int) : fromV l lsn = fromM m lsn := by unfold fromV fromM; rw [h.tail, h.spent lsn]
theorem LRel.trim {l : Lg} {m : RLg} (h : LRel l m) (lsn : Int) : LRel (l.trim lsn) (m.trim lsn) := by
  have hs := spentL_le l.dur lsn l.last
  have hla := h.la
  have hle := h.le
  unfold Lg.trim RLg.trim
  rw [h.spent lsn]
  generalize spentL l.dur lsn l.last = sp at hs
  refine ⟨h.at_, h.sz, h.ep, ?_, ?_, ?_, ?_, h.op, h.fin, h.dur, h.old, ?_, ?_⟩
  · show m.lasting - sp = (l.last.drop sp).length
    rw [List.length_drop]; omega
  · show m.lasting - sp ≤ (m.blocks.drop sp).length
    rw [List.length_drop]; omega
  · show ((m.blocks.drop sp).take (m.lasting - sp)).map (·.off) = l.last.drop sp
    rw [← h.off, ← List.map_drop, List.drop_take]
  · show (m.blocks.drop sp).drop (m.lasting - sp) = l.sealed
    rw [List.drop_drop, show sp + (m.lasting - sp) = m.lasting by omega]; exact h.sld
  · show l.next = IntKind.u32.wrap (IntKind.u32.wrap (m.first + (sp : Int)) + (((m.blocks.drop sp).length : Nat) : Int))
    rw [h.next, List.length_drop, IntKind.wrap_u32, IntKind.wrap_u32, IntKind.wrap_u32]
    have : ((m.blocks.length - sp : Nat) : Int) = (m.blocks.length : Int) - sp := by omega
    rw [this]; omega
  · show 0 ≤ IntKind.u32.wrap (m.first + (sp : Int)) ∧ IntKind.u32.wrap (m.first + (sp : Int)) ≤ _
    rw [IntKind.wrap_u32]; omega
theorem LRel.new (a z ep num fin : Int) (os : List St.O) (hn : 0 ≤ num ∧ num ≤ 4294967295) : LRel ⟨a, z, ep, os.map (·.off), [], ByteArray.empty, num, true, fin, fin⟩ ⟨a, z, ep, IntKind.u32.wrap (num - os.length), (os.take os.length).map toC, os.length, ByteArray.empty, fin, fin, false⟩ := by
  rw [List.take_length]
  refine ⟨rfl, rfl, rfl, by simp, by simp, ?_, ?_, rfl, rfl, rfl, rfl, ?_, ?_⟩
  · show ((os.map toC).take os.length).map (·.off) = os.map (·.off)
    rw [List.take_of_length_le (by simp), List.map_map]; rfl
  · show (os.map toC).drop os.length = []
    rw [List.drop_of_length_le (by simp)]
  · show num = IntKind.u32.wrap (IntKind.u32.wrap (num - os.length) + (((os.map toC).length : Nat) : Int))
    rw [List.length_map, IntKind.wrap_u32, IntKind.wrap_u32]; omega
  · show 0 ≤ IntKind.u32.wrap (num - os.length) ∧ IntKind.u32.wrap (num - os.length) ≤ _
    rw [IntKind.wrap_u32]; omega
end Go.Proofs.Ytgnedbagelhcbaa
namespace Go.Proofs.Ytgnedbagelhcbaa
open Go.ChangeShapes Go.WideShapes Go.ChangeAt Go.RowKit
set_option linter.unusedVariables false
set_option linter.unusedSimpArgs false
set_option maxRecDepth 20000
structure PI (l : Lg) (k : Nat) : Prop where
  inv : l.Inv
  df : l.sealed = [] → l.open_.size = 0 → l.dur = l.fin
  fin : l.fin ≤ 4611686018427387904 + 406 * k
theorem PI.mono {l : Lg} {k n : Nat} (h : PI l k) (hn : k ≤ n) : PI l n := ⟨h.inv, h.df, by have := h.fin; omega⟩
theorem chunk_ok {l : Lg} (N : Nat) (hN : 1 ≤ N ∧ N ≤ 214) (ho : N ≤ l.open_.size) (he : 0 ≤ l.ep ∧ l.ep ≤ 4294967295) (hx : 0 ≤ l.next ∧ l.next ≤ 4294967295) (hf : (l.open_.size : Int) ≤ l.fin ∧ l.fin ≤ 18446744073709551615) : Ck.O.Ok ⟨l.ep, l.next, l.fin - l.open_.size, l.open_.extract 0 N⟩ := by
  refine ⟨he, hx, ?_, ?_⟩
  · show 0 ≤ l.fin - l.open_.size ∧ l.fin - l.open_.size ≤ _; omega
  · show okC (l.open_.extract 0 N) = true
    unfold okC
    rw [ByteArray.size_extract]
    exact decide_eq_true (by omega)
theorem sealN_ok {l : Lg} (h : ∀ c ∈ l.sealed, c.Ok) (he : 0 ≤ l.ep ∧ l.ep ≤ 4294967295) (hx : 0 ≤ l.next ∧ l.next ≤ 4294967295) (hf : (l.open_.size : Int) ≤ l.fin ∧ l.fin ≤ 18446744073709551615) : ∀ k, k * 214 ≤ l.open_.size → ∀ c ∈ (l.sealN k).sealed, c.Ok
  | 0, _ => h
  | k + 1, hk => fun c hc => by
    have ih := sealN_ok h he hx hf k (by omega)
    have ho := sealN_open l k (by omega)
    have hc2 : c ∈ (l.sealN k).sealed ++ [_] := hc
    rcases List.mem_append.1 hc2 with q | q
    · exact ih c q
    · obtain rfl := List.mem_singleton.1 q
      exact chunk_ok (l := l.sealN k) 214 (by omega) (by omega) (by rw [sealN_ep]; exact he) (sealN_next l hx k) (by rw [sealN_fin]; omega)
theorem PI.app {l : Lg} {k : Nat} (h : PI l k) (hk : k ≤ 1000) (s : ByteArray) : PI (appL l s) (k + 1) := by
  cases hka : okA l s with
  | false =>
    have : appL l s = l := by unfold appL; rw [hka]; rfl
    rw [this]; exact h.mono (by omega)
  | true =>
    have hs : okF s = true := by unfold okA at hka; simp at hka; exact hka.1
    have hf : fullA l (frS s) = false := by unfold okA at hka; simp at hka; exact hka.2
    have hF := frS_size hs
    have he : appL l s = l.app (frS s) := by unfold appL; rw [if_pos hka]
    have hop := h.inv.op
    have hfi := h.inv.fin
    have hfb := h.fin
    have hfu : ¬ l.size < (l.last.length : Int) + l.sealed.length + wantN ((l.open_.size : Int) + (frS s).size) := by
      unfold fullA at hf; exact of_decide_eq_false hf
    have hlast : (l.app (frS s)).last = l.last := sealN_last _ _
    have hsz : (l.open_ ++ frS s).size = l.open_.size + (frS s).size := ByteArray.size_append
    have hopen : (l.app (frS s)).open_.size = (l.open_.size + (frS s).size) - (l.open_.size + (frS s).size) / 214 * 214 := by
      unfold Lg.app
      rw [sealN_open _ _ (by show _ ≤ (l.open_ ++ frS s).size; omega)]
      show (l.open_ ++ frS s).size - _ = _
      rw [hsz]
    have hsl : (l.app (frS s)).sealed.length = l.sealed.length + (l.open_.size + (frS s).size) / 214 := by
      unfold Lg.app
      rw [sealN_len, hsz]; rfl
    have hfin : (l.app (frS s)).fin = l.fin + (frS s).size := by unfold Lg.app; rw [sealN_fin]; rfl
    have hat : (l.app (frS s)).at_ = l.at_ := by unfold Lg.app; rw [sealN_at]; rfl
    have hz : (l.app (frS s)).size = l.size := by unfold Lg.app; rw [sealN_size]; rfl
    have hep : (l.app (frS s)).ep = l.ep := by unfold Lg.app; rw [sealN_ep]; rfl
    rw [he]
    refine ⟨⟨by rw [hat]; exact h.inv.at_, by rw [hz]; exact h.inv.size, by rw [hep]; exact h.inv.ep, sealN_next (l.more (frS s)) h.inv.next _, by rw [hopen]; omega, by rw [hopen, hfin]; omega, ?_, ?_⟩, fun q1 q2 => ?_, by rw [hfin]; omega⟩
    · exact sealN_ok (l := l.more (frS s)) h.inv.ok h.inv.ep h.inv.next (by show (((l.open_ ++ frS s).size : Nat) : Int) ≤ l.fin + (frS s).size ∧ l.fin + (frS s).size ≤ _; rw [hsz]; omega) _ (by show _ ≤ (l.open_ ++ frS s).size; omega)
    · rw [hlast, hsl, hz, hopen]
      unfold wantN at hfu ⊢
      omega
    · rw [hopen] at q2
      have h1 : (l.app (frS s)).sealed.length = 0 := by rw [q1]; rfl
      rw [hsl] at h1
      omega
theorem PI.closedF {l : Lg} {k : Nat} (h : PI l k) (hk : k ≤ 1000) (b : Bool) : ({ l.closed with fresh := b } : Lg).Inv ∧ l.closed.fin = l.fin ∧ l.closed.open_.size = 0 ∧ (l.closed.sealed = [] → l.closed.dur = l.fin) := by
  have hfb := h.fin
  have hok := closed_ok h.inv (by omega)
  obtain ⟨k1, k2, k3, k4, k5, k6⟩ := closed_at l
  have hlen := closed_len h.inv
  have hrm := h.inv.room
  have ho : l.closed.open_.size = 0 := by
    unfold Lg.closed
    split
    · assumption
    · show (l.open_.extract l.open_.size l.open_.size).size = 0
      rw [ByteArray.size_extract]; omega
  have hnx : 0 ≤ l.closed.next ∧ l.closed.next ≤ 4294967295 := by
    unfold Lg.closed
    split
    · exact h.inv.next
    · exact wrap32 _
  have hroom : (l.closed.last.length : Int) + l.closed.sealed.length ≤ l.size := by
    rw [k3]
    by_cases h0 : l.open_.size = 0
    · have : l.closed = l := by unfold Lg.closed; rw [if_pos h0]
      rw [this]
      have h3 : 0 ≤ wantN l.open_.size := by unfold wantN; omega
      omega
    · have h4 : 1 ≤ wantN l.open_.size := by unfold wantN; omega
      omega
  refine ⟨⟨by show 0 ≤ l.closed.at_ ∧ _; rw [k1]; exact h.inv.at_, by show 1 ≤ l.closed.size ∧ _; rw [k2]; exact h.inv.size, by show 0 ≤ l.closed.ep ∧ _; rw [k4]; exact h.inv.ep, hnx, by show l.closed.open_.size < 214; omega, by show (l.closed.open_.size : Int) ≤ l.closed.fin; rw [ho, k5]; have := h.inv.fin; omega, hok, ?_⟩, k5, ho, fun q => ?_⟩
  · show (l.closed.last.length : Int) + l.closed.sealed.length + wantN (l.closed.open_.size : Int) ≤ l.closed.size
    rw [ho, k2]
    unfold wantN; omega
  · by_cases h0 : l.open_.size = 0
    · have : l.closed = l := by unfold Lg.closed; rw [if_pos h0]
      rw [this] at q ⊢
      exact h.df q h0
    · unfold Lg.closed at q
      rw [if_neg h0] at q
      have : l.sealed ++ [_] = [] := q
      simp at this
theorem PI.flush {l : Lg} {k : Nat} (h : PI l k) (hk : k ≤ 1000) (d : Dsk) : PI (flushR l d).2.1 (k + 1) := by
  have hrest : ∀ (b : Bool) (f : Nat) (e : Dsk), (l.closed.sealed ≠ [] ∨ f = 0) → PI (restR { l.closed with fresh := b } f e).2.1 (k + 1) := fun b f e hne => by
    obtain ⟨h1, h2, h3, h4⟩ := h.closedF hk b
    have hfb := h.fin
    unfold restR
    by_cases h0 : (layR ({ l.closed with fresh := b } : Lg).at_ ({ l.closed with fresh := b } : Lg).size (({ l.closed with fresh := b } : Lg).sealed.drop f) e).1 = 0
    · rw [if_pos h0]
      refine ⟨⟨h1.at_, h1.size, h1.ep, h1.next, h1.op, h1.fin, (fun c hc => by cases hc), ?_⟩, fun _ _ => rfl, by show l.closed.fin ≤ _; rw [h2]; omega⟩
      have := h1.room
      show ((l.closed.last ++ l.closed.sealed.map (·.off)).length : Int) + ((0 : Nat) : Int) + wantN (l.closed.open_.size : Int) ≤ l.closed.size
      have e1 : ((l.closed.last ++ l.closed.sealed.map (·.off)).length : Int) = (l.closed.last.length : Int) + l.closed.sealed.length := by rw [List.length_append, List.length_map]; push_cast; rfl
      have e2 : (l.closed.last.length : Int) + l.closed.sealed.length + wantN (l.closed.open_.size : Int) ≤ l.closed.size := this
      rw [e1]; omega
    · rw [if_neg h0]
      refine ⟨h1, fun q _ => ?_, by show l.closed.fin ≤ _; rw [h2]; omega⟩
      show l.closed.dur = l.closed.fin
      rw [h2]; exact h4 q
  have hself : ∀ b : Bool, PI { l.closed with fresh := b } (k + 1) := fun b => by
    obtain ⟨h1, h2, h3, h4⟩ := h.closedF hk b
    have hfb := h.fin
    exact ⟨h1, fun q _ => by show l.closed.dur = l.closed.fin; rw [h2]; exact h4 q, by show l.closed.fin ≤ _; rw [h2]; omega⟩
  unfold flushR flushC
  by_cases hc : l.closed.fresh = true ∧ l.closed.sealed ≠ []
  · rw [if_pos hc]
    by_cases h0 : (layR l.closed.at_ l.closed.size (l.closed.sealed.take 1) d).1 = 0
    · rw [if_pos h0]; exact hrest false 1 _ (Or.inl hc.2)
    · rw [if_neg h0]; exact hself l.closed.fresh
  · rw [if_neg hc]; exact hrest l.closed.fresh 0 d (Or.inr rfl)
theorem PI.trim {l : Lg} {k : Nat} (h : PI l k) (lsn : Int) : PI (l.trim lsn) (k + 1) := by
  have := h.fin
  have hr := h.inv.room
  refine ⟨⟨h.inv.at_, h.inv.size, h.inv.ep, h.inv.next, h.inv.op, h.inv.fin, h.inv.ok, ?_⟩, h.df, by show l.fin ≤ _; omega⟩
  show ((l.last.drop (spentL l.dur lsn l.last)).length : Int) + l.sealed.length + wantN l.open_.size ≤ l.size
  rw [List.length_drop]; omega
theorem PI.new {z ep num fin : Int} {offs : List Int} (hz : 1 ≤ z ∧ z ≤ 700) (hep : 0 ≤ ep ∧ ep ≤ 4294967295) (hn : 0 ≤ num ∧ num ≤ 4294967295) (hf : 0 ≤ fin ∧ fin ≤ 4611686018427387904) (ho : (offs.length : Int) ≤ z) : PI ⟨3, z, ep, offs, [], ByteArray.empty, num, true, fin, fin⟩ 0 := by
  refine ⟨⟨by show (0 : Int) ≤ 3 ∧ (3 : Int) ≤ _; omega, hz, hep, hn, by show (0 : Nat) < 214; omega, by show ((0 : Nat) : Int) ≤ fin; omega, (fun c hc => by cases hc), ?_⟩, fun _ _ => rfl, by show fin ≤ _; omega⟩
  show (offs.length : Int) + ((0 : Nat) : Int) + wantN ((0 : Nat) : Int) ≤ z
  unfold wantN; omega
theorem LRel.rinv {l : Lg} {m : RLg} {k : Nat} (h : LRel l m) (hp : PI l k) (hk : k ≤ 1000) : RInv m.closed := by
  have hc := h.closed
  obtain ⟨h1, h2, h3, h4⟩ := hp.closedF hk l.closed.fresh
  have hr := h1.room
  have hsz := h1.size
  have hw : 0 ≤ wantN ((0 : Nat) : Int) := by unfold wantN; omega
  have hr2 : (l.closed.last.length : Int) + l.closed.sealed.length + wantN (l.closed.open_.size : Int) ≤ l.closed.size := hr
  have hs2 : 1 ≤ l.closed.size ∧ l.closed.size ≤ 700 := hsz
  rw [h3] at hr2
  have hlen := hc.len
  refine ⟨by omega, hc.le, by rw [hc.sld]; exact h1.ok, by rw [hc.at_]; exact h1.at_, by rw [hc.sz]; omega⟩
def BS (w wr : World) (gl gd gm r : Nat) (l : Lg) (d : Dsk) (M : Nat) (m : RLg) (R : RD) (N : Nat) : Prop :=
  ∃ vl vs L vb v1 v2 v3, LD wr gl gd vl vs L l d M ∧ RLD wr gm r vb v1 v2 v3 m R N ∧ Below w.heap.size w wr ∧ (∀ j, lfoot gl gd vl vs L j → w.heap.size ≤ j) ∧ (∀ j, rlfoot gm r vb v1 v2 v3 j → w.heap.size ≤ j) ∧ (∀ j, lfoot gl gd vl vs L j → ¬ rlfoot gm r vb v1 v2 v3 j)
theorem BS.b {w wr : World} {gl gd gm r : Nat} {l : Lg} {d : Dsk} {M : Nat} {m : RLg} {R : RD} {N : Nat} (h : BS w wr gl gd gm r l d M m R N) : Below w.heap.size w wr := by obtain ⟨_, _, _, _, _, _, _, _, _, k, _⟩ := h; exact k
theorem BS.below {w wr : World} {gl gd gm r : Nat} {l : Lg} {d : Dsk} {M : Nat} {m : RLg} {R : RD} {N : Nat} {w' : World} (h : BS w wr gl gd gm r l d M m R N) (b : Below wr.heap.size wr w') : BS w w' gl gd gm r l d M m R N := by
  obtain ⟨vl, vs, L, vb, v1, v2, v3, h1, h2, h3, h4, h5, h6⟩ := h
  exact ⟨vl, vs, L, vb, v1, v2, v3, h1.below b, h2.off (Off.of_below (F := fun _ => False) b) (fun _ _ q => q), h3.trans (b.mono h3.size), h4, h5, h6⟩
theorem BS.left {w wr : World} {gl gd gm r : Nat} {l : Lg} {d : Dsk} {M : Nat} {m : RLg} {R : RD} {N : Nat} {l' : Lg} {d' : Dsk} {M' : Nat} {f : Nat} {args : Array Value} {e0 : Ending} (h : BS w wr gl gd gm r l d M m R N)
    (hc : ∀ F, LStep wr gl gd F l d M wr → Calls Try.prog f args wr fun e w' => e = e0 ∧ LStep wr gl gd F l' d' M' w') :
    Calls Try.prog f args wr fun e w' => e = e0 ∧ BS w w' gl gd gm r l' d' M' m R N := by
  obtain ⟨vl, vs, L, vb, v1, v2, v3, h1, h2, h3, h4, h5, h6⟩ := h
  refine (hc _ (LStep.refl h1)).mono ?_
  rintro e w' ⟨he, vl2, vs2, L2, k1, k2, k3⟩
  refine ⟨he, vl2, vs2, L2, vb, v1, v2, v3, k1, h2.off k2 (fun j q q2 => h6 j q2 q), h3.trans (k2.below h3.size h4), fun j q => ?_, h5, fun j q q2 => ?_⟩
  · rcases k3 j q with q3 | q3
    · exact h4 j q3
    · exact Nat.le_trans h3.size q3
  · rcases k3 j q with q3 | q3
    · exact h6 j q3 q2
    · have := h2.lt q2; omega
theorem BS.right {w wr : World} {gl gd gm r : Nat} {l : Lg} {d : Dsk} {M : Nat} {m : RLg} {R : RD} {N : Nat} {m' : RLg} {R' : RD} {N' : Nat} {f : Nat} {args : Array Value} {e0 : Ending} (h : BS w wr gl gd gm r l d M m R N)
    (hc : ∀ F, RLS wr gm r F m R N wr → Calls Try.prog f args wr fun e w' => e = e0 ∧ RLS wr gm r F m' R' N' w') :
    Calls Try.prog f args wr fun e w' => e = e0 ∧ BS w w' gl gd gm r l d M m' R' N' := by
  obtain ⟨vl, vs, L, vb, v1, v2, v3, h1, h2, h3, h4, h5, h6⟩ := h
  refine (hc (rlfoot gm r vb v1 v2 v3) ⟨vb, v1, v2, v3, h2, Off.refl _ _, fun j q => Or.inl q⟩).mono ?_
  rintro e w' ⟨he, vb2, u1, u2, u3, k1, k2, k3⟩
  refine ⟨he, vl, vs, L, vb2, u1, u2, u3, h1.off k2 (fun j q q2 => h6 j q q2), k1, h3.trans (k2.below h3.size h5), h4, fun j q => ?_, fun j q q2 => ?_⟩
  · rcases k3 j q with q3 | q3
    · exact h5 j q3
    · exact Nat.le_trans h3.size q3
  · rcases k3 j q2 with q3 | q3
    · exact h6 j q q3
    · have := h1.lt q; omega
end Go.Proofs.Ytgnedbagelhcbaa
namespace Go.Proofs.Ytgnedbagelhcbaa
open Go.ChangeShapes Go.WideShapes Go.ChangeAt Go.RowKit
open Go.Deep
set_option linter.unusedVariables false
set_option linter.unusedSimpArgs false
set_option maxRecDepth 20000
theorem RLS.trim {w wr : World} {gm r : Nat} {F : Nat → Prop} {m : RLg} {R : RD} {N : Nat} (h : RLS w gm r F m R N wr) (lsn : Int) (hl : m.blocks.length ≤ 1000) (hla : m.lasting ≤ m.blocks.length) (hfs : 0 ≤ m.first ∧ m.first ≤ 4294967295) :
    Calls Try.prog 20 #[.pointer (some ⟨gm, 0, none⟩), .int .u64 lsn] wr fun e w' => e = .returned (.tuple #[]) ∧ RLS w gm r F (m.trim lsn) R N w' := by
  obtain ⟨vb, vs, vp, vf, h1, h2, h3⟩ := h
  refine (rtrim_any wr gm _ vb m lsn h1.row h1.bl h1.bg hl hla hfs).mono ?_
  rintro e w' ⟨rfl, k⟩
  exact ⟨rfl, RLS.turn h1 h2 h3 k⟩
theorem RLS.plan {w wr : World} {gm r : Nat} {F : Nat → Prop} {m : RLg} {R : RD} {N : Nat} (h : RLS w gm r F m R N wr) (v : Value) (zl : List Int) (hv : Cel wr v (zl.map (.int .i64))) (h63 : zl.length * 8 ≤ 140737488355328) (f : Int) (hf : Wf f) :
    Calls Try.prog 22 #[.pointer (some ⟨r, 0, none⟩), v, .int .i64 f] wr fun e w' => e = .returned (.tuple #[]) ∧ RLS w gm r F m (rplan R zl f) N w' := by
  obtain ⟨vb, vs, vp, vf, h1, h2, h3⟩ := h
  refine (rplan_any h1.dsk v zl hv h63 f hf).mono ?_
  rintro e w' ⟨rfl, vf', k1, k2, k3⟩
  have hr : rfoot r vs vp vf r := Or.inl rfl
  have hnew : ∀ j, rfoot r vs vp vf' j → rfoot r vs vp vf j ∨ wr.heap.size ≤ j := fun j q => by
    rcases q with q | q | q | q
    · exact Or.inl (Or.inl q)
    · exact Or.inl (Or.inr (Or.inl q))
    · exact Or.inl (Or.inr (Or.inr (Or.inl q)))
    · exact Or.inr (k3 j q)
  refine ⟨rfl, vb, vs, vp, vf', ⟨h1.row.off k2 (fun q => h1.ng (by rw [q]; exact hr)), h1.bl.off k2 (fun j q q2 => h1.nb j q (by rw [q2]; exact hr)), k1, h1.bg, fun q => ?_, fun j q q2 => ?_⟩, h2.trans k2 (fun j q => by rw [q]; exact h3 r (Or.inr (Or.inr hr))), fun j q => ?_⟩
  · rcases hnew _ q with q | q
    · exact h1.ng q
    · have := h1.row.lt; omega
  · rcases hnew _ q2 with q3 | q3
    · exact h1.nb j q q3
    · have := h1.bl.lt j q; omega
  · rcases q with q | q | q
    · exact h3 j (Or.inl q)
    · exact h3 j (Or.inr (Or.inl q))
    · rcases hnew _ q with q3 | q3
      · exact h3 j (Or.inr (Or.inr q3))
      · exact Or.inr (Nat.le_trans h2.size q3)
structure PCall where
  kd : Int
  s : ByteArray
  n : Int
  fs : Value
  zl : List Int
def PCall.cells (c : PCall) : List Value := [.int .i64 c.kd, .string c.s, .int .u64 c.n, c.fs]
structure PCall.Ok (w : World) (c : PCall) : Prop where
  kd : Wf c.kd
  s : c.s.size ≤ maxLen
  n : 0 ≤ c.n ∧ c.n ≤ 18446744073709551615
  fs : Cel w c.fs (c.zl.map (.int .i64))
  zw : ∀ z ∈ c.zl, Wf z
  zl : c.zl.length * 8 ≤ 140737488355328
def Script (w : World) (v : Value) (cs : List PCall) : Prop :=
  (v = .slice none 0 0 ∧ cs = []) ∨ ∃ a cap, v = .slice (some a) cs.length cap ∧ cs.length ≤ 140737488355328 ∧ ∀ i, i < cs.length → ∃ c, cs[i]? = some c ∧ c.Ok w ∧ ∀ j u, c.cells[j]? = some u → w.cell? ((a.add (i * 4)).add j) = some u
theorem cells39 : Try.prog.cellsOf 39 = 4 := by kernel_rfl
theorem cells104 : Try.prog.cellsOf 104 = 2 := by kernel_rfl
theorem cells24p : Try.prog.cellsOf 24 = 1 := by kernel_rfl
theorem cells25p : Try.prog.cellsOf 25 = 1 := by kernel_rfl
theorem cells9p : Try.prog.cellsOf 9 = 1 := by kernel_rfl
theorem cells30p : Try.prog.cellsOf 30 = 1 := by kernel_rfl
theorem bytes39 : Try.prog.bytesOf 39 = 56 := by kernel_rfl
section
variable {H : Type} {enc : TypeId × Value → H}
theorem open_start {w : World} {fuel : Nat} {cs : List Value} {x : DataW H × List MemPlace} (h : DataW.trod enc Try.prog w 0 (fun _ => true) true fuel 104 cs = some x) :
    ∃ o : St.O, cs = o.cells ∧ 0 ≤ o.off := by
  cases fuel with
  | zero => simp [DataW.trod] at h
  | succ n =>
    unfold DataW.trod at h
    rw [Try.underlying104] at h
    simp only [cells104] at h
    by_cases hl : cs.length = 2
    · match cs, hl with
      | [c0, c1], _ =>
        simp [List.mapM_cons, cells24p, cells25p] at h
        cases t0 : DataW.trod enc Try.prog w 0 (fun _ => true) true n 24 [c0] with
        | none => simp [t0] at h
        | some x0 =>
        cases t1 : DataW.trod enc Try.prog w 0 (fun _ => true) true n 25 [c1] with
        | none => simp [t0, t1] at h
        | some x1 =>
        obtain ⟨k0, e0, _⟩ := DataW.trod_int Try.underlying24 t0
        obtain ⟨k1, e1, _, u1⟩ := DataW.trod_int Try.underlying25 t1
        simp at e0 e1
        exact ⟨⟨k0, k1⟩, by simp [St.O.cells, e0, e1], (bounds_u64 u1).1⟩
    · simp [hl] at h
theorem open_starts {w : World} {base : Nat} {v : Value} {d : DataW H} {p : List MemPlace} (hv : Value.okWide Try.prog w .any base 23 v) (h : DataW.Trod enc Try.prog w 0 (fun _ => true) true 23 v d p) (hs : (d.weights Try.prog 23).all (· ≤ reachBytes) = true) :
    ∃ os : List St.O, St.Olds w v os ∧ ∀ s ∈ os, 0 ≤ s.off := by
  obtain ⟨fuel, hf⟩ := h
  obtain ⟨av, lv, cv, rfl⟩ := okWide_slice Try.underlying23 hv
  rcases open_slice Try.underlying23 hf with ⟨q, _⟩ | ⟨a, len, cap, m, n, D, Pl, q, _, hle, _, hm, hx, hel⟩
  · exact ⟨[], Or.inl ⟨by simpa [Value.cells] using q, rfl⟩, fun s hs => by cases hs⟩
  · have q' : Value.slice av lv cv = .slice (some a) len cap := by simpa [Value.cells] using q
    rw [q']
    simp only [if_true] at hm
    have hc : ∀ i, ∃ o : St.O, 0 ≤ o.off ∧ (i < len → ∀ j u, o.cells[j]? = some u → w.cell? ((a.add (i * 2)).add j) = some u) := fun i => by
      by_cases hi : i < len
      · obtain ⟨cs', h1, h2⟩ := hel i (by omega)
        rw [cells104] at h1
        obtain ⟨o, rfl, ho⟩ := open_start h2
        obtain ⟨_, hl6, hcell⟩ := World.cells?_some h1
        refine ⟨o, ho, fun _ j u hj => ?_⟩
        have hj6 : j < 2 := by
          have := (List.getElem?_eq_some_iff.1 hj).1
          simpa [St.O.cells] using this
        rw [hcell j hj6]; exact hj
      · exact ⟨⟨0, 0⟩, Int.le_refl _, fun q => absurd q hi⟩
    obtain ⟨f, hf'⟩ := Classical.axiomOfChoice hc
    refine ⟨(List.range len).map f, Or.inr ⟨a, cap, by simp, fun j u hj => ?_⟩, fun s hs => by obtain ⟨i, _, rfl⟩ := List.mem_map.1 hs; exact (hf' i).1⟩
    rw [St.flat_get] at hj
    cases hq : ((List.range len).map f)[j / 2]? with
    | none => rw [hq] at hj; simp at hj
    | some o =>
      rw [hq] at hj
      have hlt : j / 2 < len := by have := (List.getElem?_eq_some_iff.1 hq).1; simpa using this
      have ho : f (j / 2) = o := by
        rw [List.getElem?_map, List.getElem?_range hlt] at hq
        simpa using hq
      have := (hf' (j / 2)).2 hlt (j % 2) u (by rw [ho]; exact hj)
      rw [St.add_add, show j / 2 * 2 + j % 2 = j by omega] at this
      exact this
theorem open_call {w : World} {fuel : Nat} {cs : List Value} {x : DataW H × List MemPlace} (h : DataW.trod enc Try.prog w 0 (fun _ => true) true fuel 39 cs = some x) (hs : (x.1.weights Try.prog 39).all (· ≤ reachBytes) = true) :
    ∃ c : PCall, cs = c.cells ∧ c.Ok w := by
  cases fuel with
  | zero => simp [DataW.trod] at h
  | succ n =>
    unfold DataW.trod at h
    rw [Try.underlying39] at h
    simp only [cells39] at h
    by_cases hl : cs.length = 4
    · match cs, hl with
      | [c0, c1, c2, c3], _ =>
        simp [List.mapM_cons, cells3, cells9p, cells25p, cells30p] at h
        cases t0 : DataW.trod enc Try.prog w 0 (fun _ => true) true n 3 [c0] with
        | none => simp [t0] at h
        | some x0 =>
        cases t1 : DataW.trod enc Try.prog w 0 (fun _ => true) true n 9 [c1] with
        | none => simp [t0, t1] at h
        | some x1 =>
        cases t2 : DataW.trod enc Try.prog w 0 (fun _ => true) true n 25 [c2] with
        | none => simp [t0, t1, t2] at h
        | some x2 =>
        cases t3 : DataW.trod enc Try.prog w 0 (fun _ => true) true n 30 [c3] with
        | none => simp [t0, t1, t2, t3] at h
        | some x3 =>
        simp [t0, t1, t2, t3] at h
        subst h
        obtain ⟨k0, e0, _, w0⟩ := DataW.trod_int Try.underlying3 t0
        obtain ⟨S, e1, _, w1⟩ := DataW.trod_string Try.underlying9 t1
        obtain ⟨k2, e2, _, w2⟩ := DataW.trod_int Try.underlying25 t2
        have hs3 : (x3.1.weights Try.prog 30).all (· ≤ reachBytes) = true := by
          rw [List.all_eq_true] at hs ⊢
          intro m hm
          refine hs m ?_
          simp [DataW.weights, Try.underlying39, DataW.weightsEach, hm]
        have r3 : ∃ zl : List Int, Cel w c3 (zl.map (.int .i64)) ∧ (∀ z ∈ zl, Wf z) ∧ zl.length * 8 ≤ 140737488355328 := by
          rcases open_ints Try.underlying30 Try.underlying3 cells3 t3 with ⟨q, _⟩ | ⟨a, len, cap, zs, q, _, hle, _, hzl, hx, hc, hw⟩
          · simp at q
            exact ⟨[], Or.inl ⟨q, rfl⟩, fun z hz => (by cases hz), by simp⟩
          · simp at q hzl
            have hlz : (zs.take len).length = len := by simp; omega
            refine ⟨zs.take len, Or.inr ⟨a, cap, by rw [q, List.length_map, hlz], fun j u hj => ?_⟩, fun z hz => hw z (List.mem_of_mem_take hz), ?_⟩
            · rw [List.getElem?_map, List.getElem?_take] at hj
              by_cases hjl : j < len
              · rw [if_pos hjl, List.getElem?_eq_getElem (by omega)] at hj
                simp at hj
                rw [hc j (by omega), ← hj]
                simp [List.getD, show j < zs.length by omega]
              · rw [if_neg hjl] at hj; simp at hj
            · rw [hx] at hs3
              simp [DataW.weights, Try.underlying30, bytes3, lits] at hs3
              have := hs3.1
              unfold reachBytes at this
              omega
        obtain ⟨zl, a3, a3w, a3l⟩ := r3
        simp at e0 e1 e2
        exact ⟨⟨k0, S, k2, c3, zl⟩, by simp [PCall.cells, e0, e1, e2], ⟨w0, w1, bounds_u64 w2, a3, a3w, a3l⟩⟩
    · simp [hl] at h
theorem weights_all {P : Program} {e : TypeId} : ∀ {ds : List (DataW H)} {d : DataW H}, d ∈ ds → ∀ m ∈ d.weights P e, m ∈ DataW.weightsAll P e ds
  | [], d, h, _, _ => nomatch h
  | x :: r, d, h, m, hm => by
    unfold DataW.weightsAll
    rcases List.mem_cons.1 h with rfl | h
    · exact List.mem_append_left _ hm
    · exact List.mem_append_right _ (weights_all h m hm)
theorem open_calls {w : World} {base : Nat} {v : Value} {d : DataW H} {p : List MemPlace} (hv : Value.okWide Try.prog w .any base 22 v) (h : DataW.Trod enc Try.prog w 0 (fun _ => true) true 22 v d p) (hs : (d.weights Try.prog 22).all (· ≤ reachBytes) = true) :
    ∃ cs : List PCall, Script w v cs := by
  obtain ⟨fuel, hf⟩ := h
  obtain ⟨av, lv, cv, rfl⟩ := okWide_slice Try.underlying22 hv
  rcases open_slice Try.underlying22 hf with ⟨q, _⟩ | ⟨a, len, cap, m, n, D, Pl, q, _, hle, _, hm, hx, hel⟩
  · refine ⟨[], Or.inl ⟨?_, rfl⟩⟩
    simpa [Value.cells] using q
  · have q' : Value.slice av lv cv = .slice (some a) len cap := by simpa [Value.cells] using q
    rw [q']
    simp only [if_true] at hm
    subst hm
    simp only [Prod.mk.injEq] at hx
    obtain ⟨rfl, _⟩ := hx
    have hs' : ∀ x ∈ (DataW.slice ((List.range len).map D) ((List.range (m - len)).map fun j => D (len + j))).weights Try.prog 22, x ≤ reachBytes := fun x hx => by
      have := List.all_eq_true.1 hs x hx
      simpa using this
    have hlen : len ≤ 140737488355328 := by
      have := hs' _ (by simp only [DataW.weights, Try.underlying22]; exact List.mem_cons_self ..)
      rw [bytes39] at this
      simp at this
      unfold reachBytes at this
      omega
    have hw : ∀ i, i < len → ((D i).weights Try.prog 39).all (· ≤ reachBytes) = true := fun i hi => by
      refine List.all_eq_true.2 fun x hx => ?_
      have := hs' x (by
        simp only [DataW.weights, Try.underlying22]
        refine List.mem_cons_of_mem _ (List.mem_append_left _ ?_)
        exact weights_all (List.mem_map.2 ⟨i, List.mem_range.2 hi, rfl⟩) x hx)
      simpa using this
    have hc : ∀ i, ∃ c : PCall, i < len → c.Ok w ∧ ∀ j u, c.cells[j]? = some u → w.cell? ((a.add (i * 4)).add j) = some u := fun i => by
      by_cases hi : i < len
      · obtain ⟨cs', h1, h2⟩ := hel i (by omega)
        rw [cells39] at h1
        obtain ⟨c, rfl, ok⟩ := open_call h2 (hw i hi)
        obtain ⟨_, hl5, hcell⟩ := World.cells?_some h1
        refine ⟨c, fun _ => ⟨ok, fun j u hj => ?_⟩⟩
        have hj4 : j < 4 := by
          have := (List.getElem?_eq_some_iff.1 hj).1
          omega
        rw [hcell j hj4]; exact hj
      · exact ⟨⟨0, ByteArray.empty, 0, .nilIface, []⟩, fun q => absurd q hi⟩
    obtain ⟨f, hf'⟩ := Classical.axiomOfChoice hc
    refine ⟨(List.range len).map f, Or.inr ⟨a, m, by simp, by simpa using hlen, fun i hi => ?_⟩⟩
    have hi' : i < len := by simpa using hi
    refine ⟨f i, by simp [hi'], (hf' i hi').1, (hf' i hi').2⟩
end
end Go.Proofs.Ytgnedbagelhcbaa
namespace Go.Proofs.Ytgnedbagelhcbaa
open Go.ChangeShapes Go.WideShapes Go.ChangeAt Go.RowKit
set_option linter.unusedVariables false
set_option linter.unusedSimpArgs false
set_option maxRecDepth 20000
def RD.new (n : Nat) : RD := ⟨n, [], [], [], 0, 0, false⟩
theorem rel_new (n : Nat) : Rel (Dsk.new n) (RD.new n) := ⟨rfl, rfl, rfl, fun i => by show false = decide (i ∈ ([] : List Int)); simp, rfl, rfl, rfl⟩
theorem rdat_new {w : World} {r : Nat} (h : Row w r #[.int .i64 40, .slice none 0 0, .slice none 0 0, .slice none 0 0, .int .i64 0, .int .i64 0, .bool false] 32) : RDAt w r (RD.new 40) (.slice none 0 0) (.slice none 0 0) (.slice none 0 0) 0 :=
  ⟨h, ⟨rfl, Or.inl ⟨rfl, rfl⟩⟩, ⟨rfl, Or.inl ⟨rfl, rfl⟩⟩, ⟨rfl, Or.inl ⟨rfl, rfl⟩⟩, (fun k q => by cases q), (fun k q => by cases q), (fun k q => by cases q), (fun q => by cases q), (fun q => by cases q), (fun q => by cases q), (fun q hq => by cases hq), (fun q hq => by cases hq), Nat.le_refl _, by decide, by decide, by decide, wf_of (by decide) (by decide)⟩
theorem Script.form {w : World} {v : Value} {cs : List PCall} (h : Script w v cs) : ∃ oa cap, v = .slice oa cs.length cap ∧ ∀ i, i < cs.length → ∃ (a : Addr) (c : PCall), oa = some a ∧ cs[i]? = some c ∧ c.Ok w ∧ ∀ j u, c.cells[j]? = some u → w.cell? ((a.add (i * 4)).add j) = some u := by
  rcases h with ⟨rfl, rfl⟩ | ⟨a, cap, rfl, _, h⟩
  · exact ⟨none, 0, rfl, fun i hi => absurd hi (by simp)⟩
  · exact ⟨some a, cap, rfl, fun i hi => by obtain ⟨c, h1, h2, h3⟩ := h i hi; exact ⟨a, c, rfl, h1, h2, h3⟩⟩
def BD (w wx : World) (gd r : Nat) : Prop := ∃ d R L v1 v2 v3 M N, DAt wx gd d L M ∧ RDAt wx r R v1 v2 v3 N ∧ Rel d R ∧ Below w.heap.size w wx ∧ d.n = 40
theorem rcount_n (R : RD) : (rcount R).2.n = R.n := by
  unfold rcount
  split
  · rfl
  · split <;> rfl
theorem rwrote_n (R : RD) (b : Int) (x : List Int) : ∀ k, (R.wrote b x k).n = R.n
  | 0 => rfl
  | k + 1 => rwrote_n R b x k
theorem rwrite_n (R : RD) (b : Int) (x : List Int) : (rwrite R b x).2.n = R.n := by
  have hc := rcount_n R
  unfold rwrite
  split
  · rfl
  · split
    · rfl
    · split
      · show ((rcount R).2.wrote b x 4).n = _
        rw [rwrote_n]; exact hc
      · exact hc
theorem rwrS_n (a z : Int) : ∀ (cs : List Ck.O) (R : RD), (rwrS a z cs R).2.n = R.n
  | [], R => rfl
  | c :: cs, R => by
    have h := rwrite_n R (placeV a z c.num) (blkC c)
    unfold rwrS
    split
    · rw [rwrS_n a z cs]; exact h
    · exact h
theorem rlayR_n (a z : Int) (cs : List Ck.O) (R : RD) : (rlayR a z cs R).2.n = R.n := by
  have h := rwrS_n a z cs R
  unfold rlayR
  split
  · rfl
  · split
    · unfold rsync
      split
      · exact h
      · have hc := rcount_n (rwrS a z cs R).2
        split
        · show (rcount _).2.n = _
          rw [hc]; exact h
        · rw [hc]; exact h
    · exact h
theorem rrest_cnt (m : RLg) (f : Nat) (R : RD) : (rrestR m f R).2.2.n = R.n ∧ (rrestR m f R).2.2.ops ≤ R.ops + m.blocks.length + 1 := by
  have h1 := rlayR_n m.at_ m.size ((m.blocks.drop f).take (m.blocks.length - f)) R
  have h2 := rlayR_ops m.at_ m.size ((m.blocks.drop f).take (m.blocks.length - f)) R
  have h3 : ((m.blocks.drop f).take (m.blocks.length - f)).length ≤ m.blocks.length := by rw [List.length_take, List.length_drop]; omega
  unfold rrestR
  split
  · exact ⟨h1, by show (rlayR _ _ _ _).2.ops ≤ _; omega⟩
  · exact ⟨h1, by show (rlayR _ _ _ _).2.ops ≤ _; omega⟩
theorem rflush_cnt (m : RLg) (R : RD) (hl : m.closed.blocks.length ≤ 900) (h0 : 0 ≤ R.ops) : (rflushR m R).2.2.n = R.n ∧ (rflushR m R).2.2.ops ≤ R.ops + 2000 := by
  unfold rflushR rflushC
  generalize m.closed = c at hl
  have hA := rrest_cnt c c.lasting R
  have h1 := rlayR_n c.at_ c.size ((c.blocks.drop c.lasting).take (c.lasting + 1 - c.lasting)) R
  have h2 := rlayR_ops c.at_ c.size ((c.blocks.drop c.lasting).take (c.lasting + 1 - c.lasting)) R
  have h3 : ((c.blocks.drop c.lasting).take (c.lasting + 1 - c.lasting)).length ≤ 1 := by rw [List.length_take]; omega
  have hB := rrest_cnt { c with old := true } (c.lasting + 1) (rlayR c.at_ c.size ((c.blocks.drop c.lasting).take (c.lasting + 1 - c.lasting)) R).2
  have hB2 : ({ c with old := true } : RLg).blocks.length = c.blocks.length := rfl
  split
  · exact ⟨rfl, by show R.ops ≤ _; omega⟩
  · split
    · exact ⟨hA.1, by omega⟩
    · split
      · exact ⟨by rw [hB.1]; exact h1, by omega⟩
      · exact ⟨h1, by show (rlayR _ _ _ _).2.ops ≤ _; omega⟩
def LP (w wr : World) (gl gd gm r k : Nat) : Prop := ∃ l d M m R N, BS w wr gl gd gm r l d M m R N ∧ LRel l m ∧ Rel d R ∧ PI l k ∧ d.n = 40 ∧ (0 ≤ d.ops ∧ d.ops ≤ 2000 * k) ∧ M ≤ 4000 * k ∧ N ≤ 8000 * k
theorem LP.bd {w wr : World} {gl gd gm r k : Nat} (h : LP w wr gl gd gm r k) : BD w wr gd r := by
  obtain ⟨l, d, M, m, R, N, ⟨vl, vs, L, vb, v1, v2, v3, h1, h2, h3, _⟩, h4, h5, h6, h7, _⟩ := h
  exact ⟨d, R, L, v1, v2, v3, M, N, h1.dsk, h2.dsk, h5, h3, h7⟩
theorem lp_start {w w2 w3 w4 w5 : World} {gd r gl gm : Nat} {L0 : Loc} {vl : Value} {z num fin : Int} {os : List St.O} (D2 : DAt w2 gd (Dsk.new 40) L0 0) (hft : ∀ j, foot gd L0 j → w.heap.size ≤ j ∧ j < r) (rr : Row w2 r #[.int .i64 40, .slice none 0 0, .slice none 0 0, .slice none 0 0, .int .i64 0, .int .i64 0, .bool false] 32) (hwr : w.heap.size ≤ r) (B2 : Below w.heap.size w w2) (b3 : Below w2.heap.size w2 w3) (b4 : Below w3.heap.size w3 w4) (hgl : w3.heap.size ≤ gl)
    (hrow : Row w4 gl (lcells (.pointer (some ⟨gd, 0, none⟩)) vl (.slice none 0 0) ⟨3, z, 2, os.map (·.off), [], ByteArray.empty, num, true, fin, fin⟩) 102) (hu : OwnU w4 (gl + 1) vl (os.map (·.off))) (hgm : w4.heap.size ≤ gm) (hNL : NLoopM w4 r 3 z 2 (IntKind.u32.wrap (num - os.length)) fin os.length os gm os.length w5)
    (hz : 1 ≤ z ∧ z ≤ 700) (hn : 0 ≤ num ∧ num ≤ 4294967295) (hf : 0 ≤ fin ∧ fin ≤ 4611686018427387904) (hlen : (os.length : Int) ≤ z) : LP w w5 gl gd gm r 0 := by
  obtain ⟨vb, q0, qo, qng, qge, b5⟩ := hNL
  have s1 := B2.size
  have s2 := b3.size
  have s3 := b4.size
  have hr2 := rr.lt
  have hl4 := hrow.lt
  have bb : Below w2.heap.size w2 w4 := b3.trans (b4.mono b3.size)
  have bc : Below w2.heap.size w2 w5 := bb.trans (b5.mono bb.size)
  have hul := fun j q => World.ownsRow.lt hu j q
  refine ⟨_, Dsk.new 40, 0, _, RD.new 40, 0, ⟨vl, .slice none 0 0, L0, vb, .slice none 0 0, .slice none 0 0, .slice none 0 0, ⟨hrow.below b5 hrow.lt, hu.keep b5, OwnCk.nil _ _, D2.below bc, ?_, ?_, ?_⟩, ⟨q0, qo, rdat_new (rr.below bc rr.lt), qng, ?_, ?_⟩, B2.trans (bc.mono B2.size), ?_, ?_, ?_⟩, LRel.new 3 z 2 num fin os hn, rel_new 40, PI.new hz (by decide) hn hf (by rw [List.length_map]; exact hlen), rfl, ⟨by decide, by decide⟩, Nat.le_refl _, Nat.le_refl _⟩
  · exact fun q => by have := (hft _ q).2; omega
  · exact fun j q q2 => by have := (hft _ q2).2; have := (hul j q).1; omega
  · exact fun j q => by cases q
  · rintro (q | q | q | q)
    · omega
    · cases q
    · cases q
    · cases q
  · rintro j q (q2 | q2 | q2 | q2)
    · have := qge j q; omega
    · cases q2
    · cases q2
    · cases q2
  · rintro j (q | q | q | q)
    · omega
    · have := (hul j q).1; omega
    · cases q
    · exact (hft j q).1
  · rintro j (q | q | q | q | q | q)
    · omega
    · have := qge j q; omega
    · omega
    · cases q
    · cases q
    · cases q
  · rintro j q1 q2
    have c1 : j < w4.heap.size := by
      rcases q1 with q | q | q | q
      · omega
      · exact (hul j q).2
      · cases q
      · have := (hft j q).2; omega
    rcases q2 with q | q | q | q | q | q
    · omega
    · have := qge j q; omega
    · rcases q1 with p | p | p | p
      · omega
      · have := (hul j p).1; omega
      · cases p
      · have := (hft j p).2; omega
    · cases q
    · cases q
    · cases q
end Go.Proofs.Ytgnedbagelhcbaa
namespace Go.Proofs.Ytgnedbagelhcbaa
open Go.ChangeShapes Go.WideShapes Go.ChangeAt Go.RowKit
set_option linter.unusedVariables false
set_option linter.unusedSimpArgs false
set_option maxRecDepth 20000
def B9 (w wr : World) (gl gd gm r : Nat) (l : Lg) (d : Dsk) (M : Nat) (m : RLg) (R : RD) (N : Nat) (g9 : Nat) (C9 : Array Value) : Prop :=
  ∃ vl vs L vb v1 v2 v3, LD wr gl gd vl vs L l d M ∧ RLD wr gm r vb v1 v2 v3 m R N ∧ Below w.heap.size w wr ∧ (∀ j, lfoot gl gd vl vs L j → w.heap.size ≤ j) ∧ (∀ j, rlfoot gm r vb v1 v2 v3 j → w.heap.size ≤ j) ∧ (∀ j, lfoot gl gd vl vs L j → ¬ rlfoot gm r vb v1 v2 v3 j) ∧ Row wr g9 C9 39 ∧ ¬ lfoot gl gd vl vs L g9 ∧ ¬ rlfoot gm r vb v1 v2 v3 g9
theorem B9.bs {w wr : World} {gl gd gm r g9 : Nat} {C9 : Array Value} {l : Lg} {d : Dsk} {M : Nat} {m : RLg} {R : RD} {N : Nat} (h : B9 w wr gl gd gm r l d M m R N g9 C9) : BS w wr gl gd gm r l d M m R N := by
  obtain ⟨vl, vs, L, vb, v1, v2, v3, h1, h2, h3, h4, h5, h6, _⟩ := h
  exact ⟨vl, vs, L, vb, v1, v2, v3, h1, h2, h3, h4, h5, h6⟩
theorem B9.row {w wr : World} {gl gd gm r g9 : Nat} {C9 : Array Value} {l : Lg} {d : Dsk} {M : Nat} {m : RLg} {R : RD} {N : Nat} (h : B9 w wr gl gd gm r l d M m R N g9 C9) : Row wr g9 C9 39 := by
  obtain ⟨vl, vs, L, vb, v1, v2, v3, h1, h2, h3, h4, h5, h6, h7, _⟩ := h
  exact h7
theorem B9.mk' {w wr : World} {gl gd gm r g9 : Nat} {C9 : Array Value} {l : Lg} {d : Dsk} {M : Nat} {m : RLg} {R : RD} {N : Nat} {w' : World} (h : BS w wr gl gd gm r l d M m R N) (b : Below wr.heap.size wr w') (hr : Row w' g9 C9 39) (hg : wr.heap.size ≤ g9) : B9 w w' gl gd gm r l d M m R N g9 C9 := by
  obtain ⟨vl, vs, L, vb, v1, v2, v3, h1, h2, h3, h4, h5, h6⟩ := h
  exact ⟨vl, vs, L, vb, v1, v2, v3, h1.below b, h2.off (Off.of_below (F := fun _ => False) b) (fun _ _ q => q), h3.trans (b.mono h3.size), h4, h5, h6, hr, (fun q => by have := h1.lt q; omega), (fun q => by have := h2.lt q; omega)⟩
theorem B9.below {w wr : World} {gl gd gm r g9 : Nat} {C9 : Array Value} {l : Lg} {d : Dsk} {M : Nat} {m : RLg} {R : RD} {N : Nat} {w' : World} (h : B9 w wr gl gd gm r l d M m R N g9 C9) (b : Below wr.heap.size wr w') : B9 w w' gl gd gm r l d M m R N g9 C9 := by
  obtain ⟨vl, vs, L, vb, v1, v2, v3, h1, h2, h3, h4, h5, h6, h7, h8, h9⟩ := h
  exact ⟨vl, vs, L, vb, v1, v2, v3, h1.below b, h2.off (Off.of_below (F := fun _ => False) b) (fun _ _ q => q), h3.trans (b.mono h3.size), h4, h5, h6, h7.below b h7.lt, h8, h9⟩
theorem B9.left {w wr : World} {gl gd gm r g9 : Nat} {C9 : Array Value} {l : Lg} {d : Dsk} {M : Nat} {m : RLg} {R : RD} {N : Nat} {l' : Lg} {d' : Dsk} {M' : Nat} {f : Nat} {args : Array Value} {e0 : Ending} (h : B9 w wr gl gd gm r l d M m R N g9 C9)
    (hc : ∀ F, LStep wr gl gd F l d M wr → Calls Try.prog f args wr fun e w' => e = e0 ∧ LStep wr gl gd F l' d' M' w') :
    Calls Try.prog f args wr fun e w' => e = e0 ∧ B9 w w' gl gd gm r l' d' M' m R N g9 C9 := by
  obtain ⟨vl, vs, L, vb, v1, v2, v3, h1, h2, h3, h4, h5, h6, h7, h8, h9⟩ := h
  refine (hc _ (LStep.refl h1)).mono ?_
  rintro e w' ⟨he, vl2, vs2, L2, k1, k2, k3⟩
  refine ⟨he, vl2, vs2, L2, vb, v1, v2, v3, k1, h2.off k2 (fun j q q2 => h6 j q2 q), h3.trans (k2.below h3.size h4), fun j q => ?_, h5, fun j q q2 => ?_, h7.off k2 h8, fun q => ?_, h9⟩
  · rcases k3 j q with q3 | q3
    · exact h4 j q3
    · exact Nat.le_trans h3.size q3
  · rcases k3 j q with q3 | q3
    · exact h6 j q3 q2
    · have := h2.lt q2; omega
  · rcases k3 _ q with q3 | q3
    · exact h8 q3
    · have := h7.lt; omega
theorem B9.right {w wr : World} {gl gd gm r g9 : Nat} {C9 : Array Value} {l : Lg} {d : Dsk} {M : Nat} {m : RLg} {R : RD} {N : Nat} {m' : RLg} {R' : RD} {N' : Nat} {f : Nat} {args : Array Value} {e0 : Ending} (h : B9 w wr gl gd gm r l d M m R N g9 C9)
    (hc : ∀ F, RLS wr gm r F m R N wr → Calls Try.prog f args wr fun e w' => e = e0 ∧ RLS wr gm r F m' R' N' w') :
    Calls Try.prog f args wr fun e w' => e = e0 ∧ B9 w w' gl gd gm r l d M m' R' N' g9 C9 := by
  obtain ⟨vl, vs, L, vb, v1, v2, v3, h1, h2, h3, h4, h5, h6, h7, h8, h9⟩ := h
  refine (hc (rlfoot gm r vb v1 v2 v3) ⟨vb, v1, v2, v3, h2, Off.refl _ _, fun j q => Or.inl q⟩).mono ?_
  rintro e w' ⟨he, vb2, u1, u2, u3, k1, k2, k3⟩
  refine ⟨he, vl, vs, L, vb2, u1, u2, u3, h1.off k2 (fun j q q2 => h6 j q q2), k1, h3.trans (k2.below h3.size h5), h4, fun j q => ?_, fun j q q2 => ?_, h7.off k2 h9, h8, fun q => ?_⟩
  · rcases k3 j q with q3 | q3
    · exact h5 j q3
    · exact Nat.le_trans h3.size q3
  · rcases k3 j q2 with q3 | q3
    · exact h6 j q q3
    · have := h1.lt q; omega
  · rcases k3 _ q with q3 | q3
    · exact h9 q3
    · have := h7.lt; omega
theorem B9.gd {w wr : World} {gl gd gm r g9 : Nat} {C9 : Array Value} {l : Lg} {d : Dsk} {M : Nat} {m : RLg} {R : RD} {N : Nat} (h : B9 w wr gl gd gm r l d M m R N g9 C9) : gd < wr.heap.size := by
  obtain ⟨vl, vs, L, vb, v1, v2, v3, h1, _⟩ := h
  exact h1.lt (Or.inr (Or.inr (Or.inr (Or.inl rfl))))
theorem PI.len {l : Lg} {k : Nat} (h : PI l k) : l.last.length + l.sealed.length ≤ 700 := by
  have h1 := h.inv.room
  have h2 := h.inv.size
  have h3 : 0 ≤ wantN l.open_.size := by unfold wantN; omega
  omega
theorem B9.ops0 {w wr : World} {gl gd gm r g9 : Nat} {C9 : Array Value} {l : Lg} {d : Dsk} {M : Nat} {m : RLg} {R : RD} {N : Nat} (h : B9 w wr gl gd gm r l d M m R N g9 C9) : 0 ≤ R.ops := by
  obtain ⟨vl, vs, L, vb, v1, v2, v3, h1, h2, _⟩ := h
  exact h2.dsk.opsn
theorem LD.free' {w : World} {gl gd : Nat} {vl vs : Value} {L : Loc} {l : Lg} {d : Dsk} {M : Nat} (h : LD w gl gd vl vs L l d M) (hi : l.Inv) : Calls Try.prog 25 #[.pointer (some ⟨gl, 0, none⟩)] w fun e w' => e = .returned (.int .i64 (l.size - ((l.last.length : Int) + l.sealed.length) - wantN l.open_.size)) ∧ Below w.heap.size w w' := by
  have hw := hi.few
  have hz := hi.size
  have ho := hi.op
  obtain ⟨oa, ca, e1⟩ := h.last.form
  obtain ⟨ob, cb, e2⟩ := h.sld.form
  have hr := h.row
  rw [e1, e2] at hr
  exact free_any gl _ l oa ob _ _ ca cb w hr (by omega) (by omega) (by omega) (by omega)
theorem LD.tail' {w : World} {gl gd : Nat} {vl vs : Value} {L : Loc} {l : Lg} {d : Dsk} {M : Nat} (h : LD w gl gd vl vs L l d M) (hi : l.Inv) : Calls Try.prog 27 #[.pointer (some ⟨gl, 0, none⟩)] w fun e w' => e = .returned (.int .u32 (IntKind.u32.wrap (l.next - ((l.last.length : Int) + l.sealed.length)))) ∧ Below w.heap.size w w' := by
  have hw := hi.few
  obtain ⟨oa, ca, e1⟩ := h.last.form
  obtain ⟨ob, cb, e2⟩ := h.sld.form
  have hr := h.row
  rw [e1, e2] at hr
  exact tail_any gl _ l oa ob _ _ ca cb w hr (by omega) (by omega)
theorem rfree' {w : World} {gm r : Nat} {vb v1 v2 v3 : Value} {m : RLg} {R : RD} {N : Nat} (h : RLD w gm r vb v1 v2 v3 m R N) (hl : m.blocks.length ≤ 1000) (hz : 0 ≤ m.size ∧ m.size ≤ 4294967295) : Calls Try.prog 26 #[.pointer (some ⟨gm, 0, none⟩)] w fun e w' => e = .returned (.int .i64 (freeM m)) ∧ Below w.heap.size w w' := by
  obtain ⟨oa, cap, hv⟩ := h.bl.form
  have r0 := h.row
  rw [hv] at r0
  unfold rlcells at r0
  obtain ⟨LB, HLB⟩ : ∃ LB, Hid (m.blocks.length = LB) := ⟨_, rfl⟩
  have hLB : LB ≤ 1000 := by rw [← HLB.out]; exact hl
  have c7 := row_at r0 7 _ rfl
  have c2 := row_at r0 2 _ rfl
  have c5 : w.cell? ⟨gm, 5, none⟩ = some (.slice oa LB cap) := by rw [← HLB.out]; exact row_at r0 5 _ rfl
  have u1 : IntKind.i64.wrap (m.size - (LB : Int)) = m.size - LB := by rw [IntKind.wrap_i64]; omega
  have u2 : IntKind.i64.wrap (m.size - (LB : Int) - 1) = m.size - LB - 1 := by rw [IntKind.wrap_i64]; omega
  clear hv
  by_cases hne : m.open_.size = 0
  · have he : m.open_ = { data := #[] } := ByteArray.ext (Array.eq_empty_of_size_eq_zero hne)
    have e : freeM m = m.size - LB := by unfold freeM; rw [if_pos hne, HLB.out]
    rw [e]
    rw [he] at c7
    go_enter Try.func26, Try.ntmps26
    go_upto_region 3 with fail
    go_quiet (fail)
    have s9 := below_drewN (Below.refl w.heap.size w) nq
    generalize w.drewN nq = wd at s9 ⊢
    have HS : Hid _ := s9
    clear s9 h r0
    go_wp2
    try go_ret
    exact ⟨rfl, HS.out⟩
  · have hn2 := str_ne m.open_ (by omega)
    have hn3 := hn2.1
    have hn4 := hn2.2
    clear hn2
    have e : freeM m = m.size - LB - 1 := by unfold freeM; rw [if_neg hne, HLB.out]
    rw [e]
    go_enter Try.func26, Try.ntmps26
    go_upto_region 2 with fail
    go_quiet (fail)
    have s9 := below_drewN (Below.refl w.heap.size w) nq
    generalize w.drewN nq = wd at s9 ⊢
    have HS : Hid _ := s9
    clear s9 h r0
    go_wp2
    try go_ret
    exact ⟨rfl, HS.out⟩
theorem rel_plan {d : Dsk} {R : RD} (h : Rel d R) (zl : List Int) (f : Int) : Rel (d.plan zl f) (rplan R zl f) := ⟨h.n, h.sure, h.pend, fun i => rfl, rfl, rfl, h.down⟩
end Go.Proofs.Ytgnedbagelhcbaa
