/-
  Proved here: what Ask and Leave of the document's turn answer, and make of it.
-/
import Derived.Test.YtmnbfcmamhinbaaTrr
namespace Go.Proofs.Ytmnbfcmamhinbaa.Tu
open Go.ChangeShapes Go.WideShapes Go.ChangeAt Go.RowKit
open Go.Deep
set_option linter.unusedVariables false
set_option linter.unusedSimpArgs false

def rleaveL (L : List On.O) (x : Int) : List On.O := L.filter fun o => !decide (o.who = x)
/-- What Leave of the document's turn leaves. -/
def RLeft (w : World) (r : Nat) (N : Int) (L : List On.O) (x : Int) (e : Ending) (w' : World) : Prop :=
  e = .returned (.bool (decide ((rleaveL L x).length < L.length))) ∧ ∃ v', RtAt w' r v' N (rleaveL L x) ∧ Off (· = r) w w'
theorem take_nextO {L : List On.O} {j : Nat} {o : On.O} (h : L[j]? = some o) : L.take (j + 1) = L.take j ++ [o] := by
  rw [List.take_add_one, h]; rfl
set_option maxHeartbeats 2000000 in
set_option maxRecDepth 20000 in
theorem rleave_any {w : World} {r : Nat} {v : Value} {N : Int} {L : List On.O} (c : RtAt w r v N L) (x : Int) : Calls Try.prog 29 #[.pointer (some ⟨r, 0, none⟩), .int .i64 x] w fun e w' => RLeft w r N L x e w' := by
  obtain ⟨oa, cap, rfl, hold⟩ := On.Olds.hold c.own.olds
  obtain ⟨M, HM⟩ : ∃ M, Hid (L.length = M) := ⟨_, rfl⟩
  have hsm : M ≤ 100 := by rw [← HM.out]; exact c.small
  have HCL : Hid (∀ i, i < M → ∃ (A : Addr) (x0 x1 : Int), oa = some A ∧ L[i]? = some ⟨x0, x1⟩ ∧ ∀ w', Below w.heap.size w w' → ∀ j u, [Value.int .i64 x0, .int .i64 x1][j]? = some u → w'.cell? ((A.add (i * 2)).add j) = some u) := fun i hi => by
    obtain ⟨A, x0, x1, h1, h2, h3⟩ := hold i (by rw [HM.out]; exact hi)
    exact ⟨A, x0, x1, h1, h2, fun w' b j u hj => cell_keep (h3 j u hj) b⟩
  have c2 := row_at c.row 0 _ rfl
  rw [HM.out] at c2
  clear hold
  have HROW : Hid (∀ w', Below w.heap.size w w' → Row w' r #[.slice oa L.length cap, .int .i64 N] 69) := fun w' b => c.row.below b c.row.lt
  rw [HM.out] at HROW
  have HEND : Hid (rleaveL (L.take M) x = rleaveL L x) := by show _ = _; rw [List.take_of_length_le (by rw [HM.out]; exact Nat.le_refl _)]
  have htw := c.row.lt
  have HLN : Hid (∀ j, (rleaveL (L.take j) x).length ≤ 100) := fun j => by
    have h1 : (rleaveL (L.take j) x).length ≤ (L.take j).length := List.length_filter_le _ _
    have h2 : (L.take j).length ≤ L.length := by rw [List.length_take]; exact Nat.min_le_right _ _
    have h3 := HM.out
    omega
  obtain ⟨PP, HPP⟩ : ∃ PP : Ending → World → Prop, Hid (PP = fun e w' => RLeft w r N L x e w') := ⟨_, rfl⟩
  rw [← HPP.out]
  clear c
  go_enter Try.func29, Try.ntmps29
  go_wp2_with fail
  go_loopw [5, 14] (fun u i wr => ∃ j : Nat, i = .int .i64 j ∧ j ≤ M ∧ On.Own wr w.heap.size u (rleaveL (L.take j) x) ∧ Below w.heap.size w wr) (fun _ i _ => M - (intOf i).toNat)
  case atStart => exact ⟨0, rfl, by omega, ⟨rfl, Or.inl ⟨rfl, rfl⟩⟩, Below.refl _ _⟩
  case round =>
    clear c2
    rename_i u5
    obtain ⟨j, rfl, hj, own, rb⟩ := hrel
    by_cases hjn : j < M
    · have hjn' : (j : Int) < (M : Int) := by omega
      obtain ⟨A, x0, x1, hoa, hL, hcell⟩ := HCL.out j hjn
      subst hoa
      have hcw := hcell wr rb
      have z0 : Row (wr.alloc (.cells #[.int .i64 0, .int .i64 0] 81)) wr.heap.size #[.int .i64 0, .int .i64 0] 81 := Row.new _ _ _
      have r2 : Row ((wr.alloc (.cells #[.int .i64 0, .int .i64 0] 81)).setRow wr.heap.size #[.int .i64 x0, .int .i64 x1]) wr.heap.size #[.int .i64 x0, .int .i64 x1] 81 := z0.set _
      have b2 : Below wr.heap.size wr ((wr.alloc (.cells #[.int .i64 0, .int .i64 0] 81)).setRow wr.heap.size #[.int .i64 x0, .int .i64 x1]) := below_setRow ((Below.refl _ _).alloc (Nat.le_refl _) _) (Nat.le_refl _) _
      have rb2 := rb.trans (b2.mono rb.size)
      have k0 := row_at r2 0 (.int .i64 x0) rfl
      have k1 := row_at r2 1 (.int .i64 x1) rfl
      have HT : Hid _ := hL
      have hz81 := zero81
      have tl : Hid (1 = 1) := rfl
      have ts : Hid (1 = 1) := rfl
      clear hcell hL b2
      by_cases hx : x0 = x
      · have HQ : Hid (rleaveL (L.take (j + 1)) x = rleaveL (L.take j) x) := by
          show _ = _
          rw [take_nextO HT.out]
          unfold rleaveL
          rw [List.filter_append]
          simp [hx]
        have own2 := own.keep (Below.trans (Below.refl _ _) (below_setRow ((Below.refl wr.heap.size wr).alloc (Nat.le_refl _) (.cells #[.int .i64 0, .int .i64 0] 81)) (Nat.le_refl _) #[.int .i64 x0, .int .i64 x1]))
        rw [← HQ.out] at own2
        have hne : (x0 == x) = true := by simp [hx]
        subst hx
        clear own hne
        go_wp2_with (first
        | (have hh := tl; clear hh tl; refine wpList_load_any rfl 81 (.tmp 16) rfl (A.add (j * 2)) rfl [.int .i64 x0, .int .i64 x1] _ hcw Try.underlying81 rfl size81 ?_) | (have hh := ts; clear hh ts; refine store_cells rfl 81 (.tmp 7) (.tmp 17) rfl wr.heap.size #[.int .i64 x0, .int .i64 x1] rfl rfl 81 _ z0 2 size81 rfl rfl (by simp [Value.oneCell']) ?_))
        go_roundw
        case rel => exact ⟨j + 1, by go_num, by omega, own2, rb2⟩
        case measure => simp [intOf]; omega
      · have HQ : Hid (rleaveL (L.take (j + 1)) x = rleaveL (L.take j) x ++ [⟨x0, x1⟩]) := by
          show _ = _
          rw [take_nextO HT.out]
          unfold rleaveL
          rw [List.filter_append]
          simp [hx]
        have own2 := own.keep (below_setRow ((Below.refl wr.heap.size wr).alloc (Nat.le_refl _) (.cells #[.int .i64 0, .int .i64 0] 81)) (Nat.le_refl _) #[.int .i64 x0, .int .i64 x1])
        have r3 := r2
        go_upto_region 6 with (first
        | (have hh := tl; clear hh tl; refine wpList_load_any rfl 81 (.tmp 16) rfl (A.add (j * 2)) rfl [.int .i64 x0, .int .i64 x1] _ hcw Try.underlying81 rfl size81 ?_) | (have hh := ts; clear hh ts; refine store_cells rfl 81 (.tmp 7) (.tmp 17) rfl wr.heap.size #[.int .i64 x0, .int .i64 x1] rfl rfl 81 _ z0 2 size81 rfl rfl (by simp [Value.oneCell']) ?_))
        clear hcw z0 k0 k1
        generalize (wr.alloc (.cells #[.int .i64 0, .int .i64 0] 81)).setRow wr.heap.size #[.int .i64 x0, .int .i64 x1] = W at own2 rb2 r3 ⊢
        generalize wr.heap.size = X at r3 ⊢
        have HR : Hid (∀ ty, ∃ v' w', (Builtin.append_ #[67, 67] ty #[u5, .slice (some ⟨W.heap.size, 0, none⟩) 1 1]).run Try.prog (W.alloc (.cells #[.int .i64 x0, .int .i64 x1] 81)) = .ok v' w' ∧ (On.Own w' w.heap.size v' (rleaveL (L.take (j + 1)) x) ∧ Below w.heap.size w w')) := fun ty => by
          have own3 := own2.alloc (.cells #[.int .i64 x0, .int .i64 x1] 81)
          have b3 : Below w.heap.size w (W.alloc (.cells #[.int .i64 x0, .int .i64 x1] 81)) := rb2.alloc rb2.size _
          obtain ⟨v', w', h1, h2, h3⟩ := On.Own.snocP own3 ty W.heap.size ⟨x0, x1⟩ (Row.new _ _ _) b3.size (by have := HLN.out j; omega)
          refine ⟨v', w', h1, by rw [HQ.out]; exact h2, b3.grown h3 b3.size (fun k hk => (World.ownsRow.lt own3 k hk).1)⟩
        have HLD : Hid (∀ j u, [Value.int .i64 x0, .int .i64 x1][j]? = some u → W.cell? ((⟨X, 0, none⟩ : Addr).add j) = some u) := fun j u hj => by
          rw [Addr.add_mid, Nat.zero_add]
          exact row_at r3 j u (by simpa using hj)
        have tm : Hid (1 = 1) := rfl
        clear own own2 r2 r3
        go_wp2_with (first
        | (have hh := tm; clear hh tm; refine wpList_load_any rfl 81 (.tmp 7) rfl ⟨X, 0, none⟩ rfl [.int .i64 x0, .int .i64 x1] _ HLD.out Try.underlying81 rfl size81 ?_)
        | (at_builtin; refine On.wpList_copy rfl (.tmp 22) (.tmp 24) 67 rfl _ _ rfl rfl (fun ty => HR.out ty) ?_; clear HR; rintro v4 w4 ⟨own4, rb4⟩))
        go_roundw
        case rel => exact ⟨j + 1, by go_num, by omega, own4, rb4⟩
        case measure => simp [intOf]; omega
    · have hjn' : ¬ (j : Int) < (M : Int) := by omega
      obtain rfl : j = M := by omega
      rw [HEND.out] at own
      obtain ⟨oa5, cap5, hv5⟩ := own.form
      subst hv5
      obtain ⟨K, HK⟩ : ∃ K, Hid ((rleaveL L x).length = K) := ⟨_, rfl⟩
      rw [HK.out] at own ⊢
      have rw1 := HROW.out _ rb
      have c2 := row_at rw1 0 (.slice oa j cap) rfl
      have f2 := row_frozen rw1 0
      have HF : Hid (PP (.returned (.bool (decide (K < j)))) (wr.setCell ⟨r, 0, none⟩ (.slice oa5 K cap5))) := by
        show PP _ _
        rw [HPP.out]
        refine ⟨by rw [HK.out, HM.out], .slice oa5 K cap5, { row := row_set rw1 0 _, own := ?_, small := by rw [HK.out]; have := HLN.out j; rw [HEND.out, HK.out] at this; exact this }, ?_⟩
        · exact (On.Own.base own (by omega)).other r 0 _ (by omega)
        · exact (Off.of_below rb).trans (Off.of_setCell (F := (· = r)) _ _ _ rfl) (fun q e => Or.inl e)
      clear rw1 own
      go_wp2
      try go_ret
      exact HF.out
end Go.Proofs.Ytmnbfcmamhinbaa.Tu
