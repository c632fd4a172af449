/-
  Proved here: the document's Keep: the starts that begin ahead of a place, and the number behind the last of them.
-/
import Derived.Test.YtbpaffjoedihbabKeep
namespace Go.Proofs.Ytbpaffjoedihbab
open Go.ChangeShapes Go.WideShapes Go.ChangeAt Go.RowKit
set_option linter.unusedVariables false
set_option linter.unusedSimpArgs false

theorem wpList_load_any {P : Program} {ops : Array Oper} {rest : List Oper} {op : Oper} {a : Act} {w : World} {Q : Exit → Act → World → Prop} (hgd : op.guard = none) (ty : TypeId) (x : Operand) (ho : op.op = .load ty x)
    (p : Addr) (hx : a.eval x = .pointer (some p)) (cs : List Value) (d : TypeDesc) (hc : ∀ j v, cs[j]? = some v → w.cell? (p.add j) = some v)
    (hu : P.underlying ty = some d) (hd : d.isRow = true) (hi : (P.info? ty).map (·.size) = some cs.length)
    (h : wpList P ops Q rest (a.put op.dst (.agg cs.toArray)) w) : wpList P ops Q (op :: rest) a w := by
  refine wpList_plain hgd fun K hK => ?_
  have hl : (loadCells p cs.length).run P w = .ok cs.toArray w := run_loadCells_list (P := P) w p cs hc
  have hrun : (loadVar ty p).run P w = .ok (.agg cs.toArray) w := by
    cases hq : P.info? ty with
    | none => simp [hq] at hi
    | some i =>
      have hs : i.size = cs.length := by simpa [hq] using hi
      have hagg : (isAgg ty).run P w = .ok true w := by
        unfold isAgg
        rw [Sem.run_bind, run_underlying hu w]
        cases d <;> simp_all
      simp [loadVar, Sem.run_bind, hagg, sizeOf, typeInfo, hq, hs, hl]
  unfold Oper.wp execOp
  simp only [ho, hx, Instr.loadAt, Instr.sureAddr, Sem.run_bind, Sem.run_pure, Result.andThen_ok, hrun]
  exact hK _ _ h
theorem Own.lands {w : World} {base : Nat} {v : Value} {os : List O} (h : Own w base v os) (k : Nat) (hk : v.ownBlock = some k) : base ≤ k := (World.ownsRow.lt h k hk).1
theorem wrap_add (f : Int) (k : Nat) : (((f + (k : Int)) % 4294967296) + 1) % 4294967296 = (f + ((k + 1 : Nat) : Int)) % 4294967296 := by omega

set_option maxHeartbeats 4000000 in
theorem rkeep_any (first e : Int) (v : Value) (os : List O) (w : World) (ho : Olds w v os) (hn : os.length ≤ 100) (hf : 0 ≤ first ∧ first ≤ 4294967295) :
    Calls Try.prog 7 #[.int .u32 first, v, .int .u64 e] w fun ex w' => Kept w first os e ex w' := by
  obtain ⟨P, HP⟩ : ∃ P : Ending → World → Prop, Hid (P = Kept w first os e) := ⟨_, rfl⟩
  rw [← HP.out]
  obtain ⟨oa, cap, rfl, hcs⟩ := ho.hold
  have HCS : Hid _ := hcs
  clear hcs ho
  obtain ⟨n, HN⟩ : ∃ n, Hid (os.length = n) := ⟨_, rfl⟩
  rw [HN.out] at HCS hn ⊢
  obtain ⟨f0, HF⟩ : ∃ f0, Hid (first = f0) := ⟨_, rfl⟩
  go_enter Try.func7, Try.ntmps7
  go_upto_region 3 with fail
  go_loopw [0, 8, 9] (fun x0 x8 d wr => ∃ (k : Nat) (oa2 : Option Addr) (cap2 : Nat), x0 = .int .u32 ((first + (k : Int)) % 4294967296) ∧ x8 = .slice oa2 k cap2 ∧ d = .int .i64 k ∧ k ≤ n ∧ Below w.heap.size w wr ∧ Own wr w.heap.size (.slice oa2 k cap2) (os.take k) ∧ Hid (ahead os e k)) (fun _ _ d _ => n - (intOf d).toNat)
  case atStart => exact ⟨0, none, 0, by rw [show (first + ((0 : Nat) : Int)) % 4294967296 = first by omega], rfl, rfl, by omega, Below.refl _ _, ⟨rfl, Or.inl ⟨rfl, rfl⟩⟩, fun i o hi => absurd hi (by omega)⟩
  case round =>
    obtain ⟨k, oa2, cap2, rfl, rfl, rfl, hk, rb, ro, HA⟩ := hrel
    have fin : Hid ((∀ o, os[k]? = some o → ¬ o.off < e) → kp os e = os.take k) := fun hs => kp_is os e k HA.out (by rw [HN.out]; exact hk) hs
    obtain ⟨F, HFF⟩ : ∃ F, Hid ((first + (k : Int)) % 4294967296 = F) := ⟨_, rfl⟩
    have hF : 0 ≤ F ∧ F ≤ 4294967295 := by rw [← HFF.out]; omega
    rw [HFF.out]
    by_cases hkn : k < n
    · have hkn' : (k : Int) < (n : Int) := by omega
      obtain ⟨a, p, t, rfl, he, hc1⟩ := HCS.out k hkn
      have c1 : wr.cell? ⟨(a.add (k * 2)).block, (a.add (k * 2)).off + 1, none⟩ = some (.int .u64 t) := cell_keep (hc1 1 _ rfl) rb
      have HC : Hid (∀ j u, [Value.int .u32 p, .int .u64 t][j]? = some u → wr.cell? ((a.add (k * 2)).add j) = some u) := fun j u hj => cell_keep (hc1 j u hj) rb
      have HE := show Hid _ from he
      clear he hc1
      by_cases hte : t < e
      · have hte' : ¬ t ≥ e := by omega
        have hte2 : ¬ e ≤ t := by omega
        have l4 : Row (wr.alloc (.cells #[.int .u32 p, .int .u64 t] 30)) wr.heap.size #[.int .u32 p, .int .u64 t] 30 := Row.new _ _ _
        have ro' := ro.alloc (.cells #[.int .u32 p, .int .u64 t] 30)
        have hr := fun ty => ro'.snocP ty wr.heap.size ⟨p, t⟩ l4 (by have := rb.size; simp; omega) (by simp [HN.out]; omega)
        have HHR : Hid _ := hr
        have HBK : Hid _ := ro'.lands
        have rb' := rb.alloc rb.size (.cells #[.int .u32 p, .int .u64 t] 30)
        clear hr ro ro' l4
        have tl : Hid (1 = 1) := rfl
        go_wp2_with (first
          | (have hh := tl; clear hh tl; refine wpList_load_any rfl 30 (.tmp 26) rfl (a.add (k * 2)) rfl [.int .u32 p, .int .u64 t] _ HC.out Try.underlying30 rfl size30 ?_)
          | (at_builtin; refine wpList_copy rfl (.tmp 23) (.tmp 28) 23 rfl (.slice oa2 k cap2) (.slice (some ⟨wr.heap.size, 0, none⟩) 1 1) rfl rfl (T := fun v' w' => Own w' w.heap.size v' (os.take k ++ [⟨p, t⟩]) ∧ (wr.alloc (.cells #[.int .u32 p, .int .u64 t] 30)).grownBy w' (Value.slice oa2 k cap2).ownBlock) (fun ty => HHR.out ty) ?_
             rintro v2 w7 ⟨lo7, gr⟩
             have eb : Below w.heap.size w w7 := rb'.grown gr rb'.size (fun j q => HBK.out j q)
             clear gr rb' HHR HBK))
        obtain ⟨oa3, cap3, hf7⟩ := lo7.form
        have hl3 : (os.take k ++ [(⟨p, t⟩ : O)]) = os.take (k + 1) := by rw [List.take_add_one, HE.out]; rfl
        rw [hl3] at lo7 hf7
        have hl4 : (os.take (k + 1)).length = k + 1 := by simp [HN.out]; omega
        rw [hl4] at hf7
        subst hf7
        go_roundw
        case rel => exact ⟨k + 1, oa3, cap3, by rw [← HFF.out, wrap_add], rfl, by go_num, by omega, eb, lo7, ahead_succ HA.out HE.out hte⟩
        case measure => simp [intOf]; omega
      · have hte' : t ≥ e := by omega
        have hte2 : e ≤ t := by omega
        have HK : Hid (kp os e = os.take k) := fin.out fun o q => by rw [HE.out] at q; cases q; exact hte
        clear fin
        have hlen : Hid ((kp os e).length = k) := by show _ = _; rw [HK.out]; simp [HN.out]; omega
        go_wp2
        rw [HP.out]
        refine ⟨.slice oa2 k cap2, ?_, by rw [HK.out]; exact ro, rb⟩
        rw [← kpN_is first os e _ hlen.out, HFF.out]
    · obtain rfl : k = n := by omega
      have hkn' : ¬ (k : Int) < (k : Int) := by omega
      have HK : Hid (kp os e = os.take k) := fin.out fun o q => by rw [List.getElem?_eq_none (by rw [HN.out]; omega)] at q; cases q
      clear fin
      have hlen : Hid ((kp os e).length = k) := by show _ = _; rw [HK.out]; simp [HN.out]
      go_wp2
      rw [HP.out]
      refine ⟨.slice oa2 k cap2, ?_, by rw [HK.out]; exact ro, rb⟩
      rw [← kpN_is first os e _ hlen.out, HFF.out]
end Go.Proofs.Ytbpaffjoedihbab
