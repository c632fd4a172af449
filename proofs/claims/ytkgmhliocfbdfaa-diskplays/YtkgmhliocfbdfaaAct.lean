/-
  Proved here: what the statements' own 'do' answers and leaves of a disk that is there, call by call.
-/
import Derived.Test.YtkgmhliocfbdfaaSync
import Derived.Test.YtkgmhliocfbdfaaOpn
namespace Go.Proofs.Ytkgmhliocfbdfaa
open Go.ChangeShapes Go.WideShapes Go.ChangeAt Go.RowKit
set_option linter.unusedVariables false
set_option linter.unusedSimpArgs false

/-- What a call answers and leaves. -/
def act (d : Dsk) (c : Call) : List Int × Int × Dsk :=
  if c.kd = 0 then read d c.b
  else if c.kd = 1 then (zs 256, writ d c.b (filled c.y))
  else if c.kd = 2 then (zs 256, sync d)
  else if c.kd = 3 then (zs 256, 0, d.plan c.zl c.b)
  else if c.kd = 4 then (zs 256, 0, d.crash c.bl)
  else (zs 256, 0, d)
theorem read_length {w : World} {g : Nat} {d : Dsk} {L : Loc} {N : Nat} (h : DAt w g d L N) (b : Int) : (read d b).1.length = 256 := by
  unfold read
  by_cases e : (ask d b).1 = 0
  · rw [if_pos e]
    obtain ⟨b1, b2, b3⟩ := ask_in e
    show ((ask d b).2.seen b).length = 256
    rw [b3, count_seen]; exact (Dsk.seen_length h b ⟨b1, b2⟩).1
  · rw [if_neg e]; exact zs_length 256
theorem do_disk {w : World} {g : Nat} {d : Dsk} {L : Loc} {N : Nat} (h : DAt w g d L N) (ho : d.ops < 9223372036854775806) (hN : N + 4 < 1000000000000) (c : Call) (ok : c.Ok w) :
    Calls Try.prog 11 #[.pointer (some ⟨g, 0, none⟩), .agg #[.int .i64 c.kd, .int .i64 c.b, .int .u8 c.y, c.fs, c.ks]] w fun e w' => e = .returned (.tuple #[.agg (bs (act d c).1), .int .i64 (act d c).2.1]) ∧ Crashed w g (act d c).2.2 L (N + 4) w' := by
  have hF : ∀ k, foot g L k → k < w.heap.size := fun k hk => h.lt hk
  have hT : ∀ d' : Dsk, ∀ (wa w' : World) (j : Nat), (fun (wa w' : World) => ∃ L', DAt w' g d' L' (N + 4) ∧ ∀ j, foot g L' j → foot g L j ∨ wa.heap.size ≤ j) wa w' → w.heap.size ≤ j → j < wa.heap.size → ∀ cs, (fun w' => ∃ L', DAt w' g d' L' (N + 4) ∧ ∀ j, foot g L' j → foot g L j ∨ w.heap.size ≤ j) (World.setRow w' j cs) := by
    rintro d' wa w' j ⟨L', D', F'⟩ h1 h2 cs
    refine ⟨L', D'.setRow j cs (fun q => ?_), fun k hk => ?_⟩
    · rcases F' j q with q | q
      · have := hF j q; omega
      · omega
    · rcases F' k hk with q | q
      · exact Or.inl q
      · exact Or.inr (by omega)
  have fin : ∀ (d' : Dsk) (x : Value) (e : Ending) (w' : World), (e = .returned x ∧ Off (foot g L) w w' ∧ ∃ L', DAt w' g d' L' (N + 4) ∧ ∀ j, foot g L' j → foot g L j ∨ w.heap.size ≤ j) → (e = .returned x ∧ Crashed w g d' L (N + 4) w') := by
    rintro d' x e w' ⟨h1, h2, L', h3, h4⟩
    exact ⟨h1, L', h3, h2, h4⟩
  have lift : ∀ (d' : Dsk) {wa : World} (x : Value) {M : Nat}, M ≤ N + 4 → ∀ (e : Ending) (w' : World), e = .returned x ∧ Crashed wa g d' L M w' → e = .returned x ∧ Off (foot g L) wa w' ∧ ∃ L', DAt w' g d' L' (N + 4) ∧ ∀ j, foot g L' j → foot g L j ∨ wa.heap.size ≤ j := by
    rintro d' wa x M hM e w' ⟨h1, L', h2, h3, h4⟩
    exact ⟨h1, h3, L', h2.grow hM hN, h4⟩
  unfold act
  by_cases k0 : c.kd = 0
  · rw [if_pos k0, k0]
    refine (do_read _ c.b c.y c.fs c.ks w _ hF _ _ (hT (read d c.b).2.2) (read d c.b).1 (read_length h c.b) (read d c.b).2.1 (fun wa hb => (read_any (h.below hb) ho c.b).mono ?_)).mono (fin _ _)
    rintro e w' ⟨h1, h2, h3⟩
    exact lift _ _ (by omega) e w' ⟨h1, L, h2, h3, fun j hj => Or.inl hj⟩
  rw [if_neg k0]
  by_cases k1 : c.kd = 1
  · rw [if_pos k1, k1]
    refine (do_write _ c.b c.y c.fs c.ks w _ hF _ _ (hT (writ d c.b (filled c.y)).2) (writ d c.b (filled c.y)).1 ok.y (fun wa hb => (write_any (h.below hb) ho c.b _ (filled_length _) (filled_bytes _) hN).mono ?_)).mono (fin _ _)
    rintro e w' ⟨h1, L', h2, h3, h4⟩
    exact lift _ _ (Nat.le_refl _) e w' ⟨h1, L', h2, h3, h4⟩
  rw [if_neg k1]
  by_cases k2 : c.kd = 2
  · rw [if_pos k2, k2]
    refine (do_sync _ c.b c.y c.fs c.ks w _ hF _ _ (hT (sync d).2) (sync d).1 (fun wa hb => (sync_any (h.below hb) ho).mono ?_)).mono (fin _ _)
    intro e w' hh
    exact lift _ _ (by omega) e w' hh
  rw [if_neg k2]
  by_cases k3 : c.kd = 3
  · rw [if_pos k3, k3]
    refine (do_plan _ c.b c.y c.fs c.ks w _ hF _ _ (hT (d.plan c.zl c.b)) c.zl ok.fs ok.zl (fun wa k hb hc hh => (plan_any (h.below hb) k c.zl hc (fun a n cc e q => ?_) ok.zw ok.zl c.b ok.b).mono ?_)).mono (fin _ _)
    · have h1 := hh a n cc e
      have h2 := h.row.lt
      omega
    · rintro e w' ⟨h1, m, hm, h2, h3⟩
      refine lift _ _ (by omega) e w' ⟨h1, L.plan m, h2, h3.mono (fun j hj => Or.inl (Or.inl hj)), ?_⟩
      rintro j (q | q | q | q | q)
      · exact Or.inl (Or.inl q)
      · exact Or.inl (Or.inr (Or.inl q))
      · exact Or.inl (Or.inr (Or.inr (Or.inl q)))
      · exact Or.inl (Or.inr (Or.inr (Or.inr (Or.inl q))))
      · simp [Loc.plan] at q; exact Or.inr (by omega)
  rw [if_neg k3]
  by_cases k4 : c.kd = 4
  · rw [if_pos k4, k4]
    refine (do_crash _ c.b c.y c.fs c.ks w _ hF _ _ (hT (d.crash c.bl)) c.bl ok.ks ok.bl (fun wa k hb hc hh => (crash_any (h.below hb) k c.bl hc (fun a n cc e q => ?_)).mono ?_)).mono (fin _ _)
    · have h1 := hh a n cc e
      have h2 := h.lt q
      omega
    · intro e w' hh
      exact lift _ _ (by omega) e w' hh
  rw [if_neg k4]
  have wk := ok.kd
  refine (do_other _ c.kd c.b c.y c.fs c.ks w _ hF _ _ (hT d) (by omega) (fun wa hb => ⟨L, (h.below hb).grow (by omega) hN, fun j hj => Or.inl hj⟩)).mono (fin _ _)
end Go.Proofs.Ytkgmhliocfbdfaa
