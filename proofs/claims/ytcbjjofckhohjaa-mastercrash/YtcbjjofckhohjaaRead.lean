/-
  Proved here: what disk.Read answers and leaves, what Sure and Seen tell of no block, and all of these of a disk that is not there.
-/
import Derived.Test.YtcbjjofckhohjaaSeen
namespace Go.Proofs.Ytcbjjofckhohjaa
open Go.ChangeShapes Go.WideShapes Go.ChangeAt Go.RowKit
set_option linter.unusedVariables false
set_option linter.unusedSimpArgs false
set_option maxRecDepth 20000

theorem ret_two {P : Program} {fn : Func} {p c : Tmp} {ty : TypeId} (h : fn.results = #[.cell p ty, .tmp c]) (tmps : Array Value) (w : World) (g : Nat) (t : TypeId) (cs : Array Value) (n : Nat) (e : TypeId) (y : Value)
    (hp : tmps.getD p undef = .pointer (some ⟨g, 0, none⟩)) (hc : tmps.getD c undef = y) (hg : Row w g cs t)
    (hu : P.underlying ty = some (.array n e)) (hi : (P.info? ty).map (·.size) = some n) (hn : cs.size = n) :
    (results fn tmps).run P w = .ok (.tuple #[.agg cs, y]) w := by
  have hp' : tmps[p]?.getD undef = .pointer (some ⟨g, 0, none⟩) := by simpa using hp
  have hc' : tmps[c]?.getD undef = y := by simpa using hc
  simp [results, h, hp', hc', asAddr, run_loadVar_row w g t ty cs (0, 0) _ hg hu rfl (by rw [hi, hn])]
/-- Of no block's number Sure tells noughts. -/
theorem sure_out (v : Value) (b : Int) (w : World) (hh : ∀ wa, Below w.heap.size w wa → Calls Try.prog 46 #[v, .int .i64 b] wa fun e w' => e = .returned (.bool false) ∧ w' = wa) :
    Calls Try.prog 55 #[v, .int .i64 b] w fun e w' => e = .returned (.agg (bs (zs 256))) ∧ Below w.heap.size w w' := by
  have hz := zero29
  have a0 : Row ((w.alloc (.cells (bs (zs 256)) 29)).alloc (.cells (bs (zs 256)) 29)) w.heap.size (bs (zs 256)) 29 := (Row.new _ _ _).alloc _
  have a1 : Row ((w.alloc (.cells (bs (zs 256)) 29)).alloc (.cells (bs (zs 256)) 29)) (w.heap.size + 1) (bs (zs 256)) 29 := by have := Row.new (w.alloc (.cells (bs (zs 256)) 29)) (bs (zs 256)) 29; simpa using this
  have ab : Below w.heap.size w ((w.alloc (.cells (bs (zs 256)) 29)).alloc (.cells (bs (zs 256)) 29)) := ((Below.refl _ _).alloc (Nat.le_refl _) _).alloc (by simp) _
  go_enter Try.func55, Try.ntmps55
  go_wp2_with (first
    | (go_at_call 46; refine (hh _ ab).mono ?_; rintro e w' ⟨rfl, rfl⟩)
    | (refine load_row rfl 29 (.tmp 5) rfl (w.heap.size + 1) rfl 29 (bs (zs 256)) a1 256 5 Try.underlying29 size29 (by rw [bs_size, zs_length]) ?_)
    | (refine store_row rfl 29 (.tmp 4) (.tmp 11) rfl w.heap.size (zs 256) rfl rfl 29 _ a0 256 size29 (by rw [bs_size, zs_length]) (zs_length 256) ?_))
  refine bodyPost_ret (v := .agg (bs (zs 256))) ?_ rfl ⟨rfl, below_setRow ab (Nat.le_refl _) _⟩
  exact ret_row (fn := Try.f55) rfl _ _ w.heap.size 29 (bs (zs 256)) 256 5 rfl (a0.set _) Try.underlying29 size29 (by rw [bs_size, zs_length])
theorem seen_out (v : Value) (b : Int) (w : World) (hh : ∀ wa, Below w.heap.size w wa → Calls Try.prog 46 #[v, .int .i64 b] wa fun e w' => e = .returned (.bool false) ∧ w' = wa) :
    Calls Try.prog 49 #[v, .int .i64 b] w fun e w' => e = .returned (.agg (bs (zs 256))) ∧ Below w.heap.size w w' := by
  have hz := zero29
  have a0 : Row (w.alloc (.cells (bs (zs 256)) 29)) w.heap.size (bs (zs 256)) 29 := Row.new _ _ _
  have ab : Below w.heap.size w (w.alloc (.cells (bs (zs 256)) 29)) := (Below.refl _ _).alloc (Nat.le_refl _) _
  have hsu := sure_out v b (w.alloc (.cells (bs (zs 256)) 29)) (fun wa hb => hh wa (ab.trans (hb.mono (Nat.le_of_lt a0.lt))))
  go_enter Try.func49, Try.ntmps49
  go_wp2_with (first
    | (go_at_call 55; refine hsu.mono ?_; rintro e wz ⟨rfl, hzb⟩
       have hX : w.heap.size < wz.heap.size := Nat.lt_of_lt_of_le a0.lt hzb.size
       have q0 : Row (wz.alloc (.cells (bs (zs 256)) 29)) w.heap.size (bs (zs 256)) 29 := (a0.below hzb a0.lt).alloc _
       have q1 : Row (wz.alloc (.cells (bs (zs 256)) 29)) wz.heap.size (bs (zs 256)) 29 := Row.new _ _ _
       have z0 : Row ((wz.alloc (.cells (bs (zs 256)) 29)).setRow wz.heap.size (bs (zs 256))) w.heap.size (bs (zs 256)) 29 := q0.other (by omega) _
       have z1 : Row ((wz.alloc (.cells (bs (zs 256)) 29)).setRow wz.heap.size (bs (zs 256))) wz.heap.size (bs (zs 256)) 29 := q1.set _
       have zb : Below w.heap.size w ((wz.alloc (.cells (bs (zs 256)) 29)).setRow wz.heap.size (bs (zs 256))) := below_setRow (((ab.trans (hzb.mono (Nat.le_of_lt a0.lt)))).alloc (Nat.le_of_lt hX) _) (Nat.le_of_lt hX) _)
    | (refine store_row rfl 29 (.tmp 5) (.tmp 11) rfl wz.heap.size (zs 256) rfl rfl 29 _ q1 256 size29 (by rw [bs_size, zs_length]) (zs_length 256) ?_)
    | (go_at_call 46; refine (hh _ zb).mono ?_; rintro e w' ⟨rfl, rfl⟩)
    | (refine load_row rfl 29 (.tmp 5) rfl wz.heap.size rfl 29 (bs (zs 256)) z1 256 5 Try.underlying29 size29 (by rw [bs_size, zs_length]) ?_)
    | (refine store_row rfl 29 (.tmp 4) (.tmp 16) rfl w.heap.size (zs 256) rfl rfl 29 _ z0 256 size29 (by rw [bs_size, zs_length]) (zs_length 256) ?_))
  refine bodyPost_ret (v := .agg (bs (zs 256))) ?_ rfl ⟨rfl, below_setRow zb (Nat.le_refl _) _⟩
  exact ret_row (fn := Try.f49) rfl _ _ w.heap.size 29 (bs (zs 256)) 256 5 rfl (z0.set _) Try.underlying29 size29 (by rw [bs_size, zs_length])

/-- Read, where it is refused. -/
theorem read_err (v : Value) (b E : Int) (hE : ¬ E = 0) (w : World) (F : Nat → Prop) (hF : ∀ k, F k → k < w.heap.size) (T : World → Prop) (hT : ∀ a c, T a → Below a.heap.size a c → T c) (hT2 : ∀ a j cs, T a → ¬ F j → T (a.setRow j cs))
    (hh : ∀ wa, Below w.heap.size w wa → Calls Try.prog 33 #[v, .int .i64 b] wa fun e w' => e = .returned (.int .i64 E) ∧ Off F wa w' ∧ T w') :
    Calls Try.prog 35 #[v, .int .i64 b] w fun e w' => e = .returned (.tuple #[.agg (bs (zs 256)), .int .i64 E]) ∧ Off F w w' ∧ T w' := by
  have hz := zero29
  have a0 : Row (w.alloc (.cells (bs (zs 256)) 29)) w.heap.size (bs (zs 256)) 29 := Row.new _ _ _
  have ab : Below w.heap.size w (w.alloc (.cells (bs (zs 256)) 29)) := (Below.refl _ _).alloc (Nat.le_refl _) _
  have hn0 : ¬ F w.heap.size := fun q => by have := hF _ q; omega
  go_enter Try.func35, Try.ntmps35
  go_wp2_with (first
    | (go_at_call 33; refine (hh _ ab).mono ?_; rintro e w' ⟨rfl, ho, ht⟩
       have q0 : Row w' w.heap.size (bs (zs 256)) 29 := a0.off ho hn0)
    | (refine build_none rfl 29 rfl (bs (zs 256)) built29 ?_)
    | (refine store_row rfl 29 (.tmp 4) (.tmp 12) rfl w.heap.size (zs 256) rfl rfl 29 _ q0 256 size29 (by rw [bs_size, zs_length]) (zs_length 256) ?_))
  refine bodyPost_ret (v := .tuple #[.agg (bs (zs 256)), .int .i64 E]) ?_ rfl ⟨rfl, ?_, hT2 _ _ _ ht hn0⟩
  · exact ret_two (fn := Try.f35) rfl _ _ w.heap.size 29 (bs (zs 256)) 256 5 (.int .i64 E) rfl rfl (q0.set _) Try.underlying29 size29 (by rw [bs_size, zs_length])
  · have o1 : Off F w w' := (Off.of_below (F := F) ab).trans ho (fun j hj => Or.inl hj)
    exact o1.trans (Off.of_setRow (F := (· = w.heap.size)) _ _ _ rfl) (fun j hj => Or.inr (by omega))
/-- Read, where it is done. -/
theorem read_ok (v : Value) (b : Int) (C : List Int) (hC : C.length = 256) (w : World) (F : Nat → Prop) (hF : ∀ k, F k → k < w.heap.size) (T : World → Prop) (hT : ∀ a c, T a → Below a.heap.size a c → T c) (hT2 : ∀ a j cs, T a → ¬ F j → T (a.setRow j cs))
    (hh : ∀ wa, Below w.heap.size w wa → Calls Try.prog 33 #[v, .int .i64 b] wa fun e w' => e = .returned (.int .i64 0) ∧ Off F wa w' ∧ T w')
    (hs : ∀ wa, T wa → Calls Try.prog 49 #[v, .int .i64 b] wa fun e w' => e = .returned (.agg (bs C)) ∧ Below wa.heap.size wa w') :
    Calls Try.prog 35 #[v, .int .i64 b] w fun e w' => e = .returned (.tuple #[.agg (bs C), .int .i64 0]) ∧ Off F w w' ∧ T w' := by
  have hz := zero29
  have a0 : Row (w.alloc (.cells (bs (zs 256)) 29)) w.heap.size (bs (zs 256)) 29 := Row.new _ _ _
  have ab : Below w.heap.size w (w.alloc (.cells (bs (zs 256)) 29)) := (Below.refl _ _).alloc (Nat.le_refl _) _
  have hn0 : ¬ F w.heap.size := fun q => by have := hF _ q; omega
  go_enter Try.func35, Try.ntmps35
  go_wp2_with (first
    | (go_at_call 33; refine (hh _ ab).mono ?_; rintro e w' ⟨rfl, ho, ht⟩
       have q0 : Row w' w.heap.size (bs (zs 256)) 29 := a0.off ho hn0)
    | (go_at_call 49; refine (hs _ ht).mono ?_; rintro e wz ⟨rfl, hzb⟩
       have z0 := q0.below hzb q0.lt
       have zt := hT _ _ ht hzb)
    | (refine store_row rfl 29 (.tmp 4) (.tmp 16) rfl w.heap.size C rfl rfl 29 _ z0 256 size29 (by rw [bs_size, zs_length]) hC ?_))
  refine bodyPost_ret (v := .tuple #[.agg (bs C), .int .i64 0]) ?_ rfl ⟨rfl, ?_, hT2 _ _ _ zt hn0⟩
  · exact ret_two (fn := Try.f35) rfl _ _ w.heap.size 29 (bs C) 256 5 (.int .i64 0) rfl rfl (z0.set _) Try.underlying29 size29 (by rw [bs_size, hC])
  · have o1 : Off F w wz := ((Off.of_below (F := F) ab).trans ho (fun j hj => Or.inl hj)).trans (Off.of_below (F := F) hzb) (fun j hj => Or.inl hj)
    exact o1.trans (Off.of_setRow (F := (· = w.heap.size)) _ _ _ rfl) (fun j hj => Or.inr (by omega))

/-- What Read answers and leaves. -/
def read (d : Dsk) (b : Int) : List Int × Int × Dsk := if (ask d b).1 = 0 then ((ask d b).2.seen b, 0, (ask d b).2) else (zs 256, (ask d b).1, (ask d b).2)
theorem count_seen (d : Dsk) (b : Int) : (count d).2.seen b = d.seen b := by unfold count; split; · rfl
                                                                             · split <;> rfl
theorem Dsk.seen_length {w : World} {g : Nat} {d : Dsk} {L : Loc} {N : Nat} (h : DAt w g d L N) (b : Int) (hb : 0 ≤ b ∧ b < d.n) : (d.seen b).length = 256 ∧ Bytes (d.seen b) := by
  have hn := h.small
  have wb : Wf b := wf_of (by omega) (by omega)
  obtain ⟨s, hs, _⟩ := h.sure
  have key : ∀ i : Nat, i < 4 → Sec ((over d.sure d.pend).get b (i : Int)) := fun i hi => by
    have wi : Wf (i : Int) := wf_of (by omega) (by omega)
    unfold Secs.get
    rw [over_or]
    cases e : over (fun _ _ => none) d.pend b (i : Int) with
    | none =>
      have := hs.get_sec wb wi
      unfold Secs.get at this
      simpa using this
    | some x => simpa using h.fresh.sec wb wi e
  exact ⟨(blk_getD _ (fun i hi => (key i hi).1) 4 (by omega)).1, blk_bytes _ key⟩
theorem ask_in {d : Dsk} {b : Int} (h : (ask d b).1 = 0) : 0 ≤ b ∧ b < (d.n : Int) ∧ ask d b = count d := by
  unfold ask at h ⊢
  split at h
  · cases h
  · rename_i h1
    split at h
    · rename_i h2
      rw [if_neg h1, if_pos h2]; exact ⟨h2.1, h2.2, rfl⟩
    · cases h
theorem count_n (d : Dsk) : (count d).2.n = d.n := by unfold count; split; · rfl
                                                      · split <;> rfl
theorem DAt.setRow {w : World} {g : Nat} {d : Dsk} {L : Loc} {N : Nat} (h : DAt w g d L N) (j : Nat) (cs : Array Value) (hj : ¬ foot g L j) : DAt (w.setRow j cs) g d L N :=
  h.off (F := (· = j)) (Off.of_setRow _ _ _ rfl) (fun k hk q => hj (q ▸ hk))
theorem read_any {w : World} {g : Nat} {d : Dsk} {L : Loc} {N : Nat} (h : DAt w g d L N) (ho : d.ops < 9223372036854775806) (b : Int) :
    Calls Try.prog 35 #[.pointer (some ⟨g, 0, none⟩), .int .i64 b] w fun e w' => e = .returned (.tuple #[.agg (bs (read d b).1), .int .i64 (read d b).2.1]) ∧ DAt w' g (read d b).2.2 L N ∧ Off (foot g L) w w' := by
  have hF : ∀ k, foot g L k → k < w.heap.size := fun k hk => h.lt hk
  have hask : ∀ wa, Below w.heap.size w wa → Calls Try.prog 33 #[.pointer (some ⟨g, 0, none⟩), .int .i64 b] wa fun e w' => e = .returned (.int .i64 (ask d b).1) ∧ Off (foot g L) wa w' ∧ DAt w' g (ask d b).2 L N := fun wa hb => by
    refine (ask_any (h.below hb) ho b).mono ?_
    rintro e w' ⟨rfl, h1, h2⟩
    exact ⟨rfl, h2.mono (fun j hj => Or.inl (Or.inl hj)), h1⟩
  by_cases e0 : (ask d b).1 = 0
  · have er : read d b = ((ask d b).2.seen b, 0, (ask d b).2) := by unfold read; rw [if_pos e0]
    rw [er]
    rw [e0] at hask
    obtain ⟨b1, b2, b3⟩ := ask_in e0
    have hlen : ((ask d b).2.seen b).length = 256 := by rw [b3, count_seen]; exact (Dsk.seen_length h b ⟨b1, b2⟩).1
    refine (read_ok _ b ((ask d b).2.seen b) hlen w (foot g L) hF (fun w' => DAt w' g (ask d b).2 L N) (fun a c ha hb => ha.below hb) (fun a j cs ha hj => ha.setRow j cs hj) hask ?_).mono ?_
    · intro wa ha
      exact seen_in ha b ⟨b1, by rw [b3, count_n]; exact b2⟩
    · rintro e w' ⟨rfl, h1, h2⟩
      exact ⟨rfl, h2, h1⟩
  · have er : read d b = (zs 256, (ask d b).1, (ask d b).2) := by unfold read; rw [if_neg e0]
    rw [er]
    refine (read_err _ b (ask d b).1 e0 w (foot g L) hF (fun w' => DAt w' g (ask d b).2 L N) (fun a c ha hb => ha.below hb) (fun a j cs ha hj => ha.setRow j cs hj) hask).mono ?_
    rintro e w' ⟨rfl, h1, h2⟩
    exact ⟨rfl, h2, h1⟩
theorem DAt.has_out {w : World} {g : Nat} {d : Dsk} {L : Loc} {N : Nat} (h : DAt w g d L N) (b : Int) (hb : ¬ (0 ≤ b ∧ b < (d.n : Int))) :
    ∀ wa, Below w.heap.size w wa → Calls Try.prog 46 #[.pointer (some ⟨g, 0, none⟩), .int .i64 b] wa fun e w' => e = .returned (.bool false) ∧ w' = wa := fun wa hbl => by
  refine (has_any (h.below hbl) b).mono ?_
  rw [decide_eq_false hb]
  exact fun _ _ q => q
end Go.Proofs.Ytcbjjofckhohjaa
