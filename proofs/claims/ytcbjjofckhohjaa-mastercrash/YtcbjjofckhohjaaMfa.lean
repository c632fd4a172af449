/-
  Facts of masters: what was packed is told again; Load of a disk; the document's May.
-/
import Derived.Test.YtcbjjofckhohjaaMdk
namespace Go.Proofs.Ytcbjjofckhohjaa
open Go.ChangeShapes Go.WideShapes Go.ChangeAt Go.RowKit
set_option linter.unusedVariables false
set_option linter.unusedSimpArgs false
set_option maxRecDepth 20000

theorem num_mid (A C : List Int) (v : Int) (n o : Nat) (ho : A.length = o) (hv : 0 ≤ v) (p : List Int) (hp : Bytes p) (he : p = padT (A ++ (low v n ++ C))) (hl : (A ++ (low v n ++ C)).length ≤ 224) : num (strOfNums p) o n = v % 2 ^ (8 * n) := by
  subst he
  refine num_tx hp v hv o n fun k hk => ?_
  rw [padT_at _ hl, getD_right (by omega), show o + k - A.length = k by omega, getD_left (by rw [low_length]; exact hk), low_getD v n k hk]

/-- What was packed is told again. -/
theorem unT_packB (m : M) (hf : m.Fit) (hm : mayM m = true) : unT (packB m) = m := by
  obtain ⟨m1, m2, m3, m4⟩ := mayM_of hm
  have g0 := hf.seq
  have g1 := hf.ep
  have g2 := hf.tail
  have g3 := hf.lsn
  have g4 := hf.last
  have g5 : 0 ≤ m.pg ∧ m.pg ≤ 16 := by omega
  have g6 : 0 ≤ m.un ∧ m.un ≤ 32 := by omega
  have g7 : 0 ≤ m.lg ∧ m.lg ≤ 512 := by omega
  have g8 := hf.mx
  unfold unT
  rw [show Sl.payN (packB m) 4 = payM m from Sl.pay_sealed m.seq (payM m) (payM_length m)]
  have e0 : num (strOfNums (payM m)) 6 8 = m.seq := by
    have h := num_mid (([118, 97, 114, 118, 101, 49] : List Int)) (low m.ep 4 ++ low m.tail 4 ++ low m.lsn 8 ++ low m.last 4 ++ low m.pg 2 ++ low m.un 2 ++ low m.lg 2 ++ low m.mx 4 ++ low (u (more 0#32 (strOfNums (headT m)))) 4) m.seq 8 6 (by simp [low_length]) g0.1 (payM m) (payM_bytes m) (by unfold payM; congr 1) (by simp [low_length])
    rw [h, show (2 : Int) ^ (8 * 8) = 18446744073709551616 by decide]
    exact Int.emod_eq_of_lt (by omega) (by omega)
  have e1 : num (strOfNums (payM m)) 14 4 = m.ep := by
    have h := num_mid (([118, 97, 114, 118, 101, 49] : List Int) ++ low m.seq 8) (low m.tail 4 ++ low m.lsn 8 ++ low m.last 4 ++ low m.pg 2 ++ low m.un 2 ++ low m.lg 2 ++ low m.mx 4 ++ low (u (more 0#32 (strOfNums (headT m)))) 4) m.ep 4 14 (by simp [low_length]) g1.1 (payM m) (payM_bytes m) (by unfold payM; congr 1) (by simp [low_length])
    rw [h, show (2 : Int) ^ (8 * 4) = 4294967296 by decide]
    exact Int.emod_eq_of_lt (by omega) (by omega)
  have e2 : num (strOfNums (payM m)) 18 4 = m.tail := by
    have h := num_mid (([118, 97, 114, 118, 101, 49] : List Int) ++ low m.seq 8 ++ low m.ep 4) (low m.lsn 8 ++ low m.last 4 ++ low m.pg 2 ++ low m.un 2 ++ low m.lg 2 ++ low m.mx 4 ++ low (u (more 0#32 (strOfNums (headT m)))) 4) m.tail 4 18 (by simp [low_length]) g2.1 (payM m) (payM_bytes m) (by unfold payM; congr 1) (by simp [low_length])
    rw [h, show (2 : Int) ^ (8 * 4) = 4294967296 by decide]
    exact Int.emod_eq_of_lt (by omega) (by omega)
  have e3 : num (strOfNums (payM m)) 22 8 = m.lsn := by
    have h := num_mid (([118, 97, 114, 118, 101, 49] : List Int) ++ low m.seq 8 ++ low m.ep 4 ++ low m.tail 4) (low m.last 4 ++ low m.pg 2 ++ low m.un 2 ++ low m.lg 2 ++ low m.mx 4 ++ low (u (more 0#32 (strOfNums (headT m)))) 4) m.lsn 8 22 (by simp [low_length]) g3.1 (payM m) (payM_bytes m) (by unfold payM; congr 1) (by simp [low_length])
    rw [h, show (2 : Int) ^ (8 * 8) = 18446744073709551616 by decide]
    exact Int.emod_eq_of_lt (by omega) (by omega)
  have e4 : num (strOfNums (payM m)) 30 4 = m.last := by
    have h := num_mid (([118, 97, 114, 118, 101, 49] : List Int) ++ low m.seq 8 ++ low m.ep 4 ++ low m.tail 4 ++ low m.lsn 8) (low m.pg 2 ++ low m.un 2 ++ low m.lg 2 ++ low m.mx 4 ++ low (u (more 0#32 (strOfNums (headT m)))) 4) m.last 4 30 (by simp [low_length]) g4.1 (payM m) (payM_bytes m) (by unfold payM; congr 1) (by simp [low_length])
    rw [h, show (2 : Int) ^ (8 * 4) = 4294967296 by decide]
    exact Int.emod_eq_of_lt (by omega) (by omega)
  have e5 : num (strOfNums (payM m)) 34 2 = m.pg := by
    have h := num_mid (([118, 97, 114, 118, 101, 49] : List Int) ++ low m.seq 8 ++ low m.ep 4 ++ low m.tail 4 ++ low m.lsn 8 ++ low m.last 4) (low m.un 2 ++ low m.lg 2 ++ low m.mx 4 ++ low (u (more 0#32 (strOfNums (headT m)))) 4) m.pg 2 34 (by simp [low_length]) g5.1 (payM m) (payM_bytes m) (by unfold payM; congr 1) (by simp [low_length])
    rw [h, show (2 : Int) ^ (8 * 2) = 65536 by decide]
    exact Int.emod_eq_of_lt (by omega) (by omega)
  have e6 : num (strOfNums (payM m)) 36 2 = m.un := by
    have h := num_mid (([118, 97, 114, 118, 101, 49] : List Int) ++ low m.seq 8 ++ low m.ep 4 ++ low m.tail 4 ++ low m.lsn 8 ++ low m.last 4 ++ low m.pg 2) (low m.lg 2 ++ low m.mx 4 ++ low (u (more 0#32 (strOfNums (headT m)))) 4) m.un 2 36 (by simp [low_length]) g6.1 (payM m) (payM_bytes m) (by unfold payM; congr 1) (by simp [low_length])
    rw [h, show (2 : Int) ^ (8 * 2) = 65536 by decide]
    exact Int.emod_eq_of_lt (by omega) (by omega)
  have e7 : num (strOfNums (payM m)) 38 2 = m.lg := by
    have h := num_mid (([118, 97, 114, 118, 101, 49] : List Int) ++ low m.seq 8 ++ low m.ep 4 ++ low m.tail 4 ++ low m.lsn 8 ++ low m.last 4 ++ low m.pg 2 ++ low m.un 2) (low m.mx 4 ++ low (u (more 0#32 (strOfNums (headT m)))) 4) m.lg 2 38 (by simp [low_length]) g7.1 (payM m) (payM_bytes m) (by unfold payM; congr 1) (by simp [low_length])
    rw [h, show (2 : Int) ^ (8 * 2) = 65536 by decide]
    exact Int.emod_eq_of_lt (by omega) (by omega)
  have e8 : num (strOfNums (payM m)) 40 4 = m.mx := by
    have h := num_mid (([118, 97, 114, 118, 101, 49] : List Int) ++ low m.seq 8 ++ low m.ep 4 ++ low m.tail 4 ++ low m.lsn 8 ++ low m.last 4 ++ low m.pg 2 ++ low m.un 2 ++ low m.lg 2) (low (u (more 0#32 (strOfNums (headT m)))) 4) m.mx 4 40 (by simp [low_length]) g8.1 (payM m) (payM_bytes m) (by unfold payM; congr 1) (by simp [low_length])
    rw [h, show (2 : Int) ^ (8 * 4) = 4294967296 by decide]
    exact Int.emod_eq_of_lt (by omega) (by omega)
  unfold toldM
  rw [e0, e1, e2, e3, e4, e5, e6, e7, e8]
theorem whole_packB (m : M) (hf : m.Fit) : whole (packB m) = true := by
  have st := fun i hi => Sl.stamp_sealed m.seq (payM m) hf.seq.1 hf.seq.2 i hi
  unfold whole
  exact decide_eq_true ⟨by rw [show packB m = Sl.sealN m.seq (payM m) 4 from rfl, st 1 (by omega), st 0 (by omega)], by rw [show packB m = Sl.sealN m.seq (payM m) 4 from rfl, st 2 (by omega), st 0 (by omega)], by rw [show packB m = Sl.sealN m.seq (payM m) 4 from rfl, st 3 (by omega), st 0 (by omega)]⟩
theorem isM_packB (m : M) (hf : m.Fit) (hm : mayM m = true) : isM (packB m) = true := by
  unfold isM
  rw [whole_packB m hf, unT_packB m hf hm, hm]
  unfold packV
  rw [hm]
  simp
theorem gotM_packB (m : M) (hf : m.Fit) (hm : mayM m = true) : gotM (packB m) = m := by
  unfold gotM
  rw [isM_packB m hf hm, unT_packB m hf hm]; rfl
theorem isM_zs : isM (zs 256) = false := by
  have h : mayM (unT (zs 256)) = false := by decide +kernel
  unfold isM
  rw [h]; simp
theorem packB_inj {a b : M} (ha : a.Fit) (hb : b.Fit) (hma : mayM a = true) (hmb : mayM b = true) (h : packB a = packB b) : a = b := by
  rw [← unT_packB a ha hma, ← unT_packB b hb hmb, h]

theorem ask_seen (d : Dsk) (b c : Int) : (ask d b).2.seen c = d.seen c := by
  unfold ask; split
  · rfl
  · split
    · exact count_seen d c
    · rfl
theorem ask_n (d : Dsk) (b : Int) : (ask d b).2.n = d.n := by
  unfold ask; split
  · rfl
  · split
    · unfold count; split
      · rfl
      · split <;> rfl
    · rfl
theorem ask_zero (d : Dsk) (b : Int) (h : (ask d b).1 = 0) : 0 ≤ b ∧ b < d.n := by
  unfold ask at h; split at h
  · simp at h
  · split at h
    · assumption
    · simp at h
theorem read_d (d : Dsk) (b : Int) : (read d b).2.2 = (ask d b).2 := by unfold read; split <;> rfl
theorem read_e (d : Dsk) (b : Int) : (read d b).2.1 = (ask d b).1 := by
  unfold read; split
  · rename_i h; exact h.symm
  · rfl
theorem read_b (d : Dsk) (b : Int) : (read d b).1 = if (ask d b).1 = 0 then d.seen b else zs 256 := by
  unfold read; split
  · exact ask_seen d b b
  · rfl
/-- The disk while it is read. -/
def dk (d : Dsk) : Nat → Dsk
  | 0 => d
  | k + 1 => (read (dk d k) (k : Int)).2.2
def bkD (d : Dsk) (k : Nat) : List Int := (read (dk d k) (k : Int)).1
def ekD (d : Dsk) (k : Nat) : Int := (read (dk d k) (k : Int)).2.1
theorem dk_is (d : Dsk) : ∀ k, (∀ c, (dk d k).seen c = d.seen c) ∧ (dk d k).n = d.n ∧ (dk d k).ops ≤ d.ops + k
  | 0 => ⟨fun _ => rfl, rfl, by simp [dk]⟩
  | k + 1 => by
    obtain ⟨h1, h2, h3⟩ := dk_is d k
    refine ⟨fun c => ?_, ?_, ?_⟩
    · show (read (dk d k) (k : Int)).2.2.seen c = _
      rw [read_d, ask_seen, h1]
    · show (read (dk d k) (k : Int)).2.2.n = _
      rw [read_d, ask_n, h2]
    · show (read (dk d k) (k : Int)).2.2.ops ≤ _
      rw [read_d]
      have := ask_ops (dk d k) (k : Int)
      omega
theorem bk_len {w : World} {g : Nat} {d : Dsk} {L : Loc} {N : Nat} (h : DAt w g d L N) (k : Nat) : (bkD d k).length = 256 ∧ Bytes (bkD d k) := by
  obtain ⟨h1, h2, _⟩ := dk_is d k
  unfold bkD
  rw [read_b]
  split
  · rename_i q
    have := ask_zero _ _ q
    rw [h2] at this
    rw [h1]
    exact Dsk.seen_length h _ this
  · exact ⟨zs_length _, zs_bytes _⟩
/-- What Load answers of a disk, and what the disk then is. -/
def loadR (d : Dsk) : M × Int × Int := ldR (bkD d) (ekD d)
def loadD (d : Dsk) : Dsk := dk d (ldQ (ekD d))
theorem mload_any {w : World} {g : Nat} {d : Dsk} {L : Loc} {N : Nat} (h : DAt w g d L N) (ho : d.ops < 9223372036854775804) :
    Calls Try.prog 19 #[.pointer (some ⟨g, 0, none⟩)] w fun e w' => e = .returned (.tuple #[.agg (mcells (loadR d).1), .int .i64 (loadR d).2.1, .int .i64 (loadR d).2.2]) ∧ DAt w' g (loadD d) L N ∧ Off (foot g L) w w' := by
  refine (load_walk (.pointer (some ⟨g, 0, none⟩)) (bkD d) (ekD d) (fun k _ => bk_len h k) w (foot g L) (fun k hk => h.lt hk) (fun k wa => DAt wa g (dk d k) L N ∧ Off (foot g L) w wa) ?_ ⟨h, Off.refl _ _⟩ ?_).mono ?_
  · rintro i wa wb ⟨h1, h2⟩ o _
    exact ⟨h1.off o (fun k hk => by have := h.lt hk; omega), h2.trans o (fun j hj => Or.inr hj)⟩
  · rintro k hk _ wa ⟨h1, h2⟩
    have := (dk_is d k).2.2
    refine (read_any h1 (by omega) (k : Int)).mono ?_
    rintro e w' ⟨rfl, k1, k2⟩
    exact ⟨rfl, ⟨k1, h2.trans k2 (fun j hj => Or.inl hj)⟩, k2⟩
  · rintro e w' ⟨rfl, h1, h2⟩
    exact ⟨rfl, h1, h2⟩
theorem mload_nil (w : World) : Calls Try.prog 19 #[.pointer none] w fun e w' => e = .returned (.tuple #[.agg (mcells zm), .int .i64 0, .int .i64 4]) ∧ Below w.heap.size w w' := by
  refine (load_walk (.pointer none) (fun _ => zs 256) (fun _ => 4) (fun k _ => ⟨zs_length _, zs_bytes _⟩) w (fun _ => False) (fun k h => h.elim) (fun k wa => Below w.heap.size w wa) ?_ (Below.refl _ _) ?_).mono ?_
  · intro i wa wb h1 o h2
    exact h1.trans (o.below h2 (fun k hk => hk))
  · intro k hk _ wa h1
    refine (read_nil (k : Int) wa).mono ?_
    rintro e w' ⟨rfl, h2⟩
    exact ⟨rfl, h1.trans (h2.mono h1.size), Off.of_below h2⟩
  · rintro e w' ⟨rfl, h1⟩
    exact ⟨rfl, h1⟩
/-- Of a disk whose power stays. -/
theorem read_well {d : Dsk} {n : Nat} {k : Int} (h : Well d n k) (b : Int) (hb : 0 ≤ b ∧ b < n) : read d b = (d.seen b, 0, d.tick (d.ops + 1)) := by
  have e : ask d b = (0, d.tick (d.ops + 1)) := by
    unfold ask
    rw [h.on, if_neg (by simp), if_pos (by rw [h.size]; exact hb), count_well h]
  unfold read
  rw [e, if_pos rfl]
  rfl
/-- What two blocks tell. -/
def twoB (b0 b1 : List Int) : Nat → List Int := fun k => if k = 0 then b0 else b1
def ldB (b0 b1 : List Int) : M × Int × Int := ldR (twoB b0 b1) (fun _ => 0)
theorem ldR_congr (bk bk' : Nat → List Int) (ek ek' : Nat → Int) (h0 : bk 0 = bk' 0) (h1 : bk 1 = bk' 1) (e0 : ek 0 = ek' 0) (e1 : ek 1 = ek' 1) : ldR bk ek = ldR bk' ek' := by
  have s1 : ldS bk 1 = ldS bk' 1 := by
    show (if _ then _ else _) = (if _ then _ else _)
    rw [h0]; rfl
  have s2 : ldS bk 2 = ldS bk' 2 := by
    show (if _ then _ else _) = (if _ then _ else _)
    rw [s1, h1]
  unfold ldR
  rw [e0, e1, s2]
theorem load_well {d : Dsk} {n : Nat} {k : Int} (h : Well d n k) (hn : 2 ≤ n) : loadR d = ldB (d.seen 0) (d.seen 1) ∧ loadD d = (d.tick (d.ops + 1)).tick (d.ops + 2) := by
  have r0 := read_well h 0 (by omega)
  have r1 := read_well h.tick 1 (by omega)
  have d1 : dk d 1 = d.tick (d.ops + 1) := by show (read d ((0 : Nat) : Int)).2.2 = _; rw [show ((0 : Nat) : Int) = 0 from rfl, r0]
  have b0 : bkD d 0 = d.seen 0 := by show (read d ((0 : Nat) : Int)).1 = _; rw [show ((0 : Nat) : Int) = 0 from rfl, r0]
  have e0 : ekD d 0 = 0 := by show (read d ((0 : Nat) : Int)).2.1 = _; rw [show ((0 : Nat) : Int) = 0 from rfl, r0]
  have b1 : bkD d 1 = d.seen 1 := by show (read (dk d 1) ((1 : Nat) : Int)).1 = _; rw [d1, show ((1 : Nat) : Int) = 1 from rfl, r1]; rfl
  have e1 : ekD d 1 = 0 := by show (read (dk d 1) ((1 : Nat) : Int)).2.1 = _; rw [d1, show ((1 : Nat) : Int) = 1 from rfl, r1]
  constructor
  · exact ldR_congr _ _ _ _ b0 b1 e0 e1
  · unfold loadD ldQ
    rw [e0, if_neg (by simp)]
    show (read (dk d 1) ((1 : Nat) : Int)).2.2 = _
    rw [d1, show ((1 : Nat) : Int) = 1 from rfl, r1]
    show (d.tick (d.ops + 1)).tick ((d.ops + 1) + 1) = _
    rw [show d.ops + 1 + 1 = d.ops + 2 by omega]
theorem stor_well {d : Dsk} {n : Nat} {k : Int} (h : Well d n k) (sl : Int) (m : M) (hm : okS m sl = true) (hn : 2 ≤ n) : storD d sl m = (0, (((d.tick (d.ops + 1)).wrote sl (packB m) 4).tick (d.ops + 2)).synced) := by
  have hs : 0 ≤ sl ∧ sl ≤ 1 := by unfold okS at hm; simp at hm; exact hm.2
  have e := writ_well h sl (by omega) (packB m)
  unfold storD
  rw [hm, e, if_pos rfl, if_pos rfl, sync_well (h.tick.wrote sl (packB m))]
  show _ = (0, _)
  congr 3
  show d.ops + 1 + 1 = d.ops + 2
  omega
theorem tick_seen (d : Dsk) (k b : Int) : (d.tick k).seen b = d.seen b := rfl
theorem synced_seen (d : Dsk) (b : Int) : d.synced.seen b = d.seen b := rfl
theorem wrote_other (d : Dsk) (c b : Int) (x : List Int) (h : b ≠ c) : (d.wrote c x 4).seen b = d.seen b := by
  have e : (d.wrote c x 4).sure = d.sure ∧ (d.wrote c x 4).pend = d.pend ++ [(c, 0, cut x 0), (c, 1, cut x 1), (c, 2, cut x 2), (c, 3, cut x 3)] := by
    constructor
    · rfl
    · simp [Dsk.wrote, Dsk.push]
  unfold Dsk.seen
  rw [e.1, e.2]
  have ov : ∀ (ps qs : List (Int × Int × List Int)) (f : Secs), over f (ps ++ qs) = over (over f ps) qs := by
    intro ps
    induction ps with
    | nil => intro qs f; rfl
    | cons p ps ih => intro qs f; exact ih qs _
  rw [ov, block_out]
  intro q hq
  simp at hq
  rcases hq with rfl | rfl | rfl | rfl <;> exact fun h' => h h'.symm
end Go.Proofs.Ytcbjjofckhohjaa
