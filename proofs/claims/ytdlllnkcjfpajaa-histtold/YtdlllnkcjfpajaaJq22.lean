/-
  Proved here: the document's Same, of two histories that are the same. What was told, copied.
-/
import Derived.Test.YtdlllnkcjfpajaaJq21
namespace Go.Proofs.Ytdlllnkcjfpajaa
open Go.ChangeShapes Go.WideShapes Go.ChangeAt Go.RowKit
set_option linter.unusedVariables false
set_option linter.unusedSimpArgs false
set_option maxRecDepth 20000
set_option maxHeartbeats 8000000 in
theorem same_any {w : World} {v u : Value} {hs ks : List Hm} (h1 : Helds w v hs) (h2 : Helds w u ks) (he : hs.map Hm.p = ks.map Hm.p) (hn : hs.length ≤ 1000) :
    Calls Try.prog 13 #[v, u] w fun e w' => e = .returned (.bool true) ∧ Below w.heap.size w w' := by
  have hz39 := Pa.zero39
  have HFO : Hid (∀ w', Below w.heap.size w w' → (fun e w' => e = Ending.returned (.bool true) ∧ Below w.heap.size w w') (.returned (.bool true)) w') := fun w' h => ⟨rfl, h⟩
  generalize (fun e w' => e = Ending.returned (.bool true) ∧ Below w.heap.size w w') = PP at HFO ⊢
  have hlen : hs.length = ks.length := by simpa using congrArg List.length he
  obtain ⟨oa, cap, rfl, hcx0⟩ := h1.hold
  obtain ⟨ob, cap2, rfl, hcy0⟩ := h2.hold
  have HX : Hid (∀ h ∈ hs, Held1 w h ∧ h.p.Fit) := fun h q => ⟨h1.each h q, h1.fit h q⟩
  have HY : Hid (∀ h ∈ ks, Held1 w h) := h2.each
  have HE : Hid (hs.map Hm.p = ks.map Hm.p) := he
  obtain ⟨n, HN⟩ : ∃ n, Hid (hs.length = n) := ⟨_, rfl⟩
  rw [← hlen, HN.out] at hcy0
  rw [← hlen]
  rw [HN.out] at hn hcx0 ⊢
  have HCX : Hid _ := hcx0
  have HCY : Hid _ := hcy0
  clear hcx0 hcy0 h1 h2 he hlen
  have b0 : Below w.heap.size w w := Below.refl _ _
  go_enter Try.func13, Try.ntmps13
  go_upto_region 4 with fail
  go_loopw [17] (fun q wr => ∃ i : Nat, q = .int .i64 (i : Int) ∧ i ≤ n ∧ Below w.heap.size w wr) (fun q _ => 1001 - (intOf q).toNat)
  case atStart => exact ⟨0, rfl, Nat.zero_le _, b0⟩
  case round =>
    clear b0
    rename World => wr
    obtain ⟨i, rfl, hi, hb⟩ := hrel
    by_cases hin : i < n
    · have hin' : (i : Int) < (n : Int) := by omega
      have hi0 : (0 : Int) ≤ (i : Int) := by omega
      obtain ⟨a, x, rfl, hx, hcx⟩ := HCX.out i hin
      obtain ⟨b, y, rfl, hy, hcy⟩ := HCY.out i hin
      have hxp : x.p = y.p := by
        have h1 : (hs.map Hm.p)[i]? = some x.p := by rw [List.getElem?_map, hx]; rfl
        have h2 : (ks.map Hm.p)[i]? = some y.p := by rw [List.getElem?_map, hy]; rfl
        rw [HE.out, h2] at h1
        exact (Option.some.inj h1).symm
      have hx1 := HX.out x (List.mem_of_getElem? hx)
      have hy1 := HY.out y (List.mem_of_getElem? hy)
      clear hx hy
      obtain ⟨P, ⟨ra, rn, rc⟩, ⟨wa, wn, wc⟩⟩ := x
      obtain ⟨P', ⟨sa, sn, sc⟩, ⟨za, zn, zc⟩⟩ := y
      obtain rfl : P = P' := hxp
      obtain ⟨hr1, hr2⟩ := old_seen hx1.1.rs
      obtain ⟨hs1, hs2⟩ := old_seen hy1.rs
      obtain ⟨hw1, hw2⟩ := old_page hx1.1.ws
      obtain ⟨hz1, hz2⟩ := old_page hy1.ws
      replace hr1 : rn = P.rs.length := hr1
      replace hs1 : sn = P.rs.length := hs1
      replace hw1 : wn = P.ws.length := hw1
      replace hz1 : zn = P.ws.length := hz1
      have e1 : rn = sn := by rw [hs1, hr1]
      have e2 : wn = zn := by rw [hz1, hw1]
      subst e1 e2
      have hrn9 : rn ≤ 1000 := by rw [hr1]; exact hx1.2.rl
      have hwn9 : wn ≤ 1000 := by rw [hw1]; exact hx1.2.wl
      have HRN : Hid (rn = P.rs.length) := hr1
      have HWN : Hid (wn = P.ws.length) := hw1
      have HR2 : Hid (∀ (k : Nat) v, P.rs[k]? = some v → ∃ b, ra = some b ∧ ∀ q u, ([.int .u16 v.1, .int .u32 v.2] : List Value)[q]? = some u → w.cell? ((b.add (k * 2)).add q) = some u) := hr2
      have HS2 : Hid (∀ (k : Nat) v, P.rs[k]? = some v → ∃ b, sa = some b ∧ ∀ q u, ([.int .u16 v.1, .int .u32 v.2] : List Value)[q]? = some u → w.cell? ((b.add (k * 2)).add q) = some u) := hs2
      have HW2 : Hid (∀ (k : Nat) z, P.ws[k]? = some z → ∃ b, wa = some b ∧ w.cell? (b.add k) = some (.int .u16 z)) := hw2
      have HZ2 : Hid (∀ (k : Nat) z, P.ws[k]? = some z → ∃ b, za = some b ∧ w.cell? (b.add k) = some (.int .u16 z)) := hz2
      have HCX1 : Hid (∀ q u, (Pa.O.cells ⟨P.st, P.co, P.dn, ⟨ra, rn, rc⟩, ⟨wa, wn, wc⟩⟩)[q]? = some u → w.cell? ((a.add (i * 5)).add q) = some u) := hcx
      have HCY1 : Hid (∀ q u, (Pa.O.cells ⟨P.st, P.co, P.dn, ⟨sa, rn, sc⟩, ⟨za, wn, zc⟩⟩)[q]? = some u → w.cell? ((b.add (i * 5)).add q) = some u) := hcy
      have HBW : Hid (Below w.heap.size w wr) := hb
      clear hr1 hr2 hs1 hs2 hw1 hw2 hz1 hz2 hcx hcy hx1 hy1 hb
      go_upto_region 6 with fail
      have hcx : ∀ q u, (Pa.O.cells ⟨P.st, P.co, P.dn, ⟨ra, rn, rc⟩, ⟨wa, wn, wc⟩⟩)[q]? = some u → wr.cell? ((a.add (i * 5)).add q) = some u := fun q u hq => cell_keep (HCX1.out q u hq) HBW.out
      have hcy : ∀ q u, (Pa.O.cells ⟨P.st, P.co, P.dn, ⟨sa, rn, sc⟩, ⟨za, wn, zc⟩⟩)[q]? = some u → wr.cell? ((b.add (i * 5)).add q) = some u := fun q u hq => cell_keep (HCY1.out q u hq) HBW.out
      go_cut [6, 7] from 20 to 27 (fun p q wx => ∃ X Y : Nat, p = .pointer (some ⟨X, 0, none⟩) ∧ q = .pointer (some ⟨Y, 0, none⟩) ∧ Row wx X #[.int .u32 P.st, .int .u32 P.co, .bool P.dn, .slice ra rn rc, .slice wa wn wc] 39 ∧ Row wx Y #[.int .u32 P.st, .int .u32 P.co, .bool P.dn, .slice sa rn sc, .slice za wn zc] 39 ∧ Below w.heap.size w wx)
      case first =>
          refine wp_region_last (S := fun w' => (∀ q u, (Pa.O.cells ⟨P.st, P.co, P.dn, ⟨ra, rn, rc⟩, ⟨wa, wn, wc⟩⟩)[q]? = some u → w'.cell? ((a.add (i * 5)).add q) = some u) ∧ (∀ q u, (Pa.O.cells ⟨P.st, P.co, P.dn, ⟨sa, rn, sc⟩, ⟨za, wn, zc⟩⟩)[q]? = some u → w'.cell? ((b.add (i * 5)).add q) = some u)) 11 (by kernel_rfl) ⟨hcx, hcy⟩ fun hS => ?_
          refine wpAnyL_take (i := 0) (v := .slice (some a) n cap) rfl (by kernel_rfl) (by kernel_rfl) (by kernel_rfl) (by kernel_rfl) (fun _ _ _ h => h) (Or.inl ⟨by rfl, fun w _ => by go_simp⟩) hS ?_
          try simp only [Act.put, nz0, nz1, nz2, nz3, nz4, nz5]
          refine wpAnyL_take (i := 1) (v := .int .i64 (i : Int)) rfl (by kernel_rfl) (by kernel_rfl) (by kernel_rfl) (by kernel_rfl) (fun _ _ _ h => h) (Or.inl ⟨by rfl, fun w _ => by go_simp⟩) hS ?_
          try simp only [Act.put, nz0, nz1, nz2, nz3, nz4, nz5]
          refine wpAnyL_take (i := 2) (v := .pointer (some (a.add (i * 5)))) rfl (by kernel_rfl) (by kernel_rfl) (by kernel_rfl) (by kernel_rfl) (fun _ _ _ h => h) (Or.inl ⟨by rfl, fun w _ => by go_simp⟩) hS ?_
          try simp only [Act.put, nz0, nz1, nz2, nz3, nz4, nz5]
          refine wpAnyL_take (i := 3) (v := .agg (Pa.O.cells ⟨P.st, P.co, P.dn, ⟨ra, rn, rc⟩, ⟨wa, wn, wc⟩⟩).toArray) rfl (by kernel_rfl) (by kernel_rfl) (by kernel_rfl) (by kernel_rfl) (fun _ _ _ h => h) (yields_load_any (by rfl) 39 (.tmp 22) rfl (a.add (i * 5)) rfl (Pa.O.cells ⟨P.st, P.co, P.dn, ⟨ra, rn, rc⟩, ⟨wa, wn, wc⟩⟩) _ (fun w h => h.1) Try.underlying39 rfl Pa.size39) hS ?_
          try simp only [Act.put, nz0, nz1, nz2, nz3, nz4, nz5]
          refine wpAnyL_take (i := 4) (v := .slice (some b) n cap2) rfl (by kernel_rfl) (by kernel_rfl) (by kernel_rfl) (by kernel_rfl) (fun _ _ _ h => h) (Or.inl ⟨by rfl, fun w _ => by go_simp⟩) hS ?_
          try simp only [Act.put, nz0, nz1, nz2, nz3, nz4, nz5]
          refine wpAnyL_take (i := 5) (v := .int .i64 (i : Int)) rfl (by kernel_rfl) (by kernel_rfl) (by kernel_rfl) (by kernel_rfl) (fun _ _ _ h => h) (Or.inl ⟨by rfl, fun w _ => by go_simp⟩) hS ?_
          try simp only [Act.put, nz0, nz1, nz2, nz3, nz4, nz5]
          refine wpAnyL_take (i := 6) (v := .pointer (some (b.add (i * 5)))) rfl (by kernel_rfl) (by kernel_rfl) (by kernel_rfl) (by kernel_rfl) (fun _ _ _ h => h) (Or.inl ⟨by rfl, fun w _ => by go_simp⟩) hS ?_
          try simp only [Act.put, nz0, nz1, nz2, nz3, nz4, nz5]
          refine wpAnyL_take (i := 7) (v := .agg (Pa.O.cells ⟨P.st, P.co, P.dn, ⟨sa, rn, sc⟩, ⟨za, wn, zc⟩⟩).toArray) rfl (by kernel_rfl) (by kernel_rfl) (by kernel_rfl) (by kernel_rfl) (fun _ _ _ h => h) (yields_load_any (by rfl) 39 (.tmp 26) rfl (b.add (i * 5)) rfl (Pa.O.cells ⟨P.st, P.co, P.dn, ⟨sa, rn, sc⟩, ⟨za, wn, zc⟩⟩) _ (fun w h => h.2) Try.underlying39 rfl Pa.size39) hS ?_
          try simp only [Act.put, nz0, nz1, nz2, nz3, nz4, nz5]
          refine wpAnyL_ready (rs := [8, 9]) (by kernel_rfl) (by simp) ?_
          refine AllReadyL.cons rfl (fun K hK => ?_) (AllReadyL.cons rfl (fun K hK => ?_) AllReadyL.nil)
          · have b1 : Below wr.heap.size wr (wr.alloc (.cells Pa.O.zero.arr 39)).drew := ((Below.refl _ _).alloc (Nat.le_refl _) _).drew
            have b2 : Below wr.heap.size wr ((wr.alloc (.cells Pa.O.zero.arr 39)).alloc (.cells Pa.O.zero.arr 39)).drew := (((Below.refl _ _).alloc (Nat.le_refl _) _).alloc ((Below.refl wr.heap.size wr).alloc (Nat.le_refl _) (.cells Pa.O.zero.arr 39)).size _).drew
            have hS1 := (show (∀ q u, (Pa.O.cells ⟨P.st, P.co, P.dn, ⟨ra, rn, rc⟩, ⟨wa, wn, wc⟩⟩)[q]? = some u → (wr.alloc (.cells Pa.O.zero.arr 39)).drew.cell? ((a.add (i * 5)).add q) = some u) ∧ (∀ q u, (Pa.O.cells ⟨P.st, P.co, P.dn, ⟨sa, rn, sc⟩, ⟨za, wn, zc⟩⟩)[q]? = some u → (wr.alloc (.cells Pa.O.zero.arr 39)).drew.cell? ((b.add (i * 5)).add q) = some u) from ⟨fun q u hq => cell_keep (hcx q u hq) b1, fun q u hq => cell_keep (hcy q u hq) b1⟩)
            have hS2 := (show (∀ q u, (Pa.O.cells ⟨P.st, P.co, P.dn, ⟨ra, rn, rc⟩, ⟨wa, wn, wc⟩⟩)[q]? = some u → ((wr.alloc (.cells Pa.O.zero.arr 39)).alloc (.cells Pa.O.zero.arr 39)).drew.cell? ((a.add (i * 5)).add q) = some u) ∧ (∀ q u, (Pa.O.cells ⟨P.st, P.co, P.dn, ⟨sa, rn, sc⟩, ⟨za, wn, zc⟩⟩)[q]? = some u → ((wr.alloc (.cells Pa.O.zero.arr 39)).alloc (.cells Pa.O.zero.arr 39)).drew.cell? ((b.add (i * 5)).add q) = some u) from ⟨fun q u hq => cell_keep (hcx q u hq) b2, fun q u hq => cell_keep (hcy q u hq) b2⟩)
            have hsz : (wr.alloc (.cells Pa.O.zero.arr 39)).heap.size = wr.heap.size + 1 := Array.size_push ..
            have r1 : Row (wr.alloc (.cells Pa.O.zero.arr 39)) wr.heap.size Pa.O.zero.arr 39 := Row.new wr _ _
            have r2 : Row ((wr.alloc (.cells Pa.O.zero.arr 39)).alloc (.cells Pa.O.zero.arr 39)).drew wr.heap.size Pa.O.zero.arr 39 := r1.below (((Below.refl _ _).alloc (Nat.le_refl _) _).drew) r1.lt
            have r3 : Row ((wr.alloc (.cells Pa.O.zero.arr 39)).alloc (.cells Pa.O.zero.arr 39)).drew (wr.heap.size + 1) Pa.O.zero.arr 39 := by
              have h3 : Row ((wr.alloc (.cells Pa.O.zero.arr 39)).alloc (.cells Pa.O.zero.arr 39)).drew (wr.alloc (.cells Pa.O.zero.arr 39)).heap.size Pa.O.zero.arr 39 := Row.new (wr.alloc (.cells Pa.O.zero.arr 39)) _ _
              rwa [hsz] at h3
            have HB2 : Hid (Below wr.heap.size wr ((wr.alloc (.cells Pa.O.zero.arr 39)).alloc (.cells Pa.O.zero.arr 39)).drew) := b2
            clear b1 b2
            go_simp
            refine hK.out _ _ (fun _ => hS1) ?_
            try simp only [Act.put, nz0, nz1, nz2, nz3, nz4, nz5]
            refine wpAnyL_ready (rs := [9]) (by kernel_rfl) (by simp) ?_
            refine AllReadyL.cons rfl (fun K hK => ?_) AllReadyL.nil
            go_simp
            refine hK.out _ _ (fun _ => hS2) ?_
            try simp only [Act.put, nz0, nz1, nz2, nz3, nz4, nz5]
            try rw [hsz]
            clear hS1 hsz r1
            generalize ((wr.alloc (.cells Pa.O.zero.arr 39)).alloc (.cells Pa.O.zero.arr 39)).drew = w2 at hS2 r2 r3 HB2 ⊢
            generalize hX : wr.heap.size = X at r2 r3 HB2 ⊢
            have o3 : Off (· = X) w2 (w2.setRow X (Pa.O.arr ⟨P.st, P.co, P.dn, ⟨ra, rn, rc⟩, ⟨wa, wn, wc⟩⟩)) := Off.of_setRow (F := (· = X)) _ _ _ rfl
            have b3 : Below wr.heap.size wr (w2.setRow X (Pa.O.arr ⟨P.st, P.co, P.dn, ⟨ra, rn, rc⟩, ⟨wa, wn, wc⟩⟩)) := below_off (by rw [hX]; exact HB2.out) o3 (fun k e => by omega)
            have hS3 := (show (∀ q u, (Pa.O.cells ⟨P.st, P.co, P.dn, ⟨ra, rn, rc⟩, ⟨wa, wn, wc⟩⟩)[q]? = some u → (w2.setRow X (Pa.O.arr ⟨P.st, P.co, P.dn, ⟨ra, rn, rc⟩, ⟨wa, wn, wc⟩⟩)).cell? ((a.add (i * 5)).add q) = some u) ∧ (∀ q u, (Pa.O.cells ⟨P.st, P.co, P.dn, ⟨sa, rn, sc⟩, ⟨za, wn, zc⟩⟩)[q]? = some u → (w2.setRow X (Pa.O.arr ⟨P.st, P.co, P.dn, ⟨ra, rn, rc⟩, ⟨wa, wn, wc⟩⟩)).cell? ((b.add (i * 5)).add q) = some u) from ⟨fun q u hq => cell_keep (hcx q u hq) b3, fun q u hq => cell_keep (hcy q u hq) b3⟩)
            have y3 := (r3).off o3 (fun e => by omega)
            have x3 : Row (w2.setRow X (Pa.O.arr ⟨P.st, P.co, P.dn, ⟨ra, rn, rc⟩, ⟨wa, wn, wc⟩⟩)) X (Pa.O.arr ⟨P.st, P.co, P.dn, ⟨ra, rn, rc⟩, ⟨wa, wn, wc⟩⟩) 39 := (r2).set _
            refine wpAnyL_ready (rs := [10]) (by kernel_rfl) (by simp) ?_
            refine AllReadyL.cons rfl (fun K hK => step_of rfl (wp_store_row 39 (.tmp 6) (.tmp 23) rfl X (Pa.O.arr ⟨P.st, P.co, P.dn, ⟨ra, rn, rc⟩, ⟨wa, wn, wc⟩⟩) rfl rfl 39 Pa.O.zero.arr r2 (by rw [Pa.size39]; rfl) rfl (Pa.O.arr_one _) (hK.out _ _ (fun _ => hS3) ?_))) AllReadyL.nil
            try simp only [Act.put, nz0, nz1, nz2, nz3, nz4, nz5]
            have o4 : Off (· = (X + 1)) (w2.setRow X (Pa.O.arr ⟨P.st, P.co, P.dn, ⟨ra, rn, rc⟩, ⟨wa, wn, wc⟩⟩)) ((w2.setRow X (Pa.O.arr ⟨P.st, P.co, P.dn, ⟨ra, rn, rc⟩, ⟨wa, wn, wc⟩⟩)).setRow (X + 1) (Pa.O.arr ⟨P.st, P.co, P.dn, ⟨sa, rn, sc⟩, ⟨za, wn, zc⟩⟩)) := Off.of_setRow (F := (· = (X + 1))) _ _ _ rfl
            have b4 : Below wr.heap.size wr ((w2.setRow X (Pa.O.arr ⟨P.st, P.co, P.dn, ⟨ra, rn, rc⟩, ⟨wa, wn, wc⟩⟩)).setRow (X + 1) (Pa.O.arr ⟨P.st, P.co, P.dn, ⟨sa, rn, sc⟩, ⟨za, wn, zc⟩⟩)) := below_off b3 o4 (fun k e => by omega)
            have x4 := x3.off o4 (fun e => by omega)
            have y4 : Row ((w2.setRow X (Pa.O.arr ⟨P.st, P.co, P.dn, ⟨ra, rn, rc⟩, ⟨wa, wn, wc⟩⟩)).setRow (X + 1) (Pa.O.arr ⟨P.st, P.co, P.dn, ⟨sa, rn, sc⟩, ⟨za, wn, zc⟩⟩)) (X + 1) (Pa.O.arr ⟨P.st, P.co, P.dn, ⟨sa, rn, sc⟩, ⟨za, wn, zc⟩⟩) 39 := y3.set _
            have HFIN : Hid (Row ((w2.setRow X (Pa.O.arr ⟨P.st, P.co, P.dn, ⟨ra, rn, rc⟩, ⟨wa, wn, wc⟩⟩)).setRow (X + 1) (Pa.O.arr ⟨P.st, P.co, P.dn, ⟨sa, rn, sc⟩, ⟨za, wn, zc⟩⟩)) X #[.int .u32 P.st, .int .u32 P.co, .bool P.dn, .slice ra rn rc, .slice wa wn wc] 39 ∧ Row ((w2.setRow X (Pa.O.arr ⟨P.st, P.co, P.dn, ⟨ra, rn, rc⟩, ⟨wa, wn, wc⟩⟩)).setRow (X + 1) (Pa.O.arr ⟨P.st, P.co, P.dn, ⟨sa, rn, sc⟩, ⟨za, wn, zc⟩⟩)) (X + 1) #[.int .u32 P.st, .int .u32 P.co, .bool P.dn, .slice sa rn sc, .slice za wn zc] 39 ∧ Below w.heap.size w ((w2.setRow X (Pa.O.arr ⟨P.st, P.co, P.dn, ⟨ra, rn, rc⟩, ⟨wa, wn, wc⟩⟩)).setRow (X + 1) (Pa.O.arr ⟨P.st, P.co, P.dn, ⟨sa, rn, sc⟩, ⟨za, wn, zc⟩⟩))) := ⟨x4, y4, below_trans HBW.out b4⟩
            refine wpAnyL_ready (rs := [11]) (by kernel_rfl) (by simp) ?_
            refine AllReadyL.cons rfl (fun K hK => step_of rfl (wp_store_row 39 (.tmp 7) (.tmp 27) rfl (X + 1) (Pa.O.arr ⟨P.st, P.co, P.dn, ⟨sa, rn, sc⟩, ⟨za, wn, zc⟩⟩) rfl rfl 39 Pa.O.zero.arr y3 (by rw [Pa.size39]; rfl) rfl (Pa.O.arr_one _) (hK.out _ _ (fun q => absurd rfl q) ?_))) AllReadyL.nil
            try simp only [Act.put, nz0, nz1, nz2, nz3, nz4, nz5]
            refine wpAnyL_done (by kernel_rfl) ?_ _
            clear hS2 hS3 r2 r3 HB2 o3 b3 y3 x3 o4 b4 x4 y4 hcx hcy
            go_wp2_with fail
            go_meet
            case rel => exact ⟨_, _, rfl, rfl, HFIN.out.1, HFIN.out.2.1, HFIN.out.2.2⟩
          · have b1 : Below wr.heap.size wr (wr.alloc (.cells Pa.O.zero.arr 39)).drew := ((Below.refl _ _).alloc (Nat.le_refl _) _).drew
            have b2 : Below wr.heap.size wr ((wr.alloc (.cells Pa.O.zero.arr 39)).alloc (.cells Pa.O.zero.arr 39)).drew := (((Below.refl _ _).alloc (Nat.le_refl _) _).alloc ((Below.refl wr.heap.size wr).alloc (Nat.le_refl _) (.cells Pa.O.zero.arr 39)).size _).drew
            have hS1 := (show (∀ q u, (Pa.O.cells ⟨P.st, P.co, P.dn, ⟨ra, rn, rc⟩, ⟨wa, wn, wc⟩⟩)[q]? = some u → (wr.alloc (.cells Pa.O.zero.arr 39)).drew.cell? ((a.add (i * 5)).add q) = some u) ∧ (∀ q u, (Pa.O.cells ⟨P.st, P.co, P.dn, ⟨sa, rn, sc⟩, ⟨za, wn, zc⟩⟩)[q]? = some u → (wr.alloc (.cells Pa.O.zero.arr 39)).drew.cell? ((b.add (i * 5)).add q) = some u) from ⟨fun q u hq => cell_keep (hcx q u hq) b1, fun q u hq => cell_keep (hcy q u hq) b1⟩)
            have hS2 := (show (∀ q u, (Pa.O.cells ⟨P.st, P.co, P.dn, ⟨ra, rn, rc⟩, ⟨wa, wn, wc⟩⟩)[q]? = some u → ((wr.alloc (.cells Pa.O.zero.arr 39)).alloc (.cells Pa.O.zero.arr 39)).drew.cell? ((a.add (i * 5)).add q) = some u) ∧ (∀ q u, (Pa.O.cells ⟨P.st, P.co, P.dn, ⟨sa, rn, sc⟩, ⟨za, wn, zc⟩⟩)[q]? = some u → ((wr.alloc (.cells Pa.O.zero.arr 39)).alloc (.cells Pa.O.zero.arr 39)).drew.cell? ((b.add (i * 5)).add q) = some u) from ⟨fun q u hq => cell_keep (hcx q u hq) b2, fun q u hq => cell_keep (hcy q u hq) b2⟩)
            have hsz : (wr.alloc (.cells Pa.O.zero.arr 39)).heap.size = wr.heap.size + 1 := Array.size_push ..
            have r1 : Row (wr.alloc (.cells Pa.O.zero.arr 39)) wr.heap.size Pa.O.zero.arr 39 := Row.new wr _ _
            have r2 : Row ((wr.alloc (.cells Pa.O.zero.arr 39)).alloc (.cells Pa.O.zero.arr 39)).drew wr.heap.size Pa.O.zero.arr 39 := r1.below (((Below.refl _ _).alloc (Nat.le_refl _) _).drew) r1.lt
            have r3 : Row ((wr.alloc (.cells Pa.O.zero.arr 39)).alloc (.cells Pa.O.zero.arr 39)).drew (wr.heap.size + 1) Pa.O.zero.arr 39 := by
              have h3 : Row ((wr.alloc (.cells Pa.O.zero.arr 39)).alloc (.cells Pa.O.zero.arr 39)).drew (wr.alloc (.cells Pa.O.zero.arr 39)).heap.size Pa.O.zero.arr 39 := Row.new (wr.alloc (.cells Pa.O.zero.arr 39)) _ _
              rwa [hsz] at h3
            have HB2 : Hid (Below wr.heap.size wr ((wr.alloc (.cells Pa.O.zero.arr 39)).alloc (.cells Pa.O.zero.arr 39)).drew) := b2
            clear b1 b2
            go_simp
            refine hK.out _ _ (fun _ => hS1) ?_
            try simp only [Act.put, nz0, nz1, nz2, nz3, nz4, nz5]
            refine wpAnyL_ready (rs := [8]) (by kernel_rfl) (by simp) ?_
            refine AllReadyL.cons rfl (fun K hK => ?_) AllReadyL.nil
            go_simp
            refine hK.out _ _ (fun _ => hS2) ?_
            try simp only [Act.put, nz0, nz1, nz2, nz3, nz4, nz5]
            try rw [hsz]
            clear hS1 hsz r1
            generalize ((wr.alloc (.cells Pa.O.zero.arr 39)).alloc (.cells Pa.O.zero.arr 39)).drew = w2 at hS2 r2 r3 HB2 ⊢
            generalize hX : wr.heap.size = X at r2 r3 HB2 ⊢
            have o3 : Off (· = (X + 1)) w2 (w2.setRow (X + 1) (Pa.O.arr ⟨P.st, P.co, P.dn, ⟨ra, rn, rc⟩, ⟨wa, wn, wc⟩⟩)) := Off.of_setRow (F := (· = (X + 1))) _ _ _ rfl
            have b3 : Below wr.heap.size wr (w2.setRow (X + 1) (Pa.O.arr ⟨P.st, P.co, P.dn, ⟨ra, rn, rc⟩, ⟨wa, wn, wc⟩⟩)) := below_off (by rw [hX]; exact HB2.out) o3 (fun k e => by omega)
            have hS3 := (show (∀ q u, (Pa.O.cells ⟨P.st, P.co, P.dn, ⟨ra, rn, rc⟩, ⟨wa, wn, wc⟩⟩)[q]? = some u → (w2.setRow (X + 1) (Pa.O.arr ⟨P.st, P.co, P.dn, ⟨ra, rn, rc⟩, ⟨wa, wn, wc⟩⟩)).cell? ((a.add (i * 5)).add q) = some u) ∧ (∀ q u, (Pa.O.cells ⟨P.st, P.co, P.dn, ⟨sa, rn, sc⟩, ⟨za, wn, zc⟩⟩)[q]? = some u → (w2.setRow (X + 1) (Pa.O.arr ⟨P.st, P.co, P.dn, ⟨ra, rn, rc⟩, ⟨wa, wn, wc⟩⟩)).cell? ((b.add (i * 5)).add q) = some u) from ⟨fun q u hq => cell_keep (hcx q u hq) b3, fun q u hq => cell_keep (hcy q u hq) b3⟩)
            have y3 := (r2).off o3 (fun e => by omega)
            have x3 : Row (w2.setRow (X + 1) (Pa.O.arr ⟨P.st, P.co, P.dn, ⟨ra, rn, rc⟩, ⟨wa, wn, wc⟩⟩)) (X + 1) (Pa.O.arr ⟨P.st, P.co, P.dn, ⟨ra, rn, rc⟩, ⟨wa, wn, wc⟩⟩) 39 := (r3).set _
            refine wpAnyL_ready (rs := [10]) (by kernel_rfl) (by simp) ?_
            refine AllReadyL.cons rfl (fun K hK => step_of rfl (wp_store_row 39 (.tmp 6) (.tmp 23) rfl (X + 1) (Pa.O.arr ⟨P.st, P.co, P.dn, ⟨ra, rn, rc⟩, ⟨wa, wn, wc⟩⟩) rfl rfl 39 Pa.O.zero.arr r3 (by rw [Pa.size39]; rfl) rfl (Pa.O.arr_one _) (hK.out _ _ (fun _ => hS3) ?_))) AllReadyL.nil
            try simp only [Act.put, nz0, nz1, nz2, nz3, nz4, nz5]
            have o4 : Off (· = X) (w2.setRow (X + 1) (Pa.O.arr ⟨P.st, P.co, P.dn, ⟨ra, rn, rc⟩, ⟨wa, wn, wc⟩⟩)) ((w2.setRow (X + 1) (Pa.O.arr ⟨P.st, P.co, P.dn, ⟨ra, rn, rc⟩, ⟨wa, wn, wc⟩⟩)).setRow X (Pa.O.arr ⟨P.st, P.co, P.dn, ⟨sa, rn, sc⟩, ⟨za, wn, zc⟩⟩)) := Off.of_setRow (F := (· = X)) _ _ _ rfl
            have b4 : Below wr.heap.size wr ((w2.setRow (X + 1) (Pa.O.arr ⟨P.st, P.co, P.dn, ⟨ra, rn, rc⟩, ⟨wa, wn, wc⟩⟩)).setRow X (Pa.O.arr ⟨P.st, P.co, P.dn, ⟨sa, rn, sc⟩, ⟨za, wn, zc⟩⟩)) := below_off b3 o4 (fun k e => by omega)
            have x4 := x3.off o4 (fun e => by omega)
            have y4 : Row ((w2.setRow (X + 1) (Pa.O.arr ⟨P.st, P.co, P.dn, ⟨ra, rn, rc⟩, ⟨wa, wn, wc⟩⟩)).setRow X (Pa.O.arr ⟨P.st, P.co, P.dn, ⟨sa, rn, sc⟩, ⟨za, wn, zc⟩⟩)) X (Pa.O.arr ⟨P.st, P.co, P.dn, ⟨sa, rn, sc⟩, ⟨za, wn, zc⟩⟩) 39 := y3.set _
            have HFIN : Hid (Row ((w2.setRow (X + 1) (Pa.O.arr ⟨P.st, P.co, P.dn, ⟨ra, rn, rc⟩, ⟨wa, wn, wc⟩⟩)).setRow X (Pa.O.arr ⟨P.st, P.co, P.dn, ⟨sa, rn, sc⟩, ⟨za, wn, zc⟩⟩)) (X + 1) #[.int .u32 P.st, .int .u32 P.co, .bool P.dn, .slice ra rn rc, .slice wa wn wc] 39 ∧ Row ((w2.setRow (X + 1) (Pa.O.arr ⟨P.st, P.co, P.dn, ⟨ra, rn, rc⟩, ⟨wa, wn, wc⟩⟩)).setRow X (Pa.O.arr ⟨P.st, P.co, P.dn, ⟨sa, rn, sc⟩, ⟨za, wn, zc⟩⟩)) X #[.int .u32 P.st, .int .u32 P.co, .bool P.dn, .slice sa rn sc, .slice za wn zc] 39 ∧ Below w.heap.size w ((w2.setRow (X + 1) (Pa.O.arr ⟨P.st, P.co, P.dn, ⟨ra, rn, rc⟩, ⟨wa, wn, wc⟩⟩)).setRow X (Pa.O.arr ⟨P.st, P.co, P.dn, ⟨sa, rn, sc⟩, ⟨za, wn, zc⟩⟩))) := ⟨x4, y4, below_trans HBW.out b4⟩
            refine wpAnyL_ready (rs := [11]) (by kernel_rfl) (by simp) ?_
            refine AllReadyL.cons rfl (fun K hK => step_of rfl (wp_store_row 39 (.tmp 7) (.tmp 27) rfl X (Pa.O.arr ⟨P.st, P.co, P.dn, ⟨sa, rn, sc⟩, ⟨za, wn, zc⟩⟩) rfl rfl 39 Pa.O.zero.arr y3 (by rw [Pa.size39]; rfl) rfl (Pa.O.arr_one _) (hK.out _ _ (fun q => absurd rfl q) ?_))) AllReadyL.nil
            try simp only [Act.put, nz0, nz1, nz2, nz3, nz4, nz5]
            refine wpAnyL_done (by kernel_rfl) ?_ _
            clear hS2 hS3 r2 r3 HB2 o3 b3 y3 x3 o4 b4 x4 y4 hcx hcy
            go_wp2_with fail
            go_meet
            case rel => exact ⟨_, _, rfl, rfl, HFIN.out.1, HFIN.out.2.1, HFIN.out.2.2⟩
      case rest =>
        clear hcx hcy HBW HCX1 HCY1
        rename World => w7
        obtain ⟨X, Y, rfl, rfl, rX, rY, hb⟩ := hcut
        have HRX : Hid (Row w7 X #[.int .u32 P.st, .int .u32 P.co, .bool P.dn, .slice ra rn rc, .slice wa wn wc] 39) := rX
        have HRY : Hid (Row w7 Y #[.int .u32 P.st, .int .u32 P.co, .bool P.dn, .slice sa rn sc, .slice za wn zc] 39) := rY
        have gx0 := row_at rX 0 _ rfl
        have gx1 := row_at rX 1 _ rfl
        have gx2 := row_at rX 2 _ rfl
        have gx3 := row_at rX 3 _ rfl
        have gx4 := row_at rX 4 _ rfl
        have gy0 := row_at rY 0 _ rfl
        have gy1 := row_at rY 1 _ rfl
        have gy2 := row_at rY 2 _ rfl
        have gy3 := row_at rY 3 _ rfl
        have gy4 := row_at rY 4 _ rfl
        have HBW : Hid (Below w.heap.size w w7) := hb
        clear rX rY hb
        go_upto_region 10 with fail
        clear gx0 gx1 gx2 gx3 gy0 gy1 gy2 gy3 gy4
        go_loopw [68] (fun q wz => ∃ j : Nat, q = .int .i64 (j : Int) ∧ j ≤ rn ∧ Row wz X #[.int .u32 P.st, .int .u32 P.co, .bool P.dn, .slice ra rn rc, .slice wa wn wc] 39 ∧ Row wz Y #[.int .u32 P.st, .int .u32 P.co, .bool P.dn, .slice sa rn sc, .slice za wn zc] 39 ∧ Below w.heap.size w wz) (fun q _ => 1001 - (intOf q).toNat)
        case atStart => exact ⟨0, rfl, Nat.zero_le _, HRX.out, HRY.out, HBW.out⟩
        case round =>
          clear HRX HRY HBW
          rename World => wz
          obtain ⟨j, rfl, hj, hRX, hRY, hBW⟩ := hrel
          have HRX : Hid (Row wz X #[.int .u32 P.st, .int .u32 P.co, .bool P.dn, .slice ra rn rc, .slice wa wn wc] 39) := hRX
          have HRY : Hid (Row wz Y #[.int .u32 P.st, .int .u32 P.co, .bool P.dn, .slice sa rn sc, .slice za wn zc] 39) := hRY
          have HBW : Hid (Below w.heap.size w wz) := hBW
          clear hRX hRY hBW
          by_cases hjn : j < rn
          · have hjn' : (j : Int) < (rn : Int) := by omega
            have hj0 : (0 : Int) ≤ (j : Int) := by omega
            obtain ⟨⟨pg, tv⟩, hv⟩ : ∃ v, P.rs[j]? = some v := ⟨_, List.getElem?_eq_getElem (by rw [← HRN.out]; exact hjn)⟩
            obtain ⟨b1, rfl, hc1⟩ := HR2.out j _ hv
            obtain ⟨b2, rfl, hc2⟩ := HS2.out j _ hv
            have hc1 : ∀ q u, ([.int .u16 pg, .int .u32 tv] : List Value)[q]? = some u → wz.cell? ((b1.add (j * 2)).add q) = some u := fun q u hq => cell_keep (hc1 q u hq) HBW.out
            have hc2 : ∀ q u, ([.int .u16 pg, .int .u32 tv] : List Value)[q]? = some u → wz.cell? ((b2.add (j * 2)).add q) = some u := fun q u hq => cell_keep (hc2 q u hq) HBW.out
            have rX := HRX.out
            have rY := HRY.out
            clear hv
            go_upto_region 12 with fail
            refine wp_region_held_drew (S := fun w' => Row w' X #[.int .u32 P.st, .int .u32 P.co, .bool P.dn, .slice (some b1) rn rc, .slice wa wn wc] 39 ∧ Row w' Y #[.int .u32 P.st, .int .u32 P.co, .bool P.dn, .slice (some b2) rn sc, .slice za wn zc] 39 ∧ (∀ q u, ([.int .u16 pg, .int .u32 tv] : List Value)[q]? = some u → w'.cell? ((b1.add (j * 2)).add q) = some u) ∧ (∀ q u, ([.int .u16 pg, .int .u32 tv] : List Value)[q]? = some u → w'.cell? ((b2.add (j * 2)).add q) = some u)) (by kernel_rfl) ⟨rX, rY, hc1, hc2⟩ fun hS => ?_
            refine tkH (i := 0) (v := .pointer (some ⟨X, 3, none⟩)) rfl (by kernel_rfl) (fun _ _ _ h => h) (Or.inl ⟨by rfl, fun w _ => by go_simp⟩) hS ?_
            try simp only [Act.put, nz0, nz1, nz2, nz3, nz4, nz5]
            refine tkH (i := 1) (v := .slice (some b1) rn rc) rfl (by kernel_rfl) (fun _ _ _ h => h) (Or.inl ⟨by rfl, fun w h => by have c := row_at h.1 3 _ rfl; go_simp⟩) hS ?_
            try simp only [Act.put, nz0, nz1, nz2, nz3, nz4, nz5]
            refine tkH (i := 2) (v := .int .i64 (j : Int)) rfl (by kernel_rfl) (fun _ _ _ h => h) (Or.inl ⟨by rfl, fun w _ => by go_simp⟩) hS ?_
            try simp only [Act.put, nz0, nz1, nz2, nz3, nz4, nz5]
            refine tkH (i := 3) (v := .pointer (some (b1.add (j * 2)))) rfl (by kernel_rfl) (fun _ _ _ h => h) (Or.inl ⟨by rfl, fun w _ => by go_simp⟩) hS ?_
            try simp only [Act.put, nz0, nz1, nz2, nz3, nz4, nz5]
            refine tkH (i := 4) (v := .agg #[.int .u16 pg, .int .u32 tv]) rfl (by kernel_rfl) (fun _ _ _ h => h) (yields_load_any (by rfl) 46 (.tmp 74) rfl (b1.add (j * 2)) rfl ([.int .u16 pg, .int .u32 tv] : List Value) _ (fun w h => h.2.2.1) Try.underlying46 rfl Sn.size46) hS ?_
            try simp only [Act.put, nz0, nz1, nz2, nz3, nz4, nz5]
            refine tkH (i := 5) (v := .pointer (some ⟨Y, 3, none⟩)) rfl (by kernel_rfl) (fun _ _ _ h => h) (Or.inl ⟨by rfl, fun w _ => by go_simp⟩) hS ?_
            try simp only [Act.put, nz0, nz1, nz2, nz3, nz4, nz5]
            refine tkH (i := 6) (v := .slice (some b2) rn sc) rfl (by kernel_rfl) (fun _ _ _ h => h) (Or.inl ⟨by rfl, fun w h => by have c := row_at h.2.1 3 _ rfl; go_simp⟩) hS ?_
            try simp only [Act.put, nz0, nz1, nz2, nz3, nz4, nz5]
            refine tkH (i := 7) (v := .int .i64 (j : Int)) rfl (by kernel_rfl) (fun _ _ _ h => h) (Or.inl ⟨by rfl, fun w _ => by go_simp⟩) hS ?_
            try simp only [Act.put, nz0, nz1, nz2, nz3, nz4, nz5]
            refine tkH (i := 8) (v := .pointer (some (b2.add (j * 2)))) rfl (by kernel_rfl) (fun _ _ _ h => h) (Or.inl ⟨by rfl, fun w _ => by go_simp⟩) hS ?_
            try simp only [Act.put, nz0, nz1, nz2, nz3, nz4, nz5]
            refine tkH (i := 9) (v := .agg #[.int .u16 pg, .int .u32 tv]) rfl (by kernel_rfl) (fun _ _ _ h => h) (yields_load_any (by rfl) 46 (.tmp 79) rfl (b2.add (j * 2)) rfl ([.int .u16 pg, .int .u32 tv] : List Value) _ (fun w h => h.2.2.2) Try.underlying46 rfl Sn.size46) hS ?_
            try simp only [Act.put, nz0, nz1, nz2, nz3, nz4, nz5]
            refine tkH (i := 10) (v := .bool false) rfl (by kernel_rfl) (fun _ _ _ h => h) (Or.inl ⟨by rfl, fun w _ => by go_simp⟩) hS ?_
            try simp only [Act.put, nz0, nz1, nz2, nz3, nz4, nz5]
            refine wpAnyH_done (by kernel_rfl) ?_ _
            clear hS rX rY hc1 hc2
            go_wp2
            go_roundw
            case rel => exact ⟨j + 1, by go_num, by omega, HRX.out.below ((Below.refl _ _).drew) HRX.out.lt, HRY.out.below ((Below.refl _ _).drew) HRY.out.lt, HBW.out.drew⟩
            case measure => simp [intOf]; omega
          · have hjn' : ¬ (j : Int) < (rn : Int) := by omega
            have gx4 : wz.cell? ⟨X, 4, none⟩ = some (.slice wa wn wc) := row_at HRX.out 4 _ rfl
            go_upto_region 16 with fail
            clear gx4
            go_loopw [86] (fun q wk => ∃ j : Nat, q = .int .i64 (j : Int) ∧ j ≤ wn ∧ Row wk X #[.int .u32 P.st, .int .u32 P.co, .bool P.dn, .slice ra rn rc, .slice wa wn wc] 39 ∧ Row wk Y #[.int .u32 P.st, .int .u32 P.co, .bool P.dn, .slice sa rn sc, .slice za wn zc] 39 ∧ Below w.heap.size w wk) (fun q _ => 1001 - (intOf q).toNat)
            case atStart => exact ⟨0, rfl, Nat.zero_le _, HRX.out, HRY.out, HBW.out⟩
            case round =>
              clear HRX HRY HBW
              rename World => wk
              obtain ⟨j, rfl, hj, hRX, hRY, hBW⟩ := hrel
              have HRX : Hid (Row wk X #[.int .u32 P.st, .int .u32 P.co, .bool P.dn, .slice ra rn rc, .slice wa wn wc] 39) := hRX
              have HRY : Hid (Row wk Y #[.int .u32 P.st, .int .u32 P.co, .bool P.dn, .slice sa rn sc, .slice za wn zc] 39) := hRY
              have HBW : Hid (Below w.heap.size w wk) := hBW
              clear hRX hRY hBW
              by_cases hjn : j < wn
              · have hjn' : (j : Int) < (wn : Int) := by omega
                have hj0 : (0 : Int) ≤ (j : Int) := by omega
                obtain ⟨z, hv⟩ : ∃ v, P.ws[j]? = some v := ⟨_, List.getElem?_eq_getElem (by rw [← HWN.out]; exact hjn)⟩
                obtain ⟨b1, rfl, hc1⟩ := HW2.out j _ hv
                obtain ⟨b2, rfl, hc2⟩ := HZ2.out j _ hv
                replace hc1 := cell_keep hc1 HBW.out
                replace hc2 := cell_keep hc2 HBW.out
                have rX := HRX.out
                have rY := HRY.out
                clear hv
                go_upto_region 18 with fail
                refine wp_region_held_drew (S := fun w' => Row w' X #[.int .u32 P.st, .int .u32 P.co, .bool P.dn, .slice ra rn rc, .slice (some b1) wn wc] 39 ∧ Row w' Y #[.int .u32 P.st, .int .u32 P.co, .bool P.dn, .slice sa rn sc, .slice (some b2) wn zc] 39 ∧ w'.cell? (b1.add j) = some (.int .u16 z) ∧ w'.cell? (b2.add j) = some (.int .u16 z)) (by kernel_rfl) ⟨rX, rY, hc1, hc2⟩ fun hS => ?_
                refine tkH (i := 0) (v := .pointer (some ⟨X, 4, none⟩)) rfl (by kernel_rfl) (fun _ _ _ h => h) (Or.inl ⟨by rfl, fun w _ => by go_simp⟩) hS ?_
                try simp only [Act.put, nz0, nz1, nz2, nz3, nz4, nz5]
                refine tkH (i := 1) (v := .slice (some b1) wn wc) rfl (by kernel_rfl) (fun _ _ _ h => h) (Or.inl ⟨by rfl, fun w h => by have c := row_at h.1 4 _ rfl; go_simp⟩) hS ?_
                try simp only [Act.put, nz0, nz1, nz2, nz3, nz4, nz5]
                refine tkH (i := 2) (v := .int .i64 (j : Int)) rfl (by kernel_rfl) (fun _ _ _ h => h) (Or.inl ⟨by rfl, fun w _ => by go_simp⟩) hS ?_
                try simp only [Act.put, nz0, nz1, nz2, nz3, nz4, nz5]
                refine tkH (i := 3) (v := .pointer (some (b1.add j))) rfl (by kernel_rfl) (fun _ _ _ h => h) (Or.inl ⟨by rfl, fun w _ => by go_simp⟩) hS ?_
                try simp only [Act.put, nz0, nz1, nz2, nz3, nz4, nz5]
                refine tkH (i := 4) (v := .int .u16 z) rfl (by kernel_rfl) (fun _ _ _ h => h) (Or.inl ⟨by rfl, fun w h => by have c := h.2.2.1; go_simp⟩) hS ?_
                try simp only [Act.put, nz0, nz1, nz2, nz3, nz4, nz5]
                refine tkH (i := 5) (v := .pointer (some ⟨Y, 4, none⟩)) rfl (by kernel_rfl) (fun _ _ _ h => h) (Or.inl ⟨by rfl, fun w _ => by go_simp⟩) hS ?_
                try simp only [Act.put, nz0, nz1, nz2, nz3, nz4, nz5]
                refine tkH (i := 6) (v := .slice (some b2) wn zc) rfl (by kernel_rfl) (fun _ _ _ h => h) (Or.inl ⟨by rfl, fun w h => by have c := row_at h.2.1 4 _ rfl; go_simp⟩) hS ?_
                try simp only [Act.put, nz0, nz1, nz2, nz3, nz4, nz5]
                refine tkH (i := 7) (v := .int .i64 (j : Int)) rfl (by kernel_rfl) (fun _ _ _ h => h) (Or.inl ⟨by rfl, fun w _ => by go_simp⟩) hS ?_
                try simp only [Act.put, nz0, nz1, nz2, nz3, nz4, nz5]
                refine tkH (i := 8) (v := .pointer (some (b2.add j))) rfl (by kernel_rfl) (fun _ _ _ h => h) (Or.inl ⟨by rfl, fun w _ => by go_simp⟩) hS ?_
                try simp only [Act.put, nz0, nz1, nz2, nz3, nz4, nz5]
                refine tkH (i := 9) (v := .int .u16 z) rfl (by kernel_rfl) (fun _ _ _ h => h) (Or.inl ⟨by rfl, fun w h => by have c := h.2.2.2; go_simp⟩) hS ?_
                try simp only [Act.put, nz0, nz1, nz2, nz3, nz4, nz5]
                refine tkH (i := 10) (v := .bool false) rfl (by kernel_rfl) (fun _ _ _ h => h) (Or.inl ⟨by rfl, fun w _ => by go_simp⟩) hS ?_
                try simp only [Act.put, nz0, nz1, nz2, nz3, nz4, nz5]
                refine wpAnyH_done (by kernel_rfl) ?_ _
                clear hS rX rY hc1 hc2
                go_wp2
                go_roundw
                case rel => exact ⟨j + 1, by go_num, by omega, HRX.out.below ((Below.refl _ _).drew) HRX.out.lt, HRY.out.below ((Below.refl _ _).drew) HRY.out.lt, HBW.out.drew⟩
                case measure => simp [intOf]; omega
              · have hjn' : ¬ (j : Int) < (wn : Int) := by omega
                have HB : Hid (Below w.heap.size w wk) := HBW.out
                go_wp2
                go_roundw
                case rel => exact ⟨i + 1, by go_num, by omega, HB.out⟩
                case measure => simp [intOf]; omega
    · have hin' : ¬ (i : Int) < (n : Int) := by omega
      have hfin := HFO.out _ hb
      clear hb
      go_wp2
      exact hfin
def flatT (ts : List Tl) : List Value := ts.flatMap Tl.cs
theorem flatT_length : ∀ ts : List Tl, (flatT ts).length = ts.length * 77
  | [] => rfl
  | t :: r => by
    have := flatT_length r
    show (t.cs ++ flatT r).length = _
    rw [List.length_append, this, Tl.cs_len]; simp; omega
theorem flatT_at : ∀ (ts : List Tl) (i j : Nat) (t : Tl), ts[i]? = some t → j < 77 → (flatT ts)[i * 77 + j]? = t.cs[j]?
  | [], i, j, t, h, _ => by simp at h
  | p :: r, 0, j, t, h, hj => by
    simp at h; subst h
    show (p.cs ++ flatT r)[0 * 77 + j]? = _
    rw [Nat.zero_mul, Nat.zero_add, List.getElem?_append_left (by rw [Tl.cs_len]; exact hj)]
  | p :: r, i + 1, j, t, h, hj => by
    simp at h
    show (p.cs ++ flatT r)[(i + 1) * 77 + j]? = _
    rw [List.getElem?_append_right (by rw [Tl.cs_len]; omega), Tl.cs_len, show (i + 1) * 77 + j - 77 = i * 77 + j by omega]
    exact flatT_at r i j t h hj
theorem flatT_get {ts : List Tl} {j : Nat} {u : Value} (h : (flatT ts)[j]? = some u) : ∃ t, ts[j / 77]? = some t ∧ t.cs[j % 77]? = some u := by
  have hl := (List.getElem?_eq_some_iff.1 h).1
  rw [flatT_length] at hl
  have hi : j / 77 < ts.length := by omega
  refine ⟨ts[j / 77], List.getElem?_eq_getElem hi, ?_⟩
  have := flatT_at ts (j / 77) (j % 77) _ (List.getElem?_eq_getElem hi) (Nat.mod_lt _ (by decide))
  rw [show j / 77 * 77 + j % 77 = j by omega, h] at this
  exact this.symm
theorem info60 : (Try.prog.info? 60).map (fun i => (i.zero, i.size, i.bytes)) = some (some (.agg zero60A), 77, 176) := by kernel_rfl
theorem run_copyT (w : World) (ty : TypeId) (v : Value) (ts : List Tl) (h : Tolds w v ts) (hn : ts.length ≤ 200) :
    ∃ v' w', (Builtin.append_ #[32, 32] ty #[.slice (some ⟨w.heap.size, 0, none⟩) 0 0, v]).run Try.prog (w.alloc (.cells #[] 60)) = .ok v' w' ∧ Tolds w' v' ts ∧ Below w.heap.size w w' := by
  obtain ⟨i, hi, hz, hs, hb⟩ := Sn.info_parts info60
  have hown : (w.alloc (.cells #[] 60)).ownsRow w.heap.size 60 77 (.slice (some ⟨w.heap.size, 0, none⟩) 0 0) 0 [] := World.ownsRow_made w #[] 0 (Nat.le_refl _) (Nat.zero_le _) rfl
  have b0 : Below w.heap.size w (w.alloc (.cells #[] 60)) := (Below.refl _ _).alloc (Nat.le_refl _) _
  obtain ⟨⟨⟨oa, cap, rfl, hcap, hnone, hel⟩, hfew⟩, hok⟩ := h
  cases oa with
  | none =>
    have e0 : ts = [] := by
      match ts, hel with
      | [], _ => rfl
      | t :: r, hel => obtain ⟨a, e, _⟩ := hel 0 t rfl; cases e
    subst e0
    rw [hnone rfl]
    exact ⟨_, _, run_append_owned_none (P := Try.prog) (w := w.alloc (.cells #[] 60)) w.heap.size 32 ty 60 i 77 Try.underlying32 hi _ 0 [] hown, ⟨⟨⟨some ⟨w.heap.size, 0, none⟩, 0, rfl, Nat.le_refl _, (fun q => by cases q), fun i t h => by simp at h⟩, by simp⟩, fun t h => by cases h⟩, b0⟩
  | some a =>
    obtain ⟨v', w', hr, h2, h3, h4, h5⟩ := run_append_own_at (P := Try.prog) (w.alloc (.cells #[] 60)) w.heap.size 32 ty 60 i _ 77 176 Try.underlying32 hi hz hs hb rfl (by decide) _ 0 [] hown a ts.length cap (flatT ts) (flatT_length ts) (fun j u hj => by
      obtain ⟨t, ht, hu⟩ := flatT_get hj
      obtain ⟨a', e, hc⟩ := hel _ t ht
      cases e
      have := hc _ u hu
      rw [Sn.add_add, show j / 77 * 77 + j % 77 = j by omega] at this
      exact cell_keep this b0) (fun u hu => by
      obtain ⟨t, ht, hu⟩ := List.mem_flatMap.1 hu
      exact (hok t ht).one u hu) (by unfold maxLen; omega) (by omega) (by simp)
    have hcs := fun g hg => World.ownsRow.cells h2 (g := g) hg
    have hlt := fun g hg => World.ownsRow.lt h2 g hg
    refine ⟨v', w', hr, ?_, b0.grown h3 (by simp) (fun k hk => ?_)⟩
    · refine ⟨⟨?_, hfew⟩, hok⟩
      rcases h2.2 with ⟨rfl, h0⟩ | ⟨g, c2, cur, rfl, hbg, hg, hle, hmx, hsz, htk⟩
      · have e0 : ts = [] := List.eq_nil_of_length_eq_zero (by omega)
        subst e0
        exact ⟨none, 0, rfl, Nat.le_refl _, fun _ => rfl, fun i t h => by simp at h⟩
      · refine ⟨some ⟨g, 0, none⟩, c2, by simp, by simpa using hle, (fun q => by cases q), fun i t ht => ⟨_, rfl, fun j u hj => ?_⟩⟩
        have hj77 : j < 77 := by
          have := (List.getElem?_eq_some_iff.1 hj).1
          rw [Tl.cs_len] at this; exact this
        have h9 := flatT_at ts i j t ht hj77
        rw [hj] at h9
        rw [Sn.add_add]
        exact hcs g rfl _ u (by simpa using h9)
    · simp [Value.ownBlock] at hk
      omega
end Go.Proofs.Ytdlllnkcjfpajaa
